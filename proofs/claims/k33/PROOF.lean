import PyProof.Rows.All
import Wide.All
import OpenK.AllK
import Wide.FinOn
import PyProof.EqAt
import PyProof.EqKinds
import PyProof.TupleCall
import PyProof.P3In
import PyProof.NeData
import PyProof.ConsumeS
import PyProof.WalksMore
import PyProof.ReprRoads
import PyProof.ReprLen
import PyProof.Draws
import PyProof.EnumMake
import PyProof.EnumFor
import PyProof.CallFns
import PyProof.Rows.CallKwBuiltin
import Lean
import PyProof.Rows.ReprOcc
import PySem.Challenge.RW_rootwebs_k33_trees_and_words
set_option Elab.async false
set_option compiler.extract_closed false
set_option bootstrap.genMatcherCode false
set_option linter.all false
set_option maxHeartbeats 1000000
set_option maxHeartbeats 2000000
set_option maxHeartbeats 400000
set_option maxHeartbeats 4000000
set_option maxRecDepth 100000
set_option hygiene false
local macro_rules|`(0e0)=>`(by omega)|`(0e1)=>`(⟨rfl,rfl,rfl,by decide +kernel,rfl,by decide +kernel,by decide +kernel⟩)|`(0e2)=>`(by kernel_rfl)|`(0e3)=>`(s.heap.objs.size)|`(0e4)=>`(by decide)|`(0e5)=>`(ks.map aq)|`(0e6)=>`(by simp)|`(0e7)=>`(jx X Nc scope cl C s H fp)|`(0e8)=>`(cC (.int 1))|`(0e9)=>`(by decide +kernel)|`(1e0)=>`(.obj Y.length)|`(1e1)=>`(model X.prog X.w)|`(1e2)=>`(model prog w)|`(1e3)=>`(rh.of (nm:="NoTree") (q:="NoTree") (N:=84) (bs:=[(.ref 24)]) (bm:=[(.ref 24),(.type "ValueError"),(.type "Exception"),(.type "BaseException"),(.type "object")]) (hd:=true) (sn:=[]) (sub:=[]) (ab:=false) (col:=none) (dd:=none) (k0:=some (.ref 76)) (k1:=none) (k2:=some (.str "NoTree" 271)) (k3:=some (.str "NoTree" 279)) (k5:=some (.bool true)) Xb Gb 0e2 0e2 0e2 0e2 0e2)|`(1e4)=>`(cC (.int 0))|`(1e5)=>`(hr.mono 0e4)|`(1e6)=>`(F.b2 (by rfl) fun _ _ _ _ _ _ _ _=>by rfl)|`(1e7)=>`(W.mg_of X G 0e2)|`(1e8)=>`(F.b1 (by rfl) fun _ _ _ _ _ _ _=>by rfl)|`(1e9)=>`(List Int)|`(2e0)=>`(lL (gb (ay (f9 false) (aj 1) 1e4)) (bx (bY (fL (aj 3)) [none,some 0] (ak 0) (gE) (gI)) (ak 5)) (lL (gb (ay (f9 false) (aj 1) 0e8)) (bx (bY (fL (aj 3)) [none,some 0] (ak 0) (gD) (gH)) (ak 5)) (lL (gb (ay (f9 false) (aj 1) (cC (.int 2)))) (bx (ay bF (bY (fM km (ag (ay dG (aj 2) 0e8) (az))) [none] (ak 0) (bp) (eD)) (ay mZ (fq (ag (bV (ag 1e4 (ag (ay dG (aj 2) 0e8) (az)))) (az))) (aE qJ (ag (ay (dC .Gt) (aj 2) (cC (.int 2))) (az))))) (ak 5)) (lL (gb (ay (f9 false) (aj 1) (cC (.int 3)))) (bx (bY (fM km (ag (ay dG (aj 2) 0e8) (az))) [none] (ak 0) (bp) (gG)) (ak 5)) (lL (gb (ay (f9 false) (aj 1) (cC (.int 4)))) (bx (bY (fM pM (ag 0e8 (ag (aj 2) (az)))) [none] (ak 0) (bp) (eC)) (ak 5)) (bx (bY (fM pM (ag 0e8 (ag (aj 2) (az)))) [none,some 0] (ak 0) (bp) (cX)) (ak 5)))))))|`(2e1)=>`(X.env)|`(2e2)=>`(W.fnOf x qual (fw st) (cR st) (av st) .none kV doc pm an cdv ct)|`(2e3)=>`(aj 0)
local macro_rules|`(2e4)=>`(.tup [.int m,.tup 0e5])|`(2e5)=>`(dj K w)|`(2e6)=>`(aF 0)|`(2e7)=>`(its.toArray)|`(2e8)=>`([e].length+([]:List Keyword).length+(if ([]:List Keyword).isEmpty then 0 else 1)<30)|`(2e9)=>`(.lst xs)|`(3e0)=>`(aj 1)|`(3e1)=>`(seqObj "list" #[] 0)|`(3e2)=>`(s.heap)|`(3e3)=>`(.ListComp elt [⟨tg,iter,ifs,0⟩] scope pos)|`(3e4)=>`(FR P w K mg base N qual scope f cdv A outer s0 H0 E)|`(3e5)=>`(Addr×Obj)|`(3e6)=>`(.builtin "object.__class__")|`(3e7)=>`(aI (aF 1) (aX))|`(3e8)=>`(M.length)|`(3e9)=>`(xs.length)|`(4e0)=>`(items.size)|`(4e1)=>`(Y1++[.lst a])|`(4e2)=>`(.bl false)|`(4e3)=>`(hr.units)|`(4e4)=>`(.ref f)|`(4e5)=>`(PE X a (tD p fa))|`(4e6)=>`(ag (bV (ag (aj 2) (ag (ay bF (wU (aj 3) (yU) (iq (aj 4))) (wU (aj 3) (iq (ay bF (aj 4) 0e8)) (yU))) (az)))) (ag (bV (ag (aj 2) (ag (ay bF (ay oD (aj 3) (mY vm 0e8)) (bV (ag (bV (ag 1e4 (ag (aj 2) (az)))) (az)))) (az)))) (ag (bV (ag (ay bF (aj 2) 0e8) (ag (aj 3) (az)))) (ag (fq (ag (aj 2) (ag (aj 3) (az)))) (az)))))|`(4e7)=>`(Option Nat)
local macro_rules|`(4e8)=>`(.int p)|`(4e9)=>`(fq (ag (bV (ag (aj 2) (ag (aE lE (ag (aj 3) (az))) (az)))) (ag (cC .non) (ag 1e4 (ag (bV (az)) (ag (C6) (ag (cC (.str "tree")) (ag (bV (ag (cC (.int 3)) (ag (bV (ag (bV (ag 1e4 (ag 0e8 (az)))) (ag (bV (ag 1e4 (ag (cC (.int 2)) (az)))) (ag (bV (ag 0e8 (ag (cC (.int 2)) (az)))) (az))))) (az)))) (az)))))))))|`(5e0)=>`(fun _ _ _ _ _=>fN)|`(5e1)=>`(.obj (Y.length+1))|`(5e2)=>`(ag 2e3 (az))|`(5e3)=>`(aI 2e6 (aX))|`(5e4)=>`((·.1))|`(5e5)=>`(bM (N:=["_law_pen", "_law_way", "_law_many", "_law_every", "_law_other", "_law_ties"]) (sc:=av bz) (Nc:=["_law_place"]) (cap:=[none]) rfl rfl 0e9)|`(5e6)=>`(.int (m:Int))|`(5e7)=>`((ps.map fun p=>(ns.getD p.1.toNat 0,ns.getD p.2.toNat 0)).map fun p=>[min p.1 p.2,max p.1 p.2])|`(5e8)=>`(.bl true)|`(5e9)=>`(.tup 0e5)|`(6e0)=>`(cV H2 s2.heap.objs.size (o0 s2.heap.objs.size))|`(6e1)=>`(.int m)|`(6e2)=>`(bO 2e6 (bA))|`(6e3)=>`(by simpa using hi)|`(6e4)=>`(aW (ak 0) (aW (ak 1) (de)))|`(6e5)=>`(bN m ks)|`(6e6)=>`(ns.map D.int)|`(6e7)=>`(aI (bA) (aX))|`(6e8)=>`(.type "BaseException")|`(6e9)=>`(Y1.length)|`(7e0)=>`(A.deeper (envOfC qual (av st) 0e3 f cdv))|`(7e1)=>`(aI (aF 2) (aX))
local macro_rules|`(7e2)=>`(w.params)|`(7e3)=>`(qs.map cg)|`(7e4)=>`(bD a b c)|`(7e5)=>`(.builtin "ValueError.__new__")|`(7e6)=>`(starEach es 2e1)|`(7e7)=>`(.Call (.Name x px) (a::es) [] pos)|`(7e8)=>`(.fresh 0 0 led)|`(7e9)=>`(⟨by omega,by omega⟩)|`(8e0)=>`(Q8 _)|`(8e1)=>`(ns.map V.int)|`(8e2)=>`(s1.heap.objs.size)|`(8e3)=>`(UD _)|`(8e4)=>`(.type "ValueError")|`(8e5)=>`(.ListComp elt (cl0::rest) scope pos)|`(8e6)=>`(Y.length)|`(8e7)=>`(s.heap.objs.size+1)|`(8e8)=>`(ag 3e0 (az))|`(8e9)=>`(aF 1)|`(9e0)=>`(.str "rootwebs.errors" 187)|`(9e1)=>`(show X.A.in1.handled=none from I.ok.hd hc)|`(9e2)=>`(ha pins s B H _ I h)|`(9e3)=>`(.type "object")|`(9e4)=>`(PE X b (tD p fb))|`(9e5)=>`(ag (aj 2) (az))
local macro_rules|`(9e6)=>`(cC (.int 2))|`(9e7)=>`(dF (ha pos pins s B H _ I h) fun us s1 ⟨vs,H1,I1,r1,q1⟩=>?_)|`(9e8)=>`(.obj 3e8)|`(9e9)=>`(fun r s'=>r=.ok (.ret (.bool true))/\OldK s₁.heap s'.heap/\s'.os=s₁.os/\AllBare s'.gens)|`(10e0)=>`(decide (items.size<items2.size))|`(10e1)=>`(mY (nI [] ["NoNumber", "NoTree"]) 2e3)|`(10e2)=>`(.obj i)|`(10e3)=>`(.builtin "getset_descriptor.__get__")|`(10e4)=>`(.ref C)|`(10e5)=>`(fun _=>trivial)|`(10e6)=>`(EP X pins B Q)|`(10e7)=>`(by simp;omega)|`(10e8)=>`(W.fnOf name qual params body scope dV kV doc pm an cdv ct)|`(10e9)=>`(ay cj 2e3 1e4)|`(11e0)=>`(ps.map cg)|`(11e1)=>`(.int ((n:Int)+1))|`(11e2)=>`((false,eval a 2e1))|`(11e3)=>`(ax.mpr rfl)|`(11e4)=>`(bM (N:=["_law_pen", "_law_way", "_law_many", "_law_every", "_law_other", "_law_ties"]) (sc:=av bz) (Nc:=["_law_pair", "_law_pen"]) (cap:=[none,some 0]) rfl rfl 0e9)|`(11e5)=>`(pq (.ref l) (E:=E) (Q1:=fun obj s1=>obj=.ref 0e3/\s1={s with heap:=s.heap.push {cls:=.type "set",dict:=none,data:=.set #[] 0 (.fresh 0 0 (oC w))}}) ⟨rfl,rfl⟩)|`(11e6)=>`(.obj a)|`(11e7)=>`(.inl rfl)|`(11e8)=>`(⟨x,by rw[bE (ux q h (by intro z;cases z))];exact q⟩)|`(11e9)=>`((Obj.mapSeq (·++vs.toArray)))
local macro_rules|`(12e0)=>`(ks++[[min u x,max u x]])|`(12e1)=>`(.Call (.Name "isinstance" px) [a,.Name xT pt] [] pos)|`(12e2)=>`(wpAny_attempt (RO (name:=Str.ofString "__next__") hT Fx.slot_setiter_next (RQ Fx.slot_setiter_next hT Fx.entry_setiter_next ?_ (Fx.args_setiter_next _))))|`(12e3)=>`(dF (hc pins s3 B H3 _ I3 q3) fun w' s4 ⟨z',H4,I4,r4,q4⟩=>dF (ho' pins s4 B H4 y z' u w' _ I4 r2 r4 q4) fun d' s5 ⟨z2,H5,I5,r5,k2,e2,q5⟩=>?_)|`(12e4)=>`(show cN (.own t all) M from ht)|`(12e5)=>`((fun Z' _ H' J'=>∀B',dD p.K H' J' Z' B'->N B' H'))|`(12e6)=>`(ay cj 3e0 (ay dG 2e3 0e8))|`(12e7)=>`(Q3 ⟨_,rfl,Q3 h⟩)|`(12e8)=>`(.type "Exception")|`(12e9)=>`(.BoolOp .And (a::b::rest) pos)
set_option hygiene true
local macro_rules|`(tactic|dsimp[$x,*]$[$l]?)=>`(tactic|simp only[$x,*]$[$l]?)
noncomputable section
abbrev Qp:=@Option.some.inj
abbrev Qq:=@PySem.Value.isInt_shape
abbrev Qr:=@decide_eq_false
abbrev Qs:=@beq_eq_false_iff_ne
abbrev Qt:=@PySem.wpAny_eqBool_int
abbrev Qu:=@if_pos
abbrev Qv:=@if_neg
abbrev Qw:=@PySem.Heap.lt_size
abbrev Qx:=@Nat.lt_of_lt_of_le
abbrev Qy:=@Nat.lt_irrefl
abbrev QA:=@Nat.ne_of_lt
abbrev QB:=@List.mem_filter
abbrev QC:=@List.mem_range
abbrev QD:=@Nat.le_trans
abbrev QE:=@Nat.le_of_lt
abbrev QF:=@List.filterMap_cons
abbrev QG:=@List.mem_cons_self
abbrev QH:=@List.mem_cons_of_mem
abbrev QI:=@List.mem_cons
abbrev QJ:=@Ne.symm
abbrev QK:=@List.mem_append
abbrev QL:=@List.mem_append_left
abbrev QM:=@List.getElem?_eq_some_iff
abbrev QN:=@List.getElem_inj
abbrev QO:=@List.getElem?_set_self
abbrev QP:=@List.getElem?_set_ne
abbrev QR:=@PySem.wpAny_mono
abbrev QS:=@PySem.wpAny_truthy_bool
abbrev QT:=@Array.length_toList
abbrev QU:=@congrArg
abbrev QV:=@PySem.wpAny_execs_nil
abbrev QW:=@PySem.wpAny_bind
abbrev QX:=@PySem.wpAny_holding
abbrev QY:=@PySem.wpAny_standAt
abbrev QZ:=@PySem.wpAny_passesOwn
abbrev Q0:=@Bool.false_ne_true
abbrev Q2:=@Nat.ne_of_gt
abbrev Q3:=@PySem.wpAny_pure
abbrev Q4:=@PySem.wpAny_load
abbrev Q5:=@Bool.false_and
abbrev Q6:=@PySem.Heap.get?_push_of_some
abbrev Q7:=@PySem.Heap.get?_push_size
abbrev Q8:=@Nat.le_refl
abbrev Q9:=@PyProof.Rows.callWith_type1
abbrev Ra:=@List.mem_filterMap
abbrev Rb:=@List.mem_append_right
abbrev Rc:=@Bool.eq_iff_iff
abbrev Re:=@PySem.sizeLine_eq
abbrev Rf:=@List.size_toArray
abbrev Rg:=@List.append_nil
abbrev Rh:=@PySem.codeAny_mono
abbrev Ri:=@PySem.wpAny_Call_Name_kw
abbrev Rj:=@List.nodup_cons
abbrev Rk:=@List.of_mem_zip
abbrev Rm:=@Option.isSome_iff_exists
abbrev Rn:=@List.length_take
abbrev Rp:=@PySem.mem_of_lookup
abbrev Rq:=@List.getElem?_append_right
abbrev Rt:=@List.getElem?_replicate
abbrev Ru:=@List.getElem?_append_left
abbrev Rv:=@List.getElem?_map
abbrev Rw:=@List.getElem?_take_of_lt
abbrev Rx:=@List.mem_of_getElem?
abbrev Ry:=@List.length_append
abbrev Rz:=@List.length_map
abbrev RA:=@List.length_replicate
abbrev RB:=@PySem.noFill_tuple_add
abbrev RC:=@PySem.F.slot_tuple_add
abbrev RD:=@PySem.F.entry_tuple_add
abbrev RE:=@PySem.F.args_tuple_add_2
abbrev RF:=@Int.toNat_natCast
abbrev RG:=@Nat.min_le_right
abbrev RH:=@if_false
abbrev RI:=@if_true
abbrev RJ:=@PyProof.Rows.slicePart_none
abbrev RK:=@PySem.wpAny_field
abbrev RL:=@List.filterMap_map
abbrev RM:=@List.length_drop
abbrev RN:=@PySem.wpAny_sequenceKey
abbrev RO:=@PySem.wpAny_callSpecial?_slot
abbrev RP:=@PyProof.Rows.slot_tuple_getitem
abbrev RQ:=@PySem.wpAny_call_entry
abbrev RR:=@PyProof.Rows.entry_tuple_getitem
abbrev RT:=@PyProof.Rows.args_tuple_getitem
abbrev RU:=@PySem.wpAny_typeOf
abbrev RW:=@Bool.and_eq_true
abbrev RX:=@PySem.wpAny_newObj_type
abbrev RY:=@List.map_nil
abbrev RZ:=@List.map_cons
abbrev R0:=@PySem.Heap.IsSliceOf.new
abbrev R6:=@PyProof.Rows.IsTup.new
abbrev R7:=@PySem.slot_list_getitem
abbrev R8:=@PySem.Heap.get?_update_self
abbrev R9:=@List.length_set
abbrev Sa:=@List.all_cons
abbrev Sb:=@PySem.typeIs_int
abbrev Sd:=@List.reverse_cons
abbrev Se:=@List.replicate_succ
abbrev Sf:=@List.flatten_cons
abbrev Sg:=@Nat.le_succ
abbrev Sh:=@List.append_assoc
abbrev Si:=@List.foldl_cons
abbrev Sj:=@PySem.call_meets
abbrev Sk:=@List.length_singleton
abbrev Sl:=@Array.getElem?_toList
abbrev Sm:=@List.eraseIdxIfInBounds_toArray
abbrev Sn:=@List.nil_append
abbrev So:=@PySem.F.slot_int_rmul
abbrev Sr:=@decide_eq_true
abbrev Ss:=@Nat.le_of_eq
abbrev Su:=@List.lookup_cons
abbrev Sv:=@beq_self_eq_true
abbrev Sw:=@Bool.false_eq_true
abbrev Sx:=@List.length_cons
abbrev Sy:=@Nat.lt_succ_self
abbrev SA:=@Nat.lt_succ_of_lt
abbrev SB:=@PySem.Heap.size_push
abbrev SC:=@PySem.pushCells_keeps
abbrev SD:=@Option.bind_some
abbrev SE:=@PySem.codeAny_of_tree
abbrev SF:=@PySem.wpAny_askSetting
abbrev SG:=@PySem.wpAny_rule
abbrev SH:=@PySem.wpAny_of_eq
abbrev SI:=@Nat.zero_le
abbrev SJ:=@List.mem_singleton
abbrev SK:=@PySem.F.slot_tuple_iterator_next
abbrev SL:=@PySem.F.entry_tuple_iterator_next
abbrev SM:=@PySem.F.args_tuple_iterator_next_1
abbrev SN:=@PySem.wpAny_seqItems
abbrev SQ:=@PySem.Heap.SameBut.update
abbrev SR:=@PySem.wpAny_pyIter_tuple
abbrev SS:=@List.not_mem_nil
abbrev SU:=@or_false
abbrev SV:=@PySem.Heap.get?_push_ne
abbrev SW:=@List.range_succ_eq_map
abbrev SX:=@List.map_map
abbrev SY:=@List.map_congr_left
abbrev SZ:=@List.length_range
abbrev S8:=@List.length_nil
abbrev S9:=@List.cons.inj
abbrev Ta:=@List.cons_append
abbrev Tb:=@List.pairwise_iff_getElem
abbrev Tc:=@Array.getElem?_eq_some_iff
abbrev Td:=@List.take_of_length_le
abbrev Te:=@List.mem_map
abbrev Tf:=@Classical.byContradiction
abbrev Tg:=@List.nodup_range
abbrev Th:=@List.getElem?_of_mem
abbrev Ti:=@List.mem_map_of_mem
abbrev Tj:=@List.take_append_drop
abbrev Tn:=@List.pairwise_cons
abbrev To:=@List.map_append
abbrev Tp:=@List.map_take
abbrev Tq:=@List.map_drop
abbrev Tr:=@Array.getD_eq_getD_getElem?
abbrev Ts:=@Option.getD_some
abbrev Tt:=@List.getElem?_drop
abbrev Tu:=@List.mem_of_mem_take
abbrev Tv:=@List.mem_of_mem_drop
abbrev Tw:=@Array.getElem?_eq_none_iff
abbrev Tx:=@List.nodup_nil
abbrev TB:=@Nat.sub_self
abbrev TC:=@List.pairwise_lt_range
abbrev TF:=@List.perm_ext_iff_of_nodup
abbrev TH:=@Array.getElem?_eq_getElem
abbrev TJ:=@List.all_eq_true
abbrev TK:=@Int.toNat_of_nonneg
abbrev TL:=@Bool.not_true
abbrev TM:=@PySem.wpAny_forIn_list
abbrev TN:=@PySem.wpAny_setState_of
abbrev TQ:=@Bool.and_self
abbrev TR:=@Array.mem_toList_iff
abbrev TU:=@List.nodup_append
abbrev TV:=@Bool.not_false
abbrev TX:=@Bool.and_false
abbrev TY:=@List.foldl_append
abbrev TZ:=@PySem.codeAny_builtin
abbrev T1:=@PySem.Around.under_plainId
abbrev T3:=@PyProof.Rows.F.plain_set_update_loop
abbrev T4:=@PySem.plainId_quiet
abbrev T5:=@PySem.isSubtype_type
abbrev T6:=@PySem.F.called_set
abbrev T7:=@PySem.Code.quiet_builtin
abbrev T8:=@PySem.codeAny_call_builtin
abbrev T9:=@PySem.wpAny_pyIter_list
abbrev Ua:=@PySem.wpAny_runValue
abbrev Ub:=@PySem.Walks.tuple
abbrev Uc:=@List.take_add_one
abbrev Ud:=@Array.getElem_mem
abbrev Ue:=@PySem.W.KasT.kasWp_bind
abbrev Ug:=@decide_eq_decide
abbrev Uh:=@List.getD_eq_getElem?_getD
abbrev Ui:=@List.ext_getElem?
abbrev Uj:=@List.getElem?_range
abbrev Uk:=@List.getElem?_eq_none
abbrev Ul:=@List.pairwise_map
abbrev Um:=@PyProof.Rows.listUpdate_at
abbrev Uo:=@PyProof.Rows.get?_update_seq
abbrev Uq:=@PySem.wpAny_newList
abbrev Ur:=@PyProof.Rows.size_push'
abbrev Us:=@PySem.Heap.size_update
abbrev Ut:=@PySem.Heap.get?_update_ne
abbrev Uu:=@bne_self_eq_false
abbrev Uv:=@List.getElem_mem
abbrev Uw:=@List.length_eq_zero_iff
abbrev Ux:=@List.getElem?_eq_getElem
abbrev Uy:=@PySem.wpAny_setEntries_of
abbrev Uz:=@PySem.wpAny_setField_rec
abbrev UA:=@beq_iff_eq
abbrev UB:=@List.getElem_of_mem
abbrev UC:=@of_eq_true
abbrev UD:=@eq_self
abbrev UE:=@List.getElem?_cons_succ
abbrev UF:=@List.drop_eq_getElem_cons
abbrev UG:=@List.drop_length
abbrev UH:=@decide_eq_true_eq
abbrev UI:=@List.zip_cons_cons
abbrev UJ:=@List.eq_nil_of_length_eq_zero
abbrev UK:=@PyProof.Rows.boot_isinstance
abbrev UL:=@List.all_map
abbrev UM:=@Int.le_antisymm
abbrev UN:=@List.length_pos_iff
abbrev UO:=@Bool.or_eq_true
abbrev UP:=@List.take_append_of_le_length
abbrev UQ:=@List.set_append_right
abbrev UR:=@List.filter_cons
abbrev US:=@PySem.seqSlot_of
abbrev UT:=@PySem.F.slot_list_iadd
abbrev UU:=@List.length_reverse
abbrev UV:=@List.getElem_toArray
abbrev UW:=@List.countP_map
abbrev UX:=@List.findIdx_lt_length_of_exists
abbrev UY:=@PySem.F.slot_tuple_mul
abbrev UZ:=@PySem.PassesOwn.never
abbrev U0:=@List.Pairwise.imp_of_mem
abbrev U1:=@Int.emod_nonneg
abbrev U2:=@Int.emod_lt_of_pos
abbrev U3:=@List.set_cons_succ
abbrev U4:=@List.set_cons_zero
abbrev U5:=@List.filter_eq_self
abbrev U6:=@List.mem_flatMap
abbrev U7:=@List.filter_map
abbrev U8:=@List.range_succ
abbrev U9:=@List.flatMap_cons
abbrev Va:=@Bool.true_and
abbrev Vb:=@List.any_map
abbrev Vc:=@List.any_eq_true
abbrev Vd:=@of_decide_eq_true
abbrev Ve:=@Nat.min_eq_left
abbrev Vf:=@Int.min_eq_left
abbrev Vg:=@Int.max_eq_right
abbrev Vh:=@Int.min_eq_right
abbrev Vi:=@Int.max_eq_left
abbrev Vj:=@Function.comp_def
abbrev Vk:=@List.cons.injEq
abbrev Vl:=@and_true
abbrev Vm:=@Bool.not_eq_true'
variable{ks:List 1e9}{pins:List (PySem.Addr×PySem.Obj)}{fd:PySem.FuncData}{n:Nat}{Q:PySem.Value->PySem.Shared->Prop}{s:PySem.Shared}{J:List PySem.Addr}{f:PySem.Addr}{E:PySem.Value->PySem.Shared->Prop}{K:PySem.W.Frag}{i:Nat}{m:Nat}{x:PySem.Str}{w:PySem.World}{a:PySem.Addr}{A:PySem.Around}{pos:PySem.Pos}{mg:PySem.Str->Option PySem.Value}{T:Int->Int->Option Nat}{ps:List (Int×Int)}{k:List Int}{es:Array (Int×PySem.Value)}{ρ:List (Nat×Int×PySem.Value)}{ns:List Int}{P:PySem.Program}{N:List PySem.Str}{scope:PySem.Scope}{e:PySem.Expr}{prog:PySem.Program}{us:List PySem.Value}{gens:List Comprehension}{base:PySem.Heap}{u:PySem.Value}{β:Type}{st:PySem.Stmt}{px:PySem.Pos}{qual:PySem.Str}{op:PySem.CmpOp}{XP:(PySem.Str->Option PySem.Value)->PySem.Heap->Prop}{t:PySem.SetTable}{body:List PySem.Stmt}{t':Nat}{b:PySem.Addr}{q:Int}{tg:PySem.Expr}{env:PySem.Env}{its:List PySem.Value}{acc:PySem.Addr}{osl:Array (Option PySem.Value)}{j:Nat}{fp:List PySem.Addr}{Nc:List PySem.Str}{lo:Int}{it:PySem.Addr}{l:PySem.Addr}{pos':PySem.Pos}{apos:PySem.Pos}{elts:List PySem.Expr}{h':PySem.Heap}{outer:List PySem.Env}{α:Nat->PySem.Heap->Prop}{neg:Bool}{c:PySem.Expr}{z:Nat×Int×PySem.Value}{ch:List PySem.Addr}{known:List PySem.Str}{mask:Nat}{C:Int->Int->Prop}{owner:Array 4e7}{g:Comprehension}{subs:List PySem.Str}{loose:List PySem.Str}{a_NoTree:PySem.Addr}{rest:List PySem.Expr}{YP:PySem.World->PySem.Heap->Prop}{elt:PySem.Expr}{tn:String}{cl:List (PySem.Str×PySem.Addr)}{iter:PySem.Expr}{sc:PySem.Scope}{pos1:PySem.Pos}{s':PySem.Shared}{hs:List Int}{g':Array GenState}{params:Arguments}{an:Option PySem.Addr}{pos2:PySem.Pos}{I:PySem.Addr}{k1:Nat}{np:PySem.Pos}{cdv:PySem.Value}{vl:PySem.Value}{ea:PySem.Addr}{φ:PySem.Heap->Prop}{left:List Int}{a_NoNumber:PySem.Addr}{sl:PySem.Addr}{ob:PySem.Expr}
namespace L2
open PySem PySem.Spec PyProof.Rows
def fw(s:Stmt):Arguments:=match s with
 |.FunctionDef _ a _ _ _ _ _ _ _ _=>a
 |_=>{posonlyargs:=[],args:=[],vararg:=none,kwonlyargs:=[],kw_defaults:=[],kwarg:=none,defaults:=[]}
def cR(s:Stmt):List Stmt:=match s with
 |.FunctionDef _ _ b _ _ _ _ _ _ _=>b
 |_=>[]
def av(s:Stmt):Scope:=match s with
 |.FunctionDef _ _ _ _ _ _ sc _ _ _=>sc
 |_=>{kind:=.function,names:=[],isGenerator:=false,isCoroutine:=false}
end L2
namespace Lw
open PySem PySem.Spec PyProof.Rows L2
def top(i:Nat):Stmt:=PySem.Challenge.pw_rootwebs_k33_trees_and_words.main.body.getD i (.Pass ⟨0,0,0,0⟩)
abbrev jZ:Stmt:=top 11
abbrev fE:Stmt:=top 12
abbrev j6:Stmt:=top 13
abbrev hV:Stmt:=top 14
abbrev hG:Stmt:=top 15
abbrev lb:Stmt:=top 19
abbrev la:Stmt:=top 22
abbrev mQ:Stmt:=top 21
abbrev jK:Stmt:=top 20
abbrev jY:Stmt:=top 18
abbrev kE:Stmt:=top 23
abbrev dR:Stmt:=top 25
abbrev hX:Stmt:=top 24
abbrev jk:Stmt:=top 28
abbrev iH:Stmt:=top 29
abbrev gy:Stmt:=top 30
abbrev jJ:Stmt:=top 31
abbrev gq:Stmt:=top 33
abbrev jm:Stmt:=top 34
abbrev ia:Stmt:=top 35
abbrev jn:Stmt:=top 36
abbrev iI:Stmt:=top 37
abbrev gp:Stmt:=top 38
abbrev eO:Stmt:=top 39
abbrev dS:Stmt:=top 40
abbrev iW:Stmt:=top 41
abbrev fU:Stmt:=top 42
abbrev bz:Stmt:=top 43
abbrev h7:Stmt:=top 44
abbrev eG:Stmt:=top 45
abbrev gn:Stmt:=top 46
abbrev eH:Stmt:=top 47
abbrev fB:Stmt:=top 48
abbrev jl:Stmt:=top 49
abbrev dB:Stmt:=top 50
abbrev dM:Stmt:=top 51
abbrev jo:Stmt:=top 52
abbrev kT:Stmt:=top 53
def en(P:Params)(n:Str)(t:Tok)(v:Value):DictEntry:=⟨PyData.keyHash P n,.str n t,v⟩
def fo (n:Str) (st:Stmt) (m:Str) (t:Tok) (c:Addr):Obj:=⟨.type "function",none,.func (W.fnOf n n (fw st) (cR st) (av st) .none .none .none (.str m t) none (.ref c) .none),#[]⟩
noncomputable def co (n:Str) (t:Tok) (l k i:Int) (a:Addr) (p:Bool) (u:Nat):Obj:=⟨.type "code",none,.fields #[.str n t,.str n (t+1),.str "/claim/cut.py" (t+2),.int l 0,.int k 0,.int 0 0,.int 0 0,.int 3 0,.ref a,.bool true,.int i 0,.ref (a+1),.none,bif p then .ref (a+2) else .none,bif p then .ref (a+3) else .none,.ref (bif p then a+4 else a+2),.int u 0,.int l 0,.str "/claim/cut.py" (u+1)],#[]⟩
noncomputable def Kz (P:Params):W.Frag:=[(3,⟨.type "dict",none,.dict #[en P "__name__" 165 (.str "law_rootwebs_k33_trees_and_words" 492),en P "__doc__" 166 .none,en P "__package__" 167 .none,en P "__loader__" 168 (.builtin "__main__.__loader__#opaque"),en P "__spec__" 169 .none,en P "__annotations__" 170 (.ref 6),en P "__builtins__" 171 (.ref 4),en P "__file__" 173 (.str "/claim/cut.py" 172),en P "__cached__" 174 .none,en P "RootError" 206 (.ref 24),en P "NoPlace" 222 (.ref 37),en P "NoNumber" 238 (.ref 49),en P "NoLine" 254 (.ref 61),en P "NoRoot" 270 (.ref 73),en P "NoTree" 286 (.ref 85),en P "NoWeb" 311 (.ref 104),en P "NoText" 336 (.ref 123),en P "TooGreat" 363 (.ref 142),en P "is_whole" 372 (.ref 151),en P "is_whole_from" 381 (.ref 158),en P "is_place" 389 (.ref 165),en P "is_places" 395 (.ref 170),en P "is_rising" 401 (.ref 175),en P "MOST_PLACES" 405 (.int 6 404),en P "web_good" 414 (.ref 182),en P "is_many" 421 (.ref 189),en P "is_ties" 427 (.ref 194),en P "is_tie" 435 (.ref 201),en P "is_pair" 443 (.ref 208),en P "web_of" 449 (.ref 213),en P "fars_from" 455 (.ref 218),en P "next_places" 461 (.ref 223),en P "LEAST_WORDED" 465 (.int 3 464),en P "tree_good" 472 (.ref 230),en P "check_tree" 479 (.ref 237),en P "word_of" 485 (.ref 242),en P "tree_by" 491 (.ref 247),en P "_law_cell_at" 501 (.ref 254),en P "_law_next" 508 (.ref 261),en P "_law_pen_of" 516 (.ref 268),en P "_law_draw" 525 (.ref 275),en P "_law_whole" 532 (.ref 282),en P "_law_kind_of" 540 (.ref 289),en P "_law_named" 546 (.ref 294),en P "_law_names_by" 552 (.ref 299),en P "_law_far" 558 (.ref 304),en P "_law_steps" 564 (.ref 309),en P "_law_sparse_by" 570 (.ref 314),en P "_law_web_by" 582 (.ref 321),en P "_law_tree_by" 588 (.ref 326),en P "_law_no_tree" 600 (.ref 333),en P "_law_is_tree" 606 (.ref 338),en P "_law_word" 612 (.ref 343),en P "_law_told" 622 (.ref 350),en P "_law_word_good" 628 (.ref 355),en P "_law_treed_right" 637 (.ref 362),en P "_law_bent" 649 (.ref 369),en P "law" 655 (.ref 374)] 58,#[]⟩),
 (23,⟨.type "dict",none,.dict #[en P "__module__" 196 9e0,en P "__firstlineno__" 200 (.int 2 199),en P "__static_attributes__" 201 (.ref 22),en P "__weakref__" 203 (.ref 25),en P "__doc__" 204 .none] 3,#[]⟩),
 (24,⟨.type "type",none,.cls ⟨"RootError",[8e4],[(.ref 24),8e4,12e8,6e8,9e3],23, "RootError",true,[],[(.ref 37),(.ref 49),(.ref 61),(.ref 73),(.ref 85),(.ref 104),(.ref 123),(.ref 142)],false,none,false⟩,#[some (.ref 15),none,some (.str "RootError" 189),some (.str "RootError" 197),some 7e5,some (.bool true)]⟩),
 (36,⟨.type "dict",none,.dict #[en P "__module__" 214 9e0,en P "__firstlineno__" 218 (.int 4 217),en P "__static_attributes__" 219 (.ref 35),en P "__doc__" 220 .none] 2,#[]⟩),
 (37,⟨.type "type",none,.cls ⟨"NoPlace",[(.ref 24)],[(.ref 37),(.ref 24),8e4,12e8,6e8,9e3],36, "NoPlace",true,[],[],false,none,false⟩,#[some (.ref 28),none,some (.str "NoPlace" 207),some (.str "NoPlace" 215),some 7e5,some (.bool true)]⟩),
 (48,⟨.type "dict",none,.dict #[en P "__module__" 230 9e0,en P "__firstlineno__" 234 (.int 6 233),en P "__static_attributes__" 235 (.ref 47),en P "__doc__" 236 .none] 2,#[]⟩),
 (49,⟨.type "type",none,.cls ⟨"NoNumber",[(.ref 24)],[(.ref 49),(.ref 24),8e4,12e8,6e8,9e3],48, "NoNumber",true,[],[],false,none,false⟩,#[some (.ref 40),none,some (.str "NoNumber" 223),some (.str "NoNumber" 231),some 7e5,some (.bool true)]⟩),
 (60,⟨.type "dict",none,.dict #[en P "__module__" 246 9e0,en P "__firstlineno__" 250 (.int 8 249),en P "__static_attributes__" 251 (.ref 59),en P "__doc__" 252 .none] 2,#[]⟩),
 (61,⟨.type "type",none,.cls ⟨"NoLine",[(.ref 24)],[(.ref 61),(.ref 24),8e4,12e8,6e8,9e3],60, "NoLine",true,[],[],false,none,false⟩,#[some (.ref 52),none,some (.str "NoLine" 239),some (.str "NoLine" 247),some 7e5,some (.bool true)]⟩),
 (72,⟨.type "dict",none,.dict #[en P "__module__" 262 9e0,en P "__firstlineno__" 266 (.int 10 265),en P "__static_attributes__" 267 (.ref 71),en P "__doc__" 268 .none] 2,#[]⟩),
 (73,⟨.type "type",none,.cls ⟨"NoRoot",[(.ref 24)],[(.ref 73),(.ref 24),8e4,12e8,6e8,9e3],72, "NoRoot",true,[],[],false,none,false⟩,#[some (.ref 64),none,some (.str "NoRoot" 255),some (.str "NoRoot" 263),some 7e5,some (.bool true)]⟩),
 (84,⟨.type "dict",none,.dict #[en P "__module__" 278 9e0,en P "__firstlineno__" 282 (.int 12 281),en P "__static_attributes__" 283 (.ref 83),en P "__doc__" 284 .none] 2,#[]⟩),
 (85,⟨.type "type",none,.cls ⟨"NoTree",[(.ref 24)],[(.ref 85),(.ref 24),8e4,12e8,6e8,9e3],84, "NoTree",true,[],[],false,none,false⟩,#[some (.ref 76),none,some (.str "NoTree" 271),some (.str "NoTree" 279),some 7e5,some (.bool true)]⟩),
 (103,⟨.type "dict",none,.dict #[en P "__module__" 294 9e0,en P "__firstlineno__" 298 (.int 14 297),en P "__init__" 306 (.ref 101),en P "__static_attributes__" 308 (.ref 102),en P "__doc__" 309 .none] 2,#[]⟩),
 (104,⟨.type "type",none,.cls ⟨"NoWeb",[(.ref 24)],[(.ref 104),(.ref 24),8e4,12e8,6e8,9e3],103, "NoWeb",true,[],[],false,none,false⟩,#[some (.ref 88),none,some (.str "NoWeb" 287),some (.str "NoWeb" 295),some 7e5,some (.bool true)]⟩),
 (122,⟨.type "dict",none,.dict #[en P "__module__" 319 9e0,en P "__firstlineno__" 323 (.int 18 322),en P "__init__" 331 (.ref 120),en P "__static_attributes__" 333 (.ref 121),en P "__doc__" 334 .none] 2,#[]⟩),
 (123,⟨.type "type",none,.cls ⟨"NoText",[(.ref 24)],[(.ref 123),(.ref 24),8e4,12e8,6e8,9e3],122, "NoText",true,[],[],false,none,false⟩,#[some (.ref 107),none,some (.str "NoText" 312),some (.str "NoText" 320),some 7e5,some (.bool true)]⟩),
 (141,⟨.type "dict",none,.dict #[en P "__module__" 344 9e0,en P "__firstlineno__" 348 (.int 22 347),en P "__init__" 357 (.ref 139),en P "__static_attributes__" 360 (.ref 140),en P "__doc__" 361 .none] 2,#[]⟩),
 (142,⟨.type "type",none,.cls ⟨"TooGreat",[(.ref 24)],[(.ref 142),(.ref 24),8e4,12e8,6e8,9e3],141, "TooGreat",true,[],[],false,none,false⟩,#[some (.ref 126),none,some (.str "TooGreat" 337),some (.str "TooGreat" 345),some 7e5,some (.bool true)]⟩),
 (150,co "is_whole" 366 28 1 181 145 true 370),
 (151,fo "is_whole" jZ "rootwebs.kinds" 364 150),
 (157,co "is_whole_from" 373 30 3 181 152 true 379),
 (158,fo "is_whole_from" fE "rootwebs.kinds" 364 157),
 (164,co "is_place" 382 32 2 181 159 true 387),
 (165,fo "is_place" j6 "rootwebs.kinds" 364 164),
 (169,co "is_places" 390 34 2 181 166 false 393),
 (170,fo "is_places" hV "rootwebs.kinds" 364 169),
 (174,co "is_rising" 396 36 1 181 171 false 399),
 (175,fo "is_rising" hG "rootwebs.kinds" 364 174),
 (181,co "web_good" 406 40 1 181 176 true 412),
 (182,fo "web_good" jY "rootwebs.webs" 402 181),
 (188,co "is_many" 415 45 1 181 183 true 419),
 (189,fo "is_many" lb "rootwebs.webs" 402 188),
 (193,co "is_ties" 422 47 2 181 190 false 425),
 (194,fo "is_ties" jK "rootwebs.webs" 402 193),
 (200,co "is_tie" 428 49 2 181 195 true 433),
 (201,fo "is_tie" mQ "rootwebs.webs" 402 200),
 (207,co "is_pair" 436 51 2 181 202 true 441),
 (208,fo "is_pair" la "rootwebs.webs" 402 207),
 (212,co "web_of" 444 53 2 181 209 false 447),
 (213,fo "web_of" kE "rootwebs.webs" 402 212),
 (217,co "fars_from" 450 60 2 181 214 false 453),
 (218,fo "fars_from" hX "rootwebs.webs" 402 217),
 (222,co "next_places" 456 72 2 181 219 false 459),
 (223,fo "next_places" dR "rootwebs.webs" 402 222),
 (229,co "tree_good" 466 76 1 181 224 true 470),
 (230,fo "tree_good" jk "rootwebs.trees" 462 229),
 (236,co "check_tree" 473 78 1 181 231 true 477),
 (237,fo "check_tree" iH "rootwebs.trees" 462 236),
 (241,co "word_of" 480 81 1 181 238 false 483),
 (242,fo "word_of" gy "rootwebs.trees" 462 241),
 (246,co "tree_by" 486 94 2 181 243 false 489),
 (247,fo "tree_by" jJ "rootwebs.trees" 462 246),
 (253,co "_law_cell_at" 494 107 2 181 248 true 499),
 (254,fo "_law_cell_at" gq "law_rootwebs_k33_trees_and_words" 492 253),
 (260,co "_law_next" 502 111 1 181 255 true 506),
 (261,fo "_law_next" jm "law_rootwebs_k33_trees_and_words" 492 260),
 (267,co "_law_pen_of" 509 114 1 181 262 true 514),
 (268,fo "_law_pen_of" ia "law_rootwebs_k33_trees_and_words" 492 267),
 (274,co "_law_draw" 517 117 2 181 269 true 523),
 (275,fo "_law_draw" jn "law_rootwebs_k33_trees_and_words" 492 274),
 (281,co "_law_whole" 526 124 1 181 276 true 530),
 (282,fo "_law_whole" iI "law_rootwebs_k33_trees_and_words" 492 281),
 (288,co "_law_kind_of" 533 126 1 181 283 true 538),
 (289,fo "_law_kind_of" gp "law_rootwebs_k33_trees_and_words" 492 288),
 (293,co "_law_named" 541 132 2 181 290 false 544),
 (294,fo "_law_named" eO "law_rootwebs_k33_trees_and_words" 492 293),
 (298,co "_law_names_by" 547 135 2 181 295 false 550),
 (299,fo "_law_names_by" dS "law_rootwebs_k33_trees_and_words" 492 298),
 (303,co "_law_far" 553 138 1 181 300 false 556),
 (304,fo "_law_far" iW "law_rootwebs_k33_trees_and_words" 492 303),
 (308,co "_law_steps" 559 149 2 181 305 false 562),
 (309,fo "_law_steps" fU "law_rootwebs_k33_trees_and_words" 492 308),
 (313,co "_law_sparse_by" 565 155 1 181 310 false 568),
 (314,fo "_law_sparse_by" bz "law_rootwebs_k33_trees_and_words" 492 313),
 (320,co "_law_web_by" 571 174 1 181 315 true 580),
 (321,fo "_law_web_by" h7 "law_rootwebs_k33_trees_and_words" 492 320),
 (325,co "_law_tree_by" 583 187 1 181 322 false 586),
 (326,fo "_law_tree_by" eG "law_rootwebs_k33_trees_and_words" 492 325),
 (332,co "_law_no_tree" 589 191 2 181 327 true 598),
 (333,fo "_law_no_tree" gn "law_rootwebs_k33_trees_and_words" 492 332),
 (337,co "_law_is_tree" 601 198 1 181 334 false 604),
 (338,fo "_law_is_tree" eH "law_rootwebs_k33_trees_and_words" 492 337),
 (342,co "_law_word" 607 206 1 181 339 false 610),
 (343,fo "_law_word" fB "law_rootwebs_k33_trees_and_words" 492 342),
 (349,co "_law_told" 613 216 3 181 344 true 620),
 (350,fo "_law_told" jl "law_rootwebs_k33_trees_and_words" 492 349),
 (354,co "_law_word_good" 623 221 2 181 351 false 626),
 (355,fo "_law_word_good" dB "law_rootwebs_k33_trees_and_words" 492 354),
 (361,co "_law_treed_right" 629 225 2 181 356 true 635),
 (362,fo "_law_treed_right" dM "law_rootwebs_k33_trees_and_words" 492 361),
 (368,co "_law_bent" 638 230 3 181 363 true 647),
 (369,fo "_law_bent" jo "law_rootwebs_k33_trees_and_words" 492 368),
 (373,co "law" 650 235 1 181 370 false 653),
 (374,fo "law" kT "law_rootwebs_k33_trees_and_words" 492 373)]
noncomputable def Qz:Program:=W.view PySem.Challenge.pw_rootwebs_k33_trees_and_words [1,2,3,4,5,6,7,8,9,11,12,13,14,15,17,18,19,20,21,22,23,24,25,27,28,29,30,31,33,34,35,36,37,38,39,40,41,42,43,44,45,46,47,48,49,50,51,52,53]
noncomputable abbrev Hz:W.Hook:=W.kHook Kz [3,23,24,36,37,48,49,60,61,72,73,84,85,103,104,122,123,141,142,150,151,157,158,164,165,169,170,174,175,181,182,188,189,193,194,200,201,207,208,212,213,217,218,222,223,229,230,236,237,241,242,246,247,253,254,260,261,267,268,274,275,281,282,288,289,293,294,298,299,303,304,308,309,313,314,320,321,325,326,332,333,337,338,342,343,349,350,354,355,361,362,368,369,373,374] fun _=>by kernel_rfl
theorem JF:PySem.Challenge.rw_rootwebs_k33_trees_and_words.wellSaid=true:=by kernel_rfl
noncomputable abbrev Xz(s:Shared):Bool:=W.xlAt Qz [] s&&W.recOk (W.RowW.records (W.OpenRow.toRowW (W.OpenLaw.row PySem.Challenge.rw_rootwebs_k33_trees_and_words))) s
theorem zD{B J β γ δ ε:Type _}{o:Option B}(F:B->J×β×γ×δ)(G:B->ε)(g:J×β×γ×δ)(v:ε)
  (h1:o.map (fun s=>(F s).1)=some g.1) (h2:o.map (fun s=>((F s).2.1,(F s).2.2.1))=some (g.2.1,g.2.2.1)) (h3:o.map (fun s=>(F s).2.2.2)=some g.2.2.2)
  (h4:o.map G=some v):o.map (fun s=>(F s,G s))=some (g,v):=by
 cases o with
 |none=>cases h4
 |some s=>
  have e1:(F s).1=g.1:=Qp h1;have e2:((F s).2.1,(F s).2.2.1)=(g.2.1,g.2.2.1):=Qp h2;have e3:(F s).2.2.2=g.2.2.2:=Qp h3;have e4:G s=v:=Qp h4;have e5:(F s).2.1=g.2.1:=(Prod.mk.inj e2).1;have e6:(F s).2.2.1=g.2.2.1:=(Prod.mk.inj e2).2;have e:F s=g:=Prod.ext e1 (Prod.ext e5 (Prod.ext e6 e3));show some (F s,G s)=some (g,v);rw[e,e4]
noncomputable abbrev Oz(w:World):=W.openEnds PySem.treeTable PySem.Challenge.rw_rootwebs_k33_trees_and_words.row.prog w 6388
noncomputable abbrev Sz:=W.openSeen Qz [] (PySem.importedModules PySem.Challenge.rw_rootwebs_k33_trees_and_words.row.prog.main.body) Xz true
noncomputable abbrev Tz:=W.openGood Qz []
theorem Gn:∀w,(Oz w).map (fun s=>(Sz s).1)=some Tz.1:=fun w=>by kernel_rfl
theorem Gm:∀w,(Oz w).map (fun s=>((Sz s).2.1,(Sz s).2.2.1))=some (Tz.2.1,Tz.2.2.1):=fun w=>by kernel_rfl
theorem Gk:∀w,(Oz w).map (fun s=>(Sz s).2.2.2)=some Tz.2.2.2:=fun w=>by kernel_rfl
theorem Gj:∀w,(Oz w).map (W.Hook.obs Hz)=some (W.Hook.val Hz w):=fun w=>by kernel_rfl
theorem JG:W.LeftO PySem.Challenge.rw_rootwebs_k33_trees_and_words.row.prog Qz [] Xz (W.Hook.obs Hz) (W.Hook.val Hz) 6388:=fun w=>zD Sz (W.Hook.obs Hz) Tz (W.Hook.val Hz w) (Gn w) (Gm w) (Gk w) (Gj w)
end Lw
namespace L2
open PySem PySem.Spec PyProof.Rows
abbrev tV:=Sum Int Str
def Jj:tV->Value->Bool
 |.inl k,v=>Value.isInt k v
 |.inr x,v=>Value.isStrOf x v
def Pj(w:World):tV->Int
 |.inl k=>hashInt k
 |.inr x=>hashStr w x
theorem dy:∀{k:tV}{v:Value},Jj k v=true->(∃i t,k=Sum.inl i/\v=Value.int i t)\/(∃x t,k=Sum.inr x/\v=Value.str x t)
 |.inl i,v,h=>by
  obtain⟨t,e⟩:=Qq (k:=i) (v:=v) h;exact .inl ⟨i,t,rfl,e⟩
 |.inr x,v,h=>by
  obtain⟨t,e⟩:=Value.isStrOf_shape (x:=x) (v:=v) h;exact .inr ⟨x,t,rfl,e⟩
theorem LL(a b:Int):decide ((Sum.inl a:tV)=Sum.inl b)=(a == b):=by
 by_cases e:a=b
 ·subst e;simp
 ·have h:¬ (Sum.inl a:tV)=Sum.inl b:=fun q=>e (Sum.inl.inj q);rw[Qr h];exact(Qs.mpr e).symm
theorem LI(a b:Str):decide ((Sum.inr a:tV)=Sum.inr b)=decide (a=b):=by
 by_cases e:a=b
 ·subst e;simp
 ·have h:¬ (Sum.inr a:tV)=Sum.inr b:=fun q=>e (Sum.inr.inj q);rw[Qr h,Qr e]
theorem LK(a:Int)(b:Str):decide ((Sum.inl a:tV)=Sum.inr b)=false:=Qr (fun q=>nomatch q)
theorem LJ(a:Str)(b:Int):decide ((Sum.inr a:tV)=Sum.inl b)=false:=Qr (fun q=>nomatch q)
noncomputable def rO(prog:Program)(w:World):PySem.KeyKind prog w tV where
 is:=Jj
 hash:=Pj w
 inj:=fun v a b ha hb=>by
  rcases dy ha with⟨i,t,rfl,rfl⟩|⟨x,t,rfl,rfl⟩
  ·rcases dy hb with ⟨j, u, rfl, e⟩ | ⟨y, u, rfl, e⟩
   ·injection e with e1 _;rw[e1]
   ·exact nomatch e
  ·rcases dy hb with ⟨j, u, rfl, e⟩ | ⟨y, u, rfl, e⟩
   ·exact nomatch e
   ·injection e with e1 _;rw[e1]
 byValue:=fun k v h=>by
  rcases dy h with⟨i,t,rfl,rfl⟩|⟨x,t,rfl,rfl⟩ <;> rfl
 pyHash:=fun hv h=>by
  rcases dy hv with⟨i,t,rfl,rfl⟩|⟨x,t,rfl,rfl⟩
  ·exact wpAny_pyHash_int h
  ·exact wpAny_pyHash_str h
 eqBool:=fun hu hv h=>by
  rcases dy hu with⟨i,t,rfl,rfl⟩|⟨x,t,rfl,rfl⟩
  ·rcases dy hv with ⟨j, u, rfl, rfl⟩ | ⟨y, u, rfl, rfl⟩
   ·rw[LL]at h;exact Qt h
   ·rw[LK]at h;exact SeqAt.EqAt.int_str i t y u _ _ _ _ h
  ·rcases dy hv with ⟨j, u, rfl, rfl⟩ | ⟨y, u, rfl, rfl⟩
   ·rw[LJ]at h;exact SeqAt.EqAt.str_int x t j u _ _ _ _ h
   ·rw[LI]at h;exact wpAny_eqBool_str h
 «strs»:=fun k x t v h=>by
  rcases dy h with⟨i,u,rfl,e⟩|⟨y,u,rfl,e⟩
  ·exact nomatch e
  ·injection e with e1 _
   subst e1;cases v <;> rfl
inductive V where
 |non|bl (b:Bool)|int (i:Int)|str (x:Str)|byt (b:Array UInt8)|flt (b:UInt64)|ref (a:Addr)|ty (n:String)
 deriving DecidableEq
def cB:V->Value->Prop
 |.non,u=>u=Value.none
 |.bl b,u=>u=Value.bool b
 |.int i,u=>∃t,u=Value.int i t
 |.str x,u=>∃t,u=Value.str x t
 |.byt b,u=>∃t,u=Value.bytes b t
 |.flt b,u=>∃t,u=Value.float b t
 |.ref a,u=>u=Value.ref a
 |.ty n,u=>u=Value.type n
abbrev bt:List V->List Value->Prop:=Paired cB
theorem bt.length{xs:List V}(r:bt xs us):xs.length=us.length:=Paired.length r
theorem bt.get:∀{xs:List V}{us:List Value}{i:Nat}{x:V},bt xs us->xs[i]?=some x->∃u,us[i]?=some u/\cB x u
 |_,_,_,_,.nil,e=>by simp at e
 |_,_,0,_,.cons r _,e=>by simp at e;subst e;exact⟨_,rfl,r⟩
 |_,_,i+1,x,.cons _ t,e=>by
  obtain⟨u,h1,h2⟩:=bt.get (i:=i) (x:=x) t (by simpa using e);exact⟨u,by simpa using h1,h2⟩
theorem bt.set{x:V}{u:Value}(r:cB x u):∀{xs:List V}{us:List Value}(i:Nat),bt xs us->bt (xs.set i x) (us.set i u)
 |_,_,_,.nil=>.nil
 |_,_,0,.cons _ t=>.cons r t
 |_,_,i+1,.cons q t=>.cons q (bt.set r i t)
theorem bt.append:∀{xs ys:List V}{us ws:List Value},bt xs us->bt ys ws->bt (xs++ys) (us++ws)
 |_,_,_,_,.nil,s=>s
 |_,_,_,_,.cons r t,s=>.cons r (bt.append t s)
theorem bt.take:∀{xs:List V}{us:List Value}(n:Nat),bt xs us->bt (xs.take n) (us.take n)
 |_,_,0,_=>.nil
 |_,_,_+1,.nil=>.nil
 |_,_,n+1,.cons r t=>.cons r (bt.take n t)
theorem bt.drop:∀{xs:List V}{us:List Value}(n:Nat),bt xs us->bt (xs.drop n) (us.drop n)
 |_,_,0,r=>r
 |_,_,_+1,.nil=>.nil
 |_,_,n+1,.cons _ t=>bt.drop n t
def Nj:Option V->Option Value->Prop
 |some v,some u=>cB v u
 |none,none=>True
 |_,_=>False
def KV{κ:Type}:List (κ×V)->List (κ×Value)->Prop:=Paired fun(p:κ×V) (q:κ×Value)=>p.1=q.1/\cB p.2 q.2
def kV:tV->V
 |.inl i=>.int i
 |.inr x=>.str x
inductive HO where
 |lst (xs:List V)
 |tup (xs:List V)
 |dK (kvs:List (tV×V))|dT (kvs:List (List tV×V))
 |set (S:Int->Bool) (n:Nat)
 |ins (C dx:Addr) (fs:List (Str×V))
 |own (x:Addr)
 |xd (fs:List (Str×V))
 |met (f x:Addr)
 |rng (lo hi:Int)
 |frz (o:Obj) (u:HO)
 |tbl (ps:Array Value)
 |ext (φ:Heap->Prop)
abbrev Hp:=Addr->Option HO
def cV(H:Hp)(a:Addr)(o:HO):Hp:=fun b=>if b=a then some o else H b
theorem cz{H:Hp}{o:HO}:cV H a o a=some o:=by unfold cV;rw[Qu rfl]
theorem bE{H:Hp}{o:HO}(h:b≠a):cV H a o b=H b:=by unfold cV;rw[Qv h]
theorem ux{H:Hp}{o u:HO}(h:H a=some o)(h':H b=some u)(d:o≠u):a≠b:=by
 intro e;subst e;rw[h]at h';exact d (Qp h')
theorem cL{H:Hp}{o:HO}(h:H a=some o)(h':H b=none):a≠b:=by
 intro e;subst e;rw[h]at h';cases h'
section
variable(P:Program)(w:World)
def fS(H:Hp)(h:Heap)(a:Addr):HO->Prop
 |.lst xs=>xs.length<=sizeLine/\∃(its:List Value) (n:Nat),bt xs its/\h.get? a=some {cls:=.type "list",data:=.seq 2e7 n}
 |.tup xs=>xs.length<=sizeLine/\∃its:List Value,bt xs its/\IsTup h a 2e7
 |.dK kvs=>kvs.length<=sizeLine/\(a == sysModules)=false/\∃vs,KV kvs vs/\h.DictOf (rO P w) a vs
 |.dT kvs=>kvs.length<=sizeLine/\(a == sysModules)=false/\∃xs:List (List tV×Addr×Value),
   Paired (fun(p:List tV×V) (q:List tV×Addr×Value)=>p.1=q.1/\H q.2.1=some (.tup (p.1.map kV))/\cB p.2 q.2.2) kvs xs /\
   ∃o es ep,h.get? a=some o/\o.ExactDict/\o.data=.dict es ep/\es.toList=xs.map (entryOfKey (tupleKind (rO P w)))/\(xs.map 5e4).Nodup
 |.set S n=>h.SetOf (intKind P w) a S n
 |.ins C dx fs=>H dx=some (.own a)/\fs.length<=1000/\dx≠a/\h.get? a=some (W.instObj C dx) /\
   ∃mA,h.Ns1 dx mA/\(∀f,Nj (fs.lookup f) (mA f))/\PySem.Within mA (fs.map 5e4)
 |.own _=>∃o,h.get? a=some o
 |.xd fs=>∃mA,h.Ns1 a mA/\∀f,Nj (fs.lookup f) (mA f)
 |.rng lo hi=>∃t u v,h.get? a=some {cls:=.type "range",data:=.fields #[.int lo t,.int hi u,.int 1 v]}
 |.frz o u=>h.get? a=some o/\fS H h a u
 |.tbl ps=>h.get? a=some {cls:=.none,data:=.fields ps}
 |.met f x=>h.get? a=some (W.methodObj 4e4 (.ref x))
 |.ext φ=>φ h/\(∃o,h.get? a=some o)/\∀h1 h2:Heap,φ h1->(∀o,h1.get? a=some o->h2.get? a=some o)->φ h2
def pL(H:Hp)(h:Heap):Prop:=∀a o,H a=some o->fS P w H h a o
end
section
variable{H H':Hp}{h:Heap}{o:HO}
theorem fS.lt(x:fS P w H h a o):a<h.objs.size:=by
 cases o with
 |lst xs=>obtain⟨_,_,_,_,e⟩:=x;exact Qw e
 |tup xs=>obtain⟨_,_,_,p⟩:=x;exact p.lt
 |dK kvs=>obtain⟨_,_,_,_,o,_,_,e,_⟩:=x;exact Qw e
 |dT kvs=>obtain⟨_,_,_,_,o,_,_,e,_⟩:=x;exact Qw e
 |set S n=>obtain⟨o,_,_,_,e,_⟩:=x;exact Qw e
 |ins C dx fs=>obtain⟨_,_,_,e,_⟩:=x;exact Qw e
 |own y=>obtain⟨_,e⟩:=x;exact Qw e
 |xd fs=>obtain⟨_,⟨_,_,_,e,_⟩,_⟩:=x;exact Qw e
 |rng lo hi=>obtain⟨_,_,_,e⟩:=x;exact Qw e
 |frz ob u=>obtain⟨e,_⟩:=x;exact Qw e
 |tbl ps=>exact Qw (show h.get? a=some _ from x)
 |met f y=>exact Qw (show h.get? a=some _ from x)
 |ext φ=>obtain⟨_,⟨_,e⟩,_⟩:=x;exact Qw e
theorem qQ{J β:Type}{F G:J->β->Prop}:∀{l₁:List J}{l₂:List β},Paired F l₁ l₂->(∀a b,F a b->G a b)->Paired G l₁ l₂
 |_,_,.nil,_=>.nil
 |_,_,.cons r t,f=>.cons (f _ _ r) (qQ t f)
theorem fS.stay(x:fS P w H h a o)(k:∀b u,(b=a\/H b=some (.own a))->h.get? b=some u->h'.get? b=some u)
  (ho:∀b,H b=some (.own a)->H' b=some (.own a)) (ht:∀b xs,H b=some (.tup xs)->H' b=some (.tup xs)):fS P w H' h' a o:=by
 induction o with
 |lst xs=>obtain⟨z,its,n,r,e⟩:=x;exact⟨z,its,n,r,k _ _ 11e7 e⟩
 |tup xs=>obtain⟨z,its,r,ob,e,c⟩:=x;exact⟨z,its,r,ob,k _ _ 11e7 e,c⟩
 |dK kvs=>obtain⟨z,y,vs,r,ob,es,ep,e,c⟩:=x;exact⟨z,y,vs,r,ob,es,ep,k _ _ 11e7 e,c⟩
 |dT kvs=>
  obtain⟨z,y,xs,r,ob,es,ep,e,c⟩:=x;exact⟨z,y,xs,qQ r fun p q z=>⟨z.1,ht _ _ z.2.1,z.2.2⟩,ob,es,ep,k _ _ 11e7 e,c⟩
 |set S n=>obtain⟨ob,es,ep,t,e,c⟩:=x;exact⟨ob,es,ep,t,k _ _ 11e7 e,c⟩
 |ins C dx fs=>
  obtain⟨d,z,ne,e,mA,⟨od,es,ep,e2,c⟩,r⟩:=x;exact⟨ho _ d,z,ne,k _ _ 11e7 e,mA,⟨od,es,ep,k _ _ (.inr d) e2,c⟩,r⟩
 |own y=>obtain⟨ob,e⟩:=x;exact⟨ob,k _ _ 11e7 e⟩
 |xd fs=>obtain⟨mA,⟨od,es,ep,e,c⟩,r⟩:=x;exact⟨mA,⟨od,es,ep,k _ _ 11e7 e,c⟩,r⟩
 |rng lo hi=>obtain⟨t,u,v,e⟩:=x;exact⟨t,u,v,k _ _ 11e7 e⟩
 |frz ob u ih=>obtain⟨e,q⟩:=x;exact⟨k _ _ 11e7 e,ih q⟩
 |tbl ps=>
  have e:h.get? a=some {cls:=.none,data:=.fields ps}:=x;show h'.get? a=some {cls:=.none,data:=.fields ps};exact k a _ 11e7 e
 |met f y=>
  have e:h.get? a=some (W.methodObj 4e4 (.ref y)):=x;show h'.get? a=some (W.methodObj 4e4 (.ref y));exact k a _ 11e7 e
 |ext φ=>obtain⟨p,⟨o,e⟩,st⟩:=x;exact⟨st _ _ p fun o q=>k _ _ 11e7 q,⟨o,k _ _ 11e7 e⟩,st⟩
theorem pL.lt(x:pL P w H h)(e:H a=some o):a<h.objs.size:=(x a o e).lt
theorem pL.fresh(x:pL P w H h)(e:h.objs.size<=a):H a=none:=by
 cases q:H a with
 |none=>rfl
 |some u=>exact absurd (Qx (x.lt q) e) (Qy _)
theorem pL.kept(x:pL P w H h)(k:∀b u,h.get? b=some u->h'.get? b=some u):pL P w H h':=fun a o e=>
 (x a o e).stay (fun b u _ q=>k b u q) (fun _ q=>q) fun _ _ q=>q
theorem pL.laid(x:pL P w H h)(k:∀b u,h.get? b=some u->h'.get? b=some u)(hp:h.objs.size<=a)(new:fS P w (cV H a o) h' a o):pL P w (cV H a o) h':=fun b u e=>by
 have hn:=x.fresh hp;by_cases hb:b=a
 ·subst hb;rw[cz]at e;cases e;exact new
 ·rw[bE hb]at e;exact(x b u e).stay (fun c v _ q=>k c v q) (fun c q=>by rw[bE (cL q hn)];exact q) fun c xs q=>by rw[bE (cL q hn)];exact q
end
def Rd(H:Hp)(a:Addr)(u:HO):Prop:=H a=some u\/∃o,H a=some (.frz o u)
theorem Rd.ok{H:Hp}{h:Heap}{u:HO}(r:Rd H a u)(x:pL P w H h):fS P w H h a u:=by
 rcases r with r|⟨o,r⟩
 ·exact x a u r
 ·obtain⟨_,q⟩:=x a _ r;exact q
def OL:Option HO->Prop
 |some (.lst _)=>True
 |some (.dK _)=>True
 |some (.dT _)=>True
 |some (.set _ _)=>True
 |some (.ins _ _ _)=>True
 |some (.ext _)=>True
 |_=>False
section
variable{H:Hp}{h:Heap}{x e:Addr}{o':HO}
theorem pL.write(ok:pL P w H h)(mu:OL (H x))(he:e=x\/H e=some (.own x))(k:∀b u,b≠e->h.get? b=some u->h'.get? b=some u)(heo:∃u,h'.get? e=some u)
  (new:fS P w (cV H x o') h' x o'):pL P w (cV H x o') h':=fun b u q=>by
 have nown:∀c y,H c=some (.own y)->c≠x:=fun c y r z=>by subst z;rw[r]at mu;exact mu
 have ntup:∀c xs,H c=some (.tup xs)->c≠x:=fun c xs r z=>by subst z;rw[r]at mu;exact mu
 by_cases hb:b=x
 ·subst hb;rw[cz]at q;cases q;exact new
 ·rw [bE hb] at q;by_cases hbe:b=e
  ·have q':H b=some (.own x):=by
    rcases he with z|z
    ·exact absurd (hbe.trans z) hb
    ·rw[hbe];exact z
   rw[q]at q';cases q';obtain⟨v,hv⟩:=heo;exact⟨v,by rw[hbe];exact hv⟩
  ·refine (ok b u q).stay (fun c v hc r => k c v ?_ r) (fun c r => by rw [bE (nown c b r)]; exact r) fun c xs r => by rw [bE (ntup c xs r)]; exact r
   rcases hc with rfl|hc
   ·exact hbe
   ·rintro rfl
    rcases he with z|z
    ·exact nown c b hc z
    ·rw[hc]at z;cases z;exact hb rfl
end
structure Un(fs ex:List Addr)(H H':Hp)(h h':Heap):Prop where
 keep:∀b o,h.get? b=some o->H b=none->b∉fs->b∉ex->h'.get? b=some o
 slot:∀b o,h.get? b=some o->H b=none->b∈fs->b∉ex->∃sl,h'.get? b=some {o with slots:=sl}
 free:∀b o,h.get? b=some o->H b=none->b∉ex->H' b=none
 there:∀b o,h.get? b=some o->b∉ex->∃o',h'.get? b=some o'
 tups:∀b xs,H b=some (.tup xs)->H' b=some (.tup xs)
 frzs:∀b o u,H b=some (.frz o u)->H' b=some (.frz o u)
 tbls:∀b ps,H b=some (.tbl ps)->∃more,H' b=some (.tbl (ps++more))
section
variable{fs fs' ex ex':List Addr}{H H1 H2:Hp}{h h1 h2:Heap}{x e:Addr}{o:HO}
theorem Un.any(u:Un fs ex H H1 h h1){ob:Obj}(q:h.get? b=some ob)(n:H b=none)(hx:b∉ex):∃sl,h1.get? b=some {ob with slots:=sl}:=by
 by_cases hb:b∈fs
 ·exact u.slot b ob q n hb hx
 ·exact⟨ob.slots,u.keep b ob q n hb hx⟩
theorem Un.kept(k:∀b u,h.get? b=some u->h'.get? b=some u):Un fs ex H H h h':=
 ⟨fun b ob q _ _ _=>k b ob q,fun b ob q _ _ _=>⟨ob.slots,k b ob q⟩,fun _ _ _ n _=>n,fun b ob q _=>⟨ob,k b ob q⟩,fun _ _ q=>q,fun _ _ _ q=>q,fun _ ps q=>⟨#[],by rw[q];simp⟩⟩
theorem Un.refl:Un fs ex H H h h:=Un.kept fun _ _ q=>q
theorem Un.laid(k:∀b u,h.get? b=some u->h'.get? b=some u)(hp:h.objs.size<=a)(hn:H a=none):Un fs ex H (cV H a o) h h' where
 keep:=fun b u q _ _ _=>k b u q
 slot:=fun b u q _ _ _=>⟨u.slots,k b u q⟩
 free:=fun b u q n _=>by rw[bE (QA (Qx (Qw q) hp))];exact n
 there:=fun b u q _=>⟨u,k b u q⟩
 tups:=fun b xs q=>by rw[bE (cL q hn)];exact q
 frzs:=fun b u xs q=>by rw[bE (cL q hn)];exact q
 tbls:=fun b ps q=>⟨#[],by rw[bE (cL q hn),q];simp⟩
theorem Un.write(mu:OL (H x))(he:e=x\/H e=some (.own x))(k:∀b u,b≠e->h.get? b=some u->h'.get? b=some u)(heo:∃u,h'.get? e=some u):Un fs ex H (cV H x o) h h':=by
 have hx:∀b,H b=none->b≠x:=fun b n z=>by subst z;rw[n]at mu;exact mu
 have hb:∀b,H b=none->b≠e:=fun b n z=>by
  subst z;rcases he with r|r
  ·exact hx b n r
  ·rw[n]at r;cases r
 have hm:∀b u,H b=some u->¬ OL (some u)->b≠x:=fun b u q nm z=>by subst z;rw[q]at mu;exact nm mu
 refine⟨fun b u q n _ _=>k b u (hb b n) q,fun b u q n _ _=>⟨u.slots,k b u (hb b n) q⟩,fun b u q n _=>by rw[bE (hx b n)];exact n,fun b u q _=>?_,
  fun b xs q=>by rw[bE (hm b _ q fun z=>z)];exact q,fun b u xs q=>by rw[bE (hm b _ q fun z=>z)];exact q,fun b ps q=>⟨#[],by rw[bE (hm b _ q fun z=>z),q];simp⟩⟩
 by_cases hbe:b=e
 ·subst hbe;exact heo
 ·exact⟨u,k b u hbe q⟩
end
def OB(h:Heap)(H:Hp):List Addr:=(List.range h.objs.size).filter fun a=>(H a).isSome
def vh(h:Heap)(H:Hp):Heap:=W.hideAll h (OB h H)
theorem Cn(h:Heap)(H:Hp):(vh h H).objs.size=h.objs.size:=W.hideAll_size _ _
theorem Ft{h:Heap}{H:Hp}{o:Obj}(e:h.get? b=some o)(n:H b=none):(vh h H).get? b=some o:=
 W.hideAll_get _ e fun hm=>by
  have q:(H b).isSome=true:=(QB.mp hm).2;rw[n]at q;simp at q
theorem HH{h:Heap}{H:Hp}{o:Obj}(e:(vh h H).get? b=some o):h.get? b=some o/\H b=none:=by
 have e':h.get? b=some o:=W.of_hideAll (OB h H) e;refine⟨e',?_⟩;cases q:H b with
 |none=>rfl
 |some x=>
  have hm:b∈OB h H:=QB.mpr ⟨QC.mpr (Qw e'),by simp[q]⟩;have z:(vh h H).get? b=none:=W.hideAll_none (OB h H) hm;rw[z]at e;cases e
end L2
variable{H:L2.Hp}{vs:List L2.V}{v:L2.V}{H0:L2.Hp}
namespace L2
open PySem PySem.Spec PyProof.Rows
structure Mod(K:W.Frag)(mg:Str->Option Value)(base:Heap):Prop where
 kin:K.In base
 glob:base.Ns mainGlobals mg
 blt:∃mb,base.Ns builtinsNs mb/\∀x:Str,x ≠ "__name__" -> mb x=bootBuiltins x
 nolimit:base.NoLimit
structure Cx where
 prog:Program
 w:World
 K:W.Frag
 mg:Str->Option Value
 base:Heap
 A:Around
 N:List Str
 s₀:Shared
 H₀:Hp
 env:Env
 outer:List Env
 stack:List Env
 ex:List Addr
 fn:Str->Bool
 calm:Bool
 pn:List 3e5
 xe:Value->Shared->Prop
def qD(l:List Env):List Addr:=l.filterMap (·.frame)
abbrev Cx.fs(X:Cx):List Addr:=qD X.outer
def OI(sc:Scope)(x:Str):Prop:=sc.names.lookup x=some .local\/sc.names.lookup x=some .cell\/sc.names.lookup x=some .free
def Bi(sc:Scope)(x:Str):Prop:=sc.names.lookup x=some .local\/sc.names.lookup x=some .cell
def PL(env:Env)(h:Heap)(m:Str->Option Value)(x:Str)(u:Value):Prop:=
 (env.kindOf x=some .local/\m x=some u)\/((env.kindOf x=some .cell\/env.kindOf x=some .free)/\∃c,env.cells.lookup x=some c/\h.IsCell c (some u))
structure Cx.Ok(X:Cx):Prop where
 mod:Mod X.K X.mg X.base
 kind:X.env.scope.kind=.function
 glob:X.env.globals=mainGlobals
 blt:X.env.builtins=builtinsNs
 above:X.s₀.heap.objs.size<=X.env.locals
 inj:∀x y c,X.env.cells.lookup x=some c->X.env.cells.lookup y=some c->x=y
 has:∀x,(X.env.kindOf x=some .cell\/X.env.kindOf x=some .free)->∃c,X.env.cells.lookup x=some c
 cab:∀x c,X.fn x=true->X.env.cells.lookup x=some c->X.s₀.heap.objs.size<=c
 hd:X.calm=true->X.A.handled=none
 frames:X.A.frames=some X.stack
 stk:X.stack=X.outer\/(X.stack=X.env::X.outer/\X.env.frame=some X.env.locals)
 exf:∀b∈X.ex,b≠X.env.locals/\∀x c,X.env.cells.lookup x=some c->c≠b
 bs:∀b o,X.base.get? b=some o->X.s₀.heap.get? b=some o/\X.H₀ b=none
 bsz:X.base.objs.size<=X.s₀.heap.objs.size
 noex:∀b o,X.base.get? b=some o->b∉X.ex
 exfs:∀b∈X.ex,b∉X.fs
 funs:X.s₀.heap.FunFrames X.base X.outer
 frf:∀b∈X.fs,X.H₀ b=none
structure bb(X:Cx)(pins:List 3e5)(B:List (Option V))(H:Hp)(s:Shared):Prop where
 ok:X.Ok
 os:s.os=X.s₀.os
 bare:AllBare s.gens
 base:Un X.fs X.ex X.H₀ H X.s₀.heap 3e2
 loc:∃m,s.heap.Ns X.env.locals m/\∀(i:Nat)(x:Str)(v:V),X.N[i]?=some x->B[i]?=some (some v)->OI X.env.scope x->∃u,cB v u/\PL 2e1 3e2 m x u
 cell:∀x c,X.env.cells.lookup x=some c->∃v,s.heap.IsCell c v
 free:H X.env.locals=none
 freeC:∀x c,X.env.cells.lookup x=some c->H c=none
 pin:∀p∈X.pn++pins,s.heap.get? p.1=some p.2/\H p.1=none/\p.1≠X.env.locals/\p.1∉X.fs/\∀v,p.2.data≠.cell v
 hok:pL X.prog X.w H 3e2
 len:B.length=X.N.length
section
variable{X:Cx}{B:List (Option V)}{H':Hp}
theorem Cx.Ok.nofr(ok:X.Ok){o:Obj}(e:X.base.get? b=some o):b∉X.fs:=fun hb=>by
 have:=(ok.funs.mem hb).1;rw[e]at this;cases this
theorem bb.bs(I:bb X pins B H s):∀b o,X.base.get? b=some o->s.heap.get? b=some o/\H b=none:=fun b o e=>
 ⟨I.base.keep b o (I.ok.bs b o e).1 (I.ok.bs b o e).2 (I.ok.nofr e) (I.ok.noex b o e),I.base.free b o (I.ok.bs b o e).1 (I.ok.bs b o e).2 (I.ok.noex b o e)⟩
theorem bb.bk(I:bb X pins B H s):∀b o,X.base.get? b=some o->s.heap.get? b=some o:=fun b o e=>(I.bs b o e).1
theorem bb.mod(I:bb X pins B H s):Mod X.K X.mg X.base:=I.ok.mod
theorem bb.kIn(I:bb X pins B H s):X.K.In 3e2:=I.ok.mod.kin.keeps I.bk
theorem bb.lt(I:bb X pins B H s):X.env.locals<s.heap.objs.size:=let ⟨_,hn,_⟩:=I.loc;hn.lt
theorem bb.sz(I:bb X pins B H s):X.s₀.heap.objs.size<=s.heap.objs.size:=QD I.ok.above (QE I.lt)
theorem bb.nofs(I:bb X pins B H s)(h:s.heap.objs.size<=a):a∉X.fs:=fun hb=>by
 obtain⟨_,o,ho,_⟩:=I.ok.funs.mem hb;exact absurd (Qx (Qw ho) (QD I.sz h)) (Qy _)
theorem bb.cne(I:bb X pins B H s):∀x c,X.env.cells.lookup x=some c->c≠X.env.locals:=fun x c e z=>by
 obtain⟨v,o,ho,hd⟩:=I.cell x c e;obtain⟨m,⟨o',es,ep,ho',hd',_⟩,_⟩:=I.loc;rw[z,ho']at ho;cases ho;rw[hd']at hd;cases hd
theorem bb.funs(I:bb X pins B H s):s.heap.FunFrames X.base X.outer:=by
 have all:∀(l:List Env),(∀b∈qD l,b∈X.fs)->X.s₀.heap.FunFrames X.base l->s.heap.FunFrames X.base l:=by
  intro l
  induction l with
  |nil=>intro _ _;trivial
  |cons env r ih=>
   intro hs hl;obtain⟨hk,⟨L,o,hf,hn,ho,hd⟩,hr⟩:=hl;have hL:L∈X.fs:=hs L (by unfold qD;rw[QF,hf];exact QG);obtain⟨sl,e⟩:=I.base.slot L o ho (I.ok.frf L hL) hL fun z=>I.ok.exfs L z hL;exact⟨hk,⟨L,_,hf,hn,e,hd⟩,ih (fun b hb=>hs b (by unfold qD;rw[QF,hf];exact QH _ hb)) hr⟩
 exact all X.outer (fun _ hb=>hb) I.ok.funs
theorem bb.stack(I:bb X pins B H s):s.heap.FunFrames X.base X.stack:=by
 rcases I.ok.stk with e|⟨e,hf⟩
 ·rw[e];exact I.funs
 ·rw[e];obtain⟨m,hn,_⟩:=I.loc;refine .cons (by rw[I.ok.kind];decide) hf hn ?_ I.funs;exact Heap.get?_none_of_le (QD I.ok.bsz I.ok.above)
theorem bb.stkSub(I:bb X pins B H s):∀b∈qD X.stack,b∈X.env.locals::X.fs:=fun b hb=>by
 rcases I.ok.stk with e|⟨e,hf⟩
 ·rw[e]at hb;exact QH _ hb
 ·rw[e]at hb;unfold qD at hb;rw[QF,hf]at hb;exact hb
theorem bb.stkFree(I:bb X pins B H s):∀b∈qD X.stack,H b=none:=fun b hb=>by
 rcases QI.mp (I.stkSub b hb) with e|hb
 ·rw[e];exact I.free
 ·obtain⟨_,o,ho,_⟩:=I.ok.funs.mem hb;exact I.base.free b o ho (I.ok.frf b hb) fun z=>I.ok.exfs b z hb
theorem bb.step{d':Drawn}(I:bb X pins B H s)(hch:∀b∈ch,(b∈X.ex\/X.s₀.heap.objs.size<=b)/\b≠X.env.locals/\(∀x c,X.env.cells.lookup x=some c->c≠b)/\∀p∈X.pn++pins,p.1≠b)(keep:∀b o,b≠X.env.locals->b∉X.fs->b∉ch->s.heap.get? b=some o->H b=none->h'.get? b=some o)(slot:∀b o,b≠X.env.locals->b∈X.fs->b∉ch->s.heap.get? b=some o->H b=none->∃sl,h'.get? b=some {o with slots:=sl})(free:∀b o,b∉ch->s.heap.get? b=some o->H b=none->H' b=none)(there:∀b o,b∉ch->s.heap.get? b=some o->∃o',h'.get? b=some o')(tups:∀b xs,H b=some (.tup xs)->H' b=some (.tup xs))(frzs:∀b o u,H b=some (.frz o u)->H' b=some (.frz o u))(tbls:∀b ps,H b=some (.tbl ps)->∃more,H' b=some (.tbl (ps++more)))(ns:∀m,s.heap.Ns X.env.locals m->h'.Ns X.env.locals m)(hok:pL X.prog X.w H' h')(hg:AllBare g'):
  bb X pins B H' {s with heap:=h',gens:=g',drawn:=d',toks:=t'}:=by
 have neL:∀b o,X.s₀.heap.get? b=some o->b≠X.env.locals:=fun b o e=>QA (Qx (Qw e) I.ok.above)
 have neC:∀b o,X.s₀.heap.get? b=some o->b∉X.ex->b∉ch:=fun b o e hx hb=>by
  rcases (hch b hb).1 with z|z
  ·exact hx z
  ·exact absurd (Qx (Qw e) z) (Qy _)
 have cellK:∀x c,X.env.cells.lookup x=some c->∀v,s.heap.IsCell c v->h'.IsCell c v:=fun x c e v ⟨o,ho,hd⟩=>by
  have nch:c∉ch:=fun z=>(hch c z).2.2.1 x c e rfl;by_cases hc:c∈X.fs
  ·obtain⟨sl,q⟩:=slot c o (I.cne x c e) hc nch ho (I.freeC x c e);exact⟨_,q,hd⟩
  ·exact⟨o,keep c o (I.cne x c e) hc nch ho (I.freeC x c e),hd⟩
 refine⟨I.ok,I.os,hg,⟨fun b o e n hb hx=>?_,fun b o e n hb hx=>?_,fun b o e n hx=>?_,fun b o e hx=>?_,fun b xs e=>tups b xs (I.base.tups b xs e),fun b o xs e=>frzs b o xs (I.base.frzs b o xs e),fun b ps e=>?_⟩,?_,fun x c e=>?_,?_,fun x c e=>?_,fun p hp=>?_,hok,I.len⟩
 ·exact keep b o (neL b o e) hb (neC b o e hx) (I.base.keep b o e n hb hx) (I.base.free b o e n hx)
 ·obtain⟨sl,e1⟩:=I.base.slot b o e n hb hx;obtain⟨sl',e2⟩:=slot b _ (neL b o e) hb (neC b o e hx) e1 (I.base.free b o e n hx);exact⟨sl',e2⟩
 ·obtain⟨o',e1⟩:=I.base.there b o e hx;exact free b o' (neC b o e hx) e1 (I.base.free b o e n hx)
 ·obtain⟨o',e1⟩:=I.base.there b o e hx;exact there b o' (neC b o e hx) e1
 ·obtain⟨m1,e1⟩:=I.base.tbls b ps e;obtain⟨m2,e2⟩:=tbls b _ e1;exact⟨m1++m2,by rw[e2,Array.append_assoc]⟩
 ·obtain ⟨m, hn, hl⟩ := I.loc;refine⟨m,ns m hn,fun i x v e1 e2 e3=>?_⟩;obtain⟨u,r,l⟩:=hl i x v e1 e2 e3;refine⟨u,r,?_⟩;rcases l with l|⟨k,c,e,z⟩
  ·exact .inl l
  ·exact .inr ⟨k,c,e,cellK x c e _ z⟩
 ·obtain⟨v,z⟩:=I.cell x c e;exact⟨v,cellK x c e v z⟩
 ·obtain⟨m,⟨o,_,_,ho,_⟩,_⟩:=I.loc;exact free _ o (fun z=>(hch _ z).2.1 rfl) ho I.free
 ·obtain⟨v,o,ho,hd⟩:=I.cell x c e;exact free c o (fun z=>(hch c z).2.2.1 x c e rfl) ho (I.freeC x c e)
 ·obtain⟨e,n,ne,nf,d⟩:=I.pin p hp;have nch:p.1∉ch:=fun z=>(hch p.1 z).2.2.2 p hp rfl;exact⟨keep p.1 p.2 ne nf nch e n,free p.1 p.2 nch e n,ne,nf,d⟩
theorem bb.un(I:bb X pins B H s)(u:Un X.fs [] H H' 3e2 h')(hok:pL X.prog X.w H' h'):bb X pins B H' {s with heap:=h',toks:=t'}:=by
 obtain⟨m,⟨o,es,ep,ho,r⟩,_⟩:=id I.loc;obtain⟨sl,hL⟩:=u.any ho I.free 0e6
 exact I.step (g':=s.gens) (d':=s.drawn) (ch:=[]) (fun _ z=>nomatch z) (fun b o _ hb _ e n=>u.keep b o e n hb 0e6) (fun b o _ hb _ e n=>u.slot b o e n hb 0e6) (fun b o _ e n=>u.free b o e n 0e6) (fun b o _ e=>u.there b o e 0e6) u.tups u.frzs u.tbls (fun m' hm=>by
  obtain⟨o',es',ep',ho',r'⟩:=hm;rw[ho]at ho';cases ho'
  exact⟨_,es',ep',hL,r'⟩) hok I.bare
theorem bb.call{d':Drawn}(I:bb X pins B H s)(u:Un (qD X.stack) ch H H' 3e2 h')(hok:pL X.prog X.w H' h')(hg:AllBare g')(hch:∀b∈ch,(b∈X.ex\/X.s₀.heap.objs.size<=b)/\b≠X.env.locals/\(∀x c,X.env.cells.lookup x=some c->c≠b)/\∀p∈X.pn++pins,p.1≠b):
  bb X pins B H' {s with heap:=h',gens:=g',drawn:=d',toks:=t'}:=by
 obtain⟨m,⟨o,es,ep,ho,r⟩,_⟩:=id I.loc;obtain⟨sl,hL⟩:=u.any ho I.free fun z=>(hch _ z).2.1 rfl
 exact I.step (ch:=ch) hch (fun b o hL hb hc e n=>u.keep b o e n (fun z=>(QI.mp (I.stkSub b z)).elim hL hb) hc) (fun b o _ _ hc e n=>u.any e n hc) (fun b o hc e n=>u.free b o e n hc) (fun b o hc e=>u.there b o e hc) u.tups u.frzs u.tbls (fun m' hm=>by
  obtain⟨o',es',ep',ho',r'⟩:=hm;rw[ho]at ho';cases ho'
  exact⟨_,es',ep',hL,r'⟩) hok hg
theorem bb.turned(I:bb X pins B H s)(k:∀b o,b≠it->s.heap.get? b=some o->h'.get? b=some o)(hn:H it=none)(hL:it≠X.env.locals)(h1:it∈X.ex\/X.s₀.heap.objs.size<=it)(h2:∀x c,X.env.cells.lookup x=some c->c≠it)(h3:∀p∈X.pn++pins,p.1≠it):bb X pins B H {s with heap:=h',toks:=t'}:=by
 have nit:∀b u,H b=some u->b≠it:=fun b u e z=>by rw[z,hn]at e;cases e
 refine I.step (g':=s.gens) (d':=s.drawn) (ch:=[it]) (fun b hb=>?_) (fun b o _ _ hc e _=>k b o (fun z=>hc (by simp[z])) e) (fun b o _ _ hc e _=>⟨o.slots,k b o (fun z=>hc (by simp[z])) e⟩) (fun _ _ _ _ n=>n)
  (fun b o hc e=>⟨o,k b o (fun z=>hc (by simp[z])) e⟩) (fun _ _ e=>e) (fun _ _ _ e=>e) (fun b ps e=>⟨#[],by rw[e];simp⟩) (fun m hm=>?_) (fun b u e=>?_) I.bare
 ·have e : b = it := by simpa using hb
  subst e;exact⟨h1,hL,h2,h3⟩
 ·obtain⟨o,es,ep,ho,r⟩:=hm;exact⟨o,es,ep,k _ o (QJ hL) ho,r⟩
 ·refine (I.hok b u e).stay (fun c v hc q => k c v ?_ q) (fun _ q => q) fun _ _ q => q;rcases hc with z|z
  ·rw[z];exact nit b u e
  ·exact nit c _ z
theorem bb.tok(I:bb X pins B H s)(t:Nat):bb X pins B H {s with toks:=t}:=I.un (h':=3e2) (t':=t) Un.refl I.hok
theorem bb.kept(I:bb X pins B H s)(k:∀b u,s.heap.get? b=some u->h'.get? b=some u):bb X pins B H {s with heap:=h',toks:=t'}:=I.un (Un.kept k) (I.hok.kept k)
theorem bb.laid{o:HO}(I:bb X pins B H s)(k:∀b u,s.heap.get? b=some u->h'.get? b=some u)(hp:s.heap.objs.size<=a)(new:fS X.prog X.w (cV H a o) h' a o):
  bb X pins B (cV H a o) {s with heap:=h',toks:=t'}:=I.un (Un.laid k hp (I.hok.fresh hp)) (I.hok.laid k hp new)
theorem bb.write{x e:Addr}{o:HO}(I:bb X pins B H s)(mu:OL (H x))(he:e=x\/H e=some (.own x))(k:∀b u,b≠e->s.heap.get? b=some u->h'.get? b=some u)(heo:∃u,h'.get? e=some u)(new:fS X.prog X.w (cV H x o) h' x o):bb X pins B (cV H x o) {s with heap:=h',toks:=t'}:=I.un (Un.write mu he k heo) (I.hok.write mu he k heo new)
theorem bb.pins_of{pins':List 3e5}(I:bb X pins B H s)(h:∀p∈pins',s.heap.get? p.1=some p.2/\H p.1=none/\p.1≠X.env.locals/\p.1∉X.fs/\∀v,p.2.data≠.cell v):bb X pins' B H s:=
 ⟨I.ok,I.os,I.bare,I.base,I.loc,I.cell,I.free,I.freeC,fun p hp=>(QK.mp hp).elim (fun z=>I.pin p (QL _ z)) (h p),I.hok,I.len⟩
theorem xZ(hN:N.Nodup)(a:N[i]?=some x)(b:N[j]?=some x):i=j:=by
 obtain⟨h1,e1⟩:=QM.mp a;obtain⟨h2,e2⟩:=QM.mp b;exact(QN hN).mp (e1.trans e2.symm)
theorem uD{M:Model}{Q:Unit->Shared->Prop}(I:bb X pins B H s)(hN:X.N.Nodup)(hi:X.N[i]?=some x)(hx:Bi X.env.scope x)(r:cB v u)(h:∀s',bb X pins (B.set i (some v)) H s'->(∃a,Heap.SameBut a 3e2 s'.heap/\(a=X.env.locals\/X.env.cells.lookup x=some a))->Q () s')(hf:X.fn x=true\/X.env.scope.names.lookup x=some .local:=by first|exact .inl rfl|exact .inr rfl|assumption):wpAny M A (storeName 2e1 x u) Q E s:=by
 obtain⟨m,hn,hl⟩:=id I.loc;have hcls:(X.env.scope.kind == .class || (X.env.scope.kind == .module&&X.env.locals != X.env.globals))=false:=by rw[I.ok.kind];rfl
 have hiσ:i<B.length:=by rw[I.len];exact(QM.mp hi).1
 have cne:=I.cne
 have tracked:∀{a:Addr}{h':Heap},(∃o,s.heap.get? a=some o/\H a=none)->Heap.SameBut a 3e2 h'->pL X.prog X.w H h':=fun {a h'} ha hs b ob e=>by
  obtain⟨_,_,hfree⟩:=ha;refine(I.hok b ob e).stay (fun c w' hc q=>(hs.2 c ?_).trans q) (fun _ q=>q) fun _ _ q=>q
  rintro rfl
  rcases hc with rfl|hc
  ·rw[hfree]at e;cases e
  ·rw[hfree]at hc;cases hc
 rcases hx with hk|hk
 ·refine wpAny_storeName_local hk hn (fun h' hn' hs => ?_) hcls;obtain⟨oL,_,_,hoL,_⟩:=id hn;refine h _ ⟨I.ok,I.os,I.bare,⟨fun b o e n hb hx=>?_,fun b o e n hb hx=>?_,I.base.free,fun b o e hx=>?_,I.base.tups,I.base.frzs,I.base.tbls⟩,⟨_,hn',fun j y v' e1 e2 e3=>?_⟩,fun y c e=>?_,I.free,I.freeC,fun p hp=>?_,tracked ⟨oL,hoL,I.free⟩ hs,by simpa using I.len⟩ ⟨_,hs,.inl rfl⟩
  ·exact(hs.2 b (QA (Qx (Qw e) I.ok.above))).trans (I.base.keep b o e n hb hx)
  ·obtain⟨sl,e1⟩:=I.base.slot b o e n hb hx;exact⟨sl,(hs.2 b (QA (Qx (Qw e) I.ok.above))).trans e1⟩
  ·obtain⟨o',e1⟩:=I.base.there b o e hx;exact⟨o',(hs.2 b (QA (Qx (Qw e) I.ok.above))).trans e1⟩
  ·by_cases hj : j = i
   ·subst hj;rw[hi]at e1;cases e1;rw[QO hiσ]at e2;cases e2;exact⟨u,r,.inl ⟨hk,by simp⟩⟩
   ·rw [QP (QJ hj)] at e2;obtain⟨u',r',q⟩:=hl j y v' e1 e2 e3;refine⟨u',r',?_⟩;rcases q with⟨k,e⟩|⟨k,c,e,z⟩
    ·refine .inl ⟨k,?_⟩;have:y≠x:=fun e=>hj (xZ hN e1 (e ▸ hi));simp[this,e]
    ·exact .inr ⟨k,c,e,z.sameBut hs (cne y c e)⟩
  ·obtain⟨w',z⟩:=I.cell y c e;exact⟨w',z.sameBut hs (cne y c e)⟩
  ·obtain⟨e,n,ne,nf,d⟩:=I.pin p hp;exact⟨(hs.2 p.1 ne).trans e,n,ne,nf,d⟩
 ·have hfn:X.fn x=true:=by
   rcases hf with z|z
   ·exact z
   ·rw[z]at hk;cases hk
  obtain⟨c,hc⟩:=I.ok.has x (.inl hk);obtain⟨w',z⟩:=I.cell x c hc;refine wpAny_storeName_cell I.ok.kind hk hc z (fun h' hc' hs=>?_);obtain⟨oc,hoc,hocd⟩:=id z;refine h {s with heap:=h'} ⟨I.ok,I.os,I.bare,⟨fun b o e n hb hx=>?_,fun b o e n hb hx=>?_,I.base.free,fun b o e hx=>?_,I.base.tups,I.base.frzs,I.base.tbls⟩,⟨m,hn.sameBut hs (QJ (cne x c hc)),fun j y v' e1 e2 e3=>?_⟩,fun y c' e=>?_,I.free,I.freeC,fun p hp=>?_,tracked ⟨oc,hoc,I.freeC x c hc⟩ hs,by simpa using I.len⟩ ⟨c,hs,.inr hc⟩
  ·exact(hs.2 b (QA (Qx (Qw e) (I.ok.cab x c hfn hc)))).trans (I.base.keep b o e n hb hx)
  ·obtain⟨sl,e1⟩:=I.base.slot b o e n hb hx;exact⟨sl,(hs.2 b (QA (Qx (Qw e) (I.ok.cab x c hfn hc)))).trans e1⟩
  ·obtain⟨o',e1⟩:=I.base.there b o e hx;exact⟨o',(hs.2 b (QA (Qx (Qw e) (I.ok.cab x c hfn hc)))).trans e1⟩
  ·by_cases hj : j = i
   ·subst hj;rw[hi]at e1;cases e1;rw[QO hiσ]at e2;cases e2;exact⟨u,r,.inr ⟨.inl hk,c,hc,hc'⟩⟩
   ·rw [QP (QJ hj)] at e2;obtain⟨u',r',q⟩:=hl j y v' e1 e2 e3;refine⟨u',r',?_⟩;rcases q with q|⟨k,c',e,z'⟩
    ·exact .inl q
    ·refine .inr ⟨k, c', e, z'.sameBut hs ?_⟩
     rintro rfl
     exact hj (xZ hN e1 (I.ok.inj _ _ _ e hc ▸ hi))
  ·by_cases hcc : c' = c
   ·subst hcc;exact⟨_,hc'⟩
   ·obtain⟨w2,z2⟩:=I.cell y c' e;exact⟨w2,z2.sameBut hs hcc⟩
  ·obtain⟨e,n,ne,nf,d⟩:=I.pin p hp;refine⟨(hs.2 p.1 ?_).trans e,n,ne,nf,d⟩;intro q;rw[q,hoc]at e;have q':oc=p.2:=Qp e;exact d w' (by rw[<- q'];exact hocd)
theorem oO{M:Model}{Q:Unit->Shared->Prop}(I:bb X pins B H s)(hN:X.N.Nodup)(hi:X.N[i]?=some x)(hx:Bi X.env.scope x)(r:cB v u)(h:∀s',bb X pins (B.set i (some v)) H s'->Q () s')(hf:X.fn x=true\/X.env.scope.names.lookup x=some .local:=by first|exact .inl rfl|exact .inr rfl|assumption):wpAny M A (storeName 2e1 x u) Q E s:=
 uD I hN hi hx r (fun s' I' _=>h s' I') hf
theorem bb.call'(I:bb X pins B H s)(ho:s'.os=s.os)(u:Un (qD X.stack) ch H H' 3e2 s'.heap)(hok:pL X.prog X.w H' s'.heap)(hg:AllBare s'.gens)(hch:∀b∈ch,(b∈X.ex\/X.s₀.heap.objs.size<=b)/\b≠X.env.locals/\(∀x c,X.env.cells.lookup x=some c->c≠b)/\∀p∈X.pn++pins,p.1≠b):bb X pins B H' s':=by
 obtain⟨h',g',d',t',o'⟩:=s';have e:o'=s.os:=ho;subst e;exact I.call (g':=g') (t':=t') (d':=d') u hok hg hch
end
abbrev XK:=Value->Option Addr->Hp->Prop
abbrev St:=List (Option V)
abbrev VK:=V->Hp->Prop
abbrev TE:=St->Hp->VK->Prop
abbrev TT:=St->Hp->(Bool->Hp->Prop)->Prop
abbrev TA:=St->Hp->(List V->Hp->Prop)->Prop
structure pS where
 nx:St->Hp->Prop
 rt:VK
 bk:St->Hp->Prop:=fun _ _=>False
 ct:St->Hp->Prop:=fun _ _=>False
abbrev TS:=pS->St->Hp->Prop
def EP(X:Cx)(pins:List 3e5)(B:St)(Q:VK)(u:Value)(s':Shared):Prop:=∃v H',bb X pins B H' s'/\cB v u/\Q v H'
def TP(X:Cx)(pins:List 3e5)(B:St)(Q:Bool->Hp->Prop)(b:Bool)(s':Shared):Prop:=∃H',bb X pins B H' s'/\Q b H'
def AP(X:Cx)(pins:List 3e5)(B:St)(Q:List V->Hp->Prop)(us:List Value)(s':Shared):Prop:=∃vs H',bb X pins B H' s'/\bt vs us/\Q vs H'
def SP(X:Cx)(pins:List 3e5)(D:pS)(f:Flow)(s':Shared):Prop:=
 match f with
 |.next=>∃B' H',bb X pins B' H' s'/\D.nx B' H'
 |.brk=>∃B' H',bb X pins B' H' s'/\D.bk B' H'
 |.cont=>∃B' H',bb X pins B' H' s'/\D.ct B' H'
 |.ret u=>∃v B' H',bb X pins B' H' s'/\cB v u/\D.rt v H'
def PE(X:Cx)(e:Expr)(t:TE):Prop:=
 ∀(pins:List 3e5)(s:Shared)(B:St)(H:Hp)(Q:VK),bb X pins B H s->t B H Q->wpAny 1e1 X.A (eval e 2e1) 10e6 X.xe s
def PT(X:Cx)(e:Expr)(t:TT):Prop:=
 ∀(pins:List 3e5)(s:Shared)(B:St)(H:Hp)(Q:Bool->Hp->Prop),bb X pins B H s->t B H Q->wpAny 1e1 X.A (isTrue e 2e1 (eval e 2e1)) (TP X pins B Q) X.xe s
def PW(X:Cx)(e:Expr)(t:TT):Prop:=
 ∀(whole:Sem Value)(pins:List 3e5)(s:Shared)(B:St)(H:Hp)(Q:Bool->Hp->Prop),bb X pins B H s->t B H Q->wpAny 1e1 X.A (isTrue e 2e1 whole) (TP X pins B Q) X.xe s
theorem PW.pt{X:Cx}{t:TT}(h:PW X e t):PT X e t:=h _
def PA(X:Cx)(es:List Expr)(t:TA):Prop:=
 ∀(pos:Pos)(pins:List 3e5)(s:Shared)(B:St)(H:Hp)(Q:List V->Hp->Prop),bb X pins B H s->t B H Q->wpAny 1e1 X.A (spliced (backTo pos 7e6)) (AP X pins B Q) X.xe s
def PS(X:Cx)(st:Stmt)(t:TS):Prop:=
 ∀(pins:List 3e5)(s:Shared)(B:St)(H:Hp)(D:pS),bb X pins B H s->t D B H->wpAny 1e1 X.A (exec st 2e1) (SP X pins D) X.xe s
def kj(X:Cx)(st:List Stmt)(t:TS):Prop:=
 ∀(pins:List 3e5)(s:Shared)(B:St)(H:Hp)(D:pS),bb X pins B H s->t D B H->wpAny 1e1 X.A (execs st 2e1) (SP X pins D) X.xe s
theorem dF{J:Type}{t:Sem J}{Q Q':J->Shared->Prop}{M:Model}(h:wpAny M A t Q E s)(hQ:∀a s,Q a s->Q' a s):wpAny M A t Q' E s:=QR h hQ fun _ _ x=>x
end L2
variable{B:L2.St}{te:L2.TE}{ta:L2.TA}
namespace L2
open PySem PySem.Spec PyProof.Rows
section
variable{X:Cx}
def MH(i:Nat):TE:=fun B H Q=>∃v,B[i]?=some (some v)/\Q v H
def tC(v:V):TE:=fun _ H Q=>Q v H
theorem KS(hN:X.N[i]?=some x)(hv:OI X.env.scope x)(hd:(x == ("__debug__" : Str))=false:=by decide)(hcd:(x == ("__classdict__" : Str))=false:=by decide):PE X (.Name x pos) (MH i):=by
 intro pins s B H Q I h;obtain⟨v,e,h⟩:=h;obtain⟨m,hn,hl⟩:=I.loc;obtain⟨u,r,l⟩:=hl i x v hN e hv;have fin:EP X pins B Q u s:=⟨v,H,I,r,h⟩;rcases l with⟨hk,hm⟩|⟨hk,c,hc,hcell⟩
 ·exact wpAny_Name (wpAny_loadName_local I.ok.kind hk hn hm fin) hd
 ·rcases hk with hk | hk
  ·exact wpAny_Name (wpAny_loadName_cell I.ok.kind hk hc hcell fin) hd
  ·exact wpAny_Name (wpAny_loadName_free I.ok.kind hk hc hcell fin hcd) hd
theorem K2{i j pos}:PE X (.Constant (.int i) j pos) (tC (.int i)):=fun _ _ _ H _ I h=>wpAny_Constant_int ⟨.int i,H,I.tok _,⟨_,rfl⟩,h⟩
theorem Of{b j pos}:PE X (.Constant (.bool b) j pos) (tC (.bl b)):=fun _ _ _ H _ I h=>Constant_bool ⟨.bl b,H,I,rfl,h⟩
theorem K0{j pos}:PE X (.Constant .none j pos) (tC .non):=fun _ _ _ H _ I h=>Constant_none ⟨.non,H,I,rfl,h⟩
theorem KW{x j pos}:PE X (.Constant (.str x) j pos) (tC (.str x)):=fun _ _ _ H _ I h=>Calls.Constant_str ⟨.str x,H,I.tok _,⟨_,rfl⟩,h⟩
def Gl(X:Cx)(x:Str):Prop:=X.env.kindOf x=some .globalImplicit
theorem oH(I:bb X pins B H s)(hg:Gl X x)(hm:X.mg x=some u)(h:Q u s)(hd:(x == ("__debug__" : Str))=false:=by decide):wpAny 1e1 X.A (eval (.Name x pos) 2e1) Q E s:=
 Calls.Name_function_global I.ok.kind hg (Calls.loadGlobal_global (by rw[I.ok.glob];exact I.mod.glob.keeps I.bk) hm h) hd
theorem nM(I:bb X pins B H s)(hg:Gl X x)(hm:X.mg x=none)(hv:bootBuiltins x=some u)(h:Q u s)(hn:x ≠ "__name__" := by decide)(hd:(x == ("__debug__" : Str))=false:=by decide):wpAny 1e1 X.A (eval (.Name x pos) 2e1) Q E s:=by
 obtain⟨mb,h1,h2⟩:=I.mod.blt;exact Calls.Name_function_global I.ok.kind hg (Calls.loadGlobal_builtin (by rw[I.ok.glob];exact I.mod.glob.keeps I.bk) hm (by rw[I.ok.blt];exact h1.keeps I.bk) ((h2 x hn).trans hv) h) hd
theorem AX(hg:Gl X x)(hm:X.mg x=some u)(r:cB v u)(hd:(x == ("__debug__" : Str))=false:=by decide):PE X (.Name x pos) (tC v):=
 fun _ _ _ H _ I h=>oH I hg hm ⟨v,H,I,r,h⟩ hd
theorem AY(hg:Gl X x)(hm:X.mg x=none)(hv:bootBuiltins x=some u)(r:cB v u)(hn:x ≠ "__name__" := by decide)(hd:(x == ("__debug__" : Str))=false:=by decide):PE X (.Name x pos) (tC v):=
 fun _ _ _ H _ I h=>nM I hg hm hv ⟨v,H,I,r,h⟩ hn hd
variable{a b:Expr}{ta tb:TE}
variable{tA tB':TT}
def Pf(t u:TT):TT:=fun B H Q=>t B H fun c H1=>if c=true then u B H1 Q else Q false H1
def Qf(t u:TT):TT:=fun B H Q=>t B H fun c H1=>if c=true then Q true H1 else u B H1 Q
def O8(t:TT):TT:=fun B H Q=>t B H fun c H1=>Q (!c) H1
theorem G8(ha:PT X a tA):PW X (.BoolOp .And [a] pos) tA:=by
 intro wh pins s B H Q I h;refine isTrue_and (dF (ha pins s B H Q I h) fun c s1 e=>?_);cases c with
 |true=>exact isTrue_and_nil e
 |false=>exact e
theorem KC(ha:PT X a tA):PW X (.BoolOp .Or [a] pos) tA:=by
 intro wh pins s B H Q I h;refine isTrue_or (dF (ha pins s B H Q I h) fun c s1 e=>?_);cases c with
 |false=>exact isTrue_or_nil e
 |true=>exact e
theorem KD(ha:PT X a tA)(hb:PW X (.BoolOp .And (b::rest) pos) tB'):PW X 12e9 (Pf tA tB'):=by
 intro wh pins s B H Q I h;refine isTrue_and (dF 9e2 fun c s1 ⟨H1,I1,q1⟩=>?_);cases c with
 |true=>exact hb wh pins s1 B H1 Q I1 q1
 |false=>exact⟨H1,I1,q1⟩
theorem N9(ha:PT X a tA)(hb:PW X (.BoolOp .Or (b::rest) pos) tB'):PW X (.BoolOp .Or (a::b::rest) pos) (Qf tA tB'):=by
 intro wh pins s B H Q I h;refine isTrue_or (dF 9e2 fun c s1 ⟨H1,I1,q1⟩=>?_);cases c with
 |true=>exact⟨H1,I1,q1⟩
 |false=>exact hb wh pins s1 B H1 Q I1 q1
theorem KE(ha:PT X a tA):PT X (.UnaryOp .Not a pos) (O8 tA):=by
 intro pins s B H Q I h;exact isTrue_not (ha pins s B H (fun c H1=>Q (!c) H1) I h)
def NQ(ta tb:TE):TE:=fun B H Q=>ta B H fun x H1=>∃c,x=.bl c/\if c=true then tb B H1 Q else Q 4e2 H1
def NL(ta:TE):TE:=fun B H Q=>ta B H fun x H1=>∃c,x=.bl c/\Q (.bl (!c)) H1
theorem KY{op}{t:TE}(h:PE X a t):PE X (.BoolOp op [a] pos) t:=fun pins s B H Q I hw=>BoolOp_one (h pins s B H Q I hw)
theorem K3(ha:PE X a ta)(hb:PE X (.BoolOp .And (b::rest) pos) tb):PE X 12e9 (NQ ta tb):=by
 intro pins s B H Q I h;refine BoolOp_and (dF 9e2 fun v s1 ⟨x,H1,I1,r1,q1⟩=>?_);obtain⟨c,rfl,q1⟩:=q1;cases r1;refine QS ?_;cases c with
 |true=>exact hb pins s1 B H1 Q I1 q1
 |false=>exact⟨.bl false,H1,I1,rfl,q1⟩
theorem KZ(ha:PE X a ta):PE X (.UnaryOp .Not a pos) (NL ta):=by
 intro pins s B H Q I h;refine UnaryOp_ (dF 9e2 fun v s1 ⟨x,H1,I1,r1,q1⟩=>?_);obtain⟨c,rfl,q1⟩:=q1;cases r1;exact not_of (QS ⟨.bl (!c),H1,I1,rfl,q1⟩)
def Qg(t:TT)(ta tb:TE):TE:=fun B H Q=>t B H fun c H1=>if c=true then ta B H1 Q else tb B H1 Q
theorem EV(hc:PT X c tA)(ha:PE X a ta)(hb:PE X b tb):PE X (.IfExp c a b pos) (Qg tA ta tb):=by
 intro pins s B H Q I h;refine wpAny_IfExp (dF (hc pins s B H _ I h) fun d s1 ⟨H1,I1,q1⟩=>?_);cases d with
 |true=>exact ha pins s1 B H1 Q I1 q1
 |false=>exact hb pins s1 B H1 Q I1 q1
end
def gP(K:W.Frag)(H:Hp)(a:Addr)(xs:List V):Prop:=
 Rd H a 2e9 \/
  ∃(o:Obj) (its:Array Value) (n:Nat),K.lookup a=some o/\o.cls=.type "list" /\ o.dict=none/\o.data=.seq its n/\its.size<=sizeLine/\bt xs its.toList
def gh(K:W.Frag)(H:Hp)(a:Addr)(xs:List V):Prop:=
 Rd H a (.tup xs) \/
  ∃(o:Obj) (its:Array Value) (n:Nat),K.lookup a=some o/\o.cls=.type "tuple" /\ o.data=.seq its n/\its.size<=sizeLine/\bt xs its.toList
noncomputable def PH:Value->Option V
 |.none=>some .non
 |.bool b=>some (.bl b)
 |.int i _=>some (.int i)
 |.str x _=>some (.str x)
 |.bytes b _=>some (.byt b)
 |.float b _=>some (.flt b)
 |.ref a=>some (.ref a)
 |.type n=>some (.ty n)
 |_=>none
theorem cB.abs{x:V}(r:cB x u):PH u=some x:=by
 cases x with
 |non=>cases r;rfl
 |bl _=>cases r;rfl
 |int _=>obtain⟨t,rfl⟩:=r;rfl
 |str _=>obtain⟨t,rfl⟩:=r;rfl
 |byt _=>obtain⟨t,rfl⟩:=r;rfl
 |flt _=>obtain⟨t,rfl⟩:=r;rfl
 |ref _=>cases r;rfl
 |ty _=>cases r;rfl
theorem cB.inj{x y:V}(r:cB x u)(q:cB y u):x=y:=Qp (r.abs.symm.trans q.abs)
theorem bt.inj:∀{xs ys:List V}{us:List Value},bt xs us->bt ys us->xs=ys
 |_,_,_,.nil,.nil=>rfl
 |_,_,_,.cons r t,.cons r' t'=>by rw[r.inj r',bt.inj t t']
section
variable{X:Cx}{xs ys:List V}
theorem gP.of(h:H a=some 2e9):gP K H a xs:=.inl (.inl h)
theorem gh.of(h:H a=some (.tup xs)):gh K H a xs:=.inl (.inl h)
theorem bb.list(I:bb X pins B H s)(h:gP X.K H a xs):∃its:List Value,bt xs its/\PlainL 3e2 a 2e7/\xs.length<=sizeLine:=by
 rcases h with h|⟨o,its,n,hk,hc,hd,hs,hz,r⟩
 ·obtain⟨z,its,n,r,e⟩:=h.ok I.hok;exact⟨its,r,⟨_,n,e,rfl,rfl,rfl⟩,z⟩
 ·refine⟨its.toList,r,⟨o,n,I.kIn a o hk,hc,hd,by simpa using hs⟩,?_⟩;have e:=r.length;dsimp[QT]at e;omega
theorem bb.tuple(I:bb X pins B H s)(h:gh X.K H a xs):∃its:List Value,bt xs its/\IsTup 3e2 a 2e7/\xs.length<=sizeLine:=by
 rcases h with h|⟨o,its,n,hk,hc,hs,hz,r⟩
 ·obtain⟨z,its,r,p⟩:=h.ok I.hok;exact⟨its,r,p,z⟩
 ·refine⟨its.toList,r,⟨o,I.kIn a o hk,hc,n,by simpa using hs⟩,?_⟩;have e:=r.length;dsimp[QT]at e;omega
theorem bb.list_inj(I:bb X pins B H s)(h:gP X.K H a xs)(h':gP X.K H a ys):xs=ys:=by
 obtain⟨its,r,⟨o,n,e,_,_,d⟩,_⟩:=I.list h;obtain⟨its',r',⟨o',n',e',_,_,d'⟩,_⟩:=I.list h';rw[e]at e';cases e';rw[d]at d';injection d' with d1 _
 have:its=its':=by simpa using QU Array.toList d1
 subst this;exact r.inj r'
theorem bb.tuple_inj(I:bb X pins B H s)(h:gh X.K H a xs)(h':gh X.K H a ys):xs=ys:=by
 obtain⟨its,r,⟨o,e,_,n,d⟩,_⟩:=I.tuple h;obtain⟨its',r',⟨o',e',_,n',d'⟩,_⟩:=I.tuple h';rw[e]at e';cases e';rw[d]at d';injection d' with d1 _
 have:its=its':=by simpa using QU Array.toList d1
 subst this;exact r.inj r'
end
abbrev Cx.wish(X:Cx)(E:Value->Shared->Prop):Cx:={X with xe:=E}
abbrev Cx.nox(X:Cx):Cx:=X.wish fun _ _=>False
theorem Cx.Ok.wish{X:Cx}(ok:X.Ok)(E:Value->Shared->Prop):(X.wish E).Ok:=
 ⟨ok.mod,ok.kind,ok.glob,ok.blt,ok.above,ok.inj,ok.has,ok.cab,ok.hd,ok.frames,ok.stk,ok.exf,ok.bs,ok.bsz,ok.noex,ok.exfs,ok.funs,ok.frf⟩
theorem Cx.Ok.unwish{X:Cx}(ok:(X.wish E).Ok):X.Ok:=
 ⟨ok.mod,ok.kind,ok.glob,ok.blt,ok.above,ok.inj,ok.has,ok.cab,ok.hd,ok.frames,ok.stk,ok.exf,ok.bs,ok.bsz,ok.noex,ok.exfs,ok.funs,ok.frf⟩
section
variable{X:Cx}
theorem bb.wish(I:bb X pins B H s)(E:Value->Shared->Prop):bb (X.wish E) pins B H s:=⟨I.ok.wish E,I.os,I.bare,I.base,I.loc,I.cell,I.free,I.freeC,I.pin,I.hok,I.len⟩
theorem bb.unwish(I:bb (X.wish E) pins B H s):bb X pins B H s:=⟨I.ok.unwish,I.os,I.bare,I.base,I.loc,I.cell,I.free,I.freeC,I.pin,I.hok,I.len⟩
theorem SP.unwish{D:pS}{f:Flow}(h:SP (X.wish E) pins D f s'):SP X pins D f s':=by
 cases f with
 |next=>obtain⟨B',H',I,q⟩:=h;exact⟨B',H',I.unwish,q⟩
 |brk=>obtain⟨B',H',I,q⟩:=h;exact⟨B',H',I.unwish,q⟩
 |cont=>obtain⟨B',H',I,q⟩:=h;exact⟨B',H',I.unwish,q⟩
 |ret u=>obtain⟨v,B',H',I,r,q⟩:=h;exact⟨v,B',H',I.unwish,r,q⟩
theorem kj.nox{st:List Stmt}{t:TS}(h:kj X.nox st t):kj X st t:=fun pins s B H D I hw=>
 QR (h pins s B H D (I.wish _) hw) (fun _ _ q=>q.unwish) fun _ _ z=>False.elim z
end
section
variable{X:Cx}{rest:List Stmt}{t u:TS}
def NM:TS:=fun D B H=>D.nx B H
def O5(t u:TS):TS:=fun D B H=>t {D with nx:=u D} B H
theorem He:kj X [] NM:=fun _ _ B H _ I h=>QV ⟨B,H,I,h⟩
theorem EL(h1:PS X st t)(h2:kj X rest u):kj X (st::rest) (O5 t u):=by
 intro pins s B H D I h;refine wpAny_execs_cons (dF (h1 pins s B H {D with nx:=u D} I h) fun f s1 q=>?_);cases f with
 |next=>
  obtain⟨B',H',I',q⟩:=q;exact h2 pins s1 B' H' D I' q
 |ret v=>exact q
 |brk=>exact q
 |cont=>exact q
theorem Hd(h1:PS X st t):kj X [st] t:=by
 intro pins s B H D I h;refine wpAny_execs_cons (dF (h1 pins s B H D I h) fun f s1 q=>?_);cases f with
 |next=>exact QV q
 |ret v=>exact q
 |brk=>exact q
 |cont=>exact q
theorem bb.quiet(I:bb X pins B H s):interactive 2e1=false:=by simp[interactive,I.ok.kind]
def NN(te:TE):TS:=fun D B H=>te B H fun _ H1=>D.nx B H1
theorem Hg(he:PE X e te)(hs:swapsWith e none pos.line 2e1=pure false:=by rfl):PS X (.Expr e pos) (NN te):=by
 intro pins s B H D I h;exact wpAny_Expr_any (dF (he pins s B H _ I h) fun v s1 ⟨x,H1,I1,r1,q1⟩=>⟨B,H1,I1,q1⟩) I.quiet hs
def O6(te:TE):TS:=fun D B H=>te B H D.rt
theorem KI(he:PE X e te):PS X (.Return (some e) pos) (O6 te):=by
 intro pins s B H D I h;exact wpAny_Return_some (dF (he pins s B H _ I h) fun v s1 ⟨x,H1,I1,r1,q1⟩=>⟨x,B,H1,I1,r1,q1⟩)
def Pc(c:TT)(t u:TS):TS:=fun D B H=>c B H fun b H1=>if b=true then t D B H1 else u D B H1
theorem Oa{a b:List Stmt}{tc:TT}(hc:PT X c tc)(ha:kj X a t)(hb:kj X b u):PS X (.If c a b pos) (Pc tc t u):=by
 intro pins s B H D I h;refine wpAny_If (dF (hc pins s B H _ I h) fun d s1 ⟨H1,I1,q1⟩=>?_);cases d with
 |true=>exact ha pins s1 B H1 D I1 q1
 |false=>exact hb pins s1 B H1 D I1 q1
def JY:TS:=fun _ _ _=>False
theorem EO:PS X st JY:=fun _ _ _ _ _ _ h=>h.elim
end
abbrev TG:=V->St->Hp->(St->Hp->Prop)->Prop
abbrev FY:=List V->St->Hp->(St->Hp->Prop)->Prop
def PG(X:Cx)(target:Expr)(t:TG):Prop:=
 ∀(pins:List 3e5)(s:Shared)(B:St)(H:Hp)(v:V)(u:Value)(Q:St->Hp->Prop),bb X pins B H s->cB v u->t v B H Q ->
  wpAny 1e1 X.A (assign target 2e1 u) (fun _ s'=>∃B' H',bb X pins B' H' s'/\Q B' H') X.xe s
def yZ(X:Cx)(ts:List Expr)(t:FY):Prop:=
 ∀(pins:List 3e5)(s:Shared)(B:St)(H:Hp)(vs:List V)(us:List Value)(Q:St->Hp->Prop),bb X pins B H s->bt vs us->t vs B H Q ->
  wpAny 1e1 X.A (assignInOrder ((assignEach ts 2e1).map (·.2)) us) (fun _ s'=>∃B' H',bb X pins B' H' s'/\Q B' H') X.xe s
abbrev JD:=V->V->V->Hp->(Hp->Prop)->Prop
def Nk(X:Cx)(t:JD):Prop:=
 ∀(pins:List 3e5)(s:Shared)(B:St)(H:Hp)(o i v:V)(ov iv u:Value)(Q:Hp->Prop),bb X pins B H s->cB o ov->cB i iv->cB v u->t o i v H Q ->
  wpAny 1e1 X.A (setItem ov iv u) (fun _ s'=>∃H',bb X pins B H' s'/\Q H') X.xe s
abbrev Mx:=V->V->Hp->VK->Prop
def OK(X:Cx)(op:Operator)(t:Mx):Prop:=
 ∀(pins:List 3e5)(s:Shared)(B:St)(H:Hp)(x y:V)(v u:Value)(Q:VK),bb X pins B H s->cB x v->cB y u->t x y H Q ->
  wpAny 1e1 X.A (inplaceOp op v u) 10e6 X.xe s
section
variable{X:Cx}
def xh(i:Nat):TG:=fun v B H Q=>Q (B.set i (some v)) H
theorem Hm(hN:X.N.Nodup)(hi:X.N[i]?=some x)(hx:Bi X.env.scope x)(hf:X.fn x=true\/X.env.scope.names.lookup x=some .local:=by first|exact .inl rfl|exact .inr rfl|assumption):PG X (.Name x pos) (xh i):=by
 intro pins s B H v u Q I r h;exact wpAny_assign_Name (oO I hN hi hx r (fun s' I'=>⟨_,H,I',h⟩) hf)
def Pr:FY:=fun vs B H Q=>vs=[]/\Q B H
def Oq(t:TG)(u:FY):FY:=fun vs B H Q=>∃v r,vs=v::r/\t v B H fun B' H'=>u r B' H' Q
theorem Hl:yZ X [] Pr:=by
 intro pins s B H vs us Q I r h;obtain⟨e,h⟩:=h;subst e;cases r;exact assignInOrder_nil ⟨B,H,I,h⟩
theorem ET{es:List Expr}{t:TG}{u:FY}(h1:PG X e t)(h2:yZ X es u)(hs:(assignEach (e::es) 2e1).map (·.2)=assign e 2e1::(assignEach es 2e1).map (·.2):=by rfl):yZ X (e::es) (Oq t u):=by
 intro pins s B H vs us Q I r h;obtain⟨v,vr,e1,h⟩:=h;subst e1;cases r with
 |cons r rr=>
  rw[hs];refine assignInOrder_cons (dF (h1 pins s B H _ _ _ I r h) fun _ s1 ⟨B1,H1,I1,q1⟩=>?_);exact h2 pins s1 B1 H1 _ _ Q I1 rr q1
def Pp(K:W.Frag)(n:Nat)(t:FY):TG:=fun v B H Q=>∃a xs,v=.ref a/\gh K H a xs/\xs.length=n/\t xs B H Q
theorem KQ{es:List Expr}{k:Nat}{t:FY}(hc:X.calm=true)(h:yZ X es t)(hn:(assignEach es 2e1).length=n:=by rfl)(hst:(assignEach es 2e1).findIdx? 5e4=none:=by rfl):PG X (.Tuple es k pos) (Pp X.K n t):=by
 intro pins s B H v u Q I r hw;obtain⟨a,xs,e1,hq,hl,hw⟩:=hw;subst e1;cases r;obtain⟨its,rv,ht,hz⟩:=I.tuple hq;refine assign_Tuple_tuple (I.ok.hd hc) ht (by simp[hn,<- hl,rv.length]) hst fun h' hx=>?_;have I1:bb X pins B H {s with heap:=h'}:=I.kept (t':=s.toks) fun b o e=>hx b o (QA (Qw e)) e;exact h pins _ B H xs _ Q I1 (by simpa using rv) hw
def Pq(to ti:TE)(t:JD):TG:=fun v B H Q=>to B H fun o H1=>ti B H1 fun i H2=>t o i v H2 fun H3=>Q B H3
theorem KR{o i:Expr}{to ti:TE}{t:JD}(ho:PE X o to)(hi:PE X i ti)(hs:Nk X t)
  (ha : ∀ v, assign (.Subscript o i pos) 2e1 v = (do
   let ov <- holding [v] (eval o 2e1)
   let iv <- holding [v,ov] (eval i 2e1)
   standAt pos
   holding [v,ov,iv] (setItem ov iv v)
   release [v,ov,iv] []):=by intro _;rfl):PG X (.Subscript o i pos) (Pq to ti t):=by
 intro pins s B H v u Q I r h;rw[ha];refine QW (QX (dF (ho pins s B H _ I h) fun ov s1 ⟨x,H1,I1,r1,q1⟩=>?_));refine QW (QX (dF (hi pins s1 B H1 _ I1 q1) fun iv s2 ⟨y,H2,I2,r2,q2⟩=>?_));refine QW (QY (QW (QX (dF (hs pins s2 B H2 x y v ov iv u _ I2 r1 r2 r q2) fun _ s3 ⟨H3,I3,q3⟩=>?_))));exact wpAny_release ⟨B,H3,I3,q3⟩
def CV(te:TE)(g:TG):TS:=fun D B H=>te B H fun x H1=>g x B H1 D.nx
theorem KM{g:TG}(he:PE X e te)(hg:PG X tg g)(hs:swapsWithSole [tg] e pos.line 2e1=pure false:=by rfl)(hw:swappedStores [tg] e 2e1=pure none:=by rfl)(h1:(assignEach [tg] 2e1).map (·.2)=[assign tg 2e1]:=by rfl):PS X (.Assign [tg] e pos) (CV te g):=by
 intro pins s B H D I h;refine wpAny_Assign_stores (dF (he pins s B H _ I h) fun v s1 ⟨x,H1,I1,r1,q1⟩=>?_) hs hw;rw[h1];exact dF (hg pins s1 B H1 x v _ I1 r1 q1) fun _ s2 q=>q
theorem KH(hN:X.N.Nodup)(hi:X.N[i]?=some x)(hx:Bi X.env.scope x)(he:PE X e te)(hs:swapsWith e (some (.Name x pos')) pos.line 2e1=pure false:=by rfl)(hf:X.fn x=true\/X.env.scope.names.lookup x=some .local:=by first|exact .inl rfl|exact .inr rfl|assumption):
  PS X (.Assign [.Name x pos'] e pos) (CV te (xh i)):=by
 intro pins s B H D I h;refine wpAny_Assign_Name (dF (he pins s B H _ I h) fun v s1 ⟨y,H1,I1,r1,q1⟩=>?_) hs;exact oO I1 hN hi hx r1 (fun s2 I2=>⟨_,H1,I2,q1⟩) hf
def Pe(i:Nat)(te:TE)(ti:Mx):TS:=fun D B H=>∃x,B[i]?=some (some x)/\te B H fun y H1=>ti x y H1 fun z H2=>D.nx (B.set i (some z)) H2
theorem KL{op:Operator}{ti:Mx}(hN:X.N.Nodup)(hi:X.N[i]?=some x)(hx:Bi X.env.scope x)(he:PE X e te)(ho:OK X op ti)(hf:X.fn x=true\/X.env.scope.names.lookup x=some .local:=by first|exact .inl rfl|exact .inr rfl|assumption):
  PS X (.AugAssign (.Name x pos') op e pos) (Pe i te ti):=by
 intro pins s B H D I h;obtain⟨v,e1,h⟩:=h;obtain⟨m,hn,hl⟩:=I.loc;have vis:OI X.env.scope x:=by rcases hx with k|k;exact .inl k;exact .inr (.inl k)
 obtain⟨u,r,l⟩:=hl i x v hi e1 vis;refine wpAny_AugAssign_Name ?_
 have go:wpAny 1e1 X.A (eval e 2e1) (fun w s₂=>wpAny 1e1 X.A (inplaceOp op u w) (fun r s₃=>wpAny 1e1 X.A (storeName 2e1 x r) (fun _=>SP X pins D .next) X.xe s₃) X.xe s₂) X.xe s:=by
  refine dF (he pins s B H _ I h) fun w s1 ⟨y,H1,I1,r1,q1⟩=>?_;refine dF (ho pins s1 B H1 v y u w _ I1 r r1 q1) fun z s2 ⟨zv,H2,I2,r2,q2⟩=>?_;exact oO I2 hN hi hx r2 (fun s3 I3=>⟨_,H2,I3,q2⟩) hf
 rcases l with⟨hk,hm⟩|⟨hk,c,hc,hcell⟩
 ·exact wpAny_loadName_local I.ok.kind hk hn hm go
 ·rcases hk with hk | hk
  ·exact wpAny_loadName_cell I.ok.kind hk hc hcell go
  ·rcases hx with k | k
   ·have:X.env.scope.names.lookup x=some .free:=hk;rw[k]at this;cases this
   ·have:X.env.scope.names.lookup x=some .free:=hk;rw[k]at this;cases this
def Qi(f:Int->Int->Int):Mx:=fun x y H Q=>∃i j,x=.int i/\y=.int j/\Q (.int (f i j)) H
theorem LU:OK X .Add (Qi fun i j=>i+j):=by
 intro pins s B H x y v u Q I r1 r2 h;obtain⟨i,j,e1,e2,q⟩:=h;subst e1;subst e2;obtain⟨t,rfl⟩:=r1;obtain⟨t',rfl⟩:=r2;exact iadd_int ⟨.int _,H,I.tok _,⟨_,rfl⟩,q⟩
end
section
variable{X:Cx}
def JX(c:TT)(tb:TS):TS:=fun D B H=>∃W:Nat->St->Hp->Prop,(∃m,W m B H)/\∀m B H,W m B H ->
 c B H fun b H1=>if b=true then ∃N:St->Hp->Prop,(∀B' H',N B' H'->∃m',m'<m/\W m' B' H')/\tb {D with nx:=N,ct:=N,bk:=D.nx} B H1 else D.nx B H1
theorem EM{tc:TT}{tb:TS}(hp:PassesOwn 1e1 X.A 2e1 X.xe)(hc:PT X c tc)(hb:kj X body tb):PS X (.While c body [] pos) (JX tc tb):=by
 intro pins s B H D I h;obtain⟨W,⟨m0,w0⟩,turn⟩:=h;refine wpAny_While (codeAny_whileLoop (fun n s'=>∃B' H',bb X pins B' H' s'/\W n B' H') ?_ m0 ⟨B,H,I,w0⟩)
 rintro n s1 ⟨B1,H1,I1,w1⟩
 refine QZ hp (dF (hc pins s1 B1 H1 _ I1 (turn n B1 H1 w1)) fun b s2 ⟨H2,I2,q2⟩=>?_);cases b with
 |true=>
  obtain⟨N,hN,q2⟩:=q2;rw[Qu rfl];refine QZ hp (dF (hb pins s2 B1 H2 _ I2 q2) fun f s3 q3=>?_);cases f with
  |next=>
   obtain⟨B3,H3,I3,n3⟩:=q3;obtain⟨m',hm,w3⟩:=hN B3 H3 n3;exact⟨m',hm,B3,H3,I3,w3⟩
  |cont=>
   obtain⟨B3,H3,I3,n3⟩:=q3;obtain⟨m',hm,w3⟩:=hN B3 H3 n3;exact⟨m',hm,B3,H3,I3,w3⟩
  |brk=>exact q3
  |ret v=>exact q3
 |false=>
  rw[Qv Q0];exact QV ⟨B1,H2,I2,q2⟩
end
structure It where
 go:Nat->Hp->Prop
 yld:Nat->Hp->V->Hp->Prop
 stop:Nat->Hp->Prop
def oy(X:Cx)(pins:List 3e5)(H:Hp)(b:Addr):Prop:=
 H b=none/\b≠X.env.locals/\b∉X.fs/\(b∈X.ex\/X.s₀.heap.objs.size<=b)/\(∀x c,X.env.cells.lookup x=some c->c≠b)/\∀p∈X.pn++pins,p.1≠b
theorem bb.fpOk{X:Cx}{H':Hp}(I:bb X pins B H s)(hb:s.heap.objs.size<=b)(hn:H' b=none):oy X pins H' b:=by
 refine⟨hn,Q2 (Qx I.lt hb),I.nofs hb,.inr (QD I.sz hb),fun x c e z=>?_,fun p hp z=>?_⟩
 ·obtain⟨v,q⟩:=I.cell x c e;exact absurd (Qx q.lt (by rw[z];exact hb)) (Qy _)
 ·exact absurd (Qx (Qw (I.pin p hp).1) (by rw[z];exact hb)) (Qy _)
structure Bo(P:Program)(w:World)(K:W.Frag)(tg:Expr)(α:It)(fp:List Addr)(it:Addr)(tn:Nat->Heap->Prop):Prop where
 mem:it∈fp
 obj:∀i h,tn i h->∀b∈fp,∃o,h.get? b=some o/\∀v,o.data≠.cell v
 keep:∀i h h',tn i h->(∀b∈fp,∀o,h.get? b=some o->h'.get? b=some o)->tn i h'
 item:∀(X:Cx),X.prog=P->X.w=w->X.K=K->X.calm=true->∀(i:Nat)(pins:List 3e5)(s:Shared)(B:St)(H:Hp)(E:Value->Shared->Prop),bb X pins B H s->(∀b∈fp,oy X pins H b)->tn i 3e2->α.go i H ->
  wpAny (model P w) X.A (pyNext (.ref it)) (fun r s1=>∃u,r=some u /\
   wpAny (model P w) X.A (letOwnedTupleGo tg (.ref it) u) (fun _ s2=>∃x H',bb X pins B H' s2/\cB x u/\α.yld i H x H'/\tn (i+1) s2.heap/\∀b∈fp,H' b=none) E s1) E s
 done:∀(X:Cx),X.prog=P->X.w=w->X.K=K->X.calm=true->∀(i:Nat)(pins:List 3e5)(s:Shared)(B:St)(H:Hp)(E:Value->Shared->Prop),bb X pins B H s->(∀b∈fp,oy X pins H b)->tn i 3e2->α.stop i H ->
  wpAny (model P w) X.A (pyNext (.ref it)) (fun r s1=>r=none/\bb X pins B H s1) E s
 self:∀(A:Around)(i:Nat)(s:Shared)(Q:Value->Shared->Prop)(E:Value->Shared->Prop),tn i 3e2->Q (.ref it) s->wpAny (model P w) A (pyIter (.ref it)) Q E s
abbrev TI:=St->Hp->(It->Hp->Prop)->Prop
def OU(X:Cx)(pins:List 3e5)(B:St)(tg:Expr)(R:It->Hp->Prop)(itv:Value)(s2:Shared):Prop:=
 ∃(it:Addr)(fp:List Addr)(tn:Nat->Heap->Prop)(α:It)(H':Hp),itv=.ref it/\bb X pins B H' s2/\Bo X.prog X.w X.K tg α fp it tn/\tn 0 s2.heap/\(∀b∈fp,oy X pins H' b)/\R α H'
def PI(X:Cx)(tg iter:Expr)(wi:TI):Prop:=
 ∀(pins:List 3e5)(s:Shared)(B:St)(H:Hp)(R:It->Hp->Prop),bb X pins B H s->wi B H R ->
  wpAny 1e1 X.A (eval iter 2e1) (fun v s1=>wpAny 1e1 X.A (pyIter v) (OU X pins B tg R) X.xe s1) X.xe s
theorem Dr{M:Model}{o:Obj}{n:String}{vs:Array Value}{Q:Unit->Shared->Prop}(ho:s.heap.get? it=some o)(hc:o.cls=.type n)(hd:o.data=.fields vs)(hn:["enumerate", "zip", "dict_itemiterator", "dict_reverseitemiterator", "odict_iterator", "itertools.zip_longest", "itertools.pairwise"].contains n=false)(hQ:Q () s):wpAny M A (letOwnedTupleGo tg (.ref it) u) Q E s:=by
 unfold letOwnedTupleGo
 cases tg <;> first
  |exact Q3 hQ
  |(cases u <;> first
    |exact Q3 hQ
    | (refine QW (Q4 ho ?_)
       rw[hc,hd];show wpAny M A (if (["enumerate", "zip", "dict_itemiterator", "dict_reverseitemiterator", "odict_iterator", "itertools.zip_longest", "itertools.pairwise"].contains n&&vs[0]? == some (rawInt _))=true then _ else _) Q E s;rw[Qv (by intro h;rw[hn,Q5]at h;cases h)]
       exact Q3 hQ))
def OM(K:W.Frag)(a:Addr):It:=
 ⟨fun i H=>∃xs x,gP K H a xs/\xs[i]?=some x,fun i H x H'=>H'=H/\∀xs,gP K H a xs->xs[i]?=some x,fun i H=>∃xs,gP K H a xs/\xs.length<=i⟩
def OW(K:W.Frag)(a:Addr):It:=
 ⟨fun i H=>∃xs x,gh K H a xs/\xs[i]?=some x,fun i H x H'=>H'=H/\∀xs,gh K H a xs->xs[i]?=some x,fun i H=>∃xs,gh K H a xs/\xs.length<=i⟩
def Mt(lo:Int)(n:Nat):It:=⟨fun i _=>i<n,fun i H x H'=>H'=H/\x=.int (lo+i),fun i _=>n<=i⟩
theorem Bt(a it:Addr):Bo P w K tg (OM K a) [it] it (fun i h=>h.IsListIter it a i) where
 mem:=by simp
 obj:=fun i h st b hb=>by
  have e:b=it:=by simpa using hb
  subst e;obtain⟨o,e,c,d⟩:=st;exact⟨o,e,fun v z=>by rw[d]at z;cases z⟩
 keep:=fun i h h' st k=>st.at fun o e=>k it 0e6 o e
 item:=by
  intro X hP hw hK hc i pins s B H E I hf st hg;subst hP hw hK;obtain⟨xs,x,hq,hx⟩:=hg;obtain⟨its,rv,p,hz⟩:=I.list hq;obtain⟨u,hu,ru⟩:=rv.get hx;obtain⟨f0,f1,f2,f3,f4,f5⟩:=hf it 0e6;refine wpAny_pyNext_list_item st p.isList (x:=u) (by simpa using hu) fun h' st' sb=>?_;have I1:bb X pins B H {s with heap:=h'}:=I.turned (t':=s.toks) (fun b o hb e=>(sb.2 b hb).trans e) f0 f1 f3 f4 f5;obtain⟨o,e,c,d⟩:=id st';exact⟨u,rfl,Dr (s:={s with heap:=h'}) e c d 0e4 ⟨x,H,I1,ru,⟨rfl,fun ys hy=>by rw[I.list_inj hy hq];exact hx⟩,st',fun b hb=>(hf b hb).1⟩⟩
 done:=by
  intro X hP hw hK hc i pins s B H E I hf st hg;subst hP hw hK;obtain⟨xs,hq,hx⟩:=hg;obtain⟨its,rv,p,hz⟩:=I.list hq;obtain⟨f0,f1,f2,f3,f4,f5⟩:=hf it 0e6;have hl:=rv.length;exact wpAny_pyNext_list_end (I.ok.hd hc) st p.isList 10e7 fun h' eb=>⟨rfl,I.turned (t':=s.toks) (fun b o hb e=>eb b o hb e) f0 f1 f3 f4 f5⟩
 self:=fun _ _ _ _ _ st h=>wpAny_pyIter_listiter st h
theorem zB(a it:Addr):Bo P w K tg (OW K a) [it] it (fun i h=>h.IsTupleIter it a i) where
 mem:=by simp
 obj:=fun i h st b hb=>by
  have e:b=it:=by simpa using hb
  subst e;obtain⟨o,e,c,d⟩:=st;exact⟨o,e,fun v z=>by rw[d]at z;cases z⟩
 keep:=fun i h h' st k=>st.at fun o e=>k it 0e6 o e
 item:=by
  intro X hP hw hK hc i pins s B H E I hf st hg;subst hP hw hK;obtain⟨xs,x,hq,hx⟩:=hg;obtain⟨its,rv,p,hz⟩:=I.tuple hq;obtain⟨u,hu,ru⟩:=rv.get hx;obtain⟨f0,f1,f2,f3,f4,f5⟩:=hf it 0e6;refine wpAny_pyNext_tuple_item st (show s.heap.IsTuple a 2e7 from p) (x:=u) (by simpa using hu) fun h' st' sb=>?_;have I1:bb X pins B H {s with heap:=h'}:=I.turned (t':=s.toks) (fun b o hb e=>(sb.2 b hb).trans e) f0 f1 f3 f4 f5;obtain⟨o,e,c,d⟩:=id st';exact⟨u,rfl,Dr (s:={s with heap:=h'}) e c d 0e4 ⟨x,H,I1,ru,⟨rfl,fun ys hy=>by rw[I.tuple_inj hy hq];exact hx⟩,st',fun b hb=>(hf b hb).1⟩⟩
 done:=by
  intro X hP hw hK hc i pins s B H E I hf st hg;subst hP hw hK;obtain⟨xs,hq,hx⟩:=hg;obtain⟨its,rv,p,hz⟩:=I.tuple hq;obtain⟨f0,f1,f2,f3,f4,f5⟩:=hf it 0e6;have hl:=rv.length;exact wpAny_pyNext_tuple_end (I.ok.hd hc) st (show s.heap.IsTuple a 2e7 from p) 10e7 fun h' eb=>⟨rfl,I.turned (t':=s.toks) (fun b o hb e=>eb b o hb e) f0 f1 f3 f4 f5⟩
 self:=fun _ _ _ _ _ st h=>wpAny_pyIter_tupleiter st h
theorem zC(it:Addr)(lo:Int)(n:Nat):Bo P w K tg (Mt lo n) [it] it (fun i h=>IsRangeIter h it (lo+(i:Nat)*1) ((n:Int)-(i:Nat)) 1) where
 mem:=by simp
 obj:=fun i h st b hb=>by
  have e:b=it:=by simpa using hb
  subst e
  exact⟨_,st,fun v z=>by
   have z':Data.fields _=Data.cell v:=z
   cases z'⟩
 keep:=fun i h h' st k=>k it 0e6 _ st
 item:=by
  intro X hP hw hK hc i pins s B H E I hf st hg;subst hP hw hK;obtain⟨f0,f1,f2,f3,f4,f5⟩:=hf it 0e6;have W:=Walks.range (prog:=X.prog) (w:=X.w) (I.ok.hd hc) it lo 1 n;refine W.item i s _ _ hg st fun v h' tk hv st' kk=>?_;obtain⟨t,rfl⟩:=hv;have I1:bb X pins B H {s with heap:=h',toks:=tk}:=I.turned (fun b o hb e=>kk b o (by simpa using hb) e) f0 f1 f3 f4 f5;refine⟨_,rfl,Dr (s:={s with heap:=h',toks:=tk}) (n:="range_iterator") st' rfl rfl 0e4 ⟨.int (lo+i),H,I1,⟨t,?_⟩,⟨rfl,rfl⟩,st',fun b hb=>(hf b hb).1⟩⟩;rw[Int.mul_one]
 done:=by
  intro X hP hw hK hc i pins s B H E I hf st hg;subst hP hw hK;obtain⟨f0,f1,f2,f3,f4,f5⟩:=hf it 0e6;exact wpAny_pyNext_range_end (I.ok.hd hc) st (by have:n<=i:=hg;omega) fun h' eb=>⟨rfl,I.turned (t':=s.toks) (fun b o hb e=>eb b o hb e) f0 f1 f3 f4 f5⟩
 self:=fun _ _ _ _ _ st h=>wpAny_pyIter_rangeiter st h
section
variable{X:Cx}
theorem xO{R:It->Hp->Prop}{hi:Int}{t u v:Tok}{tk:Nat}(I:bb X pins B H s)(h1:-(2^62)<=lo)(h2:lo<2^62)(h3:-(2^62)<=hi)(h4:hi<2^62)(q:R (Mt lo (hi-lo).toNat) H):wpAny 1e1 X.A (pyIter (.ref 0e3)) (OU X pins B tg R) E {s with heap:=s.heap.push {cls:=.type "range",data:=.fields #[.int lo t,.int hi u,.int 1 v]},toks:=tk}:=by
 refine wpAny_pyIter_range (IsRange.new ..) (small_one h1 h2 h3 h4) ?_;have I1:bb X pins B H {s with heap:=s.heap.push {cls:=.type "range",data:=.fields #[.int lo t,.int hi u,.int 1 v]},toks:=tk}:=I.kept fun b o e=>Q6 _ e
 refine⟨(s.heap.push {cls:=.type "range",data:=.fields #[.int lo t,.int hi u,.int 1 v]}).objs.size,[(s.heap.push {cls:=.type "range",data:=.fields #[.int lo t,.int hi u,.int 1 v]}).objs.size],_,_,H,rfl,
  I1.kept (t':=tk) fun b o e=>Q6 _ e,zC _ lo (hi-lo).toNat,?_,fun b hb=>?_,q⟩
 ·have e1 : lo + ((0 : Nat) : Int) * 1 = lo := by simp
  have e2:(((hi-lo).toNat:Nat):Int)-((0:Nat):Int)=Builtin.Range.rangeSize lo hi 1:=by rw[rangeSize_one];split <;> omega
  show IsRangeIter _ _ (lo+((0:Nat):Int)*1) ((((hi-lo).toNat:Nat):Int)-((0:Nat):Int)) 1;rw[e1,e2];exact Q7 _ rfl
 ·have e : b = (s.heap.push { cls := .type "range", data := .fields #[.int lo t, .int hi u, .int 1 v] }).objs.size := by simpa using hb
  subst e;exact I1.fpOk 8e0 (I1.hok.fresh 8e0)
def On(ta:TA):TI:=fun B H R=>ta B H fun vs H1=>∃j:Int,vs=[.int j]/\-(2^62)<=j/\j<2^62/\R (Mt 0 j.toNat) H1
def Om(ta:TA):TI:=fun B H R=>ta B H fun vs H1=>∃i j:Int,vs=[.int i,.int j]/\(-(2^62)<=i/\i<2^62/\-(2^62)<=j/\j<2^62)/\R (Mt i (j-i).toNat) H1
theorem BW{a:Expr}{p:Pos}(hg:Gl X "range")(hm:X.mg "range" = none)(ha:PA X [a] ta)(hs:starEach [a] 2e1=[11e2]:=by rfl):PI X tg (.Call (.Name "range" p) [a] [] pos) (On ta):=by
 intro pins s B H R I h;refine Call_ (nM I hg hm boot_range (Q9 9e7 hs rfl));obtain⟨j,e,q1,q2,q⟩:=q1;subst e;cases r1 with
 |cons r rr=>
  cases rr;obtain⟨t,rfl⟩:=r;exact call_range_1 (xO I1 0e0 0e0 q1 q2 (by simpa using q))
theorem BV{a b:Expr}{p:Pos}(hg:Gl X "range")(hm:X.mg "range" = none)(ha:PA X [a,b] ta)(hs:starEach [a,b] 2e1=[11e2,(false,eval b 2e1)]:=by rfl)(hs2:starEach [b] 2e1=[(false,eval b 2e1)]:=by rfl):
  PI X tg (.Call (.Name "range" p) [a,b] [] pos) (Om ta):=by
 intro pins s B H R I h;refine Call_ (nM I hg hm boot_range (Q9 9e7 (by rw[hs,hs2]) (by rw[hs2];rfl)));obtain⟨i,j,e,⟨q1,q2,q3,q4⟩,q⟩:=q1;subst e;cases r1 with
 |cons r rr=>
  cases rr with
  |cons r' rr=>
   cases rr;obtain⟨t,rfl⟩:=r;obtain⟨t',rfl⟩:=r';exact call_range_2 (xO I1 q1 q2 q3 q4 q)
def Pd(wi:TI)(g:TG)(tb:TS):TS:=fun D B H=>wi B H fun α H1=>∃W:Nat->Nat->St->Hp->Prop,(∃m,W 0 m B H1)/\∀i m B H,W i m B H ->
 (α.stop i H/\D.nx B H)\/(α.go i H/\∃N:St->Hp->Prop,(∀B' H',N B' H'->∃m',m'<m/\W (i+1) m' B' H')/\∀x H',α.yld i H x H'->g x B H' fun B2 H2=>tb {D with nx:=N,ct:=N,bk:=D.nx} B2 H2)
def sv(fp:List Addr)(h:Heap):List 3e5:=fp.filterMap fun b=>(h.get? b).map fun o=>(b,o)
theorem lg{h:Heap}{o:Obj}(hb:b∈fp)(e:h.get? b=some o):(b,o)∈sv fp h:=Ra.mpr ⟨b,hb,by rw[e];rfl⟩
theorem σ9{h:Heap}{p:Addr×Obj}(hp:p∈sv fp h):p.1∈fp/\h.get? p.1=some p.2:=by
 obtain⟨b,hb,e⟩:=Ra.mp hp;cases q:h.get? b with
 |none=>rw[q]at e;cases e
 |some o=>
  rw[q]at e;have e':(b,o)=p:=Qp e;subst e';exact⟨hb,q⟩
theorem bb.pinned(I:bb X pins B H s)(hf:∀b∈fp,oy X pins H b)(ho:∀b∈fp,∃o,s.heap.get? b=some o/\∀v,o.data≠.cell v):bb X (pins++sv fp 3e2) B H s:=
 I.pins_of fun p hp=>(QK.mp hp).elim (fun z=>I.pin p (Rb _ z)) fun z=>by
  obtain⟨hb,e⟩:=σ9 z;obtain⟨f0,f1,f2,_⟩:=hf p.1 hb;obtain⟨o,e',d⟩:=ho p.1 hb;rw[e]at e';cases e';exact⟨e,f0,f1,f2,d⟩
theorem bb.unpinned{pl:List 3e5}(I:bb X (pins++pl) B H s):bb X pins B H s:=I.pins_of fun p hp=>I.pin p (Rb _ (QL _ hp))
theorem KJ{wi:TI}{g:TG}{tb:TS}(hp:PassesOwn 1e1 X.A 2e1 X.xe)(hc:X.calm=true)(hi:PI X tg iter wi)(hg:PG X tg g)(hb:kj X body tb)(hs:∀x,foldedSetIterable iter 2e1 x=pure x:=by intro _;rfl):PS X (.For tg iter body [] pos) (Pd wi g tb):=by
 intro pins s B H D I h;refine wpAny_For (dF (hi pins s B H _ I h) fun v s1 h1=>dF h1 fun itv s2 h2=>?_) hs;obtain⟨it,fp,tn,α,H2,e,I2,T,st2,f2,W,⟨m0,w0⟩,turn⟩:=h2;subst e;have stat:∀{H':Hp},(∀b∈fp,H' b=none)->∀b∈fp,oy X pins H' b:=fun hn b hb=>⟨hn b hb,(f2 b hb).2⟩;refine codeAny_forLoop_any (fun n s'=>∃i B' H',bb X pins B' H' s'/\tn i s'.heap/\(∀b∈fp,H' b=none)/\W i n B' H') ?_ m0 ⟨0,B,H2,I2,st2,fun b hb=>(f2 b hb).1,w0⟩
 rintro n s3 ⟨i,B3,H3,I3,st3,fr3,w3⟩
 rcases turn i n B3 H3 w3 with⟨stop,qn⟩|⟨go,N,hN,step⟩
 ·refine QZ hp (dF (T.done X rfl rfl rfl hc i pins s3 B3 H3 X.xe I3 (stat fr3) st3 stop) fun r s4 ⟨hr,I4⟩=>?_);subst hr;exact QV ⟨B3,H3,I4,qn⟩
 ·refine QZ hp (dF (T.item X rfl rfl rfl hc i pins s3 B3 H3 X.xe I3 (stat fr3) st3 go) fun r s4 ⟨u, hr, h4⟩ => ?_);subst hr;refine QZ hp (dF h4 fun _ s5 ⟨x,H5,I5,r5,y5,st5,fr5⟩=>?_);have I5':=I5.pinned (stat fr5) (T.obj _ _ st5);refine QZ hp (dF (hg _ s5 B3 H5 x u _ I5' r5 (step x H5 y5)) fun _ s6 ⟨B6,H6,I6,q6⟩=>?_);refine QZ hp (dF (hb _ s6 B6 H6 _ I6 q6) fun f s7 q7=>?_)
  have again:∀{B7:St}{H7:Hp},bb X (pins++sv fp s5.heap) B7 H7 s7->N B7 H7->∃m,m<n/\∃i B' H',bb X pins B' H' s7/\tn i s7.heap/\(∀b∈fp,H' b=none)/\W i m B' H':=fun {B7 H7} I7 n7=>by
   obtain⟨m',hm,w7⟩:=hN B7 H7 n7;refine⟨m',hm,i+1,B7,H7,I7.unpinned,T.keep _ _ _ st5 fun b hb o e=>(I7.pin (b,o) (Rb _ (Rb _ (lg hb e)))).1,fun b hb=>?_,w7⟩;obtain⟨o,e,d⟩:=T.obj _ _ st5 b hb;exact(I7.pin (b,o) (Rb _ (Rb _ (lg hb e)))).2.1
  cases f with
  |next=>obtain⟨B7,H7,I7,n7⟩:=q7;exact again I7 n7
  |cont=>obtain⟨B7,H7,I7,n7⟩:=q7;exact again I7 n7
  |brk=>obtain⟨B7,H7,I7,q7⟩:=q7;exact⟨B7,H7,I7.unpinned,q7⟩
  |ret v=>obtain⟨x7,B7,H7,I7,r7,q7⟩:=q7;exact⟨x7,B7,H7,I7.unpinned,r7,q7⟩
end
abbrev R2:=V->V->Hp->VK->Prop
def jQ(X:Cx)(f:Value->Value->Sem Value)(r:R2):Prop:=
 ∀(pins:List 3e5)(s:Shared)(B:St)(H:Hp)(x y:V)(v u:Value)(Q:VK),bb X pins B H s->cB x v->cB y u->r x y H Q ->
  wpAny 1e1 X.A (f v u) 10e6 X.xe s
def OJ(X:Cx)(f:Value->Sem Value)(r:V->Hp->VK->Prop):Prop:=
 ∀(pins:List 3e5)(s:Shared)(B:St)(H:Hp)(x:V)(v:Value)(Q:VK),bb X pins B H s->cB x v->r x H Q ->
  wpAny 1e1 X.A (f v) 10e6 X.xe s
def dX(X:Cx)(f:Value)(r:List V->Hp->VK->Prop):Prop:=
 ∀(pins:List 3e5)(s:Shared)(B:St)(H:Hp)(xs:List V)(us:List Value)(Q:VK),bb X pins B H s->bt xs us->r xs H Q ->
  wpAny 1e1 X.A (call f us) 10e6 X.xe s
def PJ(X:Cx)(r:V->Hp->(Bool->Hp->Prop)->Prop):Prop:=
 ∀(pins:List 3e5)(s:Shared)(B:St)(H:Hp)(x:V)(v:Value)(Q:Bool->Hp->Prop),bb X pins B H s->cB x v->r x H Q ->
  wpAny 1e1 X.A (truthy v) (TP X pins B Q) X.xe s
def OC(r:R2)(ta tb:TE):TE:=fun B H Q=>ta B H fun x H1=>tb B H1 fun y H2=>r x y H2 Q
def Qd(r:V->Hp->VK->Prop)(ta:TE):TE:=fun B H Q=>ta B H fun x H1=>r x H1 Q
def rI(C:Int->Int->Prop)(g:Int->Int->V):R2:=fun x y H Q=>∃i j,x=.int i/\y=.int j/\C i j/\Q (g i j) H
def Mv(g:Int->Int->V):R2:=fun x y H Q=>∃i j,x=.int i/\y=.int j/\Q (g i j) H
def rU(g:Int->V):V->Hp->VK->Prop:=fun x H Q=>∃i,x=.int i/\Q (g i) H
section
variable{X:Cx}{a b:Expr}{ta tb tc:TE}
theorem JB(ha:PE X a ta)(hb:PE X b tb){R:V->V->Hp->Prop}(I:bb X pins B H s)(h:ta B H fun x H1=>tb B H1 fun y H2=>R x y H2){f:Value->Value->Sem Value}(hf:∀v u s2 x y H2,bb X pins B H2 s2->cB x v->cB y u->R x y H2->wpAny 1e1 X.A (f v u) Q X.xe s2):
  wpAny 1e1 X.A (eval a 2e1) (fun v s₁=>wpAny 1e1 X.A (eval b 2e1) (fun u s₂=>wpAny 1e1 X.A (f v u) Q X.xe s₂) X.xe s₁) X.xe s:=by
 refine dF 9e2 fun v s1 ⟨x,H1,I1,r1,q1⟩=>?_;refine dF (hb pins s1 B H1 _ I1 q1) fun u s2 ⟨y,H2,I2,r2,q2⟩=>?_;exact hf v u s2 x y H2 I2 r1 r2 q2
theorem Oc{op:Operator}{r:R2}(ho:jQ X (binaryOp op) r)(ha:PE X a ta)(hb:PE X b tb):PE X (.BinOp a op b pos) (OC r ta tb):=by
 intro pins s B H Q I h;exact wpAny_BinOp (JB ha hb I h fun v u s2 x y H2 I2 rx ry q=>ho pins s2 B H2 x y v u Q I2 rx ry q)
theorem Ob{op:UnaryOp}{r:V->Hp->VK->Prop}(ho:OJ X (unaryOp op) r)(ha:PE X a ta):PE X (.UnaryOp op a pos) (Qd r ta):=by
 intro pins s B H Q I h;exact UnaryOp_ (dF 9e2 fun v s1 ⟨x,H1,I1,r1,q1⟩=>ho pins s1 B H1 x v Q I1 r1 q1)
theorem OE{f:Value->Value->Sem Value}{g:Int->Int->Int}(rule:∀(i j:Int)(t u:Tok)(s:Shared)(Q:Value->Shared->Prop)(E:Value->Shared->Prop),C i j->Q (.int (g i j) s.toks) {s with toks:=s.toks+1}->wpAny 1e1 X.A (f (.int i t) (.int j u)) Q E s):
  jQ X f (rI C fun i j=>.int (g i j)):=by
 intro pins s B H x y v u Q I rx ry h;obtain⟨i,j,rfl,rfl,hc,q⟩:=h;obtain⟨t,rfl⟩:=rx;obtain⟨t',rfl⟩:=ry;exact rule i j t t' s _ _ hc ⟨.int (g i j),H,I.tok _,⟨_,rfl⟩,q⟩
theorem MY{f:Value->Value->Sem Value}{g:Int->Int->Int}
  (rule:∀(i j:Int)(t u:Tok)(s:Shared)(Q:Value->Shared->Prop)(E:Value->Shared->Prop),Q (.int (g i j) s.toks) {s with toks:=s.toks+1}->wpAny 1e1 X.A (f (.int i t) (.int j u)) Q E s) :
  jQ X f (Mv fun i j=>.int (g i j)):=by
 intro pins s B H x y v u Q I rx ry h;obtain⟨i,j,rfl,rfl,q⟩:=h;obtain⟨t,rfl⟩:=rx;obtain⟨t',rfl⟩:=ry;exact rule i j t t' s _ _ ⟨.int (g i j),H,I.tok _,⟨_,rfl⟩,q⟩
def Gh(i j:Int):Prop:=0<j/\j<1073741824
def Gg(i j:Int):Prop:=0<=j/\j<=1000000/\i.natAbs<2^64
def xa(i j:Int):Prop:=(-(2^64)<i/\i<2^64)\/(-(2^64)<j/\j<2^64)
theorem xa.ok{i j:Int}(h:xa i j):IntMulOk i j:=by
 rcases h with⟨h1,h2⟩|⟨h1,h2⟩
 ·exact .of_left (intBits_le_64 h1 h2)
 ·exact .of_right (intBits_le_64 h1 h2)
theorem Lf:jQ X (binaryOp .Add) (Mv fun i j=>.int (i+j)):=MY fun _ _ _ _ _ _ _ q=>add_int q
theorem K5:jQ X (binaryOp .Sub) (Mv fun i j=>.int (i-j)):=MY fun _ _ _ _ _ _ _ q=>sub_int q
theorem K9:jQ X (binaryOp .Mult) (rI xa fun i j=>.int (i*j)):=OE fun _ _ _ _ _ _ _ hc q=>mul_int q hc.ok
theorem Hx:jQ X (binaryOp .FloorDiv) (rI Gh fun i j=>.int (i / j)):=OE fun i j _ _ _ _ _ hc q=>by
 have h1:(0:Int)<j:=hc.1;have h2:j<1073741824:=hc.2;exact floordiv_int 0e0 (by rw[Int.fdiv_eq_ediv_of_nonneg i 0e0];exact q) (.inl (PyProof.noPylong_small 0e0))
theorem La:jQ X (binaryOp .Mod) (rI (fun _ j=>0<j) fun i j=>.int (i%j)):=OE fun i j _ _ _ _ _ hc q=>by
 have h1:(0:Int)<j:=hc;exact mod_int' 0e0 (by rw[Int.fmod_eq_emod_of_nonneg i 0e0];exact q)
theorem K7:jQ X (binaryOp .Pow) (rI Gg fun i j=>.int (i^j.toNat)):=OE fun _ _ _ _ _ _ _ hc q=>pow_int_small hc.1 hc.2.1 hc.2.2 q
theorem Qc{f:Value->Sem Value}{g:Int->Int}
  (rule:∀(i:Int)(t:Tok)(s:Shared)(Q:Value->Shared->Prop)(E:Value->Shared->Prop),Q (.int (g i) s.toks) {s with toks:=s.toks+1}->wpAny 1e1 X.A (f (.int i t)) Q E s) :
  OJ X f (rU fun i=>.int (g i)):=by
 intro pins s B H x v Q I rx h;obtain⟨i,rfl,q⟩:=h;obtain⟨t,rfl⟩:=rx;exact rule i t s _ _ ⟨.int (g i),H,I.tok _,⟨_,rfl⟩,q⟩
theorem JO:OJ X (unaryOp .USub) (rU fun i=>.int (-i)):=Qc fun _ _ _ _ _ q=>neg_int q
end
noncomputable def Ph:V->V->Bool
 |.non,.non=>true | .non,.int _=>true | .int _,.non=>true | .non,.bl _=>true | .bl _,.non=>true | .non,.str _=>true | .str _,.non=>true
 |.int _,.int _=>true | .bl _,.bl _=>true | .str _,.str _=>true | .byt _,.byt _=>true
 |.int _,.str _=>true | .str _,.int _=>true | .bl _,.str _=>true | .str _,.bl _=>true
 |_,_=>false
def OS:R2:=fun x y H Q=>Ph x y=true/\Q (.bl (!decide (x=y))) H
theorem IC{i j:Int}:decide (V.int i=V.int j)=(i == j):=by
 rw[Rc];simp
theorem Me{i j:Bool}:decide (V.bl i=V.bl j)=(i == j):=by
 rw[Rc];simp
theorem IA{i j:Str}:decide (V.str i=V.str j)=(i == j):=by
 rw[Rc];simp
theorem ID{i j:Array UInt8}:decide (V.byt i=V.byt j)=(i.toList == j.toList):=by
 rw[Rc];cases i;cases j;simp
section
variable{X:Cx}{a b:Expr}{ta tb tc:TE}
theorem eZ{Q:VK}{k k':Bool}(I:bb X pins B H s)(q:Q (.bl k) H)(e:k=k'):EP X pins B Q (.bool k') s:=by
 subst e;exact⟨.bl k,H,I,rfl,q⟩
theorem Oh:jQ X (compareOp .NotEq) OS:=by
 intro pins s B H x y v u Q I rx ry h;obtain⟨hs,q⟩:=h;cases x with
 |non=>
  cases rx;cases y with
  |non=>cases ry;exact PySem.EqNone.ne_none_none (eZ I q 0e6)
  |bl j=>cases ry;exact PySem.EqNone.ne_none_bool (eZ I q 0e6)
  |int j=>obtain⟨t',rfl⟩:=ry;exact PySem.EqNone.ne_none_int (eZ I q 0e6)
  |str j=>obtain⟨t',rfl⟩:=ry;exact PySem.EqNone.ne_none_str (eZ I q 0e6)
  |_=>exact absurd (show false=true from hs) Q0
 |bl i=>
  cases rx;cases y with
  |non=>cases ry;exact PySem.EqNone.ne_bool_none (eZ I q 0e6)
  |bl j=>cases ry;exact ne_bool (eZ I q (QU not Me))
  |str j=>obtain⟨t',rfl⟩:=ry;exact PySem.EqMixed.ne_bool_str (eZ I q 0e6)
  |_=>exact absurd (show false=true from hs) Q0
 |int i=>
  obtain⟨t,rfl⟩:=rx;cases y with
  |non=>cases ry;exact PySem.EqNone.ne_int_none (eZ I q 0e6)
  |int j=>obtain⟨t',rfl⟩:=ry;exact ne_int (eZ I q (QU not IC))
  |str j=>obtain⟨t',rfl⟩:=ry;exact PySem.EqMixed.ne_int_str (eZ I q 0e6)
  |_=>exact absurd (show false=true from hs) Q0
 |str i=>
  obtain⟨t,rfl⟩:=rx;cases y with
  |non=>cases ry;exact PySem.EqNone.ne_str_none (eZ I q 0e6)
  |bl j=>cases ry;exact PySem.EqMixed.ne_str_bool (eZ I q 0e6)
  |int j=>obtain⟨t',rfl⟩:=ry;exact PySem.EqMixed.ne_str_int (eZ I q 0e6)
  |str j=>obtain⟨t',rfl⟩:=ry;exact ne_str (eZ I q (QU not IA))
  |_=>exact absurd (show false=true from hs) Q0
 |byt i=>
  obtain⟨t,rfl⟩:=rx;cases y with
  |byt j=>obtain⟨t',rfl⟩:=ry;exact W.ne_bytes (eZ I q (QU not ID))
  |_=>exact absurd (show false=true from hs) Q0
 |_=>cases y <;> exact absurd (show false=true from hs) Q0
theorem Lb:jQ X (compareOp .Is) (fun x y H Q=>y=.non/\Q (.bl (decide (x=.non))) H):=by
 intro pins s B H x y v u Q I rx ry h;obtain⟨rfl,q⟩:=h;cases ry;refine is_none_gen (eZ I q ?_)
 cases x <;> first
  |(cases rx;rfl)
  |(obtain⟨t,rfl⟩:=rx;rfl)
theorem Hv:jQ X (compareOp .IsNot) (fun x y H Q=>y=.non/\Q (.bl (!decide (x=.non))) H):=by
 intro pins s B H x y v u Q I rx ry h;obtain⟨rfl,q⟩:=h;cases ry;refine isnot_none_gen (eZ I q ?_)
 cases x <;> first
  |(cases rx;rfl)
  |(obtain⟨t,rfl⟩:=rx;rfl)
theorem jQ.or{f:Value->Value->Sem Value}{r r':R2}(h:jQ X f r)(h':jQ X f r'):jQ X f (fun x y H Q=>r x y H Q\/r' x y H Q):=by
 intro pins s B H x y v u Q I rx ry q;rcases q with q|q
 ·exact h pins s B H x y v u Q I rx ry q
 ·exact h' pins s B H x y v u Q I rx ry q
theorem Hr{r:R2}(ho:jQ X (compareOp op) r)(ha:PE X a ta)(hb:PE X b tb)(hm:behindInMarks op b=false):PE X (.Compare a [op] [b] pos) (OC r ta tb):=by
 intro pins s B H Q I h;exact wpAny_Compare1 (JB ha hb I h fun v u s2 x y H2 I2 rx ry q=>ho pins s2 B H2 x y v u Q I2 rx ry q) hm
def De(t:TE):TT:=fun B H Q=>t B H fun x H'=>∃k,x=.bl k/\Q k H'
theorem Hc{r:R2}(ho:jQ X (compareOp op) r)(ha:PE X a ta)(hb:PE X b tb)(hm:behindInMarks op b=false):PT X (.Compare a [op] [b] pos) (De (OC r ta tb)):=by
 intro pins s B H Q I h
 refine wpAny_isTrue_Compare1 (dF 9e2 fun v s1 ⟨x,H1,I1,r1,q1⟩=>dF (hb pins s1 B H1 _ I1 q1) fun u s2 ⟨y,H2,I2,r2,q2⟩=>
  dF (ho pins s2 B H2 x y v u _ I2 r1 r2 q2) fun c s3 ⟨z,H3,I3,r3,k,e,q3⟩=>?_) hm
 subst e;cases r3;exact QS ⟨H3,I3,q3⟩
def zh(r r':R2)(ta tb tc:TE):TE:=fun B H Q=>ta B H fun x H1=>tb B H1 fun y H2=>r x y H2 fun z H3=>∃k,z=.bl k /\
 (if k=true then tc B H3 fun w' H4=>r' y w' H4 Q else Q 4e2 H3)
theorem EX{op':CmpOp}{r r':R2}(ho:jQ X (compareOp op) r)(ho':jQ X (compareOp op') r')(ha:PE X a ta)(hb:PE X b tb)(hc:PE X c tc)(hm:lastMarks [op,op'] [b,c]=false:=by with_unfolding_all rfl):PE X (.Compare a [op,op'] [b,c] pos) (zh r r' ta tb tc):=by
 intro pins s B H Q I h
 refine Compare_chain (dF 9e2 fun v s1 ⟨x,H1,I1,r1,q1⟩=>chain_link (dF (hb pins s1 B H1 _ I1 q1) fun u s2 ⟨y,H2,I2,r2,q2⟩=>
  dF (ho pins s2 B H2 x y v u _ I2 r1 r2 q2) fun d s3 ⟨z,H3,I3,r3,k,e,q3⟩=>?_)) hm
 subst e;cases r3;refine QS ?_;cases k with
 |false=>exact ite_ff ⟨.bl false,H3,I3,rfl,q3⟩
 |true=>exact ite_tt (chain_last (dF (hc pins s3 B H3 _ I3 q3) fun w' s4 ⟨z',H4,I4,r4,q4⟩=>ho' pins s4 B H4 y z' u w' Q I4 r2 r4 q4))
theorem EK{op':CmpOp}{r r':R2}(ho:jQ X (compareOp op) r)(ho':jQ X (compareOp op') r')(ha:PE X a ta)(hb:PE X b tb)(hc:PE X c tc)(hm:lastMarks [op,op'] [b,c]=false:=by with_unfolding_all rfl):PT X (.Compare a [op,op'] [b,c] pos) (De (zh r r' ta tb tc)):=by
 intro pins s B H Q I h
 refine isTrue_chain (dF 9e2 fun v s1 ⟨x,H1,I1,r1,q1⟩=>test_link (dF (hb pins s1 B H1 _ I1 q1) fun u s2 ⟨y,H2,I2,r2,q2⟩=>
  dF (ho pins s2 B H2 x y v u _ I2 r1 r2 q2) fun d s3 ⟨z,H3,I3,r3,k,e,q3⟩=>?_)) hm
 subst e;cases r3;refine QS ?_;cases k with
 |false=>
  obtain⟨k',e',q'⟩:=q3;cases e';exact ite_ff ⟨H3,I3,q'⟩
 |true=>
  refine ite_tt (test_last 12e3);subst e2;cases r5;exact QS ⟨H5,I5,q5⟩
def JC(K:W.Frag)(x:V)(H:Hp)(k:Bool):Prop:=
 match x with
 |.non=>k=false
 |.bl b=>k=b
 |.int i=>k=(i != 0)
 |.str y=>y.length<=sizeLine/\k=((y.length:Int) != 0)
 |.byt y=>y.size<=sizeLine/\k=((y.size:Int) != 0)
 |.ref p=>(∃xs,gP K H p xs/\k=!xs.isEmpty)\/(∃xs,gh K H p xs/\k=!xs.isEmpty)\/∃kvs,H p=some (.dK kvs)/\k=!kvs.isEmpty
 |_=>False
theorem z5{κ:Type}{kvs:List (κ×V)}{vs:List (κ×Value)}(r:KV kvs vs):(!vs.isEmpty)=!kvs.isEmpty:=by
 cases r <;> rfl
theorem tf{xs:List V}(r:bt xs its):(!its.toArray.isEmpty)=!xs.isEmpty:=by
 cases r <;> simp
theorem pV:(sizeLine:Nat)<2^63:=by rw[Re];decide
theorem JS:PJ X (fun x H Q=>∃k,JC X.K x H k/\Q k H):=by
 intro pins s B H x v Q I rx h;obtain⟨k,e,q⟩:=h;have hl:=pV;have hs:sizeLine=16777216:=Re;cases x with
 |non=>
  cases rx;have e':k=false:=e;subst e';exact truthy_none ⟨H,I,q⟩
 |bl b=>
  cases rx;have e':k=b:=e;subst e';exact QS ⟨H,I,q⟩
 |int i=>
  obtain⟨t,rfl⟩:=rx;have e':k=(i != 0):=e;subst e';exact PySem.P.truthy_int ⟨H,I,q⟩
 |str y=>
  obtain⟨t,rfl⟩:=rx;obtain⟨hy,e'⟩:y.length<=sizeLine/\k=((y.length:Int) != 0):=e;subst e';exact PySem.P.truthy_str 0e0 ⟨H,I.tok _,q⟩
 |byt y=>
  obtain⟨t,rfl⟩:=rx;obtain⟨hy,e'⟩:y.size<=sizeLine/\k=((y.size:Int) != 0):=e;subst e';exact W.truthy_bytes 0e0 ⟨H,I.tok _,q⟩
 |ref p=>
  cases rx;have e':(∃xs,gP X.K H p xs/\k=!xs.isEmpty)\/(∃xs,gh X.K H p xs/\k=!xs.isEmpty)\/∃kvs,H p=some (.dK kvs)/\k=!kvs.isEmpty:=e;rcases e' with⟨xs,hx,e'⟩|⟨xs,hx,e'⟩|⟨kvs,hx,e'⟩
  ·subst e';obtain⟨its,r,pl,hz⟩:=I.list hx;have hlen:=r.length;exact wpAny_truthy_list pl.isList (by dsimp[Rf];omega) ⟨H,I.tok _,by rw[tf r];exact q⟩
  ·subst e';obtain⟨its,r,pl,hz⟩:=I.tuple hx;have hlen:=r.length;exact truthy_tuple pl (by dsimp[Rf];omega) ⟨H,I.tok _,by rw[tf r];exact q⟩
  ·subst e';obtain⟨hz,hS,vs,r,m⟩:kvs.length<=sizeLine/\(p == sysModules)=false/\∃vs,KV kvs vs/\s.heap.DictOf (rO X.prog X.w) p vs:=I.hok p _ hx;have hlen:kvs.length=vs.length:=Paired.length r;exact wpAny_truthy_dict hS m 0e0 ⟨H,I.tok _,by rw[z5 r];exact q⟩
 |_=>exact(show False from e).elim
theorem EJ(ha:PE X a ta)(he:∀whole,isTrue a 2e1 whole=(do let v <- whole;standAt a.pos;holding [v] (truthy v))) :
  PT X a (fun B H Q=>ta B H fun x H'=>∃k,JC X.K x H' k/\Q k H'):=by
 intro pins s B H Q I h;exact isTrue_plain (dF 9e2 fun v s1 ⟨x,H1,I1,r1,q1⟩=>JS pins s1 B H1 x v Q I1 r1 q1) (he _)
theorem zR:jQ X (binaryOp .Add) (fun x y H Q=>∃i j,x=.str i/\y=.str j/\i.length+j.length<=sizeLine/\Q (.str (i++j)) H):=by
 intro pins s B H x y v u Q I rx ry h;obtain⟨i,j,rfl,rfl,hz,q⟩:=h;obtain⟨t,rfl⟩:=rx;obtain⟨t',rfl⟩:=ry;exact add_str (fun t' tk=>⟨.str (i++j),H,I.tok _,⟨_,rfl⟩,q⟩) hz
theorem gQ{x:V}(r:bt [x] us):∃u,us=[u]/\cB x u:=by
 cases r with
 |cons r1 r2=>cases r2;exact⟨_,rfl,r1⟩
theorem Au{x y:V}(r:bt [x,y] us):∃u w',us=[u,w']/\cB x u/\cB y w':=by
 cases r with
 |cons r1 r2=>
  cases r2 with
  |cons r3 r4=>cases r4;exact⟨_,_,rfl,r1,r3⟩
theorem CG (hc:X.calm=true):dX X (.builtin "max") (fun xs H Q=>∃i j,xs=[.int i,.int j]/\Q (.int (if j>i then j else i)) H):=by
 intro pins s B H xs us Q I r h;obtain⟨i,j,rfl,q⟩:=h;obtain⟨u,w',rfl,⟨t,rfl⟩,⟨t',rfl⟩⟩:=Au r;refine max_two_ints (I.ok.hd hc) fun h' tk k=>⟨_,H,I.kept k,?_,q⟩;by_cases hj:j>i
 ·rw[Qu hj,Qu hj];exact⟨_,rfl⟩
 ·rw[Qv hj,Qv hj];exact⟨_,rfl⟩
theorem CD (hc:X.calm=true):dX X (.builtin "min") (fun xs H Q=>∃i j,xs=[.int i,.int j]/\Q (.int (if j<i then j else i)) H):=by
 intro pins s B H xs us Q I r h;obtain⟨i,j,rfl,q⟩:=h;obtain⟨u,w',rfl,⟨t,rfl⟩,⟨t',rfl⟩⟩:=Au r;refine min_two_ints (I.ok.hd hc) fun h' tk k=>⟨_,H,I.kept k,?_,q⟩;by_cases hj:j<i
 ·rw[Qu hj,Qu hj];exact⟨_,rfl⟩
 ·rw[Qv hj,Qv hj];exact⟨_,rfl⟩
theorem CI:dX X (.type "int") (fun xs H Q=>(∃i,xs=[.int i]/\Q (.int i) H)\/∃k,xs=[.bl k]/\Q (.int (if k then 1 else 0)) H):=by
 intro pins s B H xs us Q I r h;rcases h with⟨i,rfl,q⟩|⟨k,rfl,q⟩
 ·obtain⟨u,rfl,t,rfl⟩:=gQ r;exact call_int_int ⟨.int i,H,I,⟨_,rfl⟩,q⟩
 ·obtain⟨u,rfl,r1⟩:=gQ r;cases r1;exact call_int_bool ⟨.int (if k then 1 else 0),H,I.tok _,⟨_,rfl⟩,q⟩
def JE(K:W.Frag)(x:V)(H:Hp)(n:Nat):Prop:=
 match x with
 |.str y=>y.length<=sizeLine/\n=y.length
 |.byt y=>y.size<=sizeLine/\n=y.size
 |.ref p=>(∃xs,gP K H p xs/\n=3e9)\/∃xs,gh K H p xs/\n=3e9
 |_=>False
theorem FJ:dX X (.builtin "len") (fun xs H Q=>∃x n,xs=[x]/\JE X.K x H n/\Q (.int n) H):=by
 intro pins s B H xs us Q I r h;obtain⟨x,n,rfl,e,q⟩:=h;obtain⟨u,rfl,rx⟩:=gQ r;have hl:=pV;have hs:sizeLine=16777216:=Re;cases x with
 |str y=>
  obtain⟨t,rfl⟩:=rx;obtain⟨hy,e'⟩:y.length<=sizeLine/\n=y.length:=e;subst e';exact len_str 0e0 ⟨.int _,H,I.tok _,⟨_,rfl⟩,q⟩
 |byt y=>
  obtain⟨t,rfl⟩:=rx;obtain⟨hy,e'⟩:y.size<=sizeLine/\n=y.size:=e;subst e';exact W.len_bytes 0e0 ⟨.int _,H,I.tok _,⟨_,rfl⟩,q⟩
 |ref p=>
  cases rx;have e':(∃xs,gP X.K H p xs/\n=3e9)\/∃xs,gh X.K H p xs/\n=xs.length:=e;rcases e' with⟨xs,hx,e'⟩|⟨xs,hx,e'⟩
  ·subst e';obtain⟨its,r',pl,hz⟩:=I.list hx;have hlen:=r'.length;exact Calls.call_len_list pl.isList (by dsimp[Rf];omega) ⟨.int 3e9,H,I.tok _,⟨_,by dsimp[Rf];rw[hlen]⟩,q⟩
  ·subst e';obtain⟨its,r',pl,hz⟩:=I.tuple hx;have hlen:=r'.length;exact len_tuple pl (by dsimp[Rf];omega) ⟨.int 3e9,H,I.tok _,⟨_,by dsimp[Rf];rw[hlen]⟩,q⟩
 |_=>exact(show False from e).elim
end
structure Ql(h:Heap)(x dx C:Addr)(mA:Str->Option Value):Prop where
 obj:h.get? x=some (W.instObj C dx)
 ns:h.Ns1 dx mA
 ne:dx≠x
structure Qk(K:W.Frag)(C:Addr):Prop where
 pg:W.plainGet K C Str.empty=true
 hd:W.hasDictIn K C=true
 po:W.plainOver K C=true
 sa:W.findIn K 10e4 "__setattr__" = some (some (.builtin "object.__setattr__"))
structure Qo(K:W.Frag)(C:Addr)(f:Str)(v:V)(u:Value):Prop where
 at_:W.findIn K 10e4 f=some (some u)
 rel:cB v u
 get:W.specialIn K u "__get__" = some none
 cp:W.copiedNames.contains f=false
structure Qm(K:W.Frag)(C:Addr)(m:Str)(f:Addr):Prop where
 at_:W.findIn K 10e4 m=some (some 4e4)
 fn:W.isFn K 4e4=true
 kp:W.keepIn K 4e4=true
section
variable{X:Cx}{c:Value}{b:Bool}
inductive se(K:W.Frag)(H:Hp):V->Value->Prop where
 |non:se K H .non (.type "NoneType")
 |bl (x:Bool):se K H (.bl x) (.type "bool")
 |int (i:Int):se K H (.int i) (.type "int")
 |str (x:Str):se K H (.str x) (.type "str")
 |flt (x:UInt64):se K H (.flt x) (.type "float")
 |lst {a:Addr}{xs:List V} (e:H a=some 2e9):se K H (.ref a) (.type "list")
 |frz {a:Addr}{o:Obj}{xs:List V} (e:H a=some (.frz o 2e9)):se K H (.ref a) (.type "list")
 |tup {a:Addr}{xs:List V} (e:H a=some (.tup xs)):se K H (.ref a) (.type "tuple")
 |dK {a:Addr}{kvs:List (tV×V)} (e:H a=some (.dK kvs)):se K H (.ref a) (.type "dict")
 |dT {a:Addr}{kvs:List (List tV×V)} (e:H a=some (.dT kvs)):se K H (.ref a) (.type "dict")
 |ins {a C dx:Addr}{fs:List (Str×V)} (e:H a=some (.ins C dx fs)) (cl:Qk K C) (ha:W.findIn K 10e4 "__class__" = some (some 3e6))
   (hn:W.specialIn K 3e6 "__get__" = some (some 10e3)) (htk:W.takesIn K 3e6=some true)
   (hm:W.mroIn K C 9e3=some true):se K H (.ref a) 10e4
end
structure ip(k:Nat)(A:Around):Prop where
 hd:A.handled=none
 dp:A.depth+3*k+5<recursionLimit
 un:A.units+16*k+200<cLine
 gd:A.guards=some []
theorem ip.mono{k:Nat}(r:ip k A)(h:j<=k):ip j A:=⟨r.hd,by have:=r.dp;omega,by have:=r.un;omega,r.gd⟩
theorem ip.deeper{k:Nat}(r:ip (k+1) A)(env:Env):ip k (A.deeper env):=
 ⟨r.hd,by have:=r.dp;show A.depth+1+3*k+5<_;omega,by have:=r.un;show A.units+3+16*k+200<_;omega,r.gd⟩
theorem ip.depth{k:Nat}(r:ip k A):A.depth<recursionLimit:=by have:=r.dp;omega
theorem ip.units{k:Nat}(r:ip k A):A.units+64<cLine:=by have:=r.un;omega
def O9:TA:=fun _ H Q=>Q [] H
def NP(ta:TE)(tr:TA):TA:=fun B H Q=>ta B H fun x H1=>tr B H1 fun xs H2=>Q (x::xs) H2
section
variable{X:Cx}{es:List Expr}{t:TA}
theorem sx:PA X [] O9:=fun _ _ _ _ H Q I h=>Calls.spliced_nil ⟨[],H,I,.nil,h⟩
theorem jU(ha:PE X e te)(hr:PA X es t)(hs:starEach (e::es) 2e1=(false,eval e 2e1)::starEach es 2e1:=by rfl):PA X (e::es) (NP te t):=by
 intro pos pins s B H Q I h;rw[hs];show wpAny _ _ (spliced ((false,eval e 2e1)::backTo pos 7e6)) _ _ s;refine Calls.spliced_cons (dF 9e2 fun u s1 ⟨x,H1,I1,r1,q1⟩=>?_);exact dF (hr pos pins s1 B H1 _ I1 q1) fun us s2 ⟨xs,H2,I2,r2,q2⟩=>⟨x::xs,H2,I2,.cons r1 r2,q2⟩
def O4(t:TA):TE:=fun B H Q=>t B H fun xs H1=>xs.length<=sizeLine/\∀p,H1 p=none->Q (.ref p) (cV H1 p (.tup xs))
def Pb(t:TA):TE:=fun B H Q=>t B H fun xs H1=>xs.length<=sizeLine/\∀p,H1 p=none->Q (.ref p) (cV H1 p 2e9)
theorem KU{x1}(h:PA X es t):PE X (.Tuple es x1 pos) (O4 t):=by
 intro pins s B H Q I hq;refine wpAny_Tuple_spliced (dF (h pos pins s B H _ I hq) fun us s1 ⟨xs,H1,I1,r,z,q⟩=>⟨by rw[<- r.length];exact z,?_⟩);have hf:H1 8e2=none:=I1.hok.fresh 8e0;refine⟨.ref 8e2,cV H1 8e2 (.tup xs),I1.laid (t':=s1.toks) (fun b u e=>Q6 _ e) 8e0 ?_,rfl,q _ hf⟩;exact⟨z,us,r,⟨_,Q7 _ rfl,rfl,_,rfl⟩⟩
theorem K1(h:PA X es t):PE X (.List es pos) (Pb t):=by
 intro pins s B H Q I hq;refine wpAny_List_spliced (dF (h pos pins s B H _ I hq) fun us s1 ⟨xs,H1,I1,r,z,q⟩=>⟨by rw[<- r.length];exact z,?_⟩);have hf:H1 8e2=none:=I1.hok.fresh 8e0;refine⟨.ref 8e2,cV H1 8e2 2e9,I1.laid (t':=s1.toks) (fun b u e=>Q6 _ e) 8e0 ?_,rfl,q _ hf⟩;exact⟨z,us,0,r,Q7 _ rfl⟩
end
abbrev Sp:=List V->Hp->VK->XK->Prop
abbrev wO:=List Env->Hp->Shared->XK->Value->Shared->Prop
structure Bp(P:Program)(w:World)(K:W.Frag)(mg:Str->Option Value)(base:Heap)(A:Around)(outer:List Env)(s:Shared)(H:Hp):Prop where
 frames:A.frames=some outer
 mod:Mod K mg base
 bs:∀b o,base.get? b=some o->s.heap.get? b=some o/\H b=none
 bsz:base.objs.size<=s.heap.objs.size
 funs:s.heap.FunFrames base outer
 frf:∀b∈qD outer,H b=none
 hok:pL P w H 3e2
 bare:AllBare s.gens
def CE(outer:List Env)(P:Program)(w:World)(H:Hp)(s:Shared)(Q:VK)(u:Value)(s':Shared):Prop:=
 ∃v H',s'.os=s.os/\AllBare s'.gens/\Un (qD outer) [] H H' 3e2 s'.heap/\pL P w H' s'.heap/\cB v u/\Q v H'
def CR(CX:wO)(outer:List Env)(P:Program)(w:World)(H:Hp)(s:Shared)(Q:VK)(E:XK)(r:Result)(s':Shared):Prop:=
 match r with
 |.ok (.ret u)=>CE outer P w H s Q u s'
 |.ok _=>False
 |.error e=>CX outer H s E e s'
structure sf(P:Program)(w:World)(K:W.Frag)(mg:Str->Option Value)(base:Heap)(CX:wO)(k:Nat)(f:Addr)(fd:FuncData)(ps:List Str)(sp:Sp):Prop where
 len:∀vs H Q E,sp vs H Q E->vs.length=ps.length
 run:∀(A:Around)(outer:List Env)(s:Shared)(H:Hp)(args:Args)(us:List Value)(vs:List V)(Q:VK)(E:XK),ip k A->Bp P w K mg base A outer s H->BindsTo s fd args (ps.zip us)->bt vs us->sp vs H Q E ->
  codeAny (model P w) A (.call 4e4 args) (CR CX outer P w H s Q E) s
section
variable{X:Cx}
theorem bb.env0(I:bb X pins B H s):Bp X.prog X.w X.K X.mg X.base X.A X.stack s H:=
 ⟨I.ok.frames,I.ok.mod,I.bs,QD I.ok.bsz I.sz,I.stack,I.stkFree,I.hok,I.bare⟩
theorem bb.after{Q:VK}(I:bb X pins B H s)(h:CE X.stack X.prog X.w H s Q u s'):EP X pins B Q u s':=by
 obtain⟨v,H',os,bare,un,hok,r,q⟩:=h;obtain⟨hh,g,d,t,os'⟩:=s';obtain rfl:os'=s.os:=os;exact⟨v,H',I.call (h':=hh) (g':=g) (d':=d) (t':=t) (ch:=[]) un hok bare (fun b z=>absurd z 0e6),r,q⟩
end
def IR(sp:Sp)(dvs:List V)(E:XK)(t:TA):TE:=fun B H Q=>t B H fun vs H1=>sp (vs++dvs) H1 Q E
def iU(K:W.Frag)(fd:FuncData)(ps:List Str)(ds:List Value):Prop:=
 ∀(s:Shared)(us:List Value),K.In 3e2->(us++ds).length=ps.length->BindsTo s fd ⟨us,[]⟩ (ps.zip (us++ds))
theorem iU.all{ps:List Str}(h:∀us:List Value,us.length=ps.length->bindArgs fd ⟨us,[]⟩=pure (ps.zip us)):iU K fd ps []:=fun s us _ hl=>by
 rw[Rg]at hl⊢;exact .of_eq (h us hl)
def lY(CX:wO)(X:Cx)(E:XK):Prop:=∀(pins:List 3e5)(B:St)(H:Hp)(s:Shared)(e:Value)(s':Shared),bb X pins B H s->CX X.stack H s E e s'->X.xe e s'
section
variable{X:Cx}{CX:wO}{k:Nat}{C:Addr}{ps:List Str}{sp:Sp}{dvs:List V}{ds:List Value}{E:XK}{m:Str}{p:Pos}{o:Expr}{es:List Expr}{ta:TE}{t:TA}
theorem Kw{Q:VK}(F:sf X.prog X.w X.K X.mg X.base CX k f fd ps sp)(hr:ip k X.A)(hb:iU X.K fd ps ds)(hd:bt dvs ds)(hx:lY CX X E)(I:bb X pins B H s)(r:bt vs us)(h:sp (vs++dvs) H Q E):wpAny 1e1 X.A (call 4e4 us) 10e6 X.xe s:=by
 have r2:bt (vs++dvs) (us++ds):=r.append hd;have hl:(us++ds).length=ps.length:=by rw[<- r2.length];exact F.len _ _ _ _ h
 refine wpAny_call (Rh (F.run X.A X.stack s H ⟨us,[]⟩ (us++ds) (vs++dvs) Q E hr I.env0 (hb s us I.kIn hl) r2 h) fun r s' hq=>?_);cases r with
 |error e=>exact hx pins B H s e s' I hq
 |ok fl=>
  cases fl with
  |ret u=>exact I.after hq
  |next=>exact False.elim hq
  |brk=>exact False.elim hq
  |cont=>exact False.elim hq
theorem vP(F:sf X.prog X.w X.K X.mg X.base CX k f fd ps sp)(hr:ip k X.A)(hg:Gl X x)(hm:X.mg x=some 4e4)(hk:W.keepIn X.K 4e4=true)(hb:iU X.K fd ps ds)(hd:bt dvs ds)(hx:lY CX X E)
  (ha:PA X (e::es) t) (hdb:(x == ("__debug__" : Str))=false:=by decide) (he:starEach (e::es) 2e1=(false,eval e 2e1)::starEach es 2e1:=by rfl) (hpl:(backTo pos 7e6).any 5e4=false:=by rfl) :
  PE X (.Call (.Name x p) (e::es) [] pos) (IR sp dvs E t):=by
 intro pins s B H Q I h;refine Ri (oH I hg hm ?_ hdb);refine W.callWith_K (h₀:=X.base) I.ok.mod.kin hk (dF (ha pos pins s B H _ I h) fun us s1 ⟨vs,H1,I1,r,q⟩=>⟨I1.kIn,?_⟩) he hpl;exact Kw F hr hb hd hx I1 r q
structure Mk(K:W.Frag)(C f:Addr):Prop where
 makes:W.makesIn K C=true
 init:W.findIn K 10e4 "__init__" = some (some 4e4)
 fn:W.isFn K 4e4=true
 kp:W.keepIn K 10e4=true
end
section
variable{X:Cx}{CX:wO}{k:Nat}{C:Addr}{ps ks:List Str}{sp:Sp}{E:XK}{m:Str}{p kpos:Pos}{o:Expr}{es:List Expr}{kws:List Keyword}{ta:TE}{t tk:TA}{nm:Option Str}
structure PN(K:W.Frag)(fd:FuncData)(ps ks:List Str)(g:List Value->List Value->List Value)(gV:List V->List V->List V):Prop where
 to:∀(s:Shared)(us ws:List Value),K.In 3e2->(g us ws).length=ps.length->BindsTo s fd ⟨us,ks.zip ws⟩ (ps.zip (g us ws))
 rel:∀{vs:List V}{us:List Value}{zs:List V}{ws:List Value},bt vs us->bt zs ws->bt (gV vs zs) (g us ws)
variable{g:List Value->List Value->List Value}{gV:List V->List V->List V}
end
structure aV(N P:List Str)(sc:Scope):Prop where
 kind:sc.kind=.function
 co:sc.isCoroutine=false
 gen:sc.isGenerator=false
 nd:N.Nodup
 pre:N.take P.length=P
 par:∀x∈P,sc.names.lookup x=some .local\/sc.names.lookup x=some .cell
 nofree:∀y∈sc.names,y.2≠.free
theorem u6{kindOf:Str->Option NameKind}{x:Str}:∀{binds:List (Str×Value)}{m:Str->Option Value},(∀v,(x,v)∉binds)->bindL kindOf binds m x=m x
 |[],_,_=>rfl
 |(n,v)::r,m,h=>by
  unfold bindL;rw[u6 fun w hw=>h w (QH _ hw)];split
  ·have : x ≠ n := by rintro rfl; exact h v QG
   simp[this]
  ·rfl
theorem u7{kindOf:Str->Option NameKind}{x:Str}:∀{binds:List (Str×Value)}{m:Str->Option Value},(∀v,(x,v)∉binds)->bindC kindOf binds m x=m x
 |[],_,_=>rfl
 |(n,v)::r,m,h=>by
  unfold bindC;rw[u7 fun w hw=>h w (QH _ hw)];split
  ·rfl
  ·have : x ≠ n := by rintro rfl; exact h v QG
   simp[this]
theorem qp{kindOf:Str->Option NameKind}{x:Str}{v:Value}:∀{P:List Str}{vs:List Value}{i:Nat}{m:Str->Option Value},P.Nodup->P[i]?=some x->vs[i]?=some v->kindOf x=some .local ->
  bindL kindOf (P.zip vs) m x=some v
 |[],_,_,_,_,h,_,_=>by simp at h
 |_::_,[],_,_,_,_,h,_=>by simp at h
 |p::P,w::vs,0,m,nd,h1,h2,hk=>by
  simp at h1 h2;subst h1;subst h2;show bindL kindOf ((p,w)::P.zip vs) m p=_;unfold bindL;rw[u6 fun v hv=>(Rj.mp nd).1 (Rk hv).1,Qu hk];simp
 |p::P,w::vs,i+1,m,nd,h1,h2,hk=>by
  show bindL kindOf ((p,w)::P.zip vs) m x=_;unfold bindL;exact qp (i:=i) (Rj.mp nd).2 (by simpa using h1) (by simpa using h2) hk
theorem qq{kindOf:Str->Option NameKind}{x:Str}{v:Value}:∀{P:List Str}{vs:List Value}{i:Nat}{m:Str->Option Value},P.Nodup->P[i]?=some x->vs[i]?=some v->kindOf x≠some .local ->
  bindC kindOf (P.zip vs) m x=some v
 |[],_,_,_,_,h,_,_=>by simp at h
 |_::_,[],_,_,_,_,h,_=>by simp at h
 |p::P,w::vs,0,m,nd,h1,h2,hk=>by
  simp at h1 h2;subst h1;subst h2;show bindC kindOf ((p,w)::P.zip vs) m p=_;unfold bindC;rw[u7 fun v hv=>(Rj.mp nd).1 (Rk hv).1,Qv hk];simp
 |p::P,w::vs,i+1,m,nd,h1,h2,hk=>by
  show bindC kindOf ((p,w)::P.zip vs) m x=_;unfold bindC;exact qq (i:=i) (Rj.mp nd).2 (by simpa using h1) (by simpa using h2) hk
def start(N:List Str)(vs:List V):St:=vs.map some++List.replicate (N.length-vs.length) none
noncomputable def sd(CX:wO)(P:Program)(w:World)(K:W.Frag)(mg:Str->Option Value)(base:Heap)(N:List Str)(qual:Str)(scope:Scope)(f:Addr)(cd:Value)(A:Around)(outer:List Env)(s:Shared)(H:Hp)(E:XK):Cx where
 prog:=P
 w:=w
 K:=K
 mg:=mg
 base:=base
 A:=A.deeper (envOfC qual scope 0e3 f cd)
 N:=N
 s₀:=s
 H₀:=H
 env:=envOfC qual scope 0e3 f cd
 outer:=outer
 stack:=envOfC qual scope 0e3 f cd::outer
 ex:=[]
 calm:=true
 fn:=fun _=>true
 pn:=[]
 xe:=fun e s'=>wpAny (model P w) (A.deeper (envOfC qual scope 0e3 f cd)) (leaving (envOfC qual scope 0e3 f cd) e) (fun _ s''=>CX outer H s E e s'') (fun e' s''=>CX outer H s E e' s'') s'
theorem pd(h:sc.names.lookup x=some .cell):∃c,(cellsFrom n sc.names []).lookup x=some c:=by
 have q:=W.cellsFrom_some sc.names n [] (.inl h);exact Rm.mp q
theorem Ck{CX:wO}{ps:List Str}{cd:Value}{s1:Shared}{E:XK}(S:aV N ps scope)(hd:A.handled=none)(e0:Bp P w K mg base A outer s H)(hl:vs.length=ps.length)(r:bt vs us)(x:InCallC s 0e3 (bindL (envOfC qual scope 0e3 f cd).kindOf (ps.zip us) fun _=>none) (cellsFrom 8e7 scope.names []) (bindC (envOfC qual scope 0e3 f cd).kindOf (ps.zip us) fun _=>none) s1):
  bb (sd CX P w K mg base N qual scope f cd A outer s H E) [] (start N vs) H s1:=by
 have hpl:ps.length<=N.length:=by have:=QU List.length S.pre;rw[Rn]at this;omega
 obtain⟨h1,tk,rfl,hk⟩:=x.done;have noA:∀b:Addr,b∉(sd CX P w K mg base N qual scope f cd A outer s H E).ex:=fun b z=>absurd (show b∈([]:List Addr) from z) 0e6
 refine⟨⟨e0.mod,S.kind,rfl,rfl,Q8 _,fun y z c h1 h2=>?_,fun y hy=>?_,fun y c _ h=>?_,fun _=>hd,Around.frames_deeper e0.frames,.inr ⟨rfl,rfl⟩,fun b z=>absurd z (noA b),e0.bs,e0.bsz,fun b _ _=>noA b,fun b z=>absurd z (noA b),e0.funs,e0.frf⟩,
  rfl,e0.bare,Un.kept hk,⟨_,x.toInCall.ns,fun i y v h1 h2 h3=>?_⟩,fun y c h=>⟨_,x.cell y c h⟩,e0.hok.fresh 8e0,fun y c h=>?_,fun p hp=>absurd (show p∈([]:List 3e5) from hp) 0e6,e0.hok.kept hk,?_⟩
 ·exact name_of_addr x.apart (Rp h1) (Rp h2)
 ·have hy : scope.names.lookup y = some .cell \/ scope.names.lookup y = some .free := hy;rcases hy with hy|hy
  ·exact pd hy
  ·exact absurd rfl (S.nofree _ (Rp hy))
 ·exact QE (x.above y c (Rp h))
 ·have hi:i<vs.length:=by
   unfold start at h2;by_cases hi:i<vs.length
   ·exact hi
   ·rw[Rq 6e3]at h2;rw[Rt]at h2;split at h2 <;> cases h2
  have ha:vs[i]?=some v:=by
   unfold start at h2;rw[Ru 6e3,Rv]at h2;cases e:vs[i]? with
   |none=>rw[e]at h2;cases h2
   |some a=>rw[e]at h2;cases h2;rfl
  obtain⟨u,hu,rv⟩:=r.get ha
  have hp:ps[i]?=some y:=by
   rw[<- S.pre,Rw 0e0];exact h1
  have ndP:ps.Nodup:=by rw[<- S.pre];exact S.nd.sublist (List.take_sublist _ _)
  refine⟨u,rv,?_⟩;rcases S.par y (Rx hp) with k|k
  ·exact .inl ⟨k,qp ndP hp hu k⟩
  ·obtain⟨c,e⟩:=pd (n:=s.heap.objs.size+1) k;refine .inr ⟨.inl k,c,e,?_⟩;have q:=x.cell y c e;rw[qq ndP hp hu (by show scope.names.lookup y≠_;rw[k];decide)]at q;exact q
 ·exact e0.hok.fresh (QE (x.above y c (Rp h)))
 ·unfold start;show _=N.length;rw[Ry,Rz,RA];omega
theorem Jl{CX:wO}{k:Nat}{name:Str}{dV kV doc pm ct oc:Value}{od:Option Addr}{ps:List Str}{sp:Sp}(lk:K.lookup f=some ⟨oc,od,.func 10e8,osl⟩)(hcd:W.codeIn K cdv qual=true)(S:aV N ps scope)(len:∀vs H Q E,sp vs H Q E->vs.length=ps.length)(hbody : ∀ (A : Around) (outer : List Env) (s : Shared) (H : Hp) (vs : List V) (Q : VK) (E : XK), ip k (A.deeper (envOfC qual scope 0e3 f cdv)) -> sp vs H Q E ->
   ∃t,kj (sd CX P w K mg base N qual scope f cdv A outer s H E) body t/\t {nx:=fun _ H'=>Q .non H',rt:=Q} (start N vs) H):
  sf P w K mg base CX (k+1) f 10e8 ps sp:=by
 refine⟨len,fun A outer s H args us vs Q E hr e0 hb r hsp=>?_⟩;have hl:=len _ _ _ _ hsp;have KX:K.In 3e2:=e0.mod.kin.keeps fun b o e=>(e0.bs b o e).1;have lim:s.heap.NoLimit:=e0.mod.nolimit.keeps fun b o e=>(e0.bs b o e).1
 have hkind:∀y∈ps.zip us,scope.names.lookup y.1=some .local\/(scope.names.lookup y.1=some .cell/\((cellsFrom 8e7 scope.names []).lookup y.1).isSome=true):=fun⟨n,v⟩ hy=>by
  rcases S.par n (Rk hy).1 with q|q
  ·exact .inl q
  ·exact .inr ⟨q,W.cellsFrom_some _ _ _ (.inl q)⟩
 refine codeAny_call_function hr.depth (KX _ _ lk) rfl S.co S.gen rfl (W.codeRec_of KX hcd) (hb _ _ _ _ ?_);refine wpAny_newFunctionEnv_cells S.kind hkind fun env he s1 x=>?_;subst he;refine⟨lim.keeps x.toInCall.keep,codeAny_func ?_⟩;obtain⟨t,ht,hq⟩:=hbody A outer s H vs Q E (hr.deeper _) hsp;have I:bb (sd CX P w K mg base N qual scope f cdv A outer s H E) [] (start N vs) H s1:=Ck S hr.hd e0 hl r x;refine QR (ht [] s1 (start N vs) H _ I hq) (fun fl s' hs=>?_) fun e s' hs=>hs
 have fin:∀{B':St}{H':Hp}{v:V}{u:Value},bb (sd CX P w K mg base N qual scope f cdv A outer s H E) [] B' H' s'->cB v u->Q v H'->CE outer P w H s Q u s':=
  fun {B' H' v u} α rv q=>⟨v,H',α.os,α.bare,α.base,α.hok,rv,q⟩
 cases fl with
 |ret u=>
  obtain⟨v,B',H',α,rv,q⟩:=hs;exact fin α rv q
 |next=>
  obtain⟨B',H',α,q⟩:=hs;exact fin (v:=V.non) (u:=Value.none) α rfl q
 |brk=>
  obtain⟨_,_,_,q⟩:=hs;exact False.elim q
 |cont=>
  obtain⟨_,_,_,q⟩:=hs;exact False.elim q
end L2
variable{CX:L2.wO}{sp:L2.Sp}
namespace L2
open PySem PySem.Spec PyProof.Rows
section
variable{X:Cx}{p:Pos}{es:List Expr}{t:TA}{id T:String}{r:List V->Hp->VK->Prop}
def PQ(r:List V->Hp->VK->Prop)(t:TA):TE:=fun B H Q=>t B H fun vs H1=>r vs H1 Q
theorem oR (hc:dX X (.builtin id) r) (hg:Gl X x) (hm:X.mg x=none) (hv:bootBuiltins x=some (.builtin id)) (ha:PA X (e::es) t) (hn:x ≠ "__name__" := by decide) (hdb:(x == ("__debug__" : Str))=false:=by decide)
  (he:starEach (e::es) 2e1=(false,eval e 2e1)::starEach es 2e1:=by rfl) (hpl:(backTo pos 7e6).any 5e4=false:=by rfl):PE X (.Call (.Name x p) (e::es) [] pos) (PQ r t):=by
 intro pins s B H Q I h;refine Ri (nM I hg hm hv ?_ hn hdb);exact PyProof.Rows.callWith_builtin1 (dF (ha pos pins s B H _ I h) fun us s1 ⟨vs,H1,I1,r1,q1⟩=>hc pins s1 B H1 vs us Q I1 r1 q1) he hpl
theorem uL (hc:dX X (.type T) r) (hg:Gl X x) (hm:X.mg x=none) (hv:bootBuiltins x=some (.type T)) (ha:PA X (e::es) t) (hn:x ≠ "__name__" := by decide) (hdb:(x == ("__debug__" : Str))=false:=by decide)
  (he:starEach (e::es) 2e1=(false,eval e 2e1)::starEach es 2e1:=by rfl) (hpl:(backTo pos 7e6).any 5e4=false:=by rfl):PE X (.Call (.Name x p) (e::es) [] pos) (PQ r t):=by
 intro pins s B H Q I h;refine Ri (nM I hg hm hv ?_ hn hdb);exact Q9 (dF (ha pos pins s B H _ I h) fun us s1 ⟨vs,H1,I1,r1,q1⟩=>hc pins s1 B H1 vs us Q I1 r1 q1) he hpl
end
end L2
namespace HT
open PySem PyProof.Rows
section
theorem cat_tup{t:Addr}{vs ws:List Value}(ht:IsTup 3e2 t vs.toArray)(hb:IsTup 3e2 b ws.toArray)(hv:vs≠[])(h1:ws=[]->Q (.ref t) s)(h2:ws≠[]->Q (.ref 0e3) {s with heap:=s.heap.push {cls:=.type "tuple",data:=.seq (vs++ws).toArray}})(hsz:vs.length+ws.length<=sizeLine):wpAny 1e2 A (binaryOp .Add (.ref t) (.ref b)) Q E s:=by
 obtain⟨⟨cls,dd,data,sl⟩,ho,hc,n,hd⟩:=id ht;obtain⟨⟨cls2,dd2,data2,sl2⟩,ho2,hc2,n2,hd2⟩:=id hb;simp only at hc hd hc2 hd2;subst hc hd hc2 hd2;have e:vs.toArray++ws.toArray=(vs++ws).toArray:=by simp
 by_cases hw:ws=[]
 ·exact concat_meets ⟨_,ho,rfl⟩ ⟨_,ho2,rfl⟩ RB seq_tuple_add RC RD (RE _ _)
   (tuple_addW1 t b vs.toArray ws.toArray n n2 dd dd2 sl sl2 (by simpa using hv) (by simp[hw])) ⟨ho,ho2,h1 hw⟩
 ·refine concat_meets ⟨_,ho,rfl⟩ ⟨_,ho2,rfl⟩ RB seq_tuple_add RC RD (RE _ _)
   (tuple_addW2 t b vs.toArray ws.toArray n n2 dd dd2 sl sl2 (by simpa using hv) (by simpa using hw) (by rw[Rf,Rf];exact hsz)) ⟨ho,ho2,?_⟩
  rw[e];exact h2 hw
def sIx(n d:Nat):Option Int->Nat
 |none=>d
 |some v=>if v<0 then (v+(n:Int)).toNat else min v.toNat n
theorem sIx_none(n d:Nat):sIx n d none=d:=rfl
theorem sIx_nat(n d k:Nat):sIx n d (some (k:Int))=min k n:=by
 show (if (k:Int)<0 then ((k:Int)+(n:Int)).toNat else min (k:Int).toNat n)=min k n;rw[Qv 0e0,RF]
theorem Kv(n d:Nat)(hd:d<=n)(o:Option Int):sIx n d o<=n:=by
 cases o with
 |none=>exact hd
 |some v=>
  show (if v<0 then (v+(n:Int)).toNat else min v.toNat n)<=n;by_cases hv:v<0
  ·rw[Qu hv];omega
  ·rw[Qv hv];exact RG _ _
theorem Bc(v:Int)(n d:Nat):(if v<0 then max (v+(n:Int)) 0 else min v (n:Int))=((sIx n d (some v):Nat):Int):=by
 show (if v<0 then max (v+(n:Int)) 0 else min v (n:Int))=(((if v<0 then (v+(n:Int)).toNat else min v.toNat n):Nat):Int);by_cases hv:v<0
 ·dsimp[Qu hv];omega
 ·dsimp[Qv hv];omega
theorem Am(lo hi:Option Int)(n:Nat):Builtin.Slice.sliceAdjust lo hi 1 (n:Int)=(((sIx n 0 lo:Nat):Int),((sIx n n hi:Nat):Int)):=by
 have h1:¬ ((1:Int)<0):=by omega
 unfold Builtin.Slice.sliceAdjust;dsimp[h1,RH];refine Prod.ext ?_ ?_
 ·cases lo with
  |none=>rfl
  |some v=>exact Bc v n 0
 ·cases hi with
  |none=>rfl
  |some v=>exact Bc v n n
theorem zP(i j:Nat):Builtin.Slice.slicePlaces (i:Int) (j:Int) 1=j-i:=by
 unfold Builtin.Slice.slicePlaces;have h1:(1:Int)>0:=by omega
 dsimp[h1,RI,Int.ediv_one];split <;> omega
theorem sY{v:Value}{o:Option Int}{Q:Option Int->Shared->Prop}(p:IsPart v o)(h:Q o s):wpAny 1e2 A (Builtin.Slice.slicePartIndex v) Q E s:=by
 cases p with
 |none=>exact RJ h
 |int i t=>exact slicePart_int h
theorem sliceApplied_gen{vu:Value}{lo hi:Option Int}{Q:Int×Int×Nat->Shared->Prop}(hs:s.heap.IsSliceOf sl vl vu .none)(pl:IsPart vl lo)(pu:IsPart vu hi)(h:Q (((sIx n 0 lo:Nat):Int),1,sIx n n hi-sIx n 0 lo) s):wpAny 1e2 A (Builtin.Slice.sliceApplied (.ref sl) (pure (n:Int))) Q E s:=by
 obtain⟨os,hos,hcs,hds⟩:=id hs;unfold Builtin.Slice.sliceApplied Builtin.Slice.sliceFields;refine QW (QW (RK hos hds (x:=vl) rfl (QW (RK hos hds (x:=vu) rfl (QW (RK hos hds (x:=.none) rfl (Q3 ?_)))))));refine QW (RJ ?_);show wpAny _ _ (if ((1:Int) == 0)=true then _ else _) _ _ s;rw[Qv 0e4];refine QW (sY pl (QW (sY pu (QW (Q3 ?_)))));show wpAny _ _ (match Builtin.Slice.sliceAdjust lo hi 1 (n:Int) with|(lo,hi)=>pure (lo,(1:Int),Builtin.Slice.slicePlaces lo hi 1)) _ _ s;rw[Am lo hi n];show wpAny _ _ (pure (((sIx n 0 lo:Nat):Int),(1:Int),Builtin.Slice.slicePlaces ((sIx n 0 lo:Nat):Int) ((sIx n n hi:Nat):Int) 1)) _ _ s;rw[zP];exact Q3 h
theorem ES(xs:Array Value)(i k:Nat):((List.range k).filterMap fun(m:Nat)=>xs[((i:Int)+(m:Int)*1).toNat]?).toArray=((xs.toList.drop i).take k).toArray:=by
 have e:(fun(m:Nat)=>xs[((i:Int)+(m:Int)*1).toNat]?)=fun m=>xs[i+m]?:=by
  funext m;have:((i:Int)+(m:Int)*1).toNat=i+m:=by omega
  rw[this]
 rw[e];have:=pick_run xs i k;rw[RL]at this;have e2:((fun x=>xs[x]?) ∘ fun x=>i+x)=fun m=>xs[i+m]?:=rfl;rw[e2]at this;rw[this]
theorem getItem_tuple_cut{t:Addr}{items:Array Value}{vu:Value}{lo hi:Option Int}(ht:IsTup 3e2 t items)(hs:s.heap.IsSliceOf sl vl vu .none)(pl:IsPart vl lo)(pu:IsPart vu hi)(hw:¬ (sIx 4e0 0 lo=0/\sIx 4e0 4e0 hi=4e0))(h:Q (.ref 0e3) {s with heap:=s.heap.push {cls:=.type "tuple",data:=.seq ((items.toList.drop (sIx 4e0 0 lo)).take (sIx 4e0 4e0 hi-sIx 4e0 0 lo)).toArray}})(hsz:items.size<=sizeLine):wpAny 1e2 A (getItem (.ref t) (.ref sl)) Q E s:=by
 have htake:sizeOk (.seq ((items.toList.drop (sIx 4e0 0 lo)).take (sIx 4e0 4e0 hi-sIx 4e0 0 lo)).toArray):=by
  show ((items.toList.drop (sIx 4e0 0 lo)).take (sIx 4e0 4e0 hi-sIx 4e0 0 lo)).toArray.size<=sizeLine;rw[Rf,Rn,RM,QT];omega
 have hj:sIx 4e0 4e0 hi<=items.size:=Kv _ _ 8e0 hi;obtain⟨os,hos,hcs,hds⟩:=id hs;have hTs:s.TypeIs (.ref sl) "slice" := ⟨os,hos,hcs⟩;unfold getItem
 try with_reducible refine QX ?_
 first|refine QW (Q3 ?_)|skip
 refine QW (RN ht.typeIs 0e4 ?_)
 refine QW (RO (name:=Str.ofString "__getitem__") ht.typeIs RP
  (RQ RP ht.typeIs RR ?_ (RT _ _)))
 show wpAny _ _ (Builtin.Tuple.tupleItemsOf (.ref t) >>= _) _ _ s;refine QW (tupleItemsOf_ ht ?_);refine QW (RU hTs ?_);rw[Qu 0e4];refine QW (sliceApplied_gen hs pl pu ?_)
 have hno:¬ ((((sIx 4e0 0 lo:Nat):Int) == 0&&(1:Int) == 1&&(sIx 4e0 4e0 hi-sIx 4e0 0 lo) == items.size)=true):=by
  intro q;rw[RW,RW]at q;have q1:((sIx 4e0 0 lo:Nat):Int)=0:=eq_of_beq q.1.1;have q2:sIx 4e0 4e0 hi-sIx 4e0 0 lo=items.size:=eq_of_beq q.2;exact hw 7e9
 show wpAny _ _ (if (((sIx 4e0 0 lo:Nat):Int) == 0&&(1:Int) == 1&&(sIx 4e0 4e0 hi-sIx 4e0 0 lo) == items.size)=true then _ else _) _ _ s;rw[Qv hno,ES]
 first
  |exact QW (m:=Builtin.Tuple.tupleExact _) (RX 12e7 htake)
  |exact QW (m:=Builtin.Tuple.tupleExact _) (RX (QW (Q3 12e7)) htake)
  |exact QW (QW (m:=Builtin.Tuple.tupleExact _) (RX (Q3 12e7) htake))
  |exact QW (QW (m:=Builtin.Tuple.tupleExact _) (RX 12e7 htake))
end
end HT
namespace L2
open PySem PySem.Spec PyProof.Rows
abbrev TO:=St->Hp->(Option Int->Hp->Prop)->Prop
def PO(X:Cx)(e:Option Expr)(t:TO):Prop:=
 ∀(pins:List 3e5)(s:Shared)(B:St)(H:Hp)(Q:Option Int->Hp->Prop),bb X pins B H s->t B H Q ->
  wpAny 1e1 X.A (evalPart e 2e1) (fun u s'=>∃o H',bb X pins B H' s'/\IsPart u o/\Q o H') X.xe s
def Gy:TO:=fun _ H Q=>Q none H
def NK(t:TE):TO:=fun B H Q=>t B H fun x H1=>∃i,x=.int i/\Q (some i) H1
theorem jL:∀{us:List Value},bt 8e1 us->IntsAre us ns:=by
 induction ns with
 |nil=>intro us r;rw[RY]at r;cases r;exact .nil
 |cons n ns ih=>
  intro us r;rw[RZ]at r;cases r with
  |cons r1 r2=>
   obtain⟨t,e⟩:=r1;subst e;exact .cons n t (ih r2)
section
variable{X:Cx}{lo hi:Option Expr}{tl th:TO}{p2:Pos}
theorem Hi:PO X none Gy:=by
 intro pins s B H Q I h;rw[evalPart_none];exact Q3 ⟨none,H,I,.none,h⟩
theorem Hh(h:PE X e te):PO X (some e) (NK te):=by
 intro pins s B H Q I hw;rw[evalPart_some];refine dF (h pins s B H _ I hw) fun u s1 ⟨x,H1,I1,r1,q1⟩=>?_;obtain⟨i,rfl,q⟩:=q1;obtain⟨t,rfl⟩:=r1;exact⟨some i,H1,I1,.int i t,q⟩
def FZ(X:Cx)(r:V->Option Int->Option Int->Hp->VK->Prop):Prop:=
 ∀(pins:List 3e5)(s:Shared)(B:St)(H:Hp)(x:V)(v vl vu:Value)(lo hi:Option Int)(sl:Addr)(Q:VK),bb X pins B H s->cB x v->s.heap.IsSliceOf sl vl vu .none->IsPart vl lo->IsPart vu hi->r x lo hi H Q ->
  ∃T id,typeLookup (.type T) "__getitem__" = pure (some (.builtin id))/\s.TypeIs v T/\wpAny 1e1 X.A (getItem v (.ref sl)) 10e6 X.xe s
theorem FZ.or{r r':V->Option Int->Option Int->Hp->VK->Prop}(h:FZ X r)(h':FZ X r'):FZ X (fun x lo hi H Q=>r x lo hi H Q\/r' x lo hi H Q):=by
 intro pins s B H x v vl vu lo hi sl Q I rx hs pl pu q;rcases q with q|q
 ·exact h pins s B H x v vl vu lo hi sl Q I rx hs pl pu q
 ·exact h' pins s B H x v vl vu lo hi sl Q I rx hs pl pu q
def Qe(r:V->Option Int->Option Int->Hp->VK->Prop)(te:TE)(tl th:TO):TE:=fun B H Q=>te B H fun x H1=>tl B H1 fun l H2=>th B H2 fun u H3=>r x l u H3 Q
theorem EU{r:V->Option Int->Option Int->Hp->VK->Prop}(hr:FZ X r)(he:PE X e te)(hl:PO X lo tl)(hu:PO X hi th):PE X (.Subscript e (.Slice lo hi none p2) pos) (Qe r te tl th):=by
 intro pins s B H Q I h;refine Subscript_ (dF (he pins s B H _ I h) fun v s1 ⟨x,H1,I1,r1,q1⟩=>?_);refine wpAny_Slice (dF (hl pins s1 B H1 _ I1 q1) fun vl s2 ⟨l,H2,I2,pl,q2⟩=>dF (hu pins s2 B H2 _ I2 q2) fun vu s3 ⟨u,H3,I3,pu,q3⟩=>?_);rw[evalPart_none];refine Q3 ?_;have I4:bb X pins B H3 {s3 with heap:=s3.heap.push {cls:=.type "slice",data:=.fields #[vl,vu,.none]}}:=I3.kept (t':=s3.toks) fun b ob q=>Q6 _ q;obtain⟨T,id,hT,ht,hg⟩:=hr pins {s3 with heap:=s3.heap.push {cls:=.type "slice",data:=.fields #[vl,vu,.none]}} B H3 x v vl vu l u s3.heap.objs.size Q I4 r1 (R0 ..) pl pu q3;show wpAny 1e1 X.A (subscriptTail e (.Slice lo hi none p2) v (.ref s3.heap.objs.size)) 10e6 X.xe {s3 with heap:=s3.heap.push {cls:=.type "slice",data:=.fields #[vl,vu,.none]}};exact tail_any (ops:=[.ref s3.heap.objs.size,v]) ht hT hg (by with_unfolding_all rfl)
def wY(xs:List V)(lo hi:Option Int):List V:=(xs.drop (HT.sIx 3e9 0 lo)).take (HT.sIx 3e9 3e9 hi-HT.sIx 3e9 0 lo)
theorem qM(xs:List V)(lo hi:Option Int):(wY xs lo hi).length<=xs.length:=by
 unfold wY;rw[Rn,RM];omega
def MK(K:W.Frag):V->Option Int->Option Int->Hp->VK->Prop:=fun x lo hi H Q=>∃a xs,x=.ref a/\gh K H a xs /\
 ¬ (HT.sIx 3e9 0 lo=0/\HT.sIx 3e9 3e9 hi=3e9)/\∀p,H p=none->Q (.ref p) (cV H p (.tup (wY xs lo hi)))
theorem Kf:FZ X (MK X.K):=by
 intro pins s B H x v vl vu lo hi sl Q I rx hs pl pu h;obtain⟨a,xs,rfl,hx,hw,q⟩:=h;cases rx;obtain⟨its,r,ht,hz⟩:=I.tuple hx;have hlen:its.toArray.size=xs.length:=by rw[Rf];exact r.length.symm
 refine⟨"tuple",_,RP.lookup,ht.typeIs,?_⟩;refine HT.getItem_tuple_cut ht hs pl pu (by rw[hlen];exact hw) ?_ (by rw[hlen];exact hz);rw[hlen];refine⟨.ref 0e3,_,I.laid (t':=s.toks) (o:=.tup (wY xs lo hi)) (fun b ob q=>Q6 _ q) 8e0 ?_,rfl,q _ (I.hok.fresh 8e0)⟩;exact⟨QD (qM xs lo hi) hz,_,(r.drop (HT.sIx 3e9 0 lo)).take (HT.sIx 3e9 3e9 hi-HT.sIx 3e9 0 lo),R6 _ _⟩
noncomputable def N8(K:W.Frag):R2:=fun x y H Q=>∃a b xs ys,x=.ref a/\y=.ref b/\gh K H a xs/\gh K H b ys/\xs≠[]/\xs.length+ys.length<=sizeLine /\
 (ys=[]->Q (.ref a) H)/\(ys≠[]->∀p,H p=none->Q (.ref p) (cV H p (.tup (xs++ys))))
theorem bt.nil_iff{xs:List V}(r:bt xs us):us=[]↔xs=[]:=by
 cases r with
 |nil=>simp
 |cons _ _=>simp
theorem HA:jQ X (binaryOp .Add) (N8 X.K):=by
 intro pins s B H x y v u Q I rx ry h;obtain⟨a,b,xs,ys,rfl,rfl,ha,hb,hx,hz,q1,q2⟩:=h;cases rx;cases ry;obtain⟨its,r1,p1,_⟩:=I.tuple ha;obtain⟨its2,r2,p2,_⟩:=I.tuple hb;refine HT.cat_tup p1 p2 (fun z=>hx (r1.nil_iff.mp z)) (fun z=>⟨.ref a,H,I,rfl,q1 (r2.nil_iff.mp z)⟩) (fun z=>?_) (by rw[<- r1.length,<- r2.length];exact hz);refine⟨.ref 0e3,_,I.laid (t':=s.toks) (o:=.tup (xs++ys)) (fun b ob q=>Q6 _ q) 8e0 ?_,rfl,q2 (fun w=>z (r2.nil_iff.mpr w)) _ (I.hok.fresh 8e0)⟩;exact⟨by rw[Ry];exact hz,_,r1.append r2,R6 _ _⟩
end
def wM(n:Nat)(i:Int):Option Nat:=if 0<=i then (if i<n then some i.toNat else none) else if -(n:Int)<=i then some (i+n).toNat else none
def atI{J:Type}(xs:List J)(i:Int):Option J:=(wM 3e9 i).bind fun j=>xs[j]?
theorem vU{i:Int}(h:wM n i=some j):seqIndex? i n=some j/\j<n/\-(n:Int)<=i/\i<n:=by
 unfold wM at h;by_cases h0:0<=i
 ·rw [Qu h0] at h;by_cases h1:i<n
  ·rw[Qu h1]at h;have e:i.toNat=j:=Qp h;exact⟨by rw[seqIndex_of h0 h1,e],by omega,by omega,h1⟩
  ·rw[Qv h1]at h;cases h
 ·rw [Qv h0] at h;by_cases h1:-(n:Int)<=i
  ·rw[Qu h1]at h;have e:(i+n).toNat=j:=Qp h;exact⟨by rw[seqIndex_neg 0e0 h1,e],by omega,h1,by omega⟩
  ·rw[Qv h1]at h;cases h
theorem vY{J:Type}{xs:List J}{i:Int}{v:J}(h:atI xs i=some v):∃j,seqIndex? i 3e9=some j/\xs[j]?=some v/\j<xs.length/\-(xs.length:Int)<=i/\i<xs.length:=by
 unfold atI at h;cases e:wM 3e9 i with
 |none=>rw[e]at h;cases h
 |some j=>
  rw[e]at h;obtain⟨h1,h2,h3,h4⟩:=vU e;exact⟨j,h1,h,h2,h3,h4⟩
theorem k9{J:Type}{xs:List J}{v:J}(h:xs[j]?=some v):atI xs (j:Int)=some v:=by
 have hj:j<xs.length:=(QM.mp h).1
 have e:wM 3e9 (j:Int)=some j:=by
  unfold wM;rw[Qu 0e0,Qu 0e0];simp
 unfold atI;rw[e];exact h
def vZ(b:Expr):Prop:=∀o i,subscripted b false o i=operate [o,i] (getItem o i)
def F3(X:Cx)(r:R2):Prop:=
 ∀(value slice:Expr)(pins:List 3e5)(s:Shared)(B:St)(H:Hp)(x y:V)(v u:Value)(Q:VK),bb X pins B H s->cB x v->cB y u->r x y H Q ->
  subscripted slice false v u=operate [v,u] (getItem v u)->wpAny 1e1 X.A (subscriptTail value slice v u) 10e6 X.xe s
def PZ(X:Cx)(id:String)(r:V->List V->Hp->VK->Prop):Prop:=
 ∀(pins:List 3e5)(s:Shared)(B:St)(H:Hp)(x:V)(xs:List V)(v:Value)(us:List Value)(Q:VK),bb X pins B H s->cB x v->bt xs us->r x xs H Q ->
  wpAny 1e1 X.A (call (.builtin id) (v::us)) 10e6 X.xe s
section
variable{X:Cx}{a b:Expr}{ta tb:TE}
theorem F3.or{r r':R2}(h:F3 X r)(h':F3 X r'):F3 X (fun x y H Q=>r x y H Q\/r' x y H Q):=by
 intro value slice pins s B H x y v u Q I rx ry q hs;rcases q with q|q
 ·exact h value slice pins s B H x y v u Q I rx ry q hs
 ·exact h' value slice pins s B H x y v u Q I rx ry q hs
theorem Od{r:R2}(hr:F3 X r)(ha:PE X a ta)(hb:PE X b tb)(hs:vZ b):PE X (.Subscript a b pos) (OC r ta tb):=by
 intro pins s B H Q I h;exact Subscript_ (JB ha hb I h fun v u s2 x y H2 I2 rx ry q=>hr a b pins s2 B H2 x y v u Q I2 rx ry q (hs _ _))
def MR(K:W.Frag):R2:=fun x y H Q=>∃p xs i v,x=.ref p/\y=.int i/\gP K H p xs/\atI xs i=some v/\Q v H
def MP(K:W.Frag):R2:=fun x y H Q=>∃p xs i v,x=.ref p/\y=.int i/\gh K H p xs/\atI xs i=some v/\Q v H
def MQ:R2:=fun x y H Q=>∃z i c,x=.str z/\y=.int i/\z.length<=sizeLine/\atI z.cps.toList i=some c/\Q (.str ⟨#[c]⟩) H
theorem Ik:F3 X (MR X.K):=by
 intro value slice pins s B H x y v u Q I rx ry h hs;obtain⟨p,xs,i,z,rfl,rfl,hq,he,q⟩:=h;cases rx;obtain⟨t,rfl⟩:=ry;obtain⟨its,r,pl,hz⟩:=I.list hq;obtain⟨j,h1,h2,h3,h4,h5⟩:=vY he;obtain⟨w,ew,rw'⟩:=r.get h2;have hl:=r.length;have hn:=pV;have fin:EP X pins B Q w s:=⟨z,H,I,rw',q⟩;by_cases h0:0<=i
 ·have hj:i.toNat=j:=by
   rw[seqIndex_of h0 h5]at h1;exact Qp h1
  exact item_listR pl.isList h0 0e0 (by rw[hj];simpa using ew) fin hs
 ·have hj:(i+(its.toArray.size:Int)).toNat=j:=by
   rw[seqIndex_neg 0e0 h4]at h1;rw[Rf,<- hl];exact Qp h1
  exact subscriptTail_builtinR (x:=w) pl.isList.typeIs R7.lookup
   (wpAny_getItem_list_neg (Q:=fun r s'=>r=w/\EP X pins B Q r s') pl.isList 0e0 (by rw[Rf] <;> omega) 0e0 (by rw[hj];simpa using ew) ⟨rfl,fin⟩) hs
theorem LN:F3 X (MP X.K):=by
 intro value slice pins s B H x y v u Q I rx ry h hs;obtain⟨p,xs,i,z,rfl,rfl,hq,he,q⟩:=h;cases rx;obtain⟨t,rfl⟩:=ry;obtain⟨its,r,pl,hz⟩:=I.tuple hq;obtain⟨j,h1,h2,h3,h4,h5⟩:=vY he;obtain⟨w,ew,rw'⟩:=r.get h2;have hl:=r.length;have hn:=pV;have fin:EP X pins B Q w s:=⟨z,H,I,rw',q⟩
 exact subscriptTail_builtinR (x:=w) pl.typeIs slot_tuple_getitem.lookup
  (getItem_tuple (j:=j) (Q:=fun r s'=>r=w/\EP X pins B Q r s') pl 0e0 0e0 (by rw[Rf,<- hl];exact h1) (by simpa using ew) ⟨rfl,fin⟩) hs
theorem LO:F3 X MQ:=by
 intro value slice pins s B H x y v u Q I rx ry h hs;obtain⟨z,i,c,rfl,rfl,hz,he,q⟩:=h;obtain⟨t,rfl⟩:=rx;obtain⟨t',rfl⟩:=ry;obtain⟨j,h1,h2,h3,h4,h5⟩:=vY he;have hl:z.cps.toList.length=z.length:=by simp[Str.length]
 rw[hl]at h1 h4 h5;have hn:=pV
 exact tail_any (typeIs_str s z t) slot_str_getitem.lookup (getItem_str (c:=c) (by
  have e1:decide (i < -(2^63:Int))=false:=Qr 0e0;have e2:decide (i ≥ 2^63)=false:=Qr 0e0
  rw[e1,e2,Bool.or_false]) (by rw[h1];simpa using h2) ⟨.str ⟨#[c]⟩,H,I.tok _,⟨_,rfl⟩,q⟩) hs
def PU(K:W.Frag):R2:=fun x y H Q=>MR K x y H Q\/MP K x y H Q\/MQ x y H Q
theorem LP:F3 X (PU X.K):=Ik.or (LN.or LO)
theorem zY (its:List Value) (n j:Nat) (u:Value):Obj.mapSeq (·.setIfInBounds j u) {cls:=.type "list",data:=.seq 2e7 n}={cls:=.type "list",data:=.seq (its.set j u).toArray n}:=by
 simp[Obj.mapSeq]
theorem bb.lst{p:Addr}{xs:List V}(I:bb X pins B H s)(h:H p=some 2e9):
  ∃(its:List Value) (n:Nat),bt xs its/\s.heap.get? p=some {cls:=.type "list",data:=.seq 2e7 n}/\xs.length<=sizeLine:=by
 obtain⟨z,its,n,r,e⟩:=I.hok p _ h;exact⟨its,n,r,e,z⟩
theorem bb.lstUpd{p:Addr}{xs ys:List V}{its':List Value}{n':Nat}{f:Obj->Obj}(I:bb X pins B H s)(h:H p=some 2e9)(ho:s.heap.get? p=some {cls:=.type "list",data:=.seq 2e7 n})(hf:f {cls:=.type "list",data:=.seq 2e7 n}={cls:=.type "list",data:=.seq its'.toArray n'})(r:bt ys its')(hz:ys.length<=sizeLine)(t:Nat):
  bb X pins B (cV H p (.lst ys)) {s with heap:=s.heap.update p f,toks:=t}:=by
 have e:(s.heap.update p f).get? p=some {cls:=.type "list",data:=.seq its'.toArray n'}:=by
  rw[R8 f ho (by rw[hf] <;> rfl),hf]
 refine I.write (x:=p) (e:=p) (by rw[h];trivial) 11e7 (fun b u hb q=>(Heap.get?_update_other _ _ (QJ hb)).trans q) ⟨_,e⟩ ?_;exact⟨hz,its',n',r,e⟩
def IW:V->V->V->Hp->(Hp->Prop)->Prop:=fun o i v H Q=>∃p xs k j,o=.ref p/\i=.int k/\H p=some 2e9/\wM 3e9 k=some j/\Q (cV H p (.lst (xs.set j v)))
theorem Es:Nk X IW:=by
 intro pins s B H o i v ov iv u Q I ro ri rv h;obtain⟨p,xs,k,j,rfl,rfl,hp,hj,q⟩:=h;cases ro;obtain⟨t,rfl⟩:=ri;obtain⟨its,n,r,ho,hz⟩:=I.lst hp;obtain⟨h1,h2,h3,h4⟩:=vU hj;have hl:=r.length;have hn:=pV
 have I':bb X pins B (cV H p (.lst (xs.set j v))) {s with heap:=s.heap.update p (Obj.mapSeq (·.setIfInBounds j u))}:=
  I.lstUpd hp ho (zY its n j u) (r.set rv j) (by rw[R9];exact hz) s.toks
 by_cases h0:0<=k
 ·have hk:k.toNat=j:=by
   rw[seqIndex_of h0 h4]at h1;exact Qp h1
  exact W.ki_setAt ho h0 0e0 (by rw[Rf,<- hl];exact h4) (by rw[hk];exact⟨_,I',q⟩)
 ·have hk:(k+(its.toArray.size:Int)).toNat=j:=by
   rw[seqIndex_neg 0e0 h3]at h1;rw[Rf,<- hl];exact Qp h1
  exact W.ki_setBack ho 0e0 (by rw[Rf,<- hl];exact h3) 0e0 (by rw[hk];exact⟨_,I',q⟩)
theorem v9(lo hi:Option Int)(n:Nat):(sliceBounds lo hi none n).1=((HT.sIx n 0 lo:Nat):Int)/\(sliceBounds lo hi none n).2.1=((HT.sIx n n hi:Nat):Int)/\(sliceBounds lo hi none n).2.2=1:=by
 refine⟨?_,?_,rfl⟩
 ·cases lo with
  |none=>simp[sliceBounds,HT.sIx]
  |some i=>
   dsimp[sliceBounds,HT.sIx,Option.getD_none,show (1:Int)>0 by decide,RI];by_cases h:i<0
   ·dsimp[h,RI] <;> omega
   ·dsimp[h,RH] <;> omega
 ·cases hi with
  |none=>simp[sliceBounds,HT.sIx]
  |some i=>
   dsimp[sliceBounds,HT.sIx,Option.getD_none,show (1:Int)>0 by decide,RI];by_cases h:i<0
   ·dsimp[h,RI] <;> omega
   ·dsimp[h,RH] <;> omega
theorem ua(its:List Value)(lo hi:Option Int):slicePick 2e7 lo hi none=((its.drop (HT.sIx its.length 0 lo)).take (HT.sIx its.length its.length hi-HT.sIx its.length 0 lo)).toArray:=by
 obtain⟨h1,h2,h3⟩:=v9 lo hi its.toArray.size;unfold slicePick;rw[h1,h2,h3];dsimp[sliceRange_one,pick_run,Rf] <;> rfl
def ML(K:W.Frag):V->Option Int->Option Int->Hp->VK->Prop:=fun x lo hi H Q=>∃a xs,x=.ref a/\gP K H a xs/\∀p,H p=none->Q (.ref p) (cV H p (.lst (wY xs lo hi)))
theorem GO:FZ X (ML X.K):=by
 intro pins s B H x v vl vu lo hi sl Q I rx hs pl pu h;obtain⟨a,xs,rfl,hx,q⟩:=h;cases rx;obtain⟨its,r,ht,hz⟩:=I.list hx;have hlen:=r.length;refine⟨"list",_,R7.lookup,ht.isList.typeIs,?_⟩;refine wpAny_getItem_list_slice ht.isList hs pl pu .none 0e6 ?_ (by rw[Rf] <;> omega);rw[ua,<- hlen];refine⟨.ref 0e3,_,I.laid (t':=s.toks) (o:=.lst (wY xs lo hi)) (fun b ob q=>Q6 _ q) 8e0 ?_,rfl,q _ (I.hok.fresh 8e0)⟩;exact⟨QD (qM xs lo hi) hz,_,0,(r.drop (HT.sIx 3e9 0 lo)).take (HT.sIx 3e9 3e9 hi-HT.sIx 3e9 0 lo),Q7 _ rfl⟩
def lW:V->Bool
 |.non=>true
 |.bl _=>true
 |.int _=>true
 |.str _=>true
 |_=>false
noncomputable def Ap:V->V->Bool
 |.non,.non=>true
 |.bl a,.bl b=>a == b
 |.bl a,.int b=>(if a then 1 else 0) == b
 |.int a,.bl b=>a == (if b then 1 else 0)
 |.int a,.int b=>a == b
 |.str a,.str b=>a == b
 |_,_=>false
theorem L9{y x:V}{v:Value}(ry:cB y u)(rx:cB x v)(fy:lW y=true)(fx:lW x=true):SeqAt.EqAt A s u v (Ap y x):=by
 cases y with
 |non=>
  cases ry;cases x with
  |non=>cases rx;exact SeqAt.EqAt.same _
  |bl b=>cases rx;exact SeqAt.EqAt.none_bool b
  |int b=>obtain⟨t,rfl⟩:=rx;exact SeqAt.EqAt.none_int b t
  |str b=>obtain⟨t,rfl⟩:=rx;exact SeqAt.EqAt.none_str b t
  |_=>exact absurd (show false=true from fx) Q0
 |bl a=>
  cases ry;cases x with
  |non=>cases rx;exact SeqAt.EqAt.bool_none a
  |bl b=>cases rx;exact SeqAt.EqAt.bool_bool a b
  |int b=>obtain⟨t,rfl⟩:=rx;exact SeqAt.EqAt.bool_int a b t
  |str b=>obtain⟨t,rfl⟩:=rx;exact SeqAt.EqAt.bool_str a b t
  |_=>exact absurd (show false=true from fx) Q0
 |int a=>
  obtain⟨t',rfl⟩:=ry;cases x with
  |non=>cases rx;exact SeqAt.EqAt.int_none a t'
  |bl b=>cases rx;exact SeqAt.EqAt.int_bool a t' b
  |int b=>obtain⟨t,rfl⟩:=rx;exact SeqAt.EqAt.int_int a t' b t
  |str b=>obtain⟨t,rfl⟩:=rx;exact SeqAt.EqAt.int_str a t' b t
  |_=>exact absurd (show false=true from fx) Q0
 |str a=>
  obtain⟨t',rfl⟩:=ry;cases x with
  |non=>cases rx;exact SeqAt.EqAt.str_none a t'
  |bl b=>cases rx;exact SeqAt.EqAt.str_bool a t' b
  |int b=>obtain⟨t,rfl⟩:=rx;exact SeqAt.EqAt.str_int a t' b t
  |str b=>obtain⟨t,rfl⟩:=rx;exact SeqAt.EqAt.str_str a t' b t
  |_=>exact absurd (show false=true from fx) Q0
 |_=>exact absurd (show false=true from fy) Q0
def Js(x:V)(u:Value):Bool:=match u with
 |.none=>Ap .non x
 |.bool b=>Ap (.bl b) x
 |.int i _=>Ap (.int i) x
 |.str z _=>Ap (.str z) x
 |_=>false
theorem zw{x y:V}(r:cB y u)(f:lW y=true):Js x u=Ap y x:=by
 cases y with
 |non=>cases r;rfl
 |bl b=>cases r;rfl
 |int i=>obtain⟨t,rfl⟩:=r;rfl
 |str z=>obtain⟨t,rfl⟩:=r;rfl
 |_=>exact absurd (show false=true from f) Q0
theorem sL{A:Around}{s:Shared}{x:V}{v:Value}(rx:cB x v)(fx:lW x=true):∀{xs:List V}{us:List Value},bt xs us->xs.all lW=true->∀u∈us,SeqAt.EqAt A s u v (Js x u)
 |_,_,.nil,_=>fun u hu=>by cases hu
 |y::xs,u::us,.cons r t,f=>fun u' hu=>by
  rw[Sa,RW]at f;rcases QI.mp hu with rfl|hu
  ·rw[zw r f.1];exact L9 r rx f.1 fx
  ·exact sL rx fx t f.2 u' hu
theorem dX.or{f:Value}{r r':List V->Hp->VK->Prop}(h:dX X f r)(h':dX X f r'):dX X f (fun xs H Q=>r xs H Q\/r' xs H Q):=by
 intro pins s B H xs us Q I rs q;rcases q with q|q
 ·exact h pins s B H xs us Q I rs q
 ·exact h' pins s B H xs us Q I rs q
theorem wJ:dX X (.type "list") (fun xs H Q=>∃p ys,xs=[.ref p]/\(gP X.K H p ys\/gh X.K H p ys)/\∀l,H l=none->Q (.ref l) (cV H l (.lst ys))):=by
 intro pins s B H xs us Q I r h;obtain⟨p,ys,rfl,hq,q⟩:=h;obtain⟨u,rfl,rx⟩:=gQ r;cases rx
 have fin:∀(its:List Value),bt ys its->ys.length<=sizeLine->∀(h':Heap)(c':Nat),(∀b o',s.heap.get? b=some o'->h'.get? b=some o') ->
   h'.get? 0e3=some {cls:=.type "list",dict:=none,data:=.seq 2e7 c',slots:=#[]}->EP X pins B Q (.ref 0e3) {s with heap:=h'}:=fun its r' hz h' c' kp e=>
  ⟨.ref 0e3,_,I.laid (t':=s.toks) kp 8e0 (show fS X.prog X.w _ h' _ (.lst ys) from⟨hz,its,c',r',e⟩),rfl,q _ (I.hok.fresh 8e0)⟩
 rcases hq with hq|hq
 ·obtain⟨its,r',pl,hz⟩:=I.list hq;have hlen:=r'.length;obtain⟨o,ho,hc,n,hd⟩:=pl.isList;exact call_list_seq p 11e7 ho hc hd (fun h' c' kp e=>fin its r' hz h' c' kp e) (by dsimp[Rf] <;> omega)
 ·obtain⟨its,r',pl,hz⟩:=I.tuple hq;have hlen:=r'.length;obtain⟨o,ho,hc,n,hd⟩:=pl;exact call_list_seq p (.inr rfl) ho hc hd (fun h' c' kp e=>fin its r' hz h' c' kp e) (by dsimp[Rf] <;> omega)
theorem um:dX X (.type "tuple") (fun xs H Q=>∃p ys,xs=[.ref p]/\((gP X.K H p ys/\∀l,H l=none->Q (.ref l) (cV H l (.tup ys)))\/(gh X.K H p ys/\Q (.ref p) H))):=by
 intro pins s B H xs us Q I r h;obtain⟨p,ys,rfl,h⟩:=h;obtain⟨u,rfl,rx⟩:=gQ r;cases rx;rcases h with⟨hq,q⟩|⟨hq,q⟩
 ·obtain ⟨its, r', pl, hz⟩ := I.list hq;have hlen:=r'.length;refine call_tuple_list pl.isList (fun h' kp=>?_) (by dsimp[Rf] <;> omega);have I1:bb X pins B H {s with heap:=h'}:=I.kept (t':=s.toks) kp
  have I2:bb X pins B (cV H h'.objs.size (.tup ys)) {s with heap:=h'.push {cls:=.type "tuple",data:=.seq 2e7}}:=
   I1.laid (t':=s.toks) (fun b o e=>Q6 _ e) 8e0 (show fS X.prog X.w _ _ _ (.tup ys) from⟨hz,its,r',R6 _ _⟩)
  exact⟨.ref h'.objs.size,_,I2,rfl,q _ (I1.hok.fresh 8e0)⟩
 ·obtain⟨its,r',pl,hz⟩:=I.tuple hq;exact call_tuple_same pl ⟨.ref p,H,I,rfl,q⟩
def OR(K:W.Frag)(T:String)(x:V)(H:Hp):Prop:=match x with
 |.str _=>T = "str"
 |.int _=>T = "int"
 |.ref p=>(T = "list" /\ ∃xs,gP K H p xs)\/(T = "tuple" /\ ∃o,K.lookup p=some o/\o.cls=.type "tuple" /\ o.dict=none) \/
   (T = "dict" /\ ((∃kvs,H p=some (.dK kvs))\/∃kvs,H p=some (.dT kvs)))\/(T = "set" /\ ∃S n,H p=some (.set S n))
 |_=>False
theorem JQ{T:String}{x:V}{v:Value}(I:bb X pins B H s)(r:cB x v)(ty:OR X.K T x H):
  s.TypeIs v T/\∀a,v=.ref a->∃ob,s.heap.get? a=some ob/\ob.dict=none:=by
 cases x with
 |str z=>
  obtain⟨t,rfl⟩:=r;cases (show T = "str" from ty);exact⟨typeIs_str s z t,fun _ e=>nomatch e⟩
 |int i=>
  obtain⟨t,rfl⟩:=r;cases (show T = "int" from ty);exact⟨Sb s i t,fun _ e=>nomatch e⟩
 |ref p=>
  cases r;rcases ty with⟨rfl,xs,hq⟩|⟨rfl,o,hk,hc,hd⟩|⟨rfl,hk⟩|⟨rfl,S,n,hk⟩
  ·obtain⟨its,_,pl,_⟩:=I.list hq;refine⟨pl.isList.typeIs,fun a e=>?_⟩;cases e;obtain⟨o,n,e,c,hd,_⟩:=pl;exact⟨o,e,hd⟩
  ·refine⟨⟨o,I.kIn p o hk,hc⟩,fun a e=>?_⟩;cases e;exact⟨o,I.kIn _ o hk,hd⟩
  ·have z:∃o,s.heap.get? p=some o/\o.ExactDict:=by
    rcases hk with⟨kvs,hk⟩|⟨kvs,hk⟩
    ·obtain⟨_,_,_,_,o,_,_,e,ex,_⟩:=I.hok p _ hk;exact⟨o,e,ex⟩
    ·obtain⟨_,_,_,_,o,_,_,e,ex,_⟩:=I.hok p _ hk;exact⟨o,e,ex⟩
   obtain⟨o,e,ex⟩:=z;refine⟨⟨o,e,ex.1⟩,fun a e2=>?_⟩;cases e2;exact⟨o,e,ex.2.1⟩
  ·obtain⟨o,_,_,_,e,ex,_⟩:=I.hok p _ hk;refine⟨⟨o,e,ex.1⟩,fun a e2=>?_⟩;cases e2;exact⟨o,e,ex.2.1⟩
 |_=>exact False.elim ty
def Qh(K:W.Frag)(T:String)(r:V->List V->Hp->VK->Prop)(to:TE)(t:TA):TE:=fun B H Q=>to B H fun x H1=>OR K T x H1/\t B H1 fun xs H2=>r x xs H2 Q
variable{o:Expr}{es:List Expr}{to:TE}{t:TA}{name:Str}{cpos:Pos}{T id:String}{r:V->List V->Hp->VK->Prop}
theorem Oe (pa:PlainAttrs T) (slot:Slot T name id) (hty:typeOf (.builtin id)=pure (.type "method_descriptor")) (hm:PZ X id r) (ho:PE X o to) (ha:PA X (e::es) t)
  (hbase:attributeBase o name 2e1 (eval o 2e1)=eval o 2e1:=by rfl)
  (hfew : ((backTo cpos (starEach (e :: es) 2e1)).all (fun x => !x.1) && (backToKw cpos (keywordEach [] 2e1)).all (fun x => x.1.isSome)
   && decide ((e::es).length+([]:List Keyword).length+(if ([]:List Keyword).isEmpty then 0 else 1)<30))=true:=by rfl)
  (hline:(apos.endLine == cpos.line)=true:=by rfl) (hs:starEach (e::es) 2e1=(false,eval e 2e1)::starEach es 2e1:=by rfl) (hplain:(backTo cpos 7e6).any 5e4=false:=by rfl) :
  PE X (.Call (.Attribute o name apos) (e::es) [] cpos) (Qh X.K T r to t):=by
 intro pins s B H Q I h;refine wpAny_Call_method_late hbase hfew hline rfl (dF (ho pins s B H _ I h) fun v s1 ⟨x,H1,I1,r1,ty,q1⟩=>?_);obtain⟨h1,h2⟩:=JQ I1 r1 ty;refine⟨T,id,pa,slot,hty,h1,h2,?_⟩;have hA:=ha cpos pins s1 B H1 _ I1 q1;rw[hs]at hA⊢;refine Calls.callWith_builtin (by show (false || (backTo cpos 7e6).any 5e4)=false;rw[hplain] <;> rfl) (Calls.evalArgs_plain ?_);exact dF hA fun us s2 ⟨vs,H2,I2,r2,q2⟩=>hm pins s2 B H2 x vs v us Q I2 r1 r2 q2
end
def Ms(X:Cx)(id:String)(r:V->List V->Hp->VK->Prop):Prop:=
 ∀(pins:List 3e5)(s:Shared)(B:St)(H:Hp)(x:V)(xs:List V)(v:Value)(us:List Value)(Q:VK),bb X pins B H s->cB x v->bt xs us->r x xs H Q ->
  wpAny 1e1 X.A (call (.builtin id) (v::us)) 10e6 X.xe s
theorem bt.one:∀{x:V}{us:List Value},bt [x] us->∃u,us=[u]/\cB x u
 |_,_,.cons r .nil=>⟨_,rfl,r⟩
theorem bt.eraseIdx:∀{xs:List V}{us:List Value}(i:Nat),bt xs us->bt (xs.eraseIdx i) (us.eraseIdx i)
 |_,_,_,.nil=>.nil
 |_,_,0,.cons _ t=>t
 |_,_,i+1,.cons r t=>.cons r (bt.eraseIdx i t)
theorem bt.reverse{xs:List V}(h:bt xs us):bt xs.reverse us.reverse:=by
 induction h with
 |nil=>exact .nil
 |cons r t ih=>rw[Sd,Sd];exact bt.append ih (.cons r .nil)
theorem bt.rep{xs:List V}{us:List Value}(h:bt xs us):∀k:Nat,bt (List.replicate k xs).flatten (List.replicate k us).flatten
 |0=>.nil
 |k+1=>by
  rw[Se,Se,Sf,Sf];exact bt.append h (bt.rep h k)
theorem qe{J:Type}:∀(l:List J)(i:Nat),(l.eraseIdx i).length<=l.length
 |[],_=>Q8 _
 |_::_,0=>Sg _
 |_::r,i+1=>Nat.succ_le_succ (qe r i)
theorem qh(its:List Value):∀(k:Nat)(acc:List Value),
  List.foldl (fun x1 x2=>x1++x2) acc.toArray (List.replicate k 2e7)=(acc++(List.replicate k its).flatten).toArray
 |0,acc=>by simp
 |k+1,acc=>by
  have e:acc.toArray++its.toArray=(acc++its).toArray:=by simp
  have e2:(acc++its)++(List.replicate k its).flatten=acc++(List.replicate (k+1) its).flatten:=by
   rw[Se,Sf,Sh]
  rw[<- e2,<- qh its k (acc++its),<- e,Se,Si]
section
variable{X:Cx}{xs ys zs:List V}
theorem bb.lset{its':List Value}{f:Array Value->Array Value}(I:bb X pins B H s)(hH:H l=some 2e9)(e:s.heap.get? l=some {cls:=.type "list",data:=.seq 2e7 n})(hf:f 2e7=its'.toArray)(hv:bt ys its')(hz:ys.length<=sizeLine):
  bb X pins B (cV H l (.lst ys)) {s with heap:=s.heap.update l (Obj.mapSeq f),toks:=t'}:=by
 have q:=PySem.IsL.update e f;rw[hf]at q;refine I.write (x:=l) (e:=l) (by rw[hH];exact trivial) 11e7 (fun b' u hb hu=>(Heap.get?_update_other 3e2 (Obj.mapSeq f) (QJ hb)).trans hu) ⟨_,q⟩ ?_;exact⟨hz,its',_,hv,q⟩
theorem bb.lnew(I:bb X pins B H s)(hv:bt ys its)(hz:ys.length<=sizeLine):
  bb X pins B (cV H 0e3 (.lst ys)) {s with heap:=s.heap.push {cls:=.type "list",data:=.seq 2e7},toks:=t'}:=
 I.laid (fun _ _ q=>Q6 _ q) 8e0 ⟨hz,its,0,hv,Q7 _ rfl⟩
theorem bb.fresh(I:bb X pins B H s):H 0e3=none:=I.hok.fresh 8e0
theorem bb.lstM (I:bb X pins B H s) (hH:H l=some 2e9):xs.length<=sizeLine/\∃(its:List Value) (n:Nat),bt xs its/\xs.length=its.length/\s.heap.get? l=some {cls:=.type "list",data:=.seq 2e7 n}:=by
 obtain⟨z,its,n,r,e⟩:=I.hok l _ hH;exact⟨z,its,n,r,r.length,e⟩
theorem xY(h:n<=sizeLine):Builtin.List.listTooLong n=false:=by
 unfold Builtin.List.listTooLong;exact Qr 0e0
end
section
variable{X:Cx}
def AU:V->List V->Hp->VK->Prop:=fun x vs H Q=>∃l xs y,x=.ref l/\vs=[y]/\H l=some 2e9/\xs.length<sizeLine/\Q .non (cV H l (.lst (xs++[y])))
theorem uN:Ms X "list.append" AU:=by
 intro pins s B H x vs v us Q I rx rv h;obtain⟨l,xs,y,rfl,rfl,hH,hz,q⟩:=h;cases rx;obtain⟨u,rfl,ru⟩:=rv.one;obtain⟨z,its,n,r,hl,e⟩:=I.lstM hH;refine Sj F.slot_list_append ⟨_,e,rfl⟩ F.entry_list_append (F.args_list_append_2 _ _) (PySem.list_append l 2e7 n u (by rw[Rf];omega)) ⟨e,?_⟩;refine⟨.non,_,I.lset (its':=its++[u]) hH e 0e6 (r.append (.cons ru .nil)) ?_,rfl,q⟩;rw[Ry,Sk];omega
def DO:V->List V->Hp->VK->Prop:=fun x vs H Q=>∃l xs i k y,x=.ref l/\vs=[.int i]/\H l=some 2e9/\-(2^63)<=i/\i<2^63/\seqIndex? i 3e9=some k/\xs[k]?=some y/\Q y (cV H l (.lst (xs.eraseIdx k)))
theorem Fg:Ms X "list.pop" DO:=by
 intro pins s B H x vs v us Q I rx rv h;obtain⟨l,xs,i,k,y,rfl,rfl,hH,h1,h2,hk,hy,q⟩:=h;cases rx;obtain⟨u,rfl,ru⟩:=rv.one;obtain⟨t,rfl⟩:=ru;obtain⟨z,its,n,r,hl,e⟩:=I.lstM hH;obtain⟨w,hw,rw'⟩:=r.get hy
 refine Sj F.slot_list_pop ⟨_,e,rfl⟩ F.entry_list_pop (F.args_list_pop_2 _ _)
  (MeetsSeq.list_pop_at l 2e7 n i t k w (fitsIndex_both h1 h2) (by rw[Rf,<- hl];exact hk) (by rw[<- Sl];exact hw) (by rw[Rf];omega)) ⟨e,?_⟩
 refine⟨y,_,I.lset (its':=its.eraseIdx k) hH e ?_ (r.eraseIdx k) ?_,rw',q⟩
 ·show its.toArray.eraseIdxIfInBounds k=(its.eraseIdx k).toArray;rw[Sm]
 ·have:=qe xs k;omega
def MW:R2:=fun x y H Q=>∃l b xs zs,x=.ref l/\y=.ref b/\H l=some 2e9/\H b=some (.lst zs)/\xs.length+zs.length<=sizeLine/\∀p,H p=none->Q (.ref p) (cV H p (.lst (xs++zs)))
theorem Le:jQ X (binaryOp .Add) MW:=by
 intro pins s B H x y v u Q I rx ry h;obtain⟨l,b,xs,zs,rfl,rfl,hH,hB,hz,q⟩:=h;cases rx;cases ry;obtain⟨z,its,n,r,hl,e⟩:=I.lstM hH;obtain⟨z2,its2,n2,r2,hl2,e2⟩:=I.lstM hB;refine PySem.P.add_list e e2 ?_ (by rw[Rf,Rf];omega);have ea:its.toArray++its2.toArray=(its++its2).toArray:=by simp
 rw[ea];exact⟨.ref _,_,I.lnew (t':=s.toks) (r.append r2) (by rw[Ry];omega),rfl,q _ I.fresh⟩
def MN:R2:=fun x y H Q=>∃l k xs,x=.ref l/\y=.int k/\H l=some 2e9/\-(2^63)<=k/\k<2^63/\xs.length*k.toNat<=sizeLine /\
 ∀p,H p=none->Q (.ref p) (cV H p (.lst (List.replicate k.toNat xs).flatten))
theorem vS{J:Type}(xs:List J)(k:Nat):(List.replicate k xs).flatten.length=k*xs.length:=by
 induction k with
 |zero=>simp
 |succ k ih=>rw[Se,Sf,Ry,ih,Nat.succ_mul,Nat.add_comm]
theorem K6:jQ X (binaryOp .Mult) MN:=by
 intro pins s B H x y v u Q I rx ry h;obtain⟨l,k,xs,rfl,rfl,hH,h1,h2,hz,q⟩:=h;cases rx;obtain⟨t,rfl⟩:=ry;obtain⟨z,its,n,r,hl,e⟩:=I.lstM hH;have hlen:its.toArray.size*k.toNat<=sizeLine:=by rw[Rf,<- hl];exact hz
 have hcap:¬ its.toArray.size*k.toNat>(2^63-1) / 8:=by
  have:(sizeLine:Nat)<=(2^63-1) / 8:=by decide
  omega
 have hfit:¬ (!Builtin.List.listFitsIndex k)=true:=by
  rw[fitsIndex_both h1 h2];exact Q0
 have hlong:¬ Builtin.List.listTooLong (its.toArray.size*k.toNat)=true:=by
  rw[xY hlen];exact Q0
 have hnew:List.foldl (fun x1 x2=>x1++x2) #[] (List.replicate (if its.toArray.isEmpty=true then 0 else k.toNat) 2e7)=(List.replicate k.toNat its).flatten.toArray:=by
  have f0:∀m:Nat,List.foldl (fun x1 x2=>x1++x2) #[] (List.replicate m 2e7)=(List.replicate m its).flatten.toArray:=fun m=>by
   have:=qh its m [];rw[Sn]at this;exact this
  rw[f0];cases its with
  |nil=>simp
  |cons a r'=>rw[Qv 0e6]
 refine wpAny_binaryOp_repeat_ref (T:="list") (U:="int") 0e4 ⟨_,e,rfl⟩ (fun s'=>Sb s' k t) noFill_list_mul F.fills_int_mul So repeat_list F.slot_int_index.lookup
  (Sj So (Sb s k t) F.entry_int_rmul (F.args_int_rmul_2 _ _) (int___rmul___int_list k t l 2e7 n)
   ⟨e,rfl,⟨_,e,rfl⟩,Sj F.slot_list_mul ⟨_,e,rfl⟩ F.entry_list_mul (F.args_list_mul_2 _ _) (AutoListH.list___mul___list_int_3 l 2e7 n k t hfit hcap hlong) ⟨e,?_⟩⟩)
 rw[hnew];exact⟨.ref _,_,I.lnew (t':=s.toks) (r.rep k.toNat) (by rw[vS,Nat.mul_comm];exact hz),rfl,q _ I.fresh⟩
end
end L2
namespace Att
open PySem PySem.W PySem.Calls PyProof.Rows
theorem rH{P:Params}{h:Heap}:∀(ns:List Int)(vs:List Value),WellAll P h vs (ns.map WData.int)->IntsAre vs ns:=by
 intro ns
 induction ns with
 |nil=>
  intro vs w;rw[RY]at w;cases w;exact .nil
 |cons n ns ih=>
  intro vs w;rw[RZ]at w;cases w with
  |cons a b=>
   cases a;exact .cons _ _ (ih _ b)
theorem BN{l:OpenLaw}(hn:l.most=some n){P:Params}{h:Heap}{args:List WData}{vals:List Value}(hpre:l.row.toRowW.claim.pre args=true)(hwl:WellAll P h vals args):
  ∃a vs ns,vals=[Value.ref a]/\args=[WData.list (ns.map WData.int)]/\h.get? a=some {cls:=.type "list",data:=.seq vs.toArray}/\IntsAre vs ns/\ns.length<=n:=by
 have hsh:WShape.hasAll [] args [.list .int]=true:=(pre_splitW hpre).1;have hc:l.pre.holds [] {args:=args}=true:=(pre_splitW hpre).2;obtain⟨d,r,rfl,h1,h2⟩:=hasAllW_cons hsh;obtain rfl:=hasAllW_nil h2;obtain⟨xs,rfl,h3⟩:=hasW_list h1;obtain⟨ns,rfl⟩:=items_int h3
 have hlen:ns.length<=n:=by
  unfold OpenLaw.pre at hc
  have h4:(WTm.not (.lt (.lit (.int (n:Int))) (.len (.arg 0)))).holds [] {args:=[.list (ns.map .int)]}=true:=by
   have h4:=(holds_andW hc).1;rw[hn]at h4;exact h4
  have h5:=condW_of h4 (w_not (w_lt w_lit (w_len_list (w_arg rfl))));rw[Rz]at h5;refine Nat.le_of_not_lt fun q=>?_;have q':(n:Int)<((ns.length:Nat):Int):=by omega
  first
   |(rw[Sr q']at h5;exact absurd h5 0e4)
   |(simp at h5;omega)
 cases hwl with
 |cons w1 w2=>
  cases w2;cases w1 with
  |list ho hall=>exact⟨_,_,ns,rfl,rfl,ho,rH ns _ hall,hlen⟩
theorem BS(l:OpenLaw)(args:List WData):l.row.toRowW.claim.post args (.bool true) args=true:=
 postW_of (r:=l.row.toRowW) (X:=(true == true))
  (show WShape.has [] (.bool true) .bool=true by first|rfl|decide|simp[WShape.has,WShape.arms,WShape.armsAll])
  (show (WTm.eq .res (.lit (.bool true))).value [] {args:=args,res:=some (.bool true),after:=args}=some (.bool (true == true)) from w_eq_bool (w_res rfl) w_lit) rfl
theorem attach_call{l:OpenLaw}{q:Program}{d:DefRec}(hn:l.most=some n)(hdf:d.params.defaults=[])(call : ∀ (w : World) (s₀ s₁ : Shared) (mg mb : Str -> Option Value) (fa : Addr) (o : Obj) (pm cd doc : Value) (a : Addr) (vs : List Value) (ns : List Int),
   Ground q loose [] XP w s₀ mg mb s₁.heap->YP w s₁.heap ->
   s₁.heap.get? fa=some o->o.data=.func (docDef d.name d.params d.body d.scope pm cd doc)->s₁.heap.CodeRec cd d.name->mg d.name=some (.ref fa) ->
   s₁.heap.get? a=some {cls:=.type "list",data:=.seq vs.toArray}->IntsAre vs ns->ns.length<=n->s₁.gens=#[] ->
   codeAny (model l.prog w) callerA (.call (.ref fa) ⟨[.ref a],[]⟩) 9e9 s₁):
  WalkO q loose XP YP l.row.toRowW d [] (fun f vs=>PySem.call f vs):=by
 intro w s₀ s₁ mg mb G μ fa o pm cd doc dV kV ho hd hcd hD hmg hg args vals as hpre hlay hrd hwl hlo;obtain rfl:dV=.none:=Dflts.none hD hdf;obtain rfl:kV=.none:=Dflts.noKw hD;obtain⟨a,vs,ns,rfl,rfl,hobj,hints,hlen⟩:=BN hn hpre hwl;refine enter_call (Rh (call w s₀ s₁ mg mb fa o pm cd doc a vs ns G μ ho (fd_plain hd) hcd hmg hobj hints hlen hg) fun r s' hq=>?_);obtain⟨rfl,h2,h3,h4⟩:=hq;exact⟨.inl ⟨.bool true,.bool true,[],rfl,fun _=>rfl,.bool true,BS l _,fun _=>⟨List.Pairwise.nil,fun _ hm=>(nomatch hm)⟩⟩,h2,h3,h4⟩
end Att
namespace L2
open PySem PySem.Spec PyProof.Rows
theorem uC:∀{vs:List Value}{ns:List Int},IntsAre vs ns->bt 8e1 vs
 |_,_,.nil=>.nil
 |_,_,.cons n t h=>.cons ⟨t,rfl⟩ (uC h)
def Gd(H:Hp):Prop:=∀b,H b=none\/∃o xs,H b=some (.frz o 2e9)
theorem Fk{mb:Str->Option Value}{k:Nat}{fa:Addr}{s₁:Shared}{vs:List Value}(KX:K.In s₁.heap)(hns:s₁.heap.Ns mainGlobals mg)(hb:s₁.heap.Ns builtinsNs mb)(hbb:∀x:Str,x ≠ "__name__" -> mb x=bootBuiltins x)(hlim:s₁.heap.NoLimit)(hg:s₁.gens=#[])(ha:s₁.heap.get? a=some {cls:=.type "list",data:=.seq vs.toArray})(hi:IntsAre vs ns)(hl:ns.length<=sizeLine)(hr:ip k callerA)(F:∀base:Heap,K.In base->base.Ns mainGlobals mg->sf P w K mg base CX k fa fd [x] sp)(hbind:∀(s:Shared)(u:Value),BindsTo s fd ⟨[u],[]⟩ [(x,u)])(hsp:∀H:Hp,Gd H->gP K H a 8e1->sp [.ref a] H (fun v _=>v=.bl true) fun _ _ _=>False)(hCX:∀H e s',CX [] H s₁ (fun _ _ _=>False) e s'->False):
  codeAny (model P w) callerA (.call (.ref fa) ⟨[.ref a],[]⟩) 9e9 s₁:=by
 have rv:=uC hi;have lenV:=hi.length
 have core:∀H:Hp,Gd H->gP K H a 8e1->pL P w H s₁.heap->(∀b,H b≠none->b=a)->(H a≠none->K.lookup a=none) ->
   codeAny (model P w) callerA (.call (.ref fa) ⟨[.ref a],[]⟩) 9e9 s₁:=by
  intro H hO hS hok hA hK;have base_of:∀{b:Addr}{o:Obj},s₁.heap.get? b=some o->H b=none->(vh s₁.heap H).get? b=some o:=fun e n=>Ft e n
  have noA:∀{b:Addr}{o:Obj}{es:Array DictEntry}{ep:Nat},s₁.heap.get? b=some o->o.data=.dict es ep->H b=none:=fun {b o es ep} e d=>by
   cases q:H b with
   |none=>rfl
   |some u=>
    have e':b=a:=hA b (by rw[q];simp);subst e';rw[ha]at e;cases e;have d':Data.seq vs.toArray _=Data.dict es ep:=d;cases d'
  have nsK:∀{b:Addr}{m:Str->Option Value},s₁.heap.Ns b m->(vh s₁.heap H).Ns b m:=fun {b m} ⟨o,es,ep,e,d,r⟩=>⟨o,es,ep,base_of e (noA e d),d,r⟩
  have hKb:K.In (vh s₁.heap H):=fun b o e=>base_of (KX b o e) (by
   cases q:H b with
   |none=>rfl
   |some u=>
    have e':b=a:=hA b (by rw[q];simp);subst e'
    rw[hK (by rw[q];simp)]at e;cases e)
  have hM:Mod K mg (vh s₁.heap H):=⟨hKb,nsK hns,⟨mb,nsK hb,hbb⟩,let ⟨mc,h1,h2⟩:=hlim;⟨mc,nsK h1,h2⟩⟩;have e0:Bp P w K mg (vh s₁.heap H) callerA [] s₁ H:=⟨rfl,hM,fun b o e=>HH e,Ss (Cn _ _),trivial,fun b hb=>absurd (show b∈([]:List Addr) from hb) 0e6,hok,.of_eq hg⟩;refine Rh ((F _ hKb (nsK hns)).run callerA [] s₁ H ⟨[.ref a],[]⟩ [.ref a] [.ref a] _ _ hr e0 (hbind s₁ (.ref a)) (.cons rfl .nil) (hsp H hO hS)) fun r s' h=>?_;cases r with
  |error e=>exact(hCX H e s' h).elim
  |ok fl=>
   cases fl with
   |next=>exact False.elim h
   |brk=>exact False.elim h
   |cont=>exact False.elim h
   |ret u=>
    obtain⟨v,H',os,bare,un,hok',r',q⟩:=h;have q':v=.bl true:=q;subst q';obtain rfl:u=Value.bool true:=r';refine⟨rfl,OldK.of_keep fun b o e=>?_,os,bare⟩;cases q:H b with
    |none=>exact un.keep b o e q (by intro z;exact absurd (show b∈([]:List Addr) from z) 0e6) 0e6
    |some u=>
     rcases hO b with z|⟨ob,xs,z⟩
     ·rw[q]at z;cases z
     ·have z2:=un.frzs b ob _ z;obtain⟨e1,_⟩:=hok b _ z;obtain⟨e2,_⟩:=hok' b _ z2;rw[e]at e1;cases e1;exact e2
 cases hk:K.lookup a with
 |some o=>
  have e:=KX a o hk;rw[ha]at e;cases e;refine core (fun _=>none) (fun _=>.inl rfl) (.inr ⟨_,vs.toArray,_,hk,rfl,rfl,rfl,by rw[Rf,lenV];exact hl,by simpa using rv⟩) (fun b u z=>by have z':(none:Option HO)=some u:=z;cases z') (fun b z=>absurd rfl z) fun z=>absurd rfl z
 |none=>
  refine core (fun b=>if b=a then some (.frz {cls:=.type "list",data:=.seq vs.toArray} (.lst 8e1)) else none) (fun b=>?_) (.inl (.inr ⟨{cls:=.type "list",data:=.seq vs.toArray},Qu rfl⟩)) (fun b u z=>?_) (fun b z=>?_) fun _=>hk
  ·by_cases hb : b = a
   ·exact .inr ⟨_,_,Qu hb⟩
   ·exact .inl (Qv hb)
  ·by_cases hb : b = a
   ·have z':=(Qu hb).symm.trans z;cases z';subst hb;exact⟨ha,by rw[Rz];exact hl,vs,_,rv,ha⟩
   ·have z':=(Qv hb).symm.trans z;cases z'
  ·by_cases hb : b = a
   ·exact hb
   ·exact absurd (Qv hb) z
theorem walk_of{l:W.OpenLaw}{k:Nat}{q:Program}{d:DefRec}{K:Params->W.Frag}{CX:World->wO}{sp:World->Sp}(hn:l.most=some n)(hn2:n<=sizeLine)(hdf:d.params.defaults=[])(hr:ip k callerA)(hY:∀(w:World)(h:Heap),YP w h->(K 7e2).In h)(F : ∀ (w : World) (mg : Str -> Option Value) (fa : Addr) (h : Heap), (K 7e2).In h -> h.Ns mainGlobals mg -> mg d.name = some (.ref fa) ->
   ∃fd:FuncData,(∀(s:Shared)(u:Value),BindsTo s fd ⟨[u],[]⟩ [(x,u)]) /\
    ∀base:Heap,(K 7e2).In base->base.Ns mainGlobals mg->sf l.prog w (K 7e2) mg base (CX w) k fa fd [x] (sp w))(hsp:∀(w:World)(H:Hp)(a:Addr)(ns:List Int),ns.length<=n->Gd H->gP (K 7e2) H a 8e1->sp w [.ref a] H (fun v _=>v=.bl true) fun _ _ _=>False)(hCX:∀(w:World)(H:Hp)(s:Shared)(e:Value)(s':Shared),CX w [] H s (fun _ _ _=>False) e s'->False):
  W.WalkO q loose XP YP l.row.toRowW d [] (fun f vs=>PySem.call f vs):=by
 refine Att.attach_call hn hdf fun w s₀ s₁ mg mb fa o pm cd doc a vs ns G μ ho hd hcd hmg hobj hints hlen hg=>?_;have KX:=hY w _ μ;obtain⟨fd,hb,hF⟩:=F w mg fa _ KX G.T.g hmg;exact Fk KX G.T.g G.T.b G.T.builtins G.T.nolimit hg hobj hints (QD hlen hn2) hr hF hb (fun H hO hS=>hsp w H a ns hlen hO hS) fun H e s'=>hCX w H s₁ e s'
abbrev y6:wO:=fun _ _ _ _ _ _=>False
abbrev E0:XK:=fun _ _ _=>False
theorem Dm{X:Cx}:lY y6 X E0:=fun _ _ _ _ _ _ _ h=>h.elim
structure ik(K:W.Frag)(x qual:Str)(st:Stmt)(f:Addr)(fd:FuncData):Prop where
 ex:∃(oc:Value)(od:Option Addr)(kV doc pm:Value)(an:Option Addr)(cdv ct:Value)(osl:Array (Option Value)),
  fd=W.fnOf x qual (fw st) (cR st) (av st) .none kV doc pm an cdv ct/\K.lookup f=some ⟨oc,od,.func fd,osl⟩/\W.codeIn K cdv qual=true
 kp:W.keepIn K 4e4=true
section
theorem ik.ok{ps:List Str}{k:Nat}(F:ik K x qual st f fd)(S:aV N ps (av st))(len:∀vs H Q E,sp vs H Q E->vs.length=ps.length)(hbody : ∀ (cdv : Value) (A : Around) (outer : List Env) (s : Shared) (H : Hp) (vs : List V) (Q : VK) (E : XK), ip k 7e0 -> sp vs H Q E ->
   ∃t,kj (sd y6 P w K mg base N qual (av st) f cdv A outer s H E).nox (cR st) t/\t {nx:=fun _ H'=>Q .non H',rt:=Q} (start N vs) H):sf P w K mg base y6 (k+1) f fd ps sp:=by
 obtain⟨oc,od,kV,doc,pm,an,cdv,ct,osl,rfl,lk,hcd⟩:=F.ex;refine Jl lk hcd S len fun A outer s H vs Q E hr hsp=>?_;obtain⟨t,h,q⟩:=hbody cdv A outer s H vs Q E hr hsp;exact⟨t,h.nox,q⟩
theorem ik.binds{ps:List Str}(F:ik K x qual st f fd)(h:∀(kV doc pm:Value)(an:Option Addr)(cdv ct:Value)(us:List Value),us.length=ps.length->bindArgs 2e2 ⟨us,[]⟩=pure (ps.zip us)):iU K fd ps []:=by
 obtain⟨oc,od,kV,doc,pm,an,cdv,ct,osl,rfl,lk,hcd⟩:=F.ex;exact .all (h kV doc pm an cdv ct)
theorem LZ{oc:Value}{od:Option Addr}{kV doc pm ct:Value}(l:K.lookup f=some ⟨oc,od,.func 2e2,osl⟩)(c:W.codeIn K cdv qual=true)(k:W.keepIn K 4e4=true):ik K x qual st f 2e2:=⟨⟨oc,od,kV,doc,pm,an,cdv,ct,osl,rfl,l,c⟩,k⟩
end
theorem Ng{A σ:Prop}(h:σ):if false=true then A else σ:=by
 rw[Qv Q0];exact h
theorem Nf{A σ:Prop}(h:A):if true=true then A else σ:=by
 rw[Qu rfl];exact h
theorem gr{x:Str}:∀{names:List (Str×NameKind)}{k:NameKind},names.lookup x=some k->(x,k)∈names
 |[],_,h=>by simp at h
 |(n,j)::r,k,h=>by
  rw[Su]at h;cases hx:x == n with
  |true=>
   rw[hx]at h;have e:x=n:=eq_of_beq hx;cases h;rw[e];exact QG
  |false=>rw[hx]at h;exact QH _ (gr h)
theorem jN{env:Env}{x:Str}:∀{names:List (Str×NameKind)},
  (names.map fun (n, k) => if (k == NameKind.free && env.scope.kind == .function && env.kindOf n == some .cell) then (n, NameKind.cell) else (n, k)).lookup x =
   (names.lookup x).map fun k=>if (k == NameKind.free&&env.scope.kind == .function&&env.kindOf x == some .cell) then NameKind.cell else k
 |[]=>rfl
 |(n,k)::r=>by
  have ih:=jN (env:=env) (x:=x) (names:=r);rw[RZ];show List.lookup x ((if (k == NameKind.free&&env.scope.kind == .function&&env.kindOf n == some .cell)=true then (n,NameKind.cell) else (n,k))::_)=_;cases hx:x == n with
  |true=>
   have e:x=n:=eq_of_beq hx;subst e;by_cases hc:(k == NameKind.free&&env.scope.kind == .function&&env.kindOf x == some .cell)=true
   ·rw[Qu hc,Su,hx,Su,hx];show some NameKind.cell=some (if _ then _ else _);rw[Qu hc]
   ·rw[Qv hc,Su,hx,Su,hx];show some k=some (if _ then _ else _);rw[Qv hc]
  |false=>
   by_cases hc:(k == NameKind.free&&env.scope.kind == .function&&env.kindOf n == some .cell)=true
   ·rw[Qu hc,Su,hx,Su,hx];exact ih
   ·rw[Qv hc,Su,hx,Su,hx];exact ih
theorem nY{env:Env}{f:Str×NameKind->List (Str×Addr)->Sem (ForInStep (List (Str×Addr)))}
  (h1:∀n c acc,env.cells.lookup n=some c->f (n,.free) acc=pure (.yield ((n,c)::acc))) (h2:∀n k acc,k≠.free->f (n,k) acc=pure (.yield acc)) :
  ∀(names:List (Str×NameKind))(acc:List (Str×Addr)),(∀y∈names,y.2=.free->∃c,env.cells.lookup y.1=some c)->(∀x c,acc.lookup x=some c->env.cells.lookup x=some c) ->
   ∃cl,forIn names acc f=(pure cl:Sem (List (Str×Addr)))/\(∀x c,cl.lookup x=some c->env.cells.lookup x=some c)/\(∀x,(acc.lookup x).isSome=true->(cl.lookup x).isSome=true)/\(∀y∈names,y.2=.free->(cl.lookup y.1).isSome=true)
 |[],acc,_,ha=>⟨acc,rfl,ha,fun _ h=>h,fun y hy=>by simp at hy⟩
 |(n,k)::r,acc,hn,ha=>by
  by_cases hk:k=.free
  ·subst hk;obtain⟨c,hc⟩:=hn (n,.free) QG rfl
   obtain⟨cl,e1,e2,e3,e4⟩:=nY h1 h2 r ((n,c)::acc) (fun y hy=>hn y (QH _ hy)) (fun x d h=>by
    rw[Su]at h;cases hx:x == n with
    |true=>rw[hx]at h;cases h;rw[eq_of_beq hx];exact hc
    |false=>rw[hx]at h;exact ha x d h)
   refine⟨cl,?_,e2,fun x h=>e3 x ?_,fun y hy hf=>?_⟩
   ·rw[List.forIn_cons,h1 n c acc hc];exact e1
   ·rw[Su];cases hx:x == n <;> simp[h]
   ·rcases QI.mp hy with z | z
    ·subst z;exact e3 n (by simp[Su])
    ·exact e4 y z hf
  ·obtain ⟨cl, e1, e2, e3, e4⟩ := nY h1 h2 r acc (fun y hy => hn y (QH _ hy)) ha;refine⟨cl,?_,e2,e3,fun y hy hf=>?_⟩
   ·rw[List.forIn_cons,h2 n k acc hk];exact e1
   ·rcases QI.mp hy with z | z
    ·subst z;exact absurd hf hk
    ·exact e4 y z hf
theorem yS{n:Str}{c:Addr}(h:env.cells.lookup n=some c):cellOf env n=pure c:=by
 unfold cellOf;rw[h]
noncomputable def Az(env:Env)(x:Str×NameKind)(r:List (Str×Addr)):Sem (ForInStep (List (Str×Addr))):=
 match x with|(name,kind)=>if kind == .free then do let c <- cellOf env name;pure (.yield ((name,c)::r)) else pure (.yield r)
theorem Af(hn:∀y∈scope.names,y.2=.free->∃c,env.cells.lookup y.1=some c):
  ∃cl,closureFor scope env=pure cl/\(∀x c,cl.lookup x=some c->env.cells.lookup x=some c)/\(∀y∈scope.names,y.2=.free->(cl.lookup y.1).isSome=true):=by
 obtain⟨cl,e1,e2,_,e4⟩:=nY (env:=env) (f:=Az env)
  (fun n c acc h=>by unfold Az;dsimp[Sv,RI];rw[yS h];rfl)
  (fun n k acc h => by
   unfold Az;have:(k == NameKind.free)=false:=by simpa using h
   dsimp[this,Sw,RH]) scope.names [] hn (fun x c h=>by simp at h)
 refine⟨cl,?_,e2,e4⟩;show (forIn scope.names [] (Az env) >>= fun s=>pure s)=pure cl;rw[e1];rfl
noncomputable def jx(X:Cx)(Nc:List Str)(scope:Scope)(cl:List (Str×Addr))(C:Addr)(s:Shared)(H:Hp)(fp:List Addr):Cx where
 prog:=X.prog
 w:=X.w
 K:=X.K
 mg:=X.mg
 base:=X.base
 A:=X.A
 N:=Nc
 s₀:=s
 H₀:=H
 env:=compEnvC scope (cellsFrom (C+1) scope.names cl) C 2e1
 outer:=X.stack
 stack:=X.stack
 ex:=fp
 fn:=fun x=>scope.names.lookup x == some .cell
 calm:=X.calm
 pn:=[]
 xe:=fun _ _=>False
def sr(cap:List 4e7)(B:St):St:=cap.map fun o=>o.bind fun j=>(B[j]?).join
noncomputable def ir(N:List Str)(env:Env)(scope:Scope):List Str->List 4e7->Bool
 |[],[]=>true
 |_::Nc,none::cap=>ir N env scope Nc cap
 |x::Nc,some j::cap=>(N[j]? == some x)&&(scope.names.lookup x == some .free)&&ir N env scope Nc cap
 |_,_=>false
theorem qm{N:List Str}{env:Env}{scope:Scope}:∀{Nc:List Str}{cap:List 4e7},ir N env scope Nc cap=true->cap.length=Nc.length
 |[],[],_=>rfl
 |[],_::_,h=>by simp[ir]at h
 |_::_,[],h=>by simp[ir]at h
 |_::Nc,none::cap,h=>by rw[Sx,Sx,qm (Nc:=Nc) (cap:=cap) h]
 |x::Nc,some j::cap,h=>by
  have h':ir N env scope Nc cap=true:=by unfold ir at h;dsimp[RW]at h;exact h.2
  rw[Sx,Sx,qm h']
theorem sP{N:List Str}{env:Env}{scope:Scope}:∀{Nc:List Str}{cap:List 4e7}{i j:Nat}{x:Str},ir N env scope Nc cap=true->cap[i]?=some (some j)->Nc[i]?=some x->N[j]?=some x/\scope.names.lookup x=some .free
 |[],_,_,_,_,_,_,e=>by simp at e
 |_::_,[],_,_,_,h,_,_=>by simp[ir]at h
 |y::Nc,none::cap,0,j,x,h,e,_=>by simp at e
 |y::Nc,some k::cap,0,j,x,h,e,e2=>by
  simp at e e2;subst e;subst e2;unfold ir at h;dsimp[RW]at h;exact⟨eq_of_beq h.1.1,eq_of_beq h.1.2⟩
 |y::Nc,none::cap,i+1,j,x,h,e,e2=>sP (Nc:=Nc) (cap:=cap) (i:=i) h (by simpa using e) (by simpa using e2)
 |y::Nc,some k::cap,i+1,j,x,h,e,e2=>by
  have h':ir N env scope Nc cap=true:=by unfold ir at h;dsimp[RW]at h;exact h.2
  exact sP (Nc:=Nc) (cap:=cap) (i:=i) h' (by simpa using e) (by simpa using e2)
structure bZ(N:List Str)(env:Env)(scope:Scope)(Nc:List Str)(cap:List 4e7):Prop where
 kind:scope.kind=.function
 nd:∀y∈scope.names,scope.names.lookup y.1=some y.2
 free:∀y∈scope.names,y.2=.free->env.kindOf y.1=some .cell\/env.kindOf y.1=some .free
 cap:ir N env scope Nc cap=true
theorem mU{n0:Nat}{x:Str}{c:Addr}:∀{names:List (Str×NameKind)}{cl:List (Str×Addr)}{n:Nat},n0<=n->((x,NameKind.cell)∈names\/∃c',cl.lookup x=some c'/\n0<=c')->(cellsFrom n names cl).lookup x=some c->n0<=c
 |[],cl,n,_,h,e=>by
  rcases h with z|⟨c',z1,z2⟩
  ·simp at z
  ·have e':cl.lookup x=some c:=e;rw[z1]at e';cases e';exact z2
 |(y,k)::r,cl,n,hn,h,e=>by
  unfold cellsFrom at e;split at e
  ·rename_i hk;refine mU (n:=n+1) 0e0 ?_ e;cases hx:x == y with
   |true=>exact .inr ⟨n,by rw[Su,hx],hn⟩
   |false=>
    rcases h with z|⟨c',z1,z2⟩
    ·rcases QI.mp z with q | q
     ·have:x=y:=QU Prod.fst q;rw[this]at hx;simp at hx
     ·exact .inl q
    ·exact .inr ⟨c',by rw[Su,hx];exact z1,z2⟩
  ·rename_i hk;refine mU hn ?_ e;rcases h with z|z
   ·rcases QI.mp z with q | q
    ·have:k=.cell:=(QU Prod.snd q).symm;exact absurd (by rw[this];rfl) hk
    ·exact .inl q
   ·exact .inr z
theorem kI{x:Str}:∀{names:List (Str×NameKind)}{cl:List (Str×Addr)}{n:Nat},(x,NameKind.cell)∉names->(cellsFrom n names cl).lookup x=cl.lookup x
 |[],cl,n,_=>rfl
 |(y,k)::r,cl,n,hn=>by
  unfold cellsFrom;have hr:(x,NameKind.cell)∉r:=fun z=>hn (QH _ z);split
  ·rename_i hk;rw[kI hr,Su];cases hx:x == y with
   |true=>exact absurd (by rw[eq_of_beq hx,(eq_of_beq hk:k=.cell)];exact QG) hn
   |false=>rfl
  ·exact kI hr
theorem ql{n0:Nat}:∀{names:List (Str×NameKind)}{cl:List (Str×Addr)}{n:Nat},n0<=n->(∀x y c,cl.lookup x=some c->cl.lookup y=some c->n0<=c->x=y)->(∀x c,cl.lookup x=some c->c<n) ->
  ∀x y c,(cellsFrom n names cl).lookup x=some c->(cellsFrom n names cl).lookup y=some c->n0<=c->x=y
 |[],cl,n,_,h,_=>h
 |(z,k)::r,cl,n,hn,h,hb=>by
  unfold cellsFrom;split
  ·refine ql (n := n + 1) 0e0 (fun x y c e1 e2 hc => ?_) (fun x c e => ?_)
   ·rw [Su] at e1 e2;cases hx:x == z with
    |true=>
     cases hy:y == z with
     |true=>rw[eq_of_beq hx,eq_of_beq hy]
     |false=>
      rw[hx]at e1;rw[hy]at e2;cases e1;exact absurd (hb y _ e2) (Qy _)
    |false=>
     cases hy:y == z with
     |true=>
      rw[hx]at e1;rw[hy]at e2;cases e2;exact absurd (hb x _ e1) (Qy _)
     |false=>rw[hx]at e1;rw[hy]at e2;exact h x y c e1 e2 hc
   ·rw [Su] at e;cases hx:x == z with
    |true=>rw[hx]at e;cases e;exact Sy _
    |false=>rw[hx]at e;exact SA (hb x c e)
  ·exact ql hn h hb
theorem mq{x:Str}{c:Addr}:∀{names:List (Str×NameKind)}{cl:List (Str×Addr)}{h:Heap},(cellsFrom h.objs.size names cl).lookup x=some c->cl.lookup x=some c\/(pushCells h names).IsCell c none
 |[],cl,h,e=>.inl e
 |(y,k)::r,cl,h,e=>by
  unfold cellsFrom at e;unfold pushCells;split at e
  ·rename_i hk;rw[Qu hk];have e':(cellsFrom (h.push {cls:=.type "cell",data:=.cell none}).objs.size r ((y,h.objs.size)::cl)).lookup x=some c:=by rw[SB];exact e
   rcases mq e' with q|q
   ·rw [Su] at q;cases hx:x == y with
    |true=>
     rw[hx]at q;cases q;exact .inr ⟨_,SC _ _ _ _ (Q7 _ rfl),rfl⟩
    |false=>rw[hx]at q;exact .inl q
   ·exact .inr q
  ·rename_i hk;rw[Qv hk];exact mq e
theorem Cm{X:Cx}{cap:List 4e7}(I:bb X pins B H s)(hf:∀b∈fp,oy X pins H b)(hfs:∀b∈fp,b<s.heap.objs.size)(S:bZ X.N 2e1 scope Nc cap)(hcl:∀x c,cl.lookup x=some c->X.env.cells.lookup x=some c)(hall:∀y∈scope.names,y.2=.free->(cl.lookup y.1).isSome=true)(hn:h'.Ns 0e3 (fun _=>none))(hk:∀b o,s.heap.get? b=some o->h'.get? b=some o)(hce:∀x c,(cellsFrom 8e7 scope.names cl).lookup x=some c->cl.lookup x=some c\/h'.IsCell c none):
  bb (jx X Nc scope cl 0e3 s H fp) [] (sr cap B) H {s with heap:=h',toks:=t'}:=by
 have hrl:∀x,(jx X Nc scope cl 0e3 s H fp).env.kindOf x=(scope.names.lookup x).map fun k=>if (k == NameKind.free&&X.env.scope.kind == .function&&X.env.kindOf x == some .cell) then NameKind.cell else k:=fun x=>jN
 have hcf:∀x,((jx X Nc scope cl 0e3 s H fp).env.kindOf x=some .cell\/(jx X Nc scope cl 0e3 s H fp).env.kindOf x=some .free)->scope.names.lookup x=some .free\/scope.names.lookup x=some .cell:=fun x hx=>by
  rw[hrl]at hx;cases e:scope.names.lookup x with
  |none=>rw[e]at hx;rcases hx with z|z <;> cases z
  |some k=>
   rw[e]at hx;by_cases hkf:k=.free
   ·rw[hkf];exact .inl rfl
   ·have : (k == NameKind.free) = false := by simpa using hkf
    dsimp[this,Q5,Option.map_some]at hx;rcases hx with z|z
    ·have z' : k = .cell := by simpa using z
     rw[z'];exact .inr rfl
    ·have z' : k = .free := by simpa using z
     exact absurd z' hkf
 have hclx:∀x,scope.names.lookup x=some .free->∃c,cl.lookup x=some c:=fun x e=>Rm.mp (hall (x,.free) (gr e) rfl)
 have hcb:∀x c,cl.lookup x=some c->c<s.heap.objs.size:=fun x c e=>by
  obtain⟨v,q⟩:=I.cell x c (hcl x c e);exact q.lt
 have hcell:∀x c,(cellsFrom 8e7 scope.names cl).lookup x=some c->(cl.lookup x=some c/\c<s.heap.objs.size)\/(s.heap.objs.size+1<=c/\h'.IsCell c none):=fun x c e=>by
  by_cases hm:(x,NameKind.cell)∈scope.names
  ·have h1 := mU 8e0 (.inl hm) e;rcases hce x c e with z|z
   ·have:=hcb x c z;exact absurd (Qx (SA this) h1) (Qy _)
   ·exact .inr ⟨h1,z⟩
  ·rw[kI hm]at e;exact .inl ⟨e,hcb x c e⟩
 have hinj:∀x y c,(cellsFrom 8e7 scope.names cl).lookup x=some c->(cellsFrom 8e7 scope.names cl).lookup y=some c->x=y:=fun x y c e1 e2=>by
  rcases hcell x c e1 with⟨a1,a2⟩|⟨a1,a2⟩
  ·rcases hcell y c e2 with ⟨b1, b2⟩ | ⟨b1, b2⟩
   ·exact I.ok.inj x y c (hcl x c a1) (hcl y c b1)
   ·exact absurd (Qx (SA a2) b1) (Qy _)
  ·exact ql 8e0 (fun x y c q _ hc=>absurd (Qx (SA (hcb x c q)) hc) (Qy _)) (fun x c q=>SA (hcb x c q)) x y c e1 e2 a1
 refine⟨⟨I.ok.mod,S.kind,I.ok.glob,I.ok.blt,Q8 _,fun x y c e1 e2=>hinj x y c e1 e2,fun x hx=>?_,fun x c e e2=>?_,I.ok.hd,I.ok.frames,.inl rfl,
  fun b hb=>⟨QA (hfs b hb),fun x c e=>?_⟩,I.bs,QD I.ok.bsz I.sz,fun b o e hb=>?_,fun b hb z=>?_,I.stack,I.stkFree⟩,
  rfl,I.bare,Un.kept hk,⟨_,hn,fun i x v e1 e2 e3=>?_⟩,fun x c e=>?_,I.hok.fresh 8e0,fun x c e=>?_,fun p hp=>absurd (show p∈([]:List 3e5) from hp) 0e6,I.hok.kept hk,?_⟩
 ·rcases hcf x hx with q | q
  ·by_cases hm : (x, NameKind.cell) ∈ scope.names
   ·rcases Rm.mp (W.cellsFrom_some scope.names (s.heap.objs.size + 1) cl (.inl (S.nd (x, .cell) hm))) with ⟨c, e⟩
    exact⟨c,e⟩
   ·obtain⟨c,e⟩:=hclx x q;exact⟨c,(kI hm).trans e⟩
  ·obtain⟨c,e⟩:=Rm.mp (W.cellsFrom_some scope.names 8e7 cl (.inl q));exact⟨c,e⟩
 ·have hm:(x,NameKind.cell)∈scope.names:=gr (eq_of_beq (show (scope.names.lookup x == some .cell)=true from e));exact Nat.le_of_succ_le (mU 8e0 (.inl hm) e2)
 ·rcases hcell x c e with ⟨a1, a2⟩ | ⟨a1, a2⟩
  ·exact(hf b hb).2.2.2.2.1 x c (hcl x c a1)
  ·exact fun z=>absurd (Qx (SA (hfs b hb)) (by rw[<- z];exact a1)) (Qy _)
 ·rcases (hf b hb).2.2.2.1 with z | z
  ·exact I.ok.noex b o e z
  ·exact absurd (Qx (Qx (Qw e) I.ok.bsz) z) (Qy _)
 ·rcases QI.mp (I.stkSub b z) with q | q
  ·exact(hf b hb).2.1 q
  ·exact(hf b hb).2.2.1 q
 ·have e2':∃j,cap[i]?=some (some j)/\B[j]?=some (some v):=by
   unfold sr at e2;rw[Rv]at e2;cases hc:cap[i]? with
   |none=>rw[hc]at e2;cases e2
   |some o=>
    rw[hc]at e2;cases o with
    |none=>cases e2
    |some j=>
     refine⟨j,rfl,?_⟩;dsimp[Option.map_some,SD]at e2;cases hj:B[j]? with
     |none=>rw[hj]at e2;cases e2
     |some q=>
      rw[hj]at e2;dsimp[Option.join_some]at e2;rw[Qp e2]
  obtain⟨j,hj,hv⟩:=e2';obtain⟨hN,hx⟩:=sP S.cap hj e1;have hkx:=S.free (x,.free) (gr hx) rfl;obtain⟨m,hm,hl⟩:=I.loc;obtain⟨u,r,l⟩:=hl j x v hN hv (hkx.elim (fun z=>.inr (.inl z)) (fun z=>.inr (.inr z)));refine⟨u,r,.inr ⟨?_,?_⟩⟩
  ·rw [hrl, hx];show some (if _ then _ else _)=_\/some (if _ then _ else _)=_;by_cases hc:(NameKind.free == NameKind.free&&X.env.scope.kind == .function&&X.env.kindOf x == some .cell)=true
   ·rw[Qu hc];exact .inl rfl
   ·rw[Qv hc];exact .inr rfl
  ·obtain ⟨c, ec⟩ := hclx x hx
   have hm:(x,NameKind.cell)∉scope.names:=fun z=>by
    have:=S.nd (x,.cell) z;rw[hx]at this;cases this
   refine⟨c,(kI hm).trans ec,?_⟩;rcases l with⟨k,_⟩|⟨k,c',ec',z⟩
   ·rcases hkx with q|q <;> (rw[k]at q;cases q)
   ·have q:=hcl x c ec;rw[ec']at q;cases q;obtain⟨o,ho,hd⟩:=z;exact⟨o,hk _ o ho,hd⟩
 ·rcases hcell x c e with ⟨a1, a2⟩ | ⟨a1, a2⟩
  ·obtain⟨v,o,ho,hd⟩:=I.cell x c (hcl x c a1);exact⟨v,o,hk _ o ho,hd⟩
  ·exact⟨none,a2⟩
 ·rcases hcell x c e with ⟨a1, a2⟩ | ⟨a1, a2⟩
  ·exact I.freeC x c (hcl x c a1)
  ·exact I.hok.fresh (Nat.le_of_succ_le a1)
 ·show (cap.map _).length=Nc.length;rw[Rz,qm S.cap]
abbrev vc:Value->Shared->Prop:=fun _ _=>False
def vL(ifs:List Expr)(env:Env):Sem Bool:=forIn ifs true fun c r=>if r=true then do let ok <- isTrue c env (eval c env);pure (ForInStep.yield ok) else pure (ForInStep.yield r)
def rZ(X:Cx)(ifs:List Expr)(t:TT):Prop:=
 ∀(pins:List 3e5)(s:Shared)(B:St)(H:Hp)(Q:Bool->Hp->Prop),bb X pins B H s->t B H Q->wpAny 1e1 X.A (vL ifs 2e1) (TP X pins B Q) X.xe s
def NH:TT:=fun _ H Q=>Q true H
theorem Hb{X:Cx}:rZ X [] NH:=fun _ _ _ H _ I h=>Q3 ⟨H,I,h⟩
theorem G9{X:Cx}{t:TT}(h:PT X c t):rZ X [c] t:=fun pins s B H Q I q=>wpAny_tests_one (h pins s B H Q I q)
noncomputable def Mb(e:Expr)(acc:Value)(env:Env):Sem Unit:=match e with
 |.ListComp elt _ _ _=>do let _ <- call (.builtin "list.append") [acc,<- eval elt env]
 |.SetComp elt _ _ _=>do let v <- eval elt env;standAt elt.pos;let _ <- call (.builtin "set.add") [acc,v]
 |_=>unsupported "internal:not-a-comprehension"
def nN:Expr->Bool
 |.ListComp ..=>true
 |.SetComp ..=>true
 |_=>false
def nu(M:Model)(A:Around)(e:Expr)(k:Nat)(acc:Value)(env:Env)(C:Shared->Prop)(E:Value->Shared->Prop)(s:Shared):Prop:=match (clausesOf e)[k]? with
 |some g=>wpAny M A (eval g.iter env) (fun x s1=>wpAny M A (foldedSetIterable g.iter env x) (fun x s2=>wpAny M A (pyIter x) (fun it s3=>
   codeAny M A (.compStart e k it acc env) (fun r s4=>(∃f,r=.ok f)/\C s4) s3) E s2) E s1) E s
 |none=>wpAny M A (Mb e acc env) (fun _ s1=>C s1) E s
theorem yw{M:Model}{k:Nat}{acc:Value}{C C':Shared->Prop}(hC:∀s,C s->C' s)(h:nu M A e k acc env C vc s):nu M A e k acc env C' E s:=by
 unfold nu at h⊢;split at h
 ·exact QR h (fun _ _ h=>QR h (fun _ _ h=>QR h (fun _ _ h=>Rh h fun _ _ h=>⟨h.1,hC _ h.2⟩) fun _ _ z=>z.elim) fun _ _ z=>z.elim) fun _ _ z=>z.elim
 ·exact QR h (fun _ _ h=>hC _ h) fun _ _ z=>z.elim
theorem Gp{M:Model}{d:Nat}{it acc:Value}{Q:Fin->Shared->Prop}(he:nN e=true)(hz:∀g∈clausesOf e,g.is_async=0)(hg:(clausesOf e)[d]?=some g)(h : wpAny M A (pyNext it) (fun r s₁ => match r with
   |none=>Q (.done .next) s₁
   |some v=>wpAny M A (letOwnedTupleGo g.target it v) (fun _ s₁'=>wpAny M A (assign g.target env v) (fun _ s₂=>wpAny M A (vL g.ifs env) (fun ok s₃=>
     if ok=true then nu M A e (d+1) acc env (fun s₄=>wpAny M A (again (.compLoop e d it acc env)) Q E s₄) E s₃ else wpAny M A (again (.compLoop e d it acc env)) Q E s₃) E s₂) E s₁') E s₁) E s):
  wpAny M A (compTurn e d it acc env) Q E s:=by
 have h0:=hz g (Rx hg);have h1:∀g',(clausesOf e)[d+1]?=some g'->g'.is_async=0:=fun g' h=>hz g' (Rx h);unfold compTurn
 cases e <;> first
  |exact absurd (show false=true from he) Q0
  | (rename_i elt gens sc pos
     have hg':gens[d]?=some g:=hg;have h1':∀g',gens[d+1]?=some g'->g'.is_async=0:=h1;dsimp only;rw[hg'];dsimp only;rw[h0];refine QW (QY ?_);show wpAny M A (pyNext it >>= _) Q E s;refine QW (QR h (fun r s₁ h₁=>?_) fun _ _ z=>z);cases r with
     |none=>exact Q3 h₁
     |some v=>
      refine QW (QR h₁ (fun _ s₁' h₁'=>?_) fun _ _ z=>z);refine QW (QR h₁' (fun _ s₂ h₂=>?_) fun _ _ z=>z);refine QW (QR h₂ (fun ok s₃ h₃=>?_) fun _ _ z=>z);cases ok with
      |false=>exact h₃
      |true=>
       dsimp[RI]at h₃⊢;unfold nu at h₃;dsimp only[clausesOf]at h₃;cases e2:gens[d+1]? with
       |none=>
        rw[e2]at h₃;exact QW h₃
       |some g'=>
        rw[e2]at h₃;have e3:=h1' g' e2;dsimp[e3];refine QW (QR h₃ (fun x s₄ h₄=>?_) fun _ _ z=>z);refine QW (QY ?_);show wpAny M A (foldedSetIterable g'.iter env x >>= _) Q E s₄;refine QW (QR h₄ (fun x s₅ h₅=>?_) fun _ _ z=>z);refine QW (QX ?_);show wpAny M A (pyIter x) _ E s₅;refine QR h₅ (fun it' s₆ h₆=>?_) fun _ _ z=>z;refine QW (wpAny_runOwn (Rh h₆ fun r s₇ h₇=>?_));obtain⟨⟨f,rfl⟩,hc⟩:=h₇
        exact hc)
section
variable{R:Result->Shared->Prop}
theorem uE{k:Nat}{it acc:Value}(he:nN e=true)(hz:∀g∈clausesOf e,g.is_async=0)(hg:(clausesOf e)[k]?=some g)(h0:codeAny 1e2 A (.compLoop e k it acc env) R s)(h:wpAny 1e2 A (pyIter it) (fun it' s'=>codeAny 1e2 A (.compLoop e k it' acc env) R s') vc s):
  codeAny 1e2 A (.compStart e k it acc env) R s:=by
 have ha:=hz g (Rx hg)
 cases e <;> first
  |exact absurd (show false=true from he) Q0
  | (refine SE ?_
     show wpAny _ _ ((compStart _ k it acc env).onRaise (fun x=>do noteFrame x env;standAt theWindowsPlace)) _ _ s;refine wpAny_notedAt ?_;unfold compStart;rw[hg];have e1:((some g).elim false fun x=>x.is_async != 0)=false:=by show (g.is_async != 0)=false;rw[ha];rfl
     rw[e1];dsimp[Sw,RH];refine QW (SF (wpAny_ite ?_));split
     ·exact Q3 (And.intro rfl h0)
     ·refine QW (SG ?_);refine QW (QY ?_)
      exact QW (QR h (fun it' s' h'=>Q3 (And.intro rfl h')) fun _ _ z=>z.elim))
theorem Cd{d:Nat}{it acc:Value}(he:nN e=true)(hz:∀g∈clausesOf e,g.is_async=0)(hg:(clausesOf e)[d]?=some g)(I:Nat->Shared->Prop)(turn : ∀ n s, I n s -> wpAny 1e2 A (pyNext it) (fun r s₁ => match r with
   |none=>R (.ok .next) s₁
   |some v=>wpAny 1e2 A (letOwnedTupleGo g.target it v) (fun _ s₁'=>wpAny 1e2 A (assign g.target env v) (fun _ s₂=>
     wpAny 1e2 A (vL g.ifs env) (fun ok s₃=>
      if ok=true then nu 1e2 A e (d+1) acc env (fun s₅=>∃m,m<n/\I m s₅) vc s₃
      else ∃m,m<n/\I m s₃) vc s₂) vc s₁') vc s₁) vc s)(n:Nat)(h:I n s):codeAny 1e2 A (.compLoop e d it acc env) R s:=by
 refine codeAny_loop (by cases e <;> first|exact absurd (show false=true from he) Q0|rfl) I (fun n s hI=>?_) n h
 cases e <;> first
  |exact absurd (show false=true from he) Q0
  | (show wpAny _ A ((compTurn _ d it acc env).onRaise (fun x => do noteFrame x env; theTreesLotGoes x)) _ _ s
     refine wpAny_noted (Gp he hz hg (QR (turn n s hI) (fun r s₁ h₁=>?_) fun _ _ z=>z.elim));cases r with
     |none=>exact h₁
     |some v=>
      refine QR h₁ (fun _ s₂ h₂=>QR h₂ (fun _ s₃ h₃=>QR h₃ (fun ok s₄ h₄=>?_) fun _ _ z=>z.elim) fun _ _ z=>z.elim) fun _ _ z=>z.elim;cases ok with
      |false=>exact Q3 ⟨rfl,h₄⟩
      |true=>
       dsimp[RI]at h₄⊢
       exact yw (fun s₅ h₅=>Q3 ⟨rfl,h₅⟩) h₄)
end
abbrev CU:=St->Hp->(St->Hp->Prop)->Prop
def vb(X:Cx)(e:Expr)(k:Nat)(acc:Addr)(t:CU):Prop:=
 ∀(pins:List 3e5)(s:Shared)(B:St)(H:Hp)(N:St->Hp->Prop),bb X pins B H s->t B H N->nu 1e1 X.A e k (.ref acc) 2e1 (fun s'=>∃B' H',bb X pins B' H' s'/\N B' H') vc s
def OD(α:It)(g:TG)(tt:TT)(tb:CU)(N:St->Hp->Prop)(B:St)(H:Hp):Prop:=∃W:Nat->Nat->St->Hp->Prop,(∃m,W 0 m B H)/\∀i m B1 H,W i m B1 H ->
 (α.stop i H/\N B1 H)\/(α.go i H/\∃N':St->Hp->Prop,(∀B' H',N' B' H'->∃m',m'<m/\W (i+1) m' B' H')/\∀x H',α.yld i H x H'->g x B1 H' fun B2 H2=>tt B2 H2 fun b H3=>if b=true then tb B2 H3 N' else N' B2 H3)
section
variable{X:Cx}{d:Nat}{cl:Comprehension}{g:TG}{tt:TT}{tb:CU}
theorem qN{α:It}{tn:Nat->Heap->Prop}{N:St->Hp->Prop}(he:nN e=true)(hz:∀g∈clausesOf e,g.is_async=0)(hg:(clausesOf e)[d]?=some cl)(hxe:X.xe=vc)(hc:X.calm=true)(T:Bo X.prog X.w X.K cl.target α fp it tn)(hgc:PG X cl.target g)(htc:rZ X cl.ifs tt)(hb:vb X e (d+1) acc tb)(I:bb X pins B H s)(st:tn 0 3e2)(fr:∀b∈fp,oy X pins H b)(h:OD α g tt tb N B H):
  codeAny 1e1 X.A (.compLoop e d (.ref it) (.ref acc) 2e1) (fun r s'=>r=.ok .next/\∃B' H',bb X pins B' H' s'/\N B' H') s:=by
 obtain⟨W,⟨m0,w0⟩,turn⟩:=h;have stat:∀{H':Hp},(∀b∈fp,H' b=none)->∀b∈fp,oy X pins H' b:=fun hn b hb=>⟨hn b hb,(fr b hb).2⟩;refine Cd he hz hg (fun n s'=>∃i B' H',bb X pins B' H' s'/\tn i s'.heap/\(∀b∈fp,H' b=none)/\W i n B' H') ?_ m0 ⟨0,_,_,I,st,fun b hb=>(fr b hb).1,w0⟩
 rintro n s5 ⟨i,B5,H5,I5,st5,fr5,w5⟩
 rcases turn i n B5 H5 w5 with⟨stop,qn⟩|⟨go,N',hN,step⟩
 ·refine dF (T.done X rfl rfl rfl hc i pins s5 B5 H5 vc I5 (stat fr5) st5 stop) fun r s6 ⟨hr,I6⟩=>?_;subst hr;exact⟨rfl,_,_,I6,qn⟩
 ·refine dF (T.item X rfl rfl rfl hc i pins s5 B5 H5 vc I5 (stat fr5) st5 go) fun r s6 ⟨u, hr, h6⟩ => ?_;subst hr;refine dF h6 fun _ s7 ⟨x,H7,I7,r7,y7,st7,fr7⟩=>?_;have I7':=I7.pinned (stat fr7) (T.obj _ _ st7);have z1:=hgc _ s7 B5 H7 x u _ I7' r7 (step x H7 y7);rw[hxe]at z1;refine dF z1 fun _ s8 ⟨B8,H8,I8,q8⟩=>?_;have z2:=htc _ s8 B8 H8 _ I8 q8;rw[hxe]at z2;refine dF z2 fun b s9 ⟨H9,I9,q9⟩=>?_
  have again:∀{σa:St}{Ha:Hp}{sa:Shared},bb X (pins++sv fp s7.heap) σa Ha sa->N' σa Ha->∃m,m<n/\∃i B' H',bb X pins B' H' sa/\tn i sa.heap/\(∀b∈fp,H' b=none)/\W i m B' H':=fun {σa Ha sa} Ia na=>by
   obtain⟨m',hm,wa⟩:=hN σa Ha na;refine⟨m',hm,i+1,σa,Ha,Ia.unpinned,T.keep _ _ _ st7 fun b hb o e=>(Ia.pin (b,o) (Rb _ (Rb _ (lg hb e)))).1,fun b hb=>?_,wa⟩;obtain⟨o,e,d⟩:=T.obj _ _ st7 b hb;exact(Ia.pin (b,o) (Rb _ (Rb _ (lg hb e)))).2.1
  cases b with
  |false=>
   rw[Qv Q0]at q9⊢;exact again I9 q9
  |true=>
   rw[Qu rfl]at q9⊢;exact yw (fun s' ⟨B',H',I',n'⟩=>again I' n') (hb _ s9 B8 H9 _ I9 q9)
def DF(wi:TI)(g:TG)(tt:TT)(tb:CU):CU:=fun B H N=>wi B H fun α H1=>OD α g tt tb N B H1
theorem BZ{wi:TI}(he:nN e=true)(hz:∀g∈clausesOf e,g.is_async=0)(hg:(clausesOf e)[d]?=some cl)(hxe:X.xe=vc)(hc:X.calm=true)(hi:PI X cl.target cl.iter wi)(hgc:PG X cl.target g)(htc:rZ X cl.ifs tt)(hb:vb X e (d+1) acc tb)
  (hs:∀x,foldedSetIterable cl.iter 2e1 x=pure x):vb X e d acc (DF wi g tt tb):=by
 intro pins s B H N I h;unfold nu;rw[hg];have z:=hi pins s B H _ I h;rw[hxe]at z;refine dF z fun v s1 h1=>SH (hs v) (dF h1 fun itv s2 h2=>?_);obtain⟨it,fp,tn,α,H2,e',I2,T,st2,f2,rd⟩:=h2;subst e';have loop:=qN he hz hg hxe hc T hgc htc hb I2 st2 f2 rd;exact uE he hz hg (Rh loop fun r s' ⟨h1,h2⟩=>⟨⟨_,h1⟩,h2⟩) (T.self _ 0 _ _ _ st2 (Rh loop fun r s' ⟨h1,h2⟩=>⟨⟨_,h1⟩,h2⟩))
def Dg(te:TE)(acc:Addr):CU:=fun B H N=>te B H fun y H4=>∃ys,H4 acc=some (.lst ys)/\ys.length<sizeLine/\N B (cV H4 acc (.lst (ys++[y])))
theorem sJ(hg:gens[d]?=none)(hxe:X.xe=vc)(hel:PE X elt te):vb X (.ListComp elt gens scope pos) d acc (Dg te acc):=by
 intro pins s B H N I h;unfold nu;show (match gens[d]? with|some g=>_|none=>_:Prop);rw[hg];show wpAny _ _ (do let _ <- call (.builtin "list.append") [.ref acc,<- eval elt 2e1]) _ _ _;have z:=hel pins s B H _ I h;rw[hxe]at z;refine QW (dF z fun v10 s10 ⟨y,H10,I10,r10,ys,hy,hz,nn⟩=>?_);have z4:=uN (X:=X) pins s10 B H10 (.ref acc) [y] (.ref acc) [v10] (fun _ H'=>N B H') I10 rfl (.cons r10 .nil) ⟨_,ys,y,rfl,rfl,hy,hz,nn⟩;rw[hxe]at z4;exact QW (dF z4 fun v11 s11 ⟨y',H11,I11,r11,n11⟩=>Q3 ⟨_,_,I11,n11⟩)
end
theorem FA{M:Model}{Q:Env->Shared->Prop}(hQ : ∀ h', h'.Ns 0e3 (fun _ => none) -> (∀ b o, s.heap.get? b = some o -> h'.get? b = some o) -> (∀ x c, (cellsFrom (s.heap.objs.size + 1) scope.names cl).lookup x = some c -> cl.lookup x = some c \/ h'.IsCell c none) ->
   ∀cenv:Env,({cenv with scope:=relabel scope env}:Env)=compEnvC scope (cellsFrom 8e7 scope.names cl) 0e3 env->cenv.locals=s.heap.objs.size->Q cenv {s with heap:=h'}):
  wpAny M A (newFunctionEnv scope env.globals cl [] env.qual none .none (some env)) Q E s:=by
 dsimp[newFunctionEnv,Option.isSome_some,RI];refine QW (wpAny_alloc ?_);refine QW (wpAny_layCells _ (fun name kind cells=>by cases hkc:kind == NameKind.cell <;> simp[hkc]) _ _ _ _ ?_);have hsz:(s.heap.push {cls:=.type "dict",data:=.dict #[]}).objs.size=s.heap.objs.size+1:=SB ..;refine QW (Q3 (Q3 ?_));show Q _ {s with heap:=pushCells (s.heap.push {cls:=.type "dict",data:=.dict #[]}) scope.names};refine hQ _ ((Heap.Ns.new 3e2 (.type "dict")).keeps (SC _ _)) (fun b o e=>SC _ _ b o (Q6 _ e)) (fun x c e=>?_) _ ?_ rfl
 ·rw[<- hsz]at e;exact mq e
 ·show _=_;unfold compEnvC;rw[<- hsz]
def nK(o0:Addr->HO)(wi:TI)(cap:List 4e7)(g:TG)(tt:TT)(tb:Addr->CU):TE:=fun B H Q=>wi B H fun α H1=>∀acc,H1 acc=none->OD α g tt (tb acc) (fun _ H'=>Q (.ref acc) H') (sr cap B) (cV H1 acc (o0 acc))
def Dh(wi:TI)(cap:List 4e7)(g:TG)(tt:TT)(te:TE):TE:=nK (fun _=>.lst []) wi cap g tt (Dg te)
def OV(X:Cx)(newAcc:Sem Value)(o0:Addr->HO):Prop:=∀(pins:List 3e5)(s:Shared)(B:St)(H:Hp)(Q:Value->Shared->Prop),bb X pins B H s ->
 (∀s',bb X pins B (cV H 0e3 (o0 0e3)) s'->(∀b o,s.heap.get? b=some o->s'.heap.get? b=some o)->s.heap.objs.size<s'.heap.objs.size->Q (.ref 0e3) s')->wpAny 1e1 X.A newAcc Q X.xe s
theorem x5{X:Cx}:OV X (newList []) (fun _=>.lst []):=fun pins s B H Q I h=>
 RX (h _ (I.lnew (t':=s.toks) (ys:=[]) (its:=[]) .nil (SI _)) (fun b o e=>Q6 _ e) (by rw[SB];exact Sy _))
section
variable{X:Cx}{cl0:Comprehension}{rest:List Comprehension}{cap:List 4e7}{wi:TI}{g:TG}{tt:TT}{tb:Addr->CU}{o0:Addr->HO}{newAcc:Sem Value}
theorem qk{use:Option (Value->Sem Unit)}{Q:VK}{QQ:Value->Shared->Prop}(he:nN e=true)(hz:∀g∈clausesOf e,g.is_async=0)(hcl0:clausesOf e=cl0::rest)(hmk:OV X newAcc o0)(hc:X.calm=true)(S:bZ X.N 2e1 scope Nc cap)(hi:PI X cl0.target cl0.iter wi)(hg:∀cl C s H fp,PG 0e7 cl0.target g)(ht:∀cl C s H fp,rZ 0e7 cl0.ifs tt)(hb:∀cl C s H fp acc,vb 0e7 e 1 acc (tb acc))(I:bb X pins B H s)(h:nK o0 wi cap g tt tb B H Q)(hfin:∀C acc s' H',bb X pins B H' s'->oy X pins H' C->(∃m,s'.heap.Ns C m)->Q (.ref acc) H'->compPost 1e1 X.A X.xe use QQ (.ref acc) C (.ok .next) s')(hs:∀x,foldedSetIterable cl0.iter 2e1 x=pure x):
  wpAny 1e1 X.A (comprehension e scope 2e1 pos' newAcc false (eval cl0.iter 2e1) use) QQ X.xe s:=by
 obtain⟨cl,hclos,hcl,hall⟩:=Af (scope:=scope) (env:=2e1) (fun y hy hf=>I.ok.has y.1 (S.free y hy hf));have hg0:(clausesOf e)[0]?=some cl0:=by rw[hcl0];rfl
 refine wpAny_comprehension_free hcl0 hs hclos S.kind (fun x hx e=>by rw[S.nd x hx,e]) ?_;refine dF (hi pins s B H _ I h) fun v s1 h1=>dF h1 fun itv s2 h2=>?_;obtain⟨it,fp,tn,α,H2,e',I2,T,st2,f2,rd⟩:=h2;subst e';have rd:=rd _ I2.fresh;refine hmk pins s2 B H2 _ I2 fun s3 I3 hk3 hsz3=>?_;have st3:tn 0 s3.heap:=T.keep _ _ _ st2 fun b _ o e=>hk3 b o e
 have fpn:∀b∈fp,b≠s2.heap.objs.size:=fun b hb=>by
  obtain⟨o,eo,_⟩:=T.obj _ _ st2 b hb;exact QA (Qw eo)
 have f3:∀b∈fp,oy X pins 6e0 b:=fun b hb=>⟨by rw[bE (fpn b hb)];exact(f2 b hb).1,(f2 b hb).2⟩
 have hfs:∀b∈fp,b<s3.heap.objs.size:=fun b hb=>by
  obtain⟨o,eo,_⟩:=T.obj _ _ st3 b hb;exact Qw eo
 refine FA fun h1 hns1 hk1 hce cenv ecenv elc=>?_;rw[ecenv]
 have IB:bb (jx X Nc scope cl s3.heap.objs.size s3 6e0 fp) [] (sr cap B) 6e0 {s3 with heap:=h1,toks:=s3.toks}:=
  Cm I3 f3 hfs S hcl hall hns1 hk1 hce
 have stB:tn 0 h1:=T.keep _ _ _ st3 fun b _ o e=>hk1 b o e;rw[elc]
 have frB:∀b∈fp,oy (jx X Nc scope cl s3.heap.objs.size s3 6e0 fp) [] 6e0 b:=fun b hb=>
  ⟨(f3 b hb).1,(IB.ok.exf b hb).1,IB.ok.exfs b hb,.inl hb,(IB.ok.exf b hb).2,fun p hp=>absurd (show p∈([]:List 3e5) from hp) 0e6⟩
 have loop:=qN (X:=jx X Nc scope cl s3.heap.objs.size s3 6e0 fp) he hz hg0 rfl hc T (hg _ _ _ _ _) (ht _ _ _ _ _) (hb _ _ _ _ _ _) IB stB frB rd
 have fin:∀r s',(r=.ok .next/\∃B' H',bb (jx X Nc scope cl s3.heap.objs.size s3 6e0 fp) [] B' H' s'/\Q (.ref s2.heap.objs.size) H')->compPost 1e1 X.A X.xe use QQ (.ref s2.heap.objs.size) s3.heap.objs.size r s':=by
  rintro r s' ⟨rfl,B',H',α',q⟩
  have I5:bb X pins B H' s':=I3.call' (ch:=fp) α'.os α'.base α'.hok α'.bare fun b hbf=>⟨(f3 b hbf).2.2.2.1,(f3 b hbf).2.1,(f3 b hbf).2.2.2.2.1,(f3 b hbf).2.2.2.2.2⟩;obtain⟨mm,hnn,_⟩:=α'.loc;exact hfin _ _ s' H' I5 (I3.fpOk 8e0 α'.free) ⟨mm,hnn⟩ q
 exact uE he hz hg0 (Rh loop fin) (T.self _ 0 _ _ _ stB (Rh loop fin))
theorem xS(hc:X.calm=true)(hz:∀g∈cl0::rest,g.is_async=0)(S:bZ X.N 2e1 scope Nc cap)(hi:PI X cl0.target cl0.iter wi)
  (hg:∀cl C s H fp,PG 0e7 cl0.target g) (ht:∀cl C s H fp,rZ 0e7 cl0.ifs tt) (hb:∀cl C s H fp acc,vb 0e7 8e5 1 acc (tb acc))
  (hs:∀x,foldedSetIterable cl0.iter 2e1 x=pure x):PE X 8e5 (nK (fun _=>.lst []) wi cap g tt tb):=by
 intro pins s B H Q I h;have h0:=hz cl0 QG;obtain⟨tg0,it0,if0,as0⟩:=cl0;have h0':as0=0:=h0;subst h0';rw[arm_eval_ListComp];refine qk (e:=.ListComp elt (_::rest) scope pos) (Q:=Q) rfl hz rfl x5 hc S hi hg ht hb I h (fun C acc s' H' I' hf hn q=>?_) hs;obtain⟨m,hn⟩:=hn;refine⟨m,hn,fun h' sb=>⟨.ref acc,H',?_,rfl,q⟩⟩;exact I'.turned (t':=s'.toks) (it:=C) (fun b o hb e=>(sb.2 b hb).trans e) hf.1 hf.2.1 hf.2.2.2.1 hf.2.2.2.2.1 hf.2.2.2.2.2
theorem EN(hc:X.calm=true)(hz:∀g∈cl0::rest,g.is_async=0)(hN:X.N.Nodup)(hix:X.N[i]?=some x)(hx:X.env.scope.names.lookup x=some .local)(S:bZ X.N 2e1 scope Nc cap)(hi:PI X cl0.target cl0.iter wi)(hg:∀cl C s H fp,PG 0e7 cl0.target g)(ht:∀cl C s H fp,rZ 0e7 cl0.ifs tt)(hb:∀cl C s H fp acc,vb 0e7 8e5 1 acc (tb acc))(hsw:swapsWith 8e5 (some (.Name x pos1)) pos2.line 2e1=pure true)(hs:∀x,foldedSetIterable cl0.iter 2e1 x=pure x):
  PS X (.Assign [.Name x pos1] 8e5 pos2) (CV (nK (fun _=>.lst []) wi cap g tt tb) (xh i)):=by
 intro pins s B H D I h;have h0:=hz cl0 QG;obtain⟨tg0,it0,if0,as0⟩:=cl0;have h0':as0=0:=h0;subst h0';rw[exec_Assign_Name_used _ _ _ _ hsw];refine QW (QY (QW ?_));show wpAny _ X.A (do let _ <- comprehension (.ListComp elt (⟨tg0,it0,if0,0⟩::rest) scope pos) scope 2e1 _ (newList []) false (eval it0 2e1) (some (assign (.Name x pos1) 2e1))) _ _ s
 refine QW (QR (qk (e:=.ListComp elt (_::rest) scope pos) (use:=some (assign (.Name x pos1) 2e1)) (Q:=fun v H1=>D.nx (B.set i (some v)) H1) (QQ:=fun _ s'=>SP X pins D .next s') rfl hz rfl x5 hc S hi hg ht hb I h (fun C acc s' H' I' hf hn q=>?_) hs)
  (fun _ s' hq=>Q3 (Q3 hq)) fun _ _ e=>e)
 obtain⟨m,hn⟩:=hn;show wpAny _ X.A (assign (.Name x pos1) 2e1 (.ref acc)) _ _ _;refine wpAny_assign_Name (uD I' hN hix (.inl hx) (show cB (.ref acc) (.ref acc) from rfl) (fun s'' I'' hsb=>?_) (.inr hx));obtain⟨a,sb,ha⟩:=hsb
 have hCa:C≠a:=by
  rcases ha with z|z
  ·rw[z];exact hf.2.1
  ·exact fun e=>hf.2.2.2.2.1 x a z e.symm
 refine⟨m,hn.sameBut sb hCa,fun h' sb'=>⟨_,H',?_,q⟩⟩;exact I''.turned (t':=s''.toks) (it:=C) (fun b o hb e=>(sb'.2 b hb).trans e) hf.1 hf.2.1 hf.2.2.2.1 hf.2.2.2.2.1 hf.2.2.2.2.2
variable{ifs:List Expr}
theorem uM:∀g∈([⟨tg,iter,ifs,0⟩]:List Comprehension),g.is_async=0:=fun g hg=>by rw[SJ.mp hg]
theorem Hq(hc:X.calm=true)(S:bZ X.N 2e1 scope Nc cap)(hi:PI X tg iter wi)
  (hg:∀cl C s H fp,PG 0e7 tg g) (ht:∀cl C s H fp,rZ 0e7 ifs tt) (he:∀cl C s H fp,PE 0e7 elt te)
  (hs:∀x,foldedSetIterable iter 2e1 x=pure x:=by intro _;rfl):PE X 3e3 (Dh wi cap g tt te):=
 xS (cl0:=⟨tg,iter,ifs,0⟩) hc uM S hi hg ht (fun cl C s H fp acc=>sJ rfl rfl (he cl C s H fp)) hs
theorem Hf(hc:X.calm=true)(hN:X.N.Nodup)(hix:X.N[i]?=some x)(hx:X.env.scope.names.lookup x=some .local)(S:bZ X.N 2e1 scope Nc cap)(hi:PI X tg iter wi)(hg:∀cl C s H fp,PG 0e7 tg g)(ht:∀cl C s H fp,rZ 0e7 ifs tt)(he:∀cl C s H fp,PE 0e7 elt te)(hsw:swapsWith 3e3 (some (.Name x pos1)) pos2.line 2e1=pure true)(hs:∀x,foldedSetIterable iter 2e1 x=pure x:=by intro _;rfl):
  PS X (.Assign [.Name x pos1] 3e3 pos2) (CV (Dh wi cap g tt te) (xh i)):=
 EN (cl0:=⟨tg,iter,ifs,0⟩) hc uM hN hix hx S hi hg ht (fun cl C s H fp acc=>sJ rfl rfl (he cl C s H fp)) hsw hs
end
end L2
namespace RS
open PySem PySem.W PyProof.Rows
open AutoSeq1 (wpAny_loadPart')
section
theorem wC{t:Addr}{items}{x:Value}(hit:s.heap.IsTupleIter it t i)(ht:s.heap.IsTuple t items)(hx:items[i]?=some x)(hQ:∀h',h'.IsTupleIter it t (i+1)->Heap.SameBut it 3e2 h'->Q x {s with heap:=h'}):wpAny 1e2 A (Builtin.SmallTypes.nextOf (.ref it)) Q E s:=by
 obtain⟨o,ho,hc,hd⟩:=id hit;obtain⟨ol,hol,_,nl,hdl⟩:=ht;unfold Builtin.SmallTypes.nextOf;refine QW (RO (name:=Str.ofString "__next__") hit.typeIs SK (RQ SK hit.typeIs SL ?_ (SM _)));show wpAny _ _ (field (.ref it) 0 >>= _) _ _ s;refine QW (RK ho hd (x:=.ref t) rfl ?_);show wpAny _ _ (if (Value.ref t == Value.none)=true then _ else _) _ _ s;rw[Qv (show ¬ ((Value.ref t == Value.none)=true) from Q0)];show wpAny _ _ (field (.ref it) 1 >>= _) _ _ s;refine QW (RK ho hd (x:=.int i 0) rfl ?_);show wpAny _ _ (seqItems? (.ref t) >>= _) _ _ s;refine QW (SN hol hdl ?_);dsimp[RF,hx];refine QW (wpAny_setField ho hd 0e6 (Q3 ⟨x,rfl,Q3 (hQ _ ?_ (SQ ..))⟩));exact⟨_,R8 _ ho (Obj.isFreed_of_fields (Obj.data_mapFields hd _)),(Obj.cls_mapFields ..).trans hc,by rw[Obj.data_mapFields hd];simp[rawInt]⟩
theorem qC{t:Addr}{items}(hh:A.handled=none)(hit:s.heap.IsTupleIter it t i)(ht:s.heap.IsTuple t items)(hx:items[i]?=none)(hE:∀h' e,Heap.ExtBut it 3e2 h'->(∃o,h'.get? e=some o/\o.cls=.type "StopIteration")->E (.ref e) {s with heap:=h'}):wpAny 1e2 A (Builtin.SmallTypes.nextOf (.ref it)) Q E s:=by
 obtain⟨o,ho,hc,hd⟩:=id hit;obtain⟨ol,hol,_,nl,hdl⟩:=ht;unfold Builtin.SmallTypes.nextOf;refine QW (RO (name:=Str.ofString "__next__") hit.typeIs SK (RQ SK hit.typeIs SL ?_ (SM _)));show wpAny _ _ (field (.ref it) 0 >>= _) _ _ s;refine QW (RK ho hd (x:=.ref t) rfl ?_);show wpAny _ _ (if (Value.ref t == Value.none)=true then _ else _) _ _ s;rw[Qv (show ¬ ((Value.ref t == Value.none)=true) from Q0)];show wpAny _ _ (field (.ref it) 1 >>= _) _ _ s;refine QW (RK ho hd (x:=.int i 0) rfl ?_);show wpAny _ _ (seqItems? (.ref t) >>= _) _ _ s;refine QW (SN hol hdl ?_);dsimp[RF,hx];refine QW (SG (QW (wpAny_setField ho hd 0e6 ?_)));show wpAny _ _ (newExc (.type "StopIteration") [] >>= _) _ _ _;refine QW ?_;dsimp[newExc,newTuple];refine QW (RX ?_ (by size_fits));refine QW (m:=firstArgMember _ _) (SH (a:=Value.none) (by first|rfl|(dsimp[firstArgMember];rfl)) ?_);refine RX ?_ (by size_fits);dsimp[raiseNew];refine QW (wpAny_handled ?_)
 first|rw[show A.in1.handled=none from hh]|rw[hh]
 refine QW (Q3 (wpAny_throw ?_));exact hE _ _ (((SQ ..).extBut.push _).push _) ⟨_,Q7 _ rfl,rfl⟩
end
theorem Mc(hh:A.handled=none)(it l:Addr)(hne:l≠it)(items:Array Value):
  Draws prog w A it [it,l] 4e0 (fun i v=>items[i]?=some v) (fun i h=>h.IsTupleIter it l i/\h.IsTuple l items) where
 live:=fun _ _ st=>let ⟨o,ho,_⟩:=st.1;⟨o,ho⟩
 frame:=fun _ _ _ st hk=>⟨by
  obtain⟨o,ho,r⟩:=st.1;exact⟨o,hk it 0e6 o ho,r⟩,by
  obtain⟨o,ho,r⟩:=st.2
  exact⟨o,hk l 0e6 o ho,r⟩⟩
 item:=fun i s Q E hi st hQ=>by
  refine wC st.1 st.2 (x:=items[i]) (by simp[hi]) fun h' hit' hs'=>?_;refine hQ _ h' s.toks (by simp[hi]) ⟨hit',?_⟩ hs';obtain⟨o,ho,r⟩:=st.2;exact⟨o,(hs'.2 l hne).trans ho,r⟩
 done:=fun s Q E st hE=>qC hh st.1 st.2 0e6 hE
theorem yJ(l:Addr)(items:Array Value)(n:Nat)(dct:Option Addr)(sl:Array (Option Value)) :
  Meets (Builtin.«enumerate.__new__» ⟨[.type "enumerate",.ref l],[]⟩) (fun _ R s=>s.heap.get? l=some {cls:=.type "tuple",dict:=dct,data:=.seq items n,slots:=sl} /\
   R (.ok (.ret (.ref (s.heap.push {cls:=.type "tuple_iterator",data:=.fields #[.ref l,.int 0 0]}).objs.size)))
    {s with heap:=(s.heap.push {cls:=.type "tuple_iterator",data:=.fields #[.ref l,.int 0 0]}).push {cls:=.type "enumerate",data:=.fields #[.none,.bool false,.ref 0e3,rawInt 0,.none,.none]}}):=
 .of_wp fun prog w A R s h=>by
  obtain⟨hp,g,d,tk,os⟩:=s;obtain⟨hl,h⟩:=h;have hsub:=sub_enumerate;have hL:Heap.IsTuple (Shared.heap ⟨hp,g,d,tk,os⟩) l items:=⟨_,hl,rfl,n,rfl⟩
  wp_walk using wpAny_loadPart' hl
  refine wpAny_stack_any fun st=>Q3 ?_;split
  ·rename_i c _ _ _ _ _;cases (c == Value.type "enumerate")
   ·wp_walk using wpAny_loadPart' hl, SR hL
    exact⟨_,rfl,h⟩
   ·wp_walk using wpAny_loadPart' hl, SR hL
    exact⟨_,rfl,h⟩
  ·wp_walk using wpAny_loadPart' hl, SR hL
   exact⟨_,rfl,h⟩
section
theorem Al{items:Array Value}(hL:s.heap.IsTuple l items)(h : ∀ h', IsEnum h' (s.heap.objs.size + 1) 0e3 0 .none -> h'.IsTupleIter 0e3 l 0 -> h'.objs.size = s.heap.objs.size + 2 ->
   (∀b o,s.heap.get? b=some o->h'.get? b=some o)->Q (.ref 8e7) {s with heap:=h'}):
  wpAny 1e2 A (call (.type "enumerate") [.ref l]) Q E s:=by
 obtain⟨⟨c,dct,dt,sl⟩,hl,hc,n,hd⟩:=hL;replace hc:c=.type "tuple" := hc;replace hd:dt=.seq items n:=hd;subst hc hd;refine callType_new F.called_enumerate 0e4 (F.typeCall_enumerate_1 _) (F.newCall_enumerate_1 _) (fun obj=>F.args_object_init_2 obj _) F.entry_enumerate_new (yJ l items n dct sl) ⟨hl,?_⟩;have hz:(s.heap.push {cls:=.type "tuple_iterator",data:=.fields #[.ref l,.int 0 0]}).objs.size=s.heap.objs.size+1:=SB ..;show _/\_;rw[hz]
 have he:IsEnum ((s.heap.push {cls:=.type "tuple_iterator",data:=.fields #[.ref l,.int 0 0]}).push
   {cls:=.type "enumerate",data:=.fields #[.none,.bool false,.ref 0e3,rawInt 0,.none,.none]}) 8e7 0e3 0 .none:=by
  have:=Q7 (s.heap.push {cls:=.type "tuple_iterator",data:=.fields #[.ref l,.int 0 0]})
   (o:={cls:=.type "enumerate",data:=.fields #[.none,.bool false,.ref 0e3,rawInt 0,.none,.none]}) rfl
  rw[hz]at this;exact this
 exact⟨⟨_,he,rfl⟩,h _ he ⟨_,Q6 _ (Q7 _ rfl),rfl,rfl⟩ (by rw[SB,hz]) fun b o x=>Q6 _ (Q6 _ x)⟩
end
end RS
namespace L2
open PySem PySem.Spec PyProof.Rows RS
def Sq(b:Bool)(K:W.Frag)(H:Hp)(a:Addr)(xs:List V):Prop:=if b=true then gP K H a xs else gh K H a xs
noncomputable def OX(b:Bool)(K:W.Frag)(a:Addr):It:=
 ⟨fun i H => ∃ xs x, Sq b K H a xs /\ xs[i]? = some x,
  fun i H x H'=>∃q y,x=.ref q/\H q=none/\H'=cV H q (.tup [.int i,y])/\∀xs,Sq b K H a xs->xs[i]?=some y,
  fun i H=>∃xs,Sq b K H a xs/\xs.length=i⟩
def vp(b:Bool)(h:Heap)(it a:Addr)(i:Nat):Prop:=if b=true then h.IsListIter it a i else h.IsTupleIter it a i
theorem vp.obj{b:Bool}{h:Heap}(x:vp b h it a i):∃o,h.get? it=some o/\∀v,o.data≠.cell v:=by
 cases b with
 |true=>obtain⟨o,e,c,d⟩:=(show h.IsListIter it a i from x);exact⟨o,e,fun v z=>by rw[d]at z;cases z⟩
 |false=>obtain⟨o,e,c,d⟩:=(show h.IsTupleIter it a i from x);exact⟨o,e,fun v z=>by rw[d]at z;cases z⟩
theorem vp.keep{b:Bool}{h:Heap}(x:vp b h it a i)(k:∀o,h.get? it=some o->h'.get? it=some o):vp b h' it a i:=by
 cases b with
 |true=>obtain⟨o,e,r⟩:=(show h.IsListIter it a i from x);exact(show h'.IsListIter it a i from⟨o,k o e,r⟩)
 |false=>obtain⟨o,e,r⟩:=(show h.IsTupleIter it a i from x);exact(show h'.IsTupleIter it a i from⟨o,k o e,r⟩)
theorem yr{X:Cx}{b:Bool}{xs:List V}(I:bb X pins B H s)(hc:X.calm=true)(hq:Sq b X.K H a xs)(hne:a≠it):
  ∃(its:Array Value)(St:Nat->Heap->Prop),bt xs its.toList/\Draws X.prog X.w X.A.in1 it [it,a] its.size (fun i v=>its[i]?=some v) St/\(∀i,vp b 3e2 it a i->St i 3e2)/\∀i h,St i h->vp b h it a i:=by
 have hh:X.A.in1.handled=none:=by simpa using I.ok.hd hc
 cases b with
 |true=>
  obtain⟨its,rv,p,hz⟩:=I.list (show gP X.K H a xs from hq);exact⟨2e7,_,by simpa using rv,Draws.list hh it a hne 2e7,fun i h=>⟨h,p.isList⟩,fun i h st=>st.1⟩
 |false=>
  obtain⟨its,rv,p,hz⟩:=I.tuple (show gh X.K H a xs from hq);exact⟨2e7,_,by simpa using rv,Mc hh it a hne 2e7,fun i h=>⟨h,p⟩,fun i h st=>st.1⟩
theorem Ka{X:Cx}{b:Bool}{xs ys:List V}(I:bb X pins B H s)(h1:Sq b X.K H a xs)(h2:Sq b X.K H a ys):xs=ys:=by
 cases b with
 |true=>exact I.list_inj h1 h2
 |false=>exact I.tuple_inj h1 h2
theorem bb.turns{X:Cx}(I:bb X pins B H s)(k:∀b o,b∉ch->s.heap.get? b=some o->h'.get? b=some o)(hf:∀b∈ch,oy X pins H b):bb X pins B H {s with heap:=h',toks:=t'}:=by
 have nit:∀b u,H b=some u->b∉ch:=fun b u e z=>by rw[(hf b z).1]at e;cases e
 refine I.step (g':=s.gens) (d':=s.drawn) (ch:=ch) (fun b hb=>?_) (fun b o _ _ hc e _=>k b o hc e) (fun b o _ _ hc e _=>⟨o.slots,k b o hc e⟩) (fun _ _ _ _ n=>n)
  (fun b o hc e=>⟨o,k b o hc e⟩) (fun _ _ e=>e) (fun _ _ _ e=>e) (fun b ps e=>⟨#[],by rw[e];simp⟩) (fun m hm=>?_) (fun b u e=>?_) I.bare
 ·obtain⟨f0,f1,f2,f3,f4,f5⟩:=hf b hb;exact⟨f3,f1,f4,f5⟩
 ·obtain⟨o,es,ep,ho,r⟩:=hm;exact⟨o,es,ep,k _ o (fun z=>(hf _ z).2.1 rfl) ho,r⟩
 ·refine (I.hok b u e).stay (fun c v hc q => k c v ?_ q) (fun _ q => q) fun _ _ q => q;rcases hc with z|z
  ·rw[z];exact nit b u e
  ·exact nit c _ z
theorem Bu{b:Bool}(a it e:Addr)(hei:e≠it)(hai:a≠it)(hae:a≠e):
  Bo P w K (.Tuple elts k1 pos) (OX b K a) [e,it] e (fun i h=>(∃old,IsEnum h e it (i:Nat) old)/\vp b h it a i) where
 mem:=by simp
 obj:=fun i h st x hx=>by
  obtain⟨⟨old,he⟩,hi⟩:=st;rcases QI.mp hx with rfl|hx
  ·exact⟨_,he,fun v z=>by cases z⟩
  ·rw[SJ.mp hx];exact hi.obj
 keep:=fun i h h' st k=>by
  obtain⟨⟨old,he⟩,hi⟩:=st;exact⟨⟨old,k e 0e6 _ he⟩,hi.keep fun o eo=>k it 0e6 o eo⟩
 item:=by
  intro X hP hw hK hc i pins s B H E I hf st hg;subst hP hw hK;obtain⟨⟨old,he⟩,hi⟩:=st;obtain⟨xs,x,hq,hx⟩:=hg;obtain⟨its,St,rv,D,d1,d2⟩:=yr I hc hq hai;obtain⟨u,hu,ru⟩:=rv.get hx
  have hlt:i<its.size:=by
   have:=(QM.mp hu).1;simpa using this
  have hef:e ∉ [it,a]:=by
   dsimp[QI,SS,SU,not_or];exact⟨hei,QJ hae⟩
  obtain⟨f0,f1,f2,f3,f4,f5⟩:=hf e 0e6;obtain⟨g0,g1,g2,g3,g4,g5⟩:=hf it 0e6;have helt:e<s.heap.objs.size:=Qw he;have hilt:it<s.heap.objs.size:=by obtain⟨o,eo,_⟩:=hi.obj;exact Qw eo
  refine wpAny_pyNext_enum_itemD D he (d1 i hi) hlt hei hef fun y h' tk hy ho hst' ht hsz hk=>?_
  have ey:y=u:=by
   rw[<- Sl,hu]at hy;exact(Qp hy).symm
  subst ey;refine⟨_,rfl,?_⟩;refine wpAny_letOwnedTupleGo_enum (s:={s with heap:=h',toks:=tk+1}) ho fun h2 he2 hs2=>?_;replace hs2:Heap.SameBut e h' h2:=hs2;have hold:∀b o,b≠e->b≠it->s.heap.get? b=some o->h2.get? b=some o:=fun b o h1 h3 q=>(hs2.2 b h1).trans (hk b o h1 h3 q);have ht2:h2.get? 0e3=some {cls:=.type "tuple",data:=.seq #[.int i tk,y]}:=(hs2.2 _ (Q2 helt)).trans ht;have hqn:H 0e3=none:=I.hok.fresh 8e0
  have I1:bb X pins B (cV H 0e3 (.tup [.int i,x])) {s with heap:=s.heap.push {cls:=.type "tuple",data:=.seq #[.int i tk,y]},toks:=tk}:=by
   refine I.laid (t':=tk) (fun b o eo=>Q6 _ eo) 8e0 ?_;exact⟨by show 2<=sizeLine;decide,[.int i tk,y],.cons ⟨tk,rfl⟩ (.cons ru .nil),_,Q7 _ rfl,rfl,0,rfl⟩
  have hne:∀b∈[e,it],b≠s.heap.objs.size:=fun b hb=>by
   rcases QI.mp hb with rfl|hb
   ·exact QA helt
   ·rw[SJ.mp hb];exact QA hilt
  have hf':∀b∈[e,it],oy X pins (cV H 0e3 (.tup [.int i,x])) b:=fun b hb=>by
   obtain⟨k0,k1⟩:=hf b hb;exact⟨by rw[bE (hne b hb)];exact k0,k1⟩
  have I2:bb X pins B (cV H 0e3 (.tup [.int i,x])) {s with heap:=h2,toks:=tk+1}:=by
   refine bb.turns (s:={s with heap:=s.heap.push {cls:=.type "tuple",data:=.seq #[.int i tk,y]},toks:=tk}) I1 (ch:=[e,it]) (t':=tk+1) (fun b o hb eo=>?_) hf';dsimp[QI,SS,SU,not_or]at hb;by_cases hbq:b=0e3
   ·subst hbq;have:=(Q7 3e2 (o:={cls:=.type "tuple",data:=.seq #[.int i tk,y]}) rfl).symm.trans eo;rw[ht2];exact this
   ·have:s.heap.get? b=some o:=by
     rw[SV _ _ _ hbq]at eo;exact eo
    exact hold b o hb.1 hb.2 this
  refine⟨.ref 0e3,_,I2,rfl,⟨_,x,rfl,hqn,rfl,fun ys hy=>by rw[Ka I hy hq];exact hx⟩,⟨⟨y,by simpa using he2⟩,?_⟩,fun b hb=>(hf' b hb).1⟩;refine(d2 (i+1) h' hst').keep fun o eo=>?_;exact(hs2.2 it (QJ hei)).trans eo
 done:=by
  intro X hP hw hK hc i pins s B H E I hf st hg;subst hP hw hK;obtain⟨⟨old,he⟩,hi⟩:=st;obtain⟨xs,hq,hx⟩:=hg;obtain⟨its,St,rv,D,d1,d2⟩:=yr I hc hq hai
  have hil:its.size=i:=by
   have h1:=rv.length;have h2:its.toList.length=its.size:=QT;omega
  subst hil;refine wpAny_pyNext_enum_endD D he (d1 _ hi) fun h' hx=>⟨rfl,?_⟩;refine I.turns (ch:=[e,it]) (t':=s.toks) (fun b o hb eo=>hx b o (fun z=>hb (by rw[z];simp)) eo) hf
 self:=fun _ _ _ _ _ st h=>by
  obtain⟨⟨old,he⟩,hi⟩:=st;exact wpAny_pyIter_enum he h
section
variable{X:Cx}
def LW(K:W.Frag)(ta:TA):TI:=fun B H R=>ta B H fun vs H1=>∃a b,vs=[.ref a]/\(∃xs,Sq b K H1 a xs)/\R (OX b K a) H1
theorem Hk{a:Expr}{p tpos:Pos}(hg:Gl X "enumerate")(hm:X.mg "enumerate" = none)(ha:PA X [a] ta)(hs:starEach [a] 2e1=[11e2]:=by rfl):PI X (.Tuple elts k1 tpos) (.Call (.Name "enumerate" p) [a] [] pos) (LW X.K ta):=by
 intro pins s B H R I h;refine Call_ (nM I hg hm (by rfl) (Q9 9e7 hs rfl));obtain⟨l,b,e,⟨xs,hq⟩,q⟩:=q1;subst e;obtain⟨u,rfl,ru⟩:=gQ r1;cases ru
 have fin:∀h',IsEnum h' (s1.heap.objs.size+1) 8e2 0 .none->vp b h' 8e2 l 0->l<s1.heap.objs.size->h'.objs.size=s1.heap.objs.size+2->(∀b o,s1.heap.get? b=some o->h'.get? b=some o) ->
   wpAny 1e1 X.A (pyIter (.ref (s1.heap.objs.size+1))) (OU X pins B (.Tuple elts k1 tpos) R) X.xe {s1 with heap:=h'}:=by
  intro h' he hi hl hsz hk;have I2:bb X pins B H1 {s1 with heap:=h'}:=I1.kept (t':=s1.toks) hk;refine wpAny_pyIter_enum he ?_;refine⟨_,[s1.heap.objs.size+1,8e2],_,_,H1,rfl,I2,Bu (b:=b) l 8e2 (s1.heap.objs.size+1) (Nat.succ_ne_self _) (QA hl) (QA (SA hl)),⟨⟨.none,he⟩,hi⟩,fun b hb=>?_,q⟩;rcases QI.mp hb with rfl|hb
  ·exact I1.fpOk (Sg _) (I1.hok.fresh (Sg _))
  ·rw[SJ.mp hb];exact I1.fpOk 8e0 (I1.hok.fresh 8e0)
 cases b with
 |true=>
  obtain⟨its,rv,pl,hz⟩:=I1.list (show gP X.K H1 l xs from hq);have hl:l<s1.heap.objs.size:=by obtain⟨o,eo,_⟩:=pl.isList;exact Qw eo
  exact call_enumerate_list pl.isList fun h' he hi hsz hk=>fin h' he hi hl hsz hk
 |false=>
  obtain⟨its,rv,pl,hz⟩:=I1.tuple (show gh X.K H1 l xs from hq);have hl:l<s1.heap.objs.size:=by obtain⟨o,eo,_⟩:=pl;exact Qw eo
  exact Al pl fun h' he hi hsz hk=>fin h' he hi hl hsz hk
end
end L2
namespace RS
open PySem
def CP(mask:Nat):Nat->Nat->Nat->List Nat
 |0,_,_=>[]
 |n+1,i,pe=>(List.range (SetTable.runEnd mask i+1-i)).map (i+·)++CP mask n (SetTable.leap mask i pe).1 (SetTable.leap mask i pe).2
def fH(mask:Nat)(h:Int):List Nat:=CP mask (SetTable.turns mask) (SetTable.bits h%(mask+1)) (SetTable.bits h)
def jS(t:SetTable):Nat->SetTable.Probe->List Nat
 |0,_=>[]
 |n+1,p=>p.j::jS t n (t.advance p)
def oE(mask i pe:Nat)(d:Option Nat):SetTable.Probe:={j:=i,more:=SetTable.runEnd mask i-i,i,perturb:=pe,dummy:=d}
theorem xA(t:SetTable):∀(m n:Nat)(p:SetTable.Probe),p.more=m ->
  jS t (m+1+n) p=(List.range (m+1)).map (p.j+·)++jS t n (oE t.mask (SetTable.leap t.mask p.i p.perturb).1 (SetTable.leap t.mask p.i p.perturb).2 p.dummy)
 |0,n,p,h=>by
  have e:0+1+n=n+1:=by omega
  rw[e];show p.j::jS t n (t.advance p)=_
  have ea:t.advance p=oE t.mask (SetTable.leap t.mask p.i p.perturb).1 (SetTable.leap t.mask p.i p.perturb).2 p.dummy:=by
   unfold SetTable.advance;rw[Qv 0e0];rfl
  rw[ea];simp
 |m+1,n,p,h=>by
  have e:m+1+1+n=(m+1+n)+1:=by omega
  rw[e];show p.j::jS t (m+1+n) (t.advance p)=_
  have ea:t.advance p={p with j:=p.j+1,more:=p.more-1}:=by
   unfold SetTable.advance;rw[Qu 0e0]
  rw[ea,xA t m n {p with j:=p.j+1,more:=p.more-1} (by show p.more-1=m;omega)];rw[SW (n:=m+1),RZ,SX];show p.j::((List.range (m+1)).map (p.j+1+·)++_)=(p.j+0)::(List.map _ _)++_;rw[Nat.add_zero];show p.j::(_++_)=p.j::(_++_);congr 2;apply SY;intro a _;show p.j+1+a=p.j+(a+1);omega
theorem DK(mask i:Nat):i<=SetTable.runEnd mask i/\SetTable.runEnd mask i<=i+9:=by
 unfold SetTable.runEnd;split <;> omega
theorem xv(t:SetTable):∀(n i pe:Nat)(d:Option Nat),jS t (CP t.mask n i pe).length (oE t.mask i pe d)=CP t.mask n i pe
 |0,_,_,_=>rfl
 |n+1,i,pe,d=>by
  have hr:=DK t.mask i;show jS t ((List.range (SetTable.runEnd t.mask i+1-i)).map (i+·)++_).length _=_;rw[Ry,Rz,SZ];have e:SetTable.runEnd t.mask i+1-i=(SetTable.runEnd t.mask i-i)+1:=by omega
  rw[e,xA t (SetTable.runEnd t.mask i-i) _ (oE t.mask i pe d) rfl];show _++jS t (CP t.mask n (SetTable.leap t.mask i pe).1 (SetTable.leap t.mask i pe).2).length (oE t.mask (SetTable.leap t.mask i pe).1 (SetTable.leap t.mask i pe).2 d)=_;rw[xv t n];show _=(List.range (SetTable.runEnd t.mask i+1-i)).map (i+·)++_;rw[e];rfl
theorem AH(mask:Nat):∀(n i pe:Nat),(CP mask n i pe).length<=10*n
 |0,_,_=>SI _
 |n+1,i,pe=>by
  have hr:=DK mask i;have ih:=AH mask n (SetTable.leap mask i pe).1 (SetTable.leap mask i pe).2;show ((List.range (SetTable.runEnd mask i+1-i)).map (i+·)++_).length<=_;rw[Ry,Rz,SZ];omega
theorem A5(t:SetTable)(hashAt:Nat->Int)(h:Int):∀(pre:List Nat)(j:Nat)(post:List Nat)(fuel:Nat)(p:SetTable.Probe),jS t (pre.length+1+post.length) p=pre++j::post->pre.length<fuel->p.dummy=none ->
  (∀k∈pre,∃i,t.slot k=.live i/\hashAt i≠h) ->
  (t.slot j=.empty->SetTable.probe.go t hashAt h fuel p=some (.empty j none))/\(∀i,t.slot j=.live i->hashAt i=h->∃nx,SetTable.probe.go t hashAt h fuel p=some (.candidate j i nx))
 |[],j,post,0,p,_,hf,_,_=>by simp at hf
 |[],j,post,fuel+1,p,hw,_,hd,_=>by
  have ew:jS t (([]:List Nat).length+1+post.length) p=p.j::jS t post.length (t.advance p):=by
   rw[S8,show 0+1+post.length=post.length+1 from by omega];rfl
  rw[ew,Sn]at hw;have ej:p.j=j:=(S9 hw).1;refine⟨fun he=>?_,fun i hl hh=>?_⟩
  ·show (match t.slot p.j with | .empty=>_ | .dummy=>_ | .live i=>_)=_;rw[ej,he,hd]
  ·refine⟨t.advance p,?_⟩;show (match t.slot p.j with | .empty=>_ | .dummy=>_ | .live i=>_)=_;rw[ej,hl];show (if (hashAt i == h)=true then _ else _)=_;rw[Qu (by simpa using hh)]
 |x::pre,j,post,0,p,_,hf,_,_=>by simp at hf
 |x::pre,j,post,fuel+1,p,hw,hf,hd,hp=>by
  have ew:jS t ((x::pre).length+1+post.length) p=p.j::jS t (pre.length+1+post.length) (t.advance p):=by
   rw[Sx,show pre.length+1+1+post.length=(pre.length+1+post.length)+1 from by omega];rfl
  rw[ew,Ta]at hw;have ej:p.j=x:=(S9 hw).1;have er:=(S9 hw).2;obtain⟨i,hl,hne⟩:=hp x QG
  have hda:(t.advance p).dummy=none:=by
   unfold SetTable.advance;split
   ·exact hd
   ·exact hd
  have ih:=A5 t hashAt h pre j post fuel (t.advance p) er (by rw[Sx]at hf;omega) hda (fun k hk=>hp k (QH _ hk))
  have eg:SetTable.probe.go t hashAt h (fuel+1) p=SetTable.probe.go t hashAt h fuel (t.advance p):=by
   show (match t.slot p.j with | .empty=>_ | .dummy=>_ | .live i=>_)=_;rw[ej,hl];show (if (hashAt i == h)=true then _ else _)=_;rw[Qv (by simpa using hne)]
  rw[eg];exact ih
def FS(xs:List Nat):Prop:=xs.Pairwise (·<·)
theorem sR(xs:Array Nat)(j:Nat):∀(fuel lo hi:Nat),lo<=hi->hi<=xs.size->hi-lo<=fuel->(∀i k,i<k->k<xs.size->xs.getD i j<xs.getD k j)->(∀i,i<lo->xs.getD i j<j)->(∀i,hi<=i->i<xs.size->j<=xs.getD i j) ->
  let b:=SetTable.below.go xs j fuel lo hi
  b<=xs.size/\(∀i,i<b->xs.getD i j<j)/\(∀i,b<=i->i<xs.size->j<=xs.getD i j)
 |0,lo,hi,h1,h2,h3,hr,ha,hb=>by
  have e:lo=hi:=by omega
  subst e;exact⟨h2,ha,hb⟩
 |fuel+1,lo,hi,h1,h2,h3,hr,ha,hb=>by
  by_cases hlt:lo<hi
  ·dsimp[SetTable.below.go, hlt, RI];by_cases hc:xs.getD ((lo+hi) / 2) j<j
   ·rw [Qu hc];refine sR xs j fuel _ hi 0e0 h2 0e0 hr (fun i hi'=>?_) hb;by_cases e:i=(lo+hi) / 2
    ·rw[e];exact hc
    ·have:=hr i ((lo+hi) / 2) 0e0 0e0;omega
   ·rw [Qv hc];refine sR xs j fuel lo _ 0e0 0e0 0e0 hr ha (fun i hi' hs=>?_);by_cases e:i=(lo+hi) / 2
    ·rw[e];omega
    ·have:=hr ((lo+hi) / 2) i 0e0 hs;omega
  ·have e : lo = hi := by omega
   subst e;dsimp[SetTable.below.go,hlt,RH];exact⟨h2,ha,hb⟩
theorem vO{xs:Array Nat}(h:FS xs.toList)(j:Nat):∀i k,i<k->k<xs.size->xs.getD i j<xs.getD k j:=fun i k hik hk=>by
 have hi:i<xs.size:=by omega
 have:=Tb.mp h i k 6e3 (by simpa using hk) hik;simpa[Array.getD,hi,hk] using this
theorem nZ{xs:Array Nat}(h:FS xs.toList)(j:Nat):SetTable.below xs j<=xs.size/\(∀i,i<SetTable.below xs j->xs.getD i j<j)/\(∀i,SetTable.below xs j<=i->i<xs.size->j<=xs.getD i j):=
 sR xs j xs.size 0 xs.size (SI _) 8e0 0e0 (vO h j) (fun i hi=>by omega) (fun i h1 h2=>by omega)
theorem CL{xs:Array Nat}(h:FS xs.toList)(e:xs[i]?=some j):SetTable.below xs j=i:=by
 obtain⟨h1,h2,h3⟩:=nZ h j
 have hi:i<xs.size:=by
  rcases Tc.mp e with⟨q,_⟩;exact q
 have ei:xs.getD i j=j:=by
  rcases Tc.mp e with⟨q,z⟩
  simp[Array.getD,hi,z]
 by_cases hlt:SetTable.below xs j<i
 ·have a:=h3 (SetTable.below xs j) 8e0 0e0;have b:=vO h j (SetTable.below xs j) i hlt hi;omega
 ·by_cases hgt : i < SetTable.below xs j
  ·have:=h2 i hgt;omega
  ·omega
theorem lH{J:Type}(xs:Array J)(p:Nat)(x:J):(SetTable.insertAt xs p x).toList=xs.toList.take p++x::xs.toList.drop p:=by
 unfold SetTable.insertAt;simp[Td]
theorem nX{J:Type}(p:J->Prop):∀(l:List J),(∃x∈l,p x)->∃pre x post,l=pre++x::post/\p x/\∀y∈pre,¬ p y
 |[],h=>by obtain⟨x,hx,_⟩:=h;simp at hx
 |a::l,h=>by
  by_cases ha:p a
  ·exact⟨[],a,l,rfl,ha,fun y hy=>by simp at hy⟩
  ·obtain ⟨x, hx, px⟩ := h;rcases QI.mp hx with z|z
   ·rw[z]at px;exact absurd px ha
   ·obtain ⟨pre, y, post, e, py, hp⟩ := nX p l ⟨x, z, px⟩;refine⟨a::pre,y,post,by rw[e];rfl,py,fun w hw=>?_⟩;rcases QI.mp hw with q|q
    ·rw[q];exact ha
    ·exact hp w q
structure wN(t:SetTable)(es:Array (Int×Value))(ρ:List (Nat×Int×Value)):Prop where
 place:t.place.toList=ρ.map 5e4
 ents:es.toList=ρ.map (·.2)
 ris:FS (ρ.map 5e4)
 top:∀z∈ρ,z.1<=t.mask
 dum:t.dummies=#[]
 reach:∀z∈ρ,∃pre post,fH t.mask z.2.1=pre++z.1::post/\∀k∈pre,k∈ρ.map 5e4
theorem wN.size(T:wN t es ρ):t.place.size=ρ.length/\es.size=ρ.length:=by
 have a:=QU List.length T.place;have b:=QU List.length T.ents;simp at a b;exact⟨a,b⟩
theorem wN.fill(T:wN t es ρ):t.fill=ρ.length:=by
 unfold SetTable.fill;rw[T.size.1,T.dum];rfl
theorem uS(j:Nat):SetTable.has #[] j=false:=by
 unfold SetTable.has;simp
theorem wN.slot_empty(T:wN t es ρ)(h:j∉ρ.map 5e4):t.slot j=.empty:=by
 unfold SetTable.slot
 have hn:¬ (t.place[SetTable.below t.place j]? == some j)=true:=by
  intro e;have e':t.place[SetTable.below t.place j]?=some j:=by simpa using e
  apply h;rw[<- T.place];rw[<- Sl]at e';exact Rx e'
 dsimp[hn,T.dum,uS];rfl
theorem wN.slot_live(T:wN t es ρ)(h:ρ[i]?=some z):t.slot z.1=.live i:=by
 have e:t.place[i]?=some z.1:=by
  rw[<- Sl,T.place,Rv,h];rfl
 have r:FS t.place.toList:=by rw[T.place];exact T.ris
 have eb:=CL r e;unfold SetTable.slot;have hc:(t.place[SetTable.below t.place z.1]? == some z.1)=true:=by rw[eb,e];simp
 dsimp[hc,RI];rw[eb]
theorem wN.hashAt(T:wN t es ρ)(h:ρ[i]?=some z):es[i]?=some z.2:=by
 rw[<- Sl,T.ents,Rv,h];rfl
theorem oS{J:Type}:∀{l1 l2:List J},l1.Nodup->(∀x∈l1,x∈l2)->l1.length<=l2.length
 |[],_,_,_=>SI _
 |a::r,l2,hn,hs=>by
  obtain⟨s,t,e⟩:=List.append_of_mem (hs a QG);have hn':=Rj.mp hn
  have ih:=oS (l1:=r) (l2:=s++t) hn'.2 (fun x hx=>by
   have hx2:=hs x (QH _ hx);rw[e]at hx2;rcases QK.mp hx2 with q|q
   ·exact QL _ q
   ·rcases QI.mp q with q | q
    ·rw[q]at hx;exact absurd hx hn'.1
    ·exact Rb _ q)
  rw[e,Ry,Sx,Sx];rw[Ry]at ih;omega
theorem AG(mask:Nat):∀(n i pe:Nat),i<=mask->∀j∈CP mask n i pe,j<=mask
 |0,_,_,_,j,h=>by simp[CP]at h
 |n+1,i,pe,hi,j,h=>by
  rcases QK.mp h with q|q
  ·obtain ⟨k, hk, e⟩ := Te.mp q;have hk':=QC.mp hk;have:SetTable.runEnd mask i<=mask:=by unfold SetTable.runEnd;split <;> omega
   have e':i+k=j:=e;omega
  ·refine AG mask n _ _ ?_ j q;show (i*5+1+pe / 32)%(mask+1)<=mask;exact Nat.le_of_lt_succ (Nat.mod_lt _ (Nat.succ_pos mask))
theorem mS{h:Int}(e:j∈fH mask h):j<=mask:=by
 refine AG mask _ _ _ ?_ j e;exact Nat.le_of_lt_succ (Nat.mod_lt _ (Nat.succ_pos mask))
theorem Co{l:List Nat}(h:l.length<=m):∃j,j<=m/\j∉l:=by
 refine Tf fun hn=>?_
 have hall:∀j∈List.range (m+1),j∈l:=fun j hj=>by
  refine Tf fun hj'=>hn ⟨j,?_,hj'⟩;have:=QC.mp hj;omega
 have:=oS (Tg (n:=m+1)) hall;rw[SZ]at this;omega
theorem wN.search(T:wN t es ρ){h:Int}(cov:∀j,j<=t.mask->j∈fH t.mask h)(hz:ρ.length<=t.mask)(hA:Nat->Int)(hAe:∀i z,ρ[i]?=some z->hA i=z.2.1):
  (∃i z nx,ρ[i]?=some z/\z.2.1=h/\t.probe hA h (t.probeStart h)=some (.candidate z.1 i nx)) \/
  ((∀z∈ρ,z.2.1≠h)/\∃j pre post,t.probe hA h (t.probeStart h)=some (.empty j none)/\j<=t.mask/\j∉ρ.map 5e4/\fH t.mask h=pre++j::post/\∀k∈pre,k∈ρ.map 5e4):=by
 obtain⟨j0,hj0,hn0⟩:=Co (m:=t.mask) (l:=ρ.map 5e4) (by rw[Rz];exact hz);obtain⟨pre,j,post,e,hs,hp⟩:=nX (fun j=>j∉ρ.map 5e4\/∃z∈ρ,z.1=j/\z.2.1=h) (fH t.mask h) ⟨j0,cov j0 hj0,.inl hn0⟩
 have hw:jS t (pre.length+1+post.length) (t.probeStart h)=pre++j::post:=by
  have q:=xv t (SetTable.turns t.mask) (SetTable.bits h%(t.mask+1)) (SetTable.bits h) none
  have el:(CP t.mask (SetTable.turns t.mask) (SetTable.bits h%(t.mask+1)) (SetTable.bits h)).length=pre.length+1+post.length:=by
   show (fH t.mask h).length=_;rw[e,Ry,Sx];omega
  rw[el]at q;exact q.trans e
 have hlen:pre.length<10*SetTable.turns t.mask:=by
  have q:=AH t.mask (SetTable.turns t.mask) (SetTable.bits h%(t.mask+1)) (SetTable.bits h)
  have el:(CP t.mask (SetTable.turns t.mask) (SetTable.bits h%(t.mask+1)) (SetTable.bits h)).length=pre.length+1+post.length:=by
   show (fH t.mask h).length=_;rw[e,Ry,Sx];omega
  omega
 have occ:∀k∈pre,k∈ρ.map 5e4:=fun k hk=>by
  refine Tf fun q=>hp k hk (.inl q)
 have hpre:∀k∈pre,∃i,t.slot k=.live i/\hA i≠h:=fun k hk=>by
  obtain⟨z,hzm,ez⟩:=Te.mp (occ k hk);obtain⟨i,hi⟩:=Th hzm;refine⟨i,ez ▸ T.slot_live hi,fun q=>hp k hk (.inr ⟨z,hzm,ez,?_⟩)⟩;rw[<- hAe i z hi];exact q
 obtain⟨g1,g2⟩:=A5 t hA h pre j post (10*SetTable.turns t.mask) (t.probeStart h) hw hlen rfl hpre;by_cases hany:∃z∈ρ,z.2.1=h
 ·obtain ⟨z, hzm, ez⟩ := hany;obtain⟨pz,qz,ezz,hoz⟩:=T.reach z hzm;rw[ez]at ezz
  have hjo:j∈ρ.map 5e4:=by
   have e2:pre++j::post=pz++z.1::qz:=by rw[<- e,<- ezz]
   rcases List.append_eq_append_iff.mp e2 with⟨a,h1,h2⟩|⟨c,h1,h2⟩
   ·cases a with
    |nil=>
     dsimp[Sn]at h2;rw[(S9 h2).1];exact Ti hzm
    |cons x a=>
     rw[Ta]at h2;have:j∈pz:=by rw[h1,(S9 h2).1];simp
     exact hoz j this
   ·cases c with
    |nil=>
     dsimp[Sn]at h2;rw[<- (S9 h2).1];exact Ti hzm
    |cons x c=>
     rw[Ta]at h2;have:z.1∈pre:=by rw[h1,(S9 h2).1];simp
     exact absurd (.inr ⟨z,hzm,rfl,ez⟩) (hp z.1 this)
  rcases hs with q|⟨z',hz',e1,e2⟩
  ·exact absurd hjo q
  ·obtain⟨i,hi⟩:=Th hz';obtain⟨nx,en⟩:=g2 i (e1 ▸ T.slot_live hi) (by rw[hAe i z' hi];exact e2);exact .inl ⟨i,z',nx,hi,e2,by rw[e1];exact en⟩
 ·have hno : ∀ z ∈ ρ, z.2.1 ≠ h := fun z hz' e' => hany ⟨z, hz', e'⟩;rcases hs with q|⟨z',hz',e1,e2⟩
  ·have hjm:j<=t.mask:=mS (h:=h) (by rw[e];simp);exact .inr ⟨hno,j,pre,post,g1 (T.slot_empty q),hjm,q,e,occ⟩
  ·exact absurd e2 (hno z' hz')
theorem zL{l:List Nat}{p:Nat}(h:FS l)(h1:∀x∈l.take p,x<j)(h2:∀x∈l.drop p,j<x):FS (l.take p++j::l.drop p):=by
 unfold FS at *;have h':(l.take p++l.drop p).Pairwise (·<·):=by rw[Tj];exact h
 rw[List.pairwise_append]at h'⊢;refine⟨h'.1,Tn.mpr ⟨fun x hx=>h2 x hx,h'.2.1⟩,fun a ha b hb=>?_⟩;rcases QI.mp hb with q|q
 ·rw[q];exact h1 a ha
 ·exact h'.2.2 a ha b q
theorem wN.put(T:wN t es ρ){h:Int}{x:Value}{pre post:List Nat}(hj:j<=t.mask)(hn:j∉ρ.map 5e4)(e:fH t.mask h=pre++j::post)(hp:∀k∈pre,k∈ρ.map 5e4):
  ∃ρ',wN (t.put j).1 (SetTable.insertAt es (t.put j).2 (h,x)) ρ'/\ρ'.Perm ((j,h,x)::ρ)/\(t.put j).1={t with place:=SetTable.insertAt t.place (SetTable.below t.place j) j}:=by
 have e1:(t.put j).1={t with place:=SetTable.insertAt t.place (SetTable.below t.place j) j}:=by
  unfold SetTable.put;dsimp[T.dum,uS];rw[Qv Q0]
 have e2:(t.put j).2=SetTable.below t.place j:=rfl;have r:FS t.place.toList:=by rw[T.place];exact T.ris
 obtain⟨b1,b2,b3⟩:=nZ r j;generalize hb:SetTable.below t.place j=p at *;refine⟨ρ.take p++(j,h,x)::ρ.drop p,⟨?_,?_,?_,fun z hz=>?_,by rw[e1];exact T.dum,fun z hz=>?_⟩,?_,e1⟩
 ·rw[e1];show (SetTable.insertAt t.place p j).toList=_;rw[lH,T.place,To,RZ,Tp,Tq]
 ·rw[e2,lH,T.ents,To,RZ,Tp,Tq]
 ·rw [To, RZ, Tp, Tq];have hlen:t.place.size=(ρ.map 5e4).length:=by rw[<- T.place];simp
  refine zL T.ris (fun y hy=>?_) (fun y hy=>?_)
  ·obtain ⟨i, hi⟩ := Th hy;rw[List.getElem?_take]at hi;split at hi
   ·rename_i hlt;have q:=b2 i hlt;rw[<- T.place,Sl]at hi;dsimp[Tr,hi,Ts]at q;exact q
   ·cases hi
  ·obtain⟨i,hi⟩:=Th hy;rw[Tt]at hi;have hmem:y∈ρ.map 5e4:=Rx hi;rw[<- T.place,Sl]at hi;have hlt:p+i<t.place.size:=(Tc.mp hi).1;have q:=b3 (p+i) 0e0 hlt;dsimp[Tr,hi,Ts]at q;have:y≠j:=fun ey=>hn (ey ▸ hmem);omega
 ·rw [e1];show z.1<=t.mask;rcases QK.mp hz with q|q
  ·exact T.top z (Tu q)
  ·rcases QI.mp q with q | q
   ·rw[q];exact hj
   ·exact T.top z (Tv q)
 ·rw [e1];show ∃pre post,fH t.mask z.2.1=pre++z.1::post/\_
  have sub:∀k∈ρ.map 5e4,k∈(ρ.take p++(j,h,x)::ρ.drop p).map 5e4:=fun k hk=>by
   rw[<- Tj p ρ,To]at hk;rw[To,RZ];rcases QK.mp hk with q|q
   ·exact QL _ q
   ·exact Rb _ (QH _ q)
  have old:∀z∈ρ,∃pre post,fH t.mask z.2.1=pre++z.1::post/\∀k∈pre,k∈(ρ.take p++(j,h,x)::ρ.drop p).map 5e4:=fun z hz=>by
   obtain⟨a,b,c,d⟩:=T.reach z hz;exact⟨a,b,c,fun k hk=>sub k (d k hk)⟩
  rcases QK.mp hz with q|q
  ·exact old z (Tu q)
  ·rcases QI.mp q with q | q
   ·rw[q];exact⟨pre,post,e,fun k hk=>sub k (hp k hk)⟩
   ·exact old z (Tv q)
 ·have q:(ρ.take p++(j,h,x)::ρ.drop p).Perm ((j,h,x)::(ρ.take p++ρ.drop p)):=List.perm_middle;rw[Tj]at q;exact q
theorem uU(mask:Nat)(owner:Array 4e7):∀(n i pe:Nat),
  SetTable.layClean.free mask owner n i pe=(CP mask n i pe).find? fun j=>(owner.getD j (some 0)).isNone
 |0,_,_=>rfl
 |n+1,i,pe=>by
  show (match (List.range (SetTable.runEnd mask i+1-i)).find? fun k=>(owner.getD (i+k) (some 0)).isNone with|some k=>_|none=>_)=_;show _=((List.range (SetTable.runEnd mask i+1-i)).map (i+·)++CP mask n (SetTable.leap mask i pe).1 (SetTable.leap mask i pe).2).find? _;rw[List.find?_append,List.find?_map,<- uU mask owner n];have ec:((fun j=>(owner.getD j (some 0)).isNone) ∘ fun x=>i+x)=fun k=>(owner.getD (i+k) (some 0)).isNone:=rfl;rw[ec];cases (List.range (SetTable.runEnd mask i+1-i)).find? fun k=>(owner.getD (i+k) (some 0)).isNone with
  |some k=>rfl
  |none=>rfl
structure Jv(mask:Nat)(hs:List Int)(owner:Array 4e7):Prop where
 size:owner.size=mask+1
 all:∀(i:Nat)(h:Int),hs[i]?=some h->∃j:Nat,j<=mask/\owner[j]?=some (some i)/\∃pre post,fH mask h=pre++j::post/\∀k∈pre,∃i':Nat,owner[k]?=some (some i')
 lt:∀(j i:Nat),owner[j]?=some (some i)->i<hs.length
 inj:∀(j j' i:Nat),owner[j]?=some (some i)->owner[j']?=some (some i)->j=j'
theorem Ht(mask:Nat):Jv mask [] (Array.replicate (mask+1) none):=by
 have hno:∀(j i:Nat),(Array.replicate (mask+1) (none:Option Nat))[j]?≠some (some i):=fun j i e=>by
  rw[Array.getElem?_replicate]at e;split at e <;> cases e
 exact⟨by simp,fun i h e=>by simp at e,fun j i e=>absurd e (hno j i),fun j j' i e=>absurd e (hno j i)⟩
theorem E2(O:Jv mask hs owner)(hl:hs.length<=mask):∃j,j<=mask/\owner[j]?=some none:=by
 refine Tf fun hn=>?_
 have hall:∀j,j<=mask->∃i,owner[j]?=some (some i):=fun j hj=>by
  have hs':j<owner.size:=by rw[O.size];omega
  cases e:owner[j]? with
  |none=>rw[Tw]at e;omega
  |some o=>
   cases o with
   |none=>exact absurd ⟨j,hj,e⟩ hn
   |some i=>exact⟨i,rfl⟩
 have key:∀n,n<=mask+1->∃l:List Nat,l.length=n/\l.Nodup/\(∀i∈l,i<hs.length)/\∀i∈l,∃j,j<n/\owner[j]?=some (some i):=by
  intro n
  induction n with
  |zero=>exact fun _=>⟨[],rfl,Tx,fun _ h=>by simp at h,fun _ h=>by simp at h⟩
  |succ n ih=>
   intro hn';obtain⟨l,h1,h2,h3,h4⟩:=ih 0e0;obtain⟨i,hi⟩:=hall n 0e0;refine⟨i::l,by rw[Sx,h1],Rj.mpr ⟨fun hm=>?_,h2⟩,fun x hx=>?_,fun x hx=>?_⟩
   ·obtain⟨j,hj,ej⟩:=h4 i hm;have:=O.inj j n i ej hi;omega
   ·rcases QI.mp hx with q | q
    ·rw[q];exact O.lt n i hi
    ·exact h3 x q
   ·rcases QI.mp hx with q | q
    ·rw[q];exact⟨n,by omega,hi⟩
    ·obtain⟨j,hj,ej⟩:=h4 x q;exact⟨j,by omega,ej⟩
 obtain⟨l,h1,h2,h3,_⟩:=key (mask+1) 8e0;have:=oS h2 (l2:=List.range hs.length) (fun x hx=>QC.mpr (h3 x hx));rw[SZ,h1]at this;omega
theorem E1{h:Int}(O:Jv mask hs owner)(hl:hs.length<=mask)(cov:∀j,j<=mask->j∈fH mask h):
  ∃j,SetTable.layClean.free mask owner (SetTable.turns mask) (SetTable.bits h%(mask+1)) (SetTable.bits h)=some j/\Jv mask (hs++[h]) (owner.setIfInBounds j (some hs.length)):=by
 obtain⟨j0,hj0,e0⟩:=E2 O hl
 have none_iff:∀j,((owner.getD j (some 0)).isNone=true)↔owner[j]?=some none:=fun j=>by
  rw[Tr];cases owner[j]? with
  |none=>simp
  |some o=>cases o <;> simp
 obtain⟨pre,j,post,e,hs',hp⟩:=nX (fun j=>owner[j]?=some none) (fH mask h) ⟨j0,cov j0 hj0,e0⟩;have hjm:j<=mask:=mS (h:=h) (by rw[e];simp);have hjs:j<owner.size:=by rw[O.size];omega
 have hocc:∀k∈pre,∃i',owner[k]?=some (some i'):=fun k hk=>by
  have hkm:k<=mask:=mS (h:=h) (by rw[e];simp[hk]);cases q:owner[k]? with
  |none=>
   rw[Tw,O.size]at q;omega
  |some o=>
   cases o with
   |none=>exact absurd q (hp k hk)
   |some i=>exact⟨i,rfl⟩
 have hset:∀k,(owner.setIfInBounds j (some hs.length))[k]?=if j=k then some (some hs.length) else owner[k]?:=fun k=>by
  rw[Array.getElem?_setIfInBounds];by_cases q:j=k
  ·rw[Qu q,Qu q,Qu hjs]
  ·rw[Qv q,Qv q]
 have keep:∀k i',owner[k]?=some (some i')->(owner.setIfInBounds j (some hs.length))[k]?=some (some i'):=fun k i' q=>by
  rw[hset,Qv]
  ·exact q
  ·intro ej;rw[<- ej,hs']at q;cases q
 refine⟨j,?_,by simp[O.size],fun i h' ei=>?_,fun k i ei=>?_,fun k k' i e1 e2=>?_⟩
 ·rw [uU];show (fH mask h).find? _=some j;rw[e,List.find?_append]
  have e1:pre.find? (fun j=>(owner.getD j (some 0)).isNone)=none:=by
   rw[List.find?_eq_none];intro k hk q;exact hp k hk ((none_iff k).mp q)
  dsimp[e1,Option.none_or,List.find?_cons,(none_iff j).mpr hs']
 ·by_cases hi : i < hs.length
  ·rw[Ru hi]at ei;obtain⟨j',a1,a2,pr,po,a3,a4⟩:=O.all i h' ei;exact⟨j',a1,keep j' i a2,pr,po,a3,fun k hk=>(a4 k hk).elim fun i' q=>⟨i',keep k i' q⟩⟩
  ·have hi':i=hs.length:=by
    have:=(QM.mp ei).1;simp at this;omega
   subst hi';rw[Rq 8e0,TB]at ei;have eh:h=h':=by simpa using ei
   subst eh;exact⟨j,hjm,by rw[hset,Qu rfl],pre,post,e,fun k hk=>(hocc k hk).elim fun i' q=>⟨i',keep k i' q⟩⟩
 ·rw [hset] at ei;rw[Ry,Sk];split at ei
  ·cases ei;omega
  ·have:=O.lt k i ei;omega
 ·rw [hset] at e1 e2;split at e1
  ·rename_i q1;cases e1;split at e2
   ·rename_i q2;rw[<- q1,q2]
   ·have:=O.lt k' _ e2;omega
  ·split at e2
   ·cases e2;have:=O.lt k _ e1;omega
   ·exact O.inj k k' i e1 e2
theorem xV{mask:Nat}:∀(hs0 hs1:List Int)(owner:Array 4e7),Jv mask hs0 owner->hs0.length+hs1.length<=mask+1->(∀h∈hs1,∀j,j<=mask->j∈fH mask h) ->
  ∃owner',hs1.foldl (fun(acc:Option (Array 4e7×Nat)) h=>do
   let (owner,k) <- acc
   let j <- SetTable.layClean.free mask owner (SetTable.turns mask) (SetTable.bits h%(mask+1)) (SetTable.bits h)
   pure (owner.setIfInBounds j (some k),k+1)) (some (owner,hs0.length))=some (owner',(hs0++hs1).length)/\Jv mask (hs0++hs1) owner'
 |hs0,[],owner,O,_,_=>⟨owner,by simp,by simpa using O⟩
 |hs0,h::hs1,owner,O,hl,cov=>by
  rw[Sx]at hl;obtain⟨j,ej,O'⟩:=E1 (h:=h) O 0e0 (cov h QG);obtain⟨ow,e1,e2⟩:=xV (hs0++[h]) hs1 _ O' (by rw[Ry,Sk];omega) (fun x hx=>cov x (QH _ hx));rw[Sh,List.singleton_append]at e1 e2;refine⟨ow,?_,e2⟩;rw[Si];show List.foldl _ ((SetTable.layClean.free mask owner (SetTable.turns mask) (SetTable.bits h%(mask+1)) (SetTable.bits h)).bind fun j=>some (owner.setIfInBounds j (some hs0.length),hs0.length+1)) hs1=_;rw[ej];show List.foldl _ (some (owner.setIfInBounds j (some hs0.length),hs0.length+1)) hs1=_;rw[Ry,Sk]at e1;exact e1
theorem xP{J:Type}:∀l:List J,(List.range l.length).filterMap (fun i=>l[i]?)=l
 |[]=>rfl
 |a::l=>by
  rw[Sx,SW,QF];show a::List.filterMap _ _=_;rw[RL];show a::List.filterMap (fun i=>l[i]?) _=_;rw[xP l]
theorem Ie(hl:hs.length<=mask+1)(cov:∀h∈hs,∀j,j<=mask->j∈fH mask h):∃owner,SetTable.layClean mask hs.toArray=some owner/\Jv mask hs owner:=by
 obtain⟨ow,e1,e2⟩:=xV [] hs _ (Ht mask) (by rw[S8,Nat.zero_add];exact hl) cov;refine⟨ow,?_,by simpa using e2⟩;unfold SetTable.layClean;rw[List.foldl_toArray']
 ·show Option.map 5e4 (hs.foldl _ (some (Array.replicate (mask+1) none,([]:List Int).length)))=_;rw[e1];rfl
 ·simp
theorem zO{wanted:Nat}(hm:SetTable.sizeAbove wanted-1=mask)(hl:es.size<=mask)(cov:∀e∈es.toList,∀j,j<=mask->j∈fH mask e.1):
  ∃t' order ρ',t.relaid (es.map 5e4) wanted=some (t',order)/\wN t' (order.filterMap (es[·]?)) ρ'/\(ρ'.map (·.2)).Perm es.toList/\t'.mask=mask/\t'.led=t.led/\t'.plain=t.plain/\order.toList.Perm (List.range es.size):=by
 have ea:es.map 5e4=(es.toList.map 5e4).toArray:=by rw[<- Array.toList_map]
 obtain⟨ow,e1,O⟩:=Ie (mask:=mask) (hs:=es.toList.map 5e4) 10e7 (fun h hh=>by
  obtain⟨e,he,q⟩:=Te.mp hh
  rw[<- q];exact cov e he)
 let live:List (Nat×Nat):=(List.range (mask+1)).filterMap fun j=>(ow.getD j none).map (j,·)
 have hlive:∀j i,(j,i)∈live↔(j<=mask/\ow[j]?=some (some i)):=fun j i=>by
  dsimp[live,Ra,QC];constructor
  ·rintro ⟨k, hk, q⟩
   rw[Tr]at q;cases e:ow[k]? with
   |none=>rw[e]at q;cases q
   |some o=>
    rw[e]at q;cases o with
    |none=>cases q
    |some i'=>
     dsimp[Ts,Option.map_some,Option.some.injEq,Prod.mk.injEq]at q;obtain⟨q1,q2⟩:=q;subst q1;subst q2;exact⟨by omega,e⟩
  ·rintro ⟨hj, e⟩
   refine⟨j,by omega,?_⟩;rw[Tr,e];rfl
 have hfst:(live.map 5e4).Pairwise (·<·):=by
  have gen:∀(l:List Nat),l.Pairwise (·<·)->((l.filterMap fun j=>(ow.getD j none).map (j,·)).map 5e4).Pairwise (·<·)/\∀x∈((l.filterMap fun j=>(ow.getD j none).map (j,·)).map 5e4),x∈l:=by
   intro l
   induction l with
   |nil=>intro _;exact⟨List.Pairwise.nil,fun x hx=>by simp at hx⟩
   |cons a l ih=>
    intro hp;obtain⟨h1,h2⟩:=Tn.mp hp;obtain⟨i1,i2⟩:=ih h2;rw[QF];cases q:(ow.getD a none).map (a,·) with
    |none=>exact⟨i1,fun x hx=>QH _ (i2 x hx)⟩
    |some p=>
     have ep:p.1=a:=by
      cases hq:ow.getD a none with
      |none=>rw[hq]at q;cases q
      |some i=>rw[hq]at q;cases q;rfl
     show (p.1::List.map _ _).Pairwise _/\∀x∈p.1::List.map _ _,x∈a::l;rw[ep]
     exact⟨Tn.mpr ⟨fun x hx=>h1 x (i2 x hx),i1⟩,fun x hx=>by
      rcases QI.mp hx with z|z
      ·rw[z];exact QG
      ·exact QH _ (i2 x z)⟩
  exact(gen _ TC).1
 have hnd:live.Nodup:=by
  have:=hfst.imp (fun h=>QA h);exact List.Pairwise.of_map 5e4 (fun a b h e=>h (by rw[e])) this
 have hsz:∀j i,(j,i)∈live->i<es.size:=fun j i h=>by
  have:=O.lt j i ((hlive j i).mp h).2;simpa using this
 have hsnd:(live.map (·.2)).Perm (List.range es.size):=by
  refine(TF ?_ Tg).mpr fun i=>?_
  ·refine List.Pairwise.map _ (fun a b h=>?_) (List.Pairwise.and_mem.mp hnd);obtain⟨ha,hb,hne⟩:=h;intro e;have q1:=((hlive a.1 a.2).mp ha).2;have q2:=((hlive b.1 b.2).mp hb).2;rw[<- e]at q2;exact hne (Prod.ext (O.inj _ _ _ q1 q2) e)
  ·rw [QC, Te];constructor
   ·rintro⟨p,hp,e⟩;rw[<- e];exact hsz p.1 p.2 hp
   ·intro hi;obtain⟨j,hj,q,_⟩:=O.all i (es[i].1) (by rw[Rv,Sl,TH hi];rfl);exact⟨(j,i),(hlive j i).mpr ⟨hj,q⟩,rfl⟩
 let ρ':List (Nat×Int×Value):=live.filterMap fun p=>(es[p.2]?).map fun e=>(p.1,e)
 have hZ1:ρ'.map 5e4=live.map 5e4:=by
  have gen:∀l:List (Nat×Nat),(∀p∈l,p.2<es.size)->(l.filterMap fun p=>(es[p.2]?).map fun e=>(p.1,e)).map 5e4=l.map 5e4:=by
   intro l
   induction l with
   |nil=>intro _;rfl
   |cons p l ih=>
    intro h;rw[QF,TH (h p QG)];show p.1::List.map _ _=p.1::List.map _ _;rw[ih fun q hq=>h q (QH _ hq)]
  exact gen live fun p hp=>hsz p.1 p.2 hp
 have hZ2:ρ'.map (·.2)=(live.map (·.2)).filterMap (es[·]?):=by
  have gen:∀l:List (Nat×Nat),(l.filterMap fun p=>(es[p.2]?).map fun e=>(p.1,e)).map (·.2)=(l.map (·.2)).filterMap (es[·]?):=by
   intro l
   induction l with
   |nil=>rfl
   |cons p l ih=>
    rw[QF,RZ,QF];cases es[p.2]? with
    |none=>exact ih
    |some e=>show e::List.map _ _=e::_;rw[ih]
  exact gen live
 have hes:(List.range es.size).filterMap (es[·]?)=es.toList:=by
  have q:=xP es.toList;rw[QT]at q;simpa only[Sl] using q
 refine⟨{mask,place:=(live.map 5e4).toArray,dummies:=#[],finger:=t.finger,led:=t.led,moves:=t.movedTo mask,plain:=t.plain},(live.map (·.2)).toArray,ρ',?_,⟨?_,?_,?_,fun z hz=>?_,rfl,fun z hz=>?_⟩,?_,rfl,rfl,rfl,hsnd⟩
 ·unfold SetTable.relaid SetTable.laid;rw[hm,ea,e1];rfl
 ·show (live.map 5e4)=_;rw[hZ1]
 ·rw[hZ2];simp
 ·rw[hZ1];exact hfst
 ·have : z.1 ∈ live.map 5e4 := by rw [<- hZ1]; exact Ti hz
  obtain⟨p,hp,q⟩:=Te.mp this;rw[<- q];exact((hlive p.1 p.2).mp hp).1
 ·obtain⟨p,hp,q⟩:=Ra.mp hz;rw[TH (hsz p.1 p.2 hp)]at q;have ez:z=(p.1,es[p.2]'(hsz p.1 p.2 hp)):=(Qp q).symm;obtain⟨hj,ho⟩:=(hlive p.1 p.2).mp hp;obtain⟨j,a1,a2,pre,post,a3,a4⟩:=O.all p.2 (es[p.2]'(hsz p.1 p.2 hp)).1 (by rw[Rv,Sl,TH (hsz p.1 p.2 hp)];rfl);have ejp:j=p.1:=O.inj _ _ _ a2 ho;refine⟨pre,post,by rw[ez];rw[ejp]at a3;exact a3,fun k hk=>?_⟩;obtain⟨i',hi'⟩:=a4 k hk;rw[hZ1];have hkm:k<=mask:=mS (h:=(es[p.2]'(hsz p.1 p.2 hp)).1) (by rw[a3];simp[hk]);exact Te.mpr ⟨(k,i'),(hlive k i').mpr ⟨hkm,hi'⟩,rfl⟩
 ·rw[hZ2,<- hes];exact hsnd.filterMap _
def prs:List 1e9:=((List.range 36).filter fun n=>n / 6<n%6).map fun n=>[((n / 6:Nat):Int),((n%6:Nat):Int)]
def hsh(ks:List Int):Int:=reduceHash (Builtin.Tuple.tupleHashOf (ks.map hashInt))
theorem D1(ks:List Int):tupleKeyHash (intKind prog w) ks=hsh ks:=rfl
def JA(mask:Nat):Bool:=prs.all fun ks=>(List.range (mask+1)).all fun j=>(fH mask (hsh ks)).contains j
theorem Pv:JA 7=true:=by decide +kernel
theorem Jm:JA 31=true:=by decide +kernel
theorem Ol:(prs.map hsh).Nodup:=by decide +kernel
theorem AW:prs.length=15:=by decide +kernel
theorem zy(h:JA mask=true){ks:List Int}(hk:ks∈prs):∀j,j<=mask->j∈fH mask (hsh ks):=fun j hj=>by
 have a:=TJ.mp h ks hk;have b:=TJ.mp a j (QC.mpr 0e0);simpa using b
theorem LV{l:List 1e9}(h:(l.map hsh).Nodup){a b:List Int}(ha:a∈l)(hb:b∈l)(e:hsh a=hsh b):a=b:=by
 induction l with
 |nil=>simp at ha
 |cons c l ih=>
  rw[RZ]at h;obtain⟨h1,h2⟩:=Rj.mp h;rcases QI.mp ha with qa|qa <;> rcases QI.mp hb with qb|qb
  ·rw[qa,qb]
  ·exact absurd (by rw[<- qa,e];exact Ti qb) h1
  ·exact absurd (by rw[<- qb,<- e];exact Ti qa) h1
  ·exact ih h2 qa qb
theorem Io{a b:List Int}(ha:a∈prs)(hb:b∈prs)(e:hsh a=hsh b):a=b:=LV Ol ha hb e
theorem AV{a b:Int}(h1:0<=a)(h2:a<b)(h3:b<6):[a,b]∈prs:=by
 have key:∀x:Nat,x<6->∀y:Nat,y<6->x<y->[(x:Int),(y:Int)]∈prs:=by decide +kernel
 have:=key a.toNat 0e0 b.toNat 0e0 0e0;rw[TK h1,TK 0e0]at this;exact this
end RS
namespace RS
open PySem PyProof.Rows
abbrev KP:=List Int×Addr
structure gM(w:World)(h:Heap)(a:Addr)(qs:List (Int×Value))(o:Obj)(es:Array (Int×Value))(ep:Nat)(t:SetTable)(ρ:List (Nat×Int×Value)):Prop where
 ho:h.get? a=some o
 ex:o.ExactSet
 hd:o.data=.set es ep t
 tab:wN t es ρ
 plain:t.plain=true
 led:t.led=!w.params.followText "set-order"
 big:(t.mask=7/\ρ.length<=4)\/(t.mask=31/\ρ.length<=18)
 perm:(ρ.map (·.2)).Perm qs
def zd(p:KP):Int×Value:=(hsh p.1,Value.ref p.2)
def cQ(w:World)(h:Heap)(a:Addr)(ps:List KP):Prop:=∃o es ep t ρ,gM w h a (ps.map zd) o es ep t ρ/\(∀p∈ps,p.1∈prs)/\(ps.map 5e4).Nodup
theorem gM.len{h:Heap}{ps:List (Int×Value)}{o es ep t ρ}(S:gM w h a ps o es ep t ρ):ρ.length=ps.length:=by
 have:=S.perm.length_eq;simpa using this
theorem oI{ps:List KP}(hk:∀p∈ps,p.1∈prs)(hn:(ps.map 5e4).Nodup):ps.length<=15:=by
 have:=oS hn (l2:=prs) (fun x hx=>by obtain⟨p,hp,e⟩:=Te.mp hx;rw[<- e];exact hk p hp);rw[Rz,AW]at this;exact this
theorem gM.fits{h:Heap}{ps:List (Int×Value)}{o es ep t ρ}(S:gM w h a ps o es ep t ρ):t.fits es.size=true:=by
 unfold SetTable.fits;rw[S.tab.fill,S.tab.size.1,S.tab.size.2];rcases S.big with⟨h1,h2⟩|⟨h1,h2⟩ <;> simp[h1] <;> omega
theorem gM.cov{h:Heap}{ps:List (Int×Value)}{o es ep t ρ}(S:gM w h a ps o es ep t ρ)(hk:k∈prs):∀j,j<=t.mask->j∈fH t.mask (hsh k):=by
 rcases S.big with⟨h1,h2⟩|⟨h1,h2⟩ <;> rw[h1]
 ·exact zy Pv hk
 ·exact zy Jm hk
theorem cQ.keeps{h:Heap}{ps:List KP}(S:cQ w h a ps)(k:∀o,h.get? a=some o->h'.get? a=some o):cQ w h' a ps:=by
 obtain⟨o,es,ep,t,ρ,S,hk,hn⟩:=S;exact⟨o,es,ep,t,ρ,⟨k o S.ho,S.ex,S.hd,S.tab,S.plain,S.led,S.big,S.perm⟩,hk,hn⟩
section
abbrev Tk(prog:Program)(w:World)(h:Heap)(k:List Int)(r:Addr):Prop:=IsTupleKey (intKind prog w) h k r
theorem items_int{vs:List Value}(h:ItemsAre (intKind prog w) k vs):∀v∈vs,∃i t,v=.int i t:=by
 induction h with
 |nil=>intro v hv;simp at hv
 | @cons k v' ks vs h1 _ ih=>
  intro v hv;rcases QI.mp hv with q|q
  ·obtain⟨t,e⟩:=Qq (k:=k) (v:=v') h1;exact⟨k,t,by rw[q,e]⟩
  ·exact ih v q
theorem xX{r:Addr}{Q:Bool->Shared->Prop}(hk:Tk prog w 3e2 k r)(h:Q false s):wpAny 1e2 A (ofAClassStatement 8 (.ref r)) Q E s:=by
 have hT:=hk.typeIs;obtain⟨o,items,n,ho,hc,hd,hi⟩:=hk;unfold ofAClassStatement;refine QW (RU hT ?_);dsimp only;dsimp[Sv,RI];refine QW (Q3 ?_);dsimp[TL,Sw,RH];refine QW (SN ho hd ?_);dsimp only;refine QW ?_;show wpAny _ _ (forIn items _ _) _ _ s;rw[<- Array.forIn_toList];refine TM _ (fun rest r s'=>r.1=none/\s'=s/\∀v∈rest,∃i t,v=.int i t) _ ?_ ?_ _ _ ⟨rfl,rfl,items_int hi⟩
 ·rintro v rest r s' ⟨hr, rfl, hall⟩
  obtain⟨i,t,e⟩:=hall v QG;subst e;unfold ofAClassStatement;refine QW (Q3 ?_);dsimp[Sw,RH];exact Q3 ⟨rfl,rfl,fun u hu'=>hall u (QH _ hu')⟩
 ·rintro ⟨r1, r2⟩ s' ⟨hr, rfl, _⟩
  simp only at hr;subst hr;exact Q3 h
theorem uk{r:Addr}{Q:Bool->Shared->Prop}(hk:Tk prog w 3e2 k r)(h:Q true s):wpAny 1e2 A (hashByValue 8 (.ref r)) Q E s:=by
 have hT:=hk.typeIs;obtain⟨o,items,n,ho,hc,hd,hi⟩:=hk;unfold hashByValue;refine QW (wpAny_specialOf hT F.slot_tuple_hash.lookup ?_);dsimp only;refine QW (SN ho hd ?_);refine QW ?_;show wpAny _ _ (forIn items _ _) _ _ s;rw[<- Array.forIn_toList];refine TM _ (fun rest r s'=>r.1=none/\s'=s/\∀v∈rest,∃i t,v=.int i t) _ ?_ ?_ _ _ ⟨rfl,rfl,items_int hi⟩
 ·rintro v rest r s' ⟨hr, rfl, hall⟩
  obtain⟨i,t,e⟩:=hall v QG;subst e;unfold hashByValue;refine QW (Q3 ?_);dsimp[TL,Sw,RH];exact Q3 ⟨rfl,rfl,fun u hu'=>hall u (QH _ hu')⟩
 ·rintro ⟨r1, r2⟩ s' ⟨hr, rfl, _⟩
  simp only at hr;subst hr;exact Q3 h
theorem E7{r:Addr}{ys:List Value}{Q:Bool->Shared->Prop}(hk:Tk prog w 3e2 k r)(hy:∀y∈ys,∃k' r',y=.ref r'/\Tk prog w 3e2 k' r')(h:Q false s):wpAny 1e2 A (searchCouldBeSeen (.ref r) ys) Q E s:=by
 unfold searchCouldBeSeen;refine QW ?_;refine TM _ (fun rest r' s'=>r'.1=none/\s'=s/\∀y∈rest,∃k' r',y=.ref r'/\Tk prog w 3e2 k' r') _ ?_ ?_ _ _ ⟨rfl,rfl,hy⟩
 ·rintro v rest q s' ⟨hr, rfl, hall⟩
  obtain⟨k',r',e,hk'⟩:=hall v QG;subst e;have hrest:=fun u hu'=>hall u (QH _ hu');dsimp only;by_cases hv:(r == r' || carriedByValue (Value.ref r)&&carriedByValue (Value.ref r'))=true
  ·rw[Qu hv];exact Q3 ⟨rfl,rfl,hrest⟩
  ·rw[Qv hv];refine QW (wpAny_eqIsQuiet_tuple hk ?_);dsimp[TL,Sw,RH];refine QW (wpAny_eqIsQuiet_tuple hk' ?_);dsimp[TL,Sw,RH];refine QW (xX hk ?_);dsimp[Sw,RH];refine QW (xX hk' ?_);dsimp[Sw,RH];exact Q3 ⟨rfl,rfl,hrest⟩
 ·rintro ⟨r1, r2⟩ s' ⟨hr, rfl, _⟩
  simp only at hr;subst hr;exact Q3 h
end
end RS
variable{qs:List RS.KP}
namespace RS
open PySem PyProof.Rows
section
theorem D3{h:Heap}{ps:List KP}{o es ep t ρ}(S:gM w h a (ps.map zd) o es ep t ρ)(hz:z∈ρ):∃p∈ps,z.2=(hsh p.1,Value.ref p.2):=by
 have:z.2∈ρ.map (·.2):=Ti hz;obtain⟨p,hp,e⟩:=Te.mp (S.perm.mem_iff.mp this);exact⟨p,hp,e.symm⟩
theorem Ma{h:Heap}{ps:List KP}{o es ep t ρ}(S:gM w h a (ps.map zd) o es ep t ρ){p:KP}(hp:p∈ps):∃z∈ρ,z.2=(hsh p.1,Value.ref p.2):=by
 have:zd p∈ps.map zd:=Ti hp;obtain⟨z,hz,e⟩:=Te.mp (S.perm.mem_iff.mpr this);exact⟨z,hz,e⟩
theorem Bq{r:Addr}{ps:List KP}{o es ep t ρ}{Q:SetFound->Shared->Prop}(S:gM w 3e2 a (ps.map zd) o es ep t ρ)(hks:∀p∈ps,p.1∈prs)(hk:k∈prs)(hr:Tk prog w 3e2 k r)(hps:∀p∈ps,Tk prog w 3e2 p.1 p.2)(hu:A.units<cLine)(h1:k∈ps.map 5e4->Q (.there none) s)(h2:k∉ps.map 5e4->∀j pre post,j<=t.mask->j∉ρ.map 5e4->fH t.mask (hsh k)=pre++j::post->(∀x∈pre,x∈ρ.map 5e4)->Q (.free j false) s):
  wpAny 1e2 A (setSearch a (.ref r) (hsh k) true) Q E s:=by
 have hodd:t.gaveWay=false:=by
  unfold SetTable.gaveWay;rcases S.big with⟨q,_⟩|⟨q,_⟩ <;> rw[q] <;> decide
 have hz:ρ.length<=t.mask:=by rcases S.big with⟨q,q2⟩|⟨q,q2⟩ <;> omega
 unfold setSearch setSearchFrom;refine QW (TN S.ho S.hd S.fits ?_);dsimp only;rw[hodd];dsimp[Sw,RH];generalize hpr:SetTable.probe t _ (hsh k) (Option.getD none (t.probeStart (hsh k)))=pr
 have key:∀(hA:Nat->Int) pr,(∀i z,ρ[i]?=some z->hA i=z.2.1)->t.probe hA (hsh k) (t.probeStart (hsh k))=pr ->
   (∃i z nx,ρ[i]?=some z/\z.2.1=hsh k/\pr=some (.candidate z.1 i nx)) \/
   ((∀z∈ρ,z.2.1≠hsh k)/\∃j pre post,pr=some (.empty j none)/\j<=t.mask/\j∉ρ.map 5e4/\fH t.mask (hsh k)=pre++j::post/\∀x∈pre,x∈ρ.map 5e4):=fun hA pr hAe e=>by
  subst e;exact S.tab.search (S.cov hk) hz hA hAe
 rcases key _ pr (fun i z hi=>by show (Option.map 5e4 es[i]?).getD 0=_;rw[S.tab.hashAt hi];rfl) hpr with⟨i,z,nx,hi,ez,e⟩|⟨hno,j,pre,post,e,hj,hn,e2,hp⟩
 ·subst e;dsimp only;have hzm:z∈ρ:=Rx hi;obtain⟨p,hp,ep'⟩:=D3 S hzm;have ek:p.1=k:=Io (hks p hp) hk (by rw[<- ez,ep']);have hin:k∈ps.map 5e4:=by rw[<- ek];exact Ti hp
  have rest:wpAny 1e2 A (do
    let some (_,y):=es[i]? | unsupported "internal:set-entry"
    let equal <- holding [y] (eqBool y (.ref r))
    let (es',_,t') <- setState a
    if true&&equal then return SetFound.there none
    let some same:=t'.sameMemory t.moves t.mask|unsupported "set.changed-during-lookup:is-the-new-block-at-the-old-address"
    let still <- match (if same then t'.slot z.1 else .empty) with
     |.live i'=>match es'[i']? with
      |some (_,y')=>do pure (if <- isSame y' y then some i' else none)
      |none=>pure none
     |_=>pure none
    match still with
    |none=>rule "set.search.anew";setSearchFrom a (.ref r) (hsh k) true 99999 none
    |some i'=>if equal then return .there (some i') else setSearchFrom a (.ref r) (hsh k) true 99999 (some nx)) Q E s:=by
   rw[S.tab.hashAt hi,ep'];dsimp only;refine QW (QX (wpAny_eqBool_tuple hu (hps p hp) hr ?_));refine QW (TN S.ho S.hd S.fits ?_);dsimp only;rw[ek,Sr rfl];dsimp[TQ,RI];exact Q3 (h1 hin)
  by_cases hl:(!t.led)=true
  ·rw [Qu hl];refine QW (E7 hr (fun y hy=>?_) ?_)
   ·obtain ⟨e', he', q⟩ := Te.mp hy
    have he2:e'∈es.toList:=by
     have:=Array.mem_filter.mp (TR.mp he');exact TR.mpr this.1
    rw[S.tab.ents]at he2;obtain⟨z',hz',q2⟩:=Te.mp he2;obtain⟨p',hp',q3⟩:=D3 S hz';exact⟨p'.1,p'.2,by rw[<- q,<- q2,q3],hps p' hp'⟩
   ·dsimp[Sw,RH];exact rest
  ·rw[Qv hl];exact rest
 ·subst e;dsimp only;refine Q3 (h2 (fun hin=>?_) j pre post hj hn e2 hp);obtain⟨p,hpm,ek⟩:=Te.mp hin;obtain⟨z,hzm,ez⟩:=Ma S hpm;exact hno z hzm (by rw[ez,<- ek])
end
def jA(ps:List KP)(k:List Int)(r:Addr):List KP:=if k∈ps.map 5e4 then ps else ps++[(k,r)]
section
theorem Dz{r:Addr}{ps:List KP}{Q:Bool->Shared->Prop}(S:cQ w 3e2 a ps)(hk:k∈prs)(hr:Tk prog w 3e2 k r)(hps:∀p∈ps,Tk prog w 3e2 p.1 p.2)(hu:A.units<cLine)(h:∀b h',Heap.SameBut a 3e2 h'->cQ w h' a (jA ps k r)->Q b {s with heap:=h'}):wpAny 1e2 A (setAddHashed a (.ref r) (hsh k)) Q E s:=by
 obtain⟨o,es,ep,t,ρ,S,hk0,hn0⟩:=S;unfold setAddHashed setAddHashedIn;refine QX (QW (TN S.ho S.hd S.fits ?_));dsimp only;have hsc:byScan (Value.ref r) es=false:=rfl;rw[hsc];dsimp[Sw,RH];refine QW (Bq S hk0 hk hr hps hu (fun hin=>?_) fun hin j pre post hj hn e hp=>?_)
 ·dsimp only;refine Q3 ?_;have q:=h false 3e2 (Heap.SameBut.refl a 3e2) (by unfold jA;rw[Qu hin];exact⟨o,es,ep,t,ρ,S,hk0,hn0⟩);cases s;exact q
 ·dsimp only;refine QW (TN S.ho S.hd S.fits ?_);dsimp only;obtain⟨ρ',T',hperm,et⟩:=S.tab.put (x:=Value.ref r) hj hn e hp;have e2:(t.put j).2=SetTable.below t.place j:=rfl;have hpl:(t.put j).1.plain=true:=by rw[et];exact S.plain
  have hled:(t.put j).1.led=t.led:=by rw[et]
  have hmask:(t.put j).1.mask=t.mask:=by rw[et]
  have hperm':(ρ'.map (·.2)).Perm ((ps++[(k,r)]).map zd):=by
   have q1:=hperm.map (·.2);refine q1.trans ?_;rw[RZ,To];refine List.Perm.trans (List.Perm.cons _ S.perm) ?_;exact(List.perm_append_singleton _ _).symm
  have hkeys:∀p∈ps++[(k,r)],p.1∈prs:=fun p hp'=>by
   rcases QK.mp hp' with q|q
   ·exact hk0 p q
   ·rw[SJ]at q;rw[q];exact hk
  have hnd:((ps++[(k,r)]).map 5e4).Nodup:=by
   rw[To];refine TU.mpr ⟨hn0,by simp,fun x hx y hy=>?_⟩;simp at hy;rw[hy];rintro rfl;exact hin hx
  have hlen15:=oI hkeys hnd;have hZ':ρ'.length=ps.length+1:=by rw[hperm.length_eq,Sx,S.len,Rz]
  have hesz:(SetTable.insertAt es (t.put j).2 (hsh k,Value.ref r)).size=ρ'.length:=T'.size.2;have hadd:jA ps k r=ps++[(k,r)]:=by unfold jA;rw[Qv hin]
  rw[hadd]at h;rw[Ry,Sk]at hlen15;generalize ht1:(t.put j).1=t1 at *;generalize hes1:SetTable.insertAt es (t.put j).2 (hsh k,Value.ref r)=es1 at *;have hline:es1.size<=sizeLine:=by rw[hesz,hZ'];exact QD hlen15 0e4
  rw[hpl];dsimp[RI];refine QW (uk hr ?_);dsimp[RI];refine QW (wpAny_storeSet_of S.ho S.hd ?_ hline)
  have hg:(s.heap.update a (Obj.putSet es1 t1)).get? a=some {o with data:=.set es1 (ep+1) t1}:=by
   have:=R8 (Obj.putSet es1 t1) S.ho (by rw[putSet_of es1 t1 S.hd];rfl);rw[putSet_of es1 t1 S.hd]at this;exact this
  have hsb1:=SQ 3e2 a (Obj.putSet es1 t1);have hfill:t1.fill=ps.length+1:=by rw[T'.fill,hZ']
  by_cases hfull:t1.tooFull=true
  ·dsimp[hfull, TV, TQ, RI]
   have hm7:t.mask=7/\ps.length=4:=by
    unfold SetTable.tooFull at hfull;rw[hfill,hmask]at hfull;have hf:(ps.length+1)*5 ≥ t.mask*3:=by simpa using hfull
    have hl:=S.len;rw[Rz]at hl;rcases S.big with⟨q,q2⟩|⟨q,q2⟩
    ·rw[q]at hf;exact⟨q,by omega⟩
    ·rw[q]at hf;omega
   have hes0:es.size=4:=by rw[S.tab.size.2,S.len,Rz,hm7.2]
   have hsz1:es1.size=5:=by rw[hesz,hZ',hm7.2]
   have hgr:SetTable.grown (es.size+1)=20:=by rw[hes0];rfl
   rw[hgr];unfold setRelay
   have hfits1:t1.fits es1.size=true:=by
    unfold SetTable.fits;rw[T'.fill,T'.size.1,hesz,hmask,hm7.1,hZ',hm7.2];rfl
   refine QW (QW (TN hg rfl hfits1 ?_));dsimp only;rw[Qv 0e4]
   obtain⟨t2,order,ρ2,er,T2,hp2,hm2,hl2,hpl2,_⟩:=zO (t:=t1) (es:=es1) (wanted:=20) (mask:=31) (by rfl) (by rw[hsz1];decide) (fun e' he'=>by
    rw[T'.ents]at he';obtain⟨p,hp',q⟩:=Te.mp (hperm'.mem_iff.mp he');rw[<- q]
    exact zy Jm (hkeys p hp'))
   rw[er]
   have hZ2:ρ2.length=5:=by
    have:=hp2.length_eq;simp at this;omega
   have hes2:(order.filterMap (es1[·]?)).size=5:=by rw[T2.size.2,hZ2]
   have hne:((order.filterMap (es1[·]?)).size != es1.size)=false:=by rw[hes2,hsz1];rfl
   refine QW ?_;show wpAny _ A (if ((order.filterMap (es1[·]?)).size != es1.size)=true then _ else _) _ _ _;rw[hne];dsimp[Sw,RH];refine Q3 ?_;refine wpAny_storeSet_of hg rfl ?_ (by rw[hes2];decide)
   have hg2:((s.heap.update a (Obj.putSet es1 t1)).update a (Obj.putSet (order.filterMap (es1[·]?)) t2)).get? a=some {o with data:=.set (order.filterMap (es1[·]?)) (ep+1+1) t2}:=by
    have:=R8 (Obj.putSet (order.filterMap (es1[·]?)) t2) hg (by rw[putSet_of _ t2 rfl];rfl);rw[putSet_of _ t2 rfl]at this;exact this
   refine Q3 ?_;refine h true _ (hsb1.trans (SQ _ a _)) ⟨_,_,_,t2,ρ2,⟨hg2,S.ex,rfl,T2,by rw[hpl2];exact hpl,by rw[hl2,hled];exact S.led,.inr ⟨hm2,by omega⟩,?_⟩,hkeys,hnd⟩;refine hp2.trans ?_;rw[T'.ents];exact hperm'
  ·have hf : t1.tooFull = false := by simpa using hfull
   dsimp[hf,TX,Sw,RH];refine Q3 ?_;refine h true _ hsb1 ⟨_,_,_,t1,ρ',⟨hg,S.ex,rfl,T',hpl,by rw[hled];exact S.led,?_,hperm'⟩,hkeys,hnd⟩;unfold SetTable.tooFull at hf;rw[hfill,hmask]at hf;have hf':¬ ((ps.length+1)*5 ≥ t.mask*3):=by simpa using hf
   rw[hmask,hZ'];rcases S.big with⟨q,q2⟩|⟨q,q2⟩
   ·rw[q]at hf'⊢;exact .inl ⟨rfl,by omega⟩
   ·rw[q]at hf'⊢;exact .inr ⟨rfl,by omega⟩
end
def gx(qs:List KP):List KP:=qs.foldl (fun ps p=>jA ps p.1 p.2) []
theorem yT(qs:List KP)(p:KP):gx (qs++[p])=jA (gx qs) p.1 p.2:=by unfold gx;rw[TY];rfl
theorem sU{ps:List KP}{r:Addr}{p:KP}(h:p∈jA ps k r):p∈ps\/p=(k,r):=by
 unfold jA at h;split at h
 ·exact .inl h
 ·rcases QK.mp h with q | q
  ·exact .inl q
  ·exact .inr (SJ.mp q)
theorem qO:∀{qs ps:List KP}{p:KP},p∈qs.foldl (fun ps p=>jA ps p.1 p.2) ps->p∈ps\/p∈qs
 |[],_,_,h=>.inl h
 |q::qs,ps,p,h=>by
  rw[Si]at h;rcases qO h with z|z
  ·rcases sU z with z | z
   ·exact .inl z
   ·exact .inr (by rw[z];exact QG)
  ·exact .inr (QH _ z)
theorem n6{p:KP}(h:p∈gx qs):p∈qs:=(qO h).elim (fun z=>by simp at z) id
theorem tE{ps:List KP}{r:Addr}(h:(ps.map 5e4).Nodup):((jA ps k r).map 5e4).Nodup:=by
 unfold jA;split
 ·exact h
 ·rename_i hn;rw[To];refine TU.mpr ⟨h,by simp,fun x hx y hy=>?_⟩;simp at hy;rw[hy];rintro rfl;exact hn hx
theorem nz:∀{qs ps:List KP},(ps.map 5e4).Nodup->((qs.foldl (fun ps p=>jA ps p.1 p.2) ps).map 5e4).Nodup
 |[],_,h=>h
 |q::qs,ps,h=>by rw[Si];exact nz (tE h)
theorem wK:((gx qs).map 5e4).Nodup:=nz (ps:=[]) Tx
def oC (w:World):Bool:=!w.params.followText "set-order"
theorem mj{h:Heap}(e:h.get? a=some {cls:=.type "set",dict:=none,data:=.set #[] 0 (.fresh 0 0 (oC w))}):cQ w h a []:=
 ⟨_,_,_,_,[],⟨e,⟨rfl,rfl,rfl⟩,rfl,⟨rfl,rfl,List.Pairwise.nil,fun z hz=>by simp at hz,rfl,fun z hz=>by simp at hz⟩,rfl,rfl,.inl ⟨rfl,by decide⟩,List.Perm.nil⟩,fun p hp=>by simp at hp,Tx⟩
section
variable{R:Result->Shared->Prop}{wr:List Addr}{G:Array GenState->Array GenState->Prop}{P:Nat->Value->Prop}{St:Nat->Shared->Prop}
structure Gi(prog:Program)(w:World)(u:Nat)(S:Addr)(vs:List Value)(α:Nat->Heap->Prop):Prop where
 keep:∀i h h',(∀b o,b<=S->h.get? b=some o->h'.get? b=some o)->α i h->α i h'
 add:∀(A:Around)(i:Nat)(v:Value)(s:Shared)(E:Value->Shared->Prop)(Q:Bool->Shared->Prop),A.units<=u->vs[i]?=some v->α i 3e2 ->
  (∀b h' tk,s.toks<=tk->Heap.SameBut S 3e2 h'->α (i+1) h'->Q b {s with heap:=h',toks:=tk})->wpAny 1e2 A (setAdd S v) Q E s
theorem yb{u:Nat}{vs:List Value}(W:WalksS prog w A.in1 I fp wr G vs.length P St)(S:Addr)(hSf:S∉fp)(hwr:∀b∈wr,S<b)(hP:∀(i:Nat) v,P i v->vs[i]?=some v)(hJ:Gi prog w u S vs α)(hu:A.units+1<=u):
  ∀(k i:Nat)(s:Shared),vs.length-i=k->i<=vs.length->St i s->α i 3e2 ->
   (∀s',Moved (S::wr) G s s'->α vs.length s'.heap->R (.ok (.ret .none)) s') ->
   codeAny 1e2 A (.builtin "set.update.loop" ⟨[.ref S,.ref I],[]⟩) R s:=by
 have hSw:S∉wr:=fun h=>hSf (W.sub _ h);have hsub:∀b∈wr,b∈S::wr:=fun b hb=>QH _ hb;have hle:∀b,b<=S->b∉wr:=fun b hb z=>Qy _ (Qx (hwr b z) hb);intro k
 induction k with
 |zero=>
  intro i s ek hi hst hS hR;have hin:i=vs.length:=by omega
  subst hin;refine TZ F.entry_set_update_loop ?_;rw[T1 T3 _];show wpAny _ A.in1 (pyNext (.ref I) >>= _) _ _ s;refine QW (W.done s _ _ hst fun s' hm=>?_);show wpAny _ A.in1 (ret Value.none) _ _ s';exact Q3 (hR s' (hm.mono hsub) (hJ.keep _ _ _ (fun b o hb e=>hm.heap b o (hle b hb) e) hS))
 |succ k ih=>
  intro i s ek hi hst hS hR;have hlt:i<vs.length:=by omega
  refine TZ F.entry_set_update_loop ?_;rw[T1 T3 _];show wpAny _ A.in1 (pyNext (.ref I) >>= _) _ _ s;refine QW (W.item i s _ _ hlt hst fun v s' hPv hst' hm=>?_);have hv:=hP i v hPv;have hS':=hJ.keep i _ s'.heap (fun b o hb e=>hm.heap b o (hle b hb) e) hS;show wpAny _ A.in1 (holding [v] (setAdd S v) >>= _) _ _ s';refine QW (QX ?_);refine hJ.add A.in1 i v s' _ _ (by show A.units+1<=u;exact hu) hv hS' fun b h' tk ht hsb hS2=>?_;have hkeep:∀b o,b≠S->s'.heap.get? b=some o->h'.get? b=some o:=fun b o hb e=>(hsb.2 b hb).trans e;refine Q3 ⟨T4 T3 _,ih (i+1) _ 0e0 hlt (W.frame _ s' _ _ hst' ht fun b hb o e=>hkeep b o (fun z=>hSf (by rw[<- z];exact hb)) e) hS2 fun s'' hm'' hS''=>?_⟩;refine hR s'' (Moved.trans W.gtrans ((hm.mono hsub).then_heap ht fun b o hb e=>?_) hm'') hS'';exact hkeep b o (fun z=>hb (by rw[z];exact QG)) e
end
section
theorem pq(a:Value){Q1:Value->Shared->Prop}
  (h:Q1 (.ref 0e3) {s with heap:=s.heap.push {cls:=.type "set",dict:=none,data:=.set #[] 0 (.fresh 0 0 (oC w))}}) :
  codeAny 1e2 A (.call (.builtin "set.__new__") ⟨[.type "set",a],[]⟩) (wants Q1 E) s:=by
 refine SE ?_;show wpAny _ A.in1 (do checkBuiltinCall "set.__new__" ⟨[.type "set",a],[]⟩;again (.builtin "set.__new__" ⟨[.type "set",a],[]⟩)) _ _ s;refine QW (SH (F.newCall_set_1 a) (Q3 ⟨T4 F.plain_set_new _,TZ F.entry_set_new ?_⟩));rw[T1 F.plain_set_new _];unfold Builtin.«set.__new__» Builtin.Frozenset.newClass;have hsub:=sub_set_self;obtain⟨hp,g,d,tk,os⟩:=s;dsimp only
 wp_walk
 refine SF (Q3 ?_);dsimp only;dsimp[newObj];refine QW (wpAny_alloc (Q3 ?_));exact Q3 h
namespace F
theorem sub_list_set:isSubtype (.type "list") (.type "set")=pure false:=by rw[T5];kernel_rfl
theorem sub_list_frozenset:isSubtype (.type "list") (.type "frozenset")=pure false:=by rw[T5];kernel_rfl
end F
theorem wc{items:Array Value}(hh:A.handled=none)(hl:s.heap.IsList l items)(hJ:Gi prog w (A.units+20) 0e3 items.toList α)(h0:∀h',(∀b o,s.heap.get? b=some o->h'.get? b=some o)->h'.get? 0e3=some {cls:=.type "set",dict:=none,data:=.set #[] 0 (.fresh 0 0 (oC w))}->α 0 h')(h:∀(h':Heap)(tk:Nat),α 4e0 h'->(∀b o,b<s.heap.objs.size->s.heap.get? b=some o->h'.get? b=some o)->Q (.ref 0e3) {s with heap:=h',toks:=tk}):
  wpAny 1e2 A (call (.type "set") [.ref l]) Q E s:=by
 obtain⟨c,tl,hmro⟩:=T6.mro;have hmade:=T6.made;have hsub:=T6.sub;refine wpAny_call (SE ?_);show wpAny _ _ (callAny (.type "set") _) _ _ _;refine Q3 ⟨T7 _ 0e9,TZ PySem.F.entry_type_call ?_⟩;rw[Around.under_plain (weight_type_call_type "set" [.ref l] []) rfl];have h1:=T6.notType;have h2:=T6.canCreate;have hct:=PySem.F.typeCall_set_1 (.ref l)
 repeat (any_goals (first|assumption|wp_step))
 refine Rh 11e5 fun r s1 hr=>?_;cases r with
 |error e=>exact hr
 |ok fl=>
  cases fl with
  |ret obj=>
   obtain⟨rfl,rfl⟩:=hr;generalize hled:oC w=led;have hS:(s.heap.push {cls:=.type "set",dict:=none,data:=.set #[] 0 7e8}).get? 0e3=some {cls:=.type "set",dict:=none,data:=.set #[] 0 7e8}:=Q7 _ rfl;have hTy:Shared.TypeIs {s with heap:=s.heap.push {cls:=.type "set",dict:=none,data:=.set #[] 0 7e8}} (.ref 0e3) "set" := ⟨_,hS,rfl⟩;have hli:=T6.init.lookup;have hbi:=T6.init.bind (.ref 0e3)
   repeat (any_goals (first|assumption|wp_step))
   refine Rh (T8 (R:=wants (fun r s2=>r=.none/\∃h' tk,s2={s with heap:=h',toks:=tk}/\α 4e0 h' /\
     (∀b o,b<s.heap.objs.size->s.heap.get? b=some o->h'.get? b=some o)) E) T6.init.plain PySem.F.entry_set_init (check_set_init_1 hTy ?_)) fun r2 s2 hr2=>?_
   ·obtain ⟨ol, hol, hcl, nl, hdl⟩ := hl;obtain⟨ocls,odict,odata,oslots⟩:=ol;simp only at hcl hdl;subst hcl;subst hdl;have hol':(s.heap.push {cls:=.type "set",dict:=none,data:=.set #[] 0 7e8}).get? l=some {cls:=.type "list",dict:=odict,data:=.seq items nl,slots:=oslots}:=Q6 _ hol;have hsls:=F.sub_list_set;have hslf:=F.sub_list_frozenset;have hne:(Value.type "list" == Value.type "dict")=false:=by decide
    have hl1:(s.heap.push {cls:=.type "set",dict:=none,data:=.set #[] 0 7e8}).IsList l items:=⟨_,hol',rfl,nl,rfl⟩;unfold Builtin.«set.__init__» noKeywords Builtin.Frozenset.updateFrom;generalize hPI:pyIter=PI
    wp_walk
    subst hPI;refine T9 hl1 ?_;refine QW (Ua ?_);have hlS:l<s.heap.objs.size:=Qw hol;have hh3:A.in1.in1.in1.handled=none:=by simp[hh]
    have hneI:l≠(s.heap.push {cls:=.type "set",dict:=none,data:=.set #[] 0 7e8}).objs.size:=by
     rw[SB];exact QA (SA hlS)
    have hSf:s.heap.objs.size ∉ [(s.heap.push {cls:=.type "set",dict:=none,data:=.set #[] 0 7e8}).objs.size,l]:=by
     rw[SB];dsimp[QI,SJ,SS,SU,not_or];exact⟨QA (Sy _),Q2 hlS⟩
    have W:=(Walks.list (prog:=prog) (w:=w) hh3 (s.heap.push {cls:=.type "set",dict:=none,data:=.set #[] 0 7e8}).objs.size l hneI items).toS;rw[show items.size=items.toList.length by rw[QT]]at W
    refine yb W 0e3 hSf (fun b hb=>?_) (fun i v hv=>by rw[Sl];exact hv) hJ (by dsimp[Around.in1];omega) (items.toList.length-0) 0 _ 0e0 (SI _)
     ⟨⟨_,Q7 _ rfl,rfl,rfl⟩,?hL⟩ ?hS0 ?hR
    case hL=>
     obtain⟨o,ho,rest⟩:=hl1;exact⟨o,Q6 _ ho,rest⟩
    case hS0=>
     refine h0 _ (fun b o e=>Q6 _ (Q6 _ e)) ?_;rw[hled];exact Q6 _ hS
    case hR=>
     intro s' hm hS';obtain⟨h',g',d',tk',os'⟩:=s';have eg:g'=s.gens:=hm.gens;have ed:d'=s.drawn:=hm.drawn;have eo:os'=s.os:=hm.os;subst eg;subst ed;subst eo;show wpAny _ _ _ _ _ _;refine Q3 ?_;show wpAny _ _ (ret Value.none) _ _ _;refine Q3 ⟨rfl,h',tk',rfl,by rw[QT]at hS';exact hS',fun b o hb e=>?_⟩;have hb1:b≠s.heap.objs.size:=QA hb
     have hb2:b≠(s.heap.push {cls:=.type "set",dict:=none,data:=.set #[] 0 7e8}).objs.size:=by
      rw[SB];exact QA (SA hb)
     exact hm.heap b o (by dsimp[QI,SJ,SS,SU,not_or];exact⟨hb1,hb2⟩) (Q6 _ (Q6 _ e))
    ·rw[SB]at hb;rw[SJ.mp hb];exact Sy _
   ·cases r2 with
    |error e=>exact hr2
    |ok fl2=>
     cases fl2 with
     |ret r=>
      obtain⟨rfl,h',tk,rfl,hS',hk'⟩:=hr2
      repeat (any_goals (first|assumption|wp_step))
      exact h _ _ hS' hk'
     |_=>exact hr2.elim
  |_=>exact hr.elim
namespace F
theorem sub_tuple_set:isSubtype (.type "tuple") (.type "set")=pure false:=by rw[T5];kernel_rfl
theorem sub_tuple_frozenset:isSubtype (.type "tuple") (.type "frozenset")=pure false:=by rw[T5];kernel_rfl
end F
theorem ub{items:Array Value}(hh:A.handled=none)(hl:s.heap.IsTuple l items)(hJ:Gi prog w (A.units+20) 0e3 items.toList α)(h0:∀h',(∀b o,s.heap.get? b=some o->h'.get? b=some o)->h'.get? 0e3=some {cls:=.type "set",dict:=none,data:=.set #[] 0 (.fresh 0 0 (oC w))}->α 0 h')(h:∀(h':Heap)(tk:Nat),α 4e0 h'->(∀b o,b<s.heap.objs.size->s.heap.get? b=some o->h'.get? b=some o)->Q (.ref 0e3) {s with heap:=h',toks:=tk}):
  wpAny 1e2 A (call (.type "set") [.ref l]) Q E s:=by
 obtain⟨c,tl,hmro⟩:=T6.mro;have hmade:=T6.made;have hsub:=T6.sub;refine wpAny_call (SE ?_);show wpAny _ _ (callAny (.type "set") _) _ _ _;refine Q3 ⟨T7 _ 0e9,TZ PySem.F.entry_type_call ?_⟩;rw[Around.under_plain (weight_type_call_type "set" [.ref l] []) rfl];have h1:=T6.notType;have h2:=T6.canCreate;have hct:=PySem.F.typeCall_set_1 (.ref l)
 repeat (any_goals (first|assumption|wp_step))
 refine Rh 11e5 fun r s1 hr=>?_;cases r with
 |error e=>exact hr
 |ok fl=>
  cases fl with
  |ret obj=>
   obtain⟨rfl,rfl⟩:=hr;generalize hled:oC w=led;have hS:(s.heap.push {cls:=.type "set",dict:=none,data:=.set #[] 0 7e8}).get? 0e3=some {cls:=.type "set",dict:=none,data:=.set #[] 0 7e8}:=Q7 _ rfl;have hTy:Shared.TypeIs {s with heap:=s.heap.push {cls:=.type "set",dict:=none,data:=.set #[] 0 7e8}} (.ref 0e3) "set" := ⟨_,hS,rfl⟩;have hli:=T6.init.lookup;have hbi:=T6.init.bind (.ref 0e3)
   repeat (any_goals (first|assumption|wp_step))
   refine Rh (T8 (R:=wants (fun r s2=>r=.none/\∃h' tk,s2={s with heap:=h',toks:=tk}/\α 4e0 h' /\
     (∀b o,b<s.heap.objs.size->s.heap.get? b=some o->h'.get? b=some o)) E) T6.init.plain PySem.F.entry_set_init (check_set_init_1 hTy ?_)) fun r2 s2 hr2=>?_
   ·obtain ⟨ol, hol, hcl, nl, hdl⟩ := hl;obtain⟨ocls,odict,odata,oslots⟩:=ol;simp only at hcl hdl;subst hcl;subst hdl;have hol':(s.heap.push {cls:=.type "set",dict:=none,data:=.set #[] 0 7e8}).get? l=some {cls:=.type "tuple",dict:=odict,data:=.seq items nl,slots:=oslots}:=Q6 _ hol;have hsls:=F.sub_tuple_set;have hslf:=F.sub_tuple_frozenset;have hne:(Value.type "tuple" == Value.type "dict")=false:=by decide
    have hl1:(s.heap.push {cls:=.type "set",dict:=none,data:=.set #[] 0 7e8}).IsTuple l items:=⟨_,hol',rfl,nl,rfl⟩;unfold Builtin.«set.__init__» noKeywords Builtin.Frozenset.updateFrom;generalize hPI:pyIter=PI
    wp_walk
    subst hPI;refine SR hl1 ?_;refine QW (Ua ?_);have hlS:l<s.heap.objs.size:=Qw hol;have hh3:A.in1.in1.in1.handled=none:=by simp[hh]
    have hneI:l≠(s.heap.push {cls:=.type "set",dict:=none,data:=.set #[] 0 7e8}).objs.size:=by
     rw[SB];exact QA (SA hlS)
    have hSf:s.heap.objs.size ∉ [(s.heap.push {cls:=.type "set",dict:=none,data:=.set #[] 0 7e8}).objs.size,l]:=by
     rw[SB];dsimp[QI,SJ,SS,SU,not_or];exact⟨QA (Sy _),Q2 hlS⟩
    have W:=(Ub (prog:=prog) (w:=w) hh3 (s.heap.push {cls:=.type "set",dict:=none,data:=.set #[] 0 7e8}).objs.size l hneI items).toS;rw[show items.size=items.toList.length by rw[QT]]at W
    refine yb W 0e3 hSf (fun b hb=>?_) (fun i v hv=>by rw[Sl];exact hv) hJ (by dsimp[Around.in1];omega) (items.toList.length-0) 0 _ 0e0 (SI _)
     ⟨⟨_,Q7 _ rfl,rfl,rfl⟩,?hL⟩ ?hS0 ?hR
    case hL=>
     obtain⟨o,ho,rest⟩:=hl1;exact⟨o,Q6 _ ho,rest⟩
    case hS0=>
     refine h0 _ (fun b o e=>Q6 _ (Q6 _ e)) ?_;rw[hled];exact Q6 _ hS
    case hR=>
     intro s' hm hS';obtain⟨h',g',d',tk',os'⟩:=s';have eg:g'=s.gens:=hm.gens;have ed:d'=s.drawn:=hm.drawn;have eo:os'=s.os:=hm.os;subst eg;subst ed;subst eo;show wpAny _ _ _ _ _ _;refine Q3 ?_;show wpAny _ _ (ret Value.none) _ _ _;refine Q3 ⟨rfl,h',tk',rfl,by rw[QT]at hS';exact hS',fun b o hb e=>?_⟩;have hb1:b≠s.heap.objs.size:=QA hb
     have hb2:b≠(s.heap.push {cls:=.type "set",dict:=none,data:=.set #[] 0 7e8}).objs.size:=by
      rw[SB];exact QA (SA hb)
     exact hm.heap b o (by dsimp[QI,SJ,SS,SU,not_or];exact⟨hb1,hb2⟩) (Q6 _ (Q6 _ e))
    ·rw[SB]at hb;rw[SJ.mp hb];exact Sy _
   ·cases r2 with
    |error e=>exact hr2
    |ok fl2=>
     cases fl2 with
     |ret r=>
      obtain⟨rfl,h',tk,rfl,hS',hk'⟩:=hr2
      repeat (any_goals (first|assumption|wp_step))
      exact h _ _ hS' hk'
     |_=>exact hr2.elim
  |_=>exact hr.elim
theorem tx{S:Addr}{u:Nat}(hk:∀p∈qs,p.1∈prs)(hS:∀p∈qs,p.2<S)(hu:u<cLine):Gi prog w u S (qs.map fun p=>Value.ref p.2) (fun i h=>cQ w h S (gx (qs.take i))/\∀p∈qs,Tk prog w h p.1 p.2):=by
 have keepT:∀{h1 h2:Heap}{q:KP},q∈qs->(∀b o,b<S->h1.get? b=some o->h2.get? b=some o)->Tk prog w h1 q.1 q.2->Tk prog w h2 q.1 q.2:=fun {h1 h2 q} hq kk t=>by
  obtain⟨o,items,n,ho,r⟩:=t;exact⟨o,items,n,kk _ o (hS q hq) ho,r⟩
 refine⟨fun i h h' hk' ⟨j1,j2⟩=>⟨j1.keeps fun o e=>hk' S o 8e0 e,fun p hp=>keepT hp (fun b o hb e=>hk' b o (QE hb) e) (j2 p hp)⟩,fun A i v s E Q hA hv ⟨j1,j2⟩ hQ=>?_⟩;rw[Rv]at hv;cases e:qs[i]? with
 |none=>rw[e]at hv;cases hv
 |some p=>
  rw[e]at hv;cases hv;have hpm:p∈qs:=Rx e;unfold setAdd;refine QX ?_;refine QW (wpAny_pyHash_tuple 0e0 (j2 p hpm) ?_);rw[D1];refine Dz (s:={s with toks:=s.toks+(p.1.length+1)}) j1 (hk p hpm) (j2 p hpm) (fun q hq=>j2 q (Tu (n6 hq))) 0e0 fun b h' hsb hS2=>?_;have etk:qs.take (i+1)=qs.take i++[p]:=by rw[Uc,e];rfl
  refine hQ b h' _ (Nat.le_add_right _ _) hsb ⟨by rw[etk,yT];exact hS2,fun q hq=>keepT hq (fun b o hb e=>(hsb.2 b (QA hb)).trans e) (j2 q hq)⟩
theorem DT(hT:∀p∈qs,Tk prog w 3e2 p.1 p.2):∀p∈qs,p.2<s.heap.objs.size:=fun p hp=>by
 obtain⟨o,_,_,ho,_⟩:=hT p hp;exact Qw ho
theorem yA{items:Array Value}(hh:A.handled=none)(hl:s.heap.IsList l items)(hi:items.toList=qs.map fun p=>Value.ref p.2)(hk:∀p∈qs,p.1∈prs)(hT:∀p∈qs,Tk prog w 3e2 p.1 p.2)(hu:A.units+20<cLine)(h:∀(h':Heap)(tk:Nat),cQ w h' 0e3 (gx qs)->(∀b o,b<s.heap.objs.size->s.heap.get? b=some o->h'.get? b=some o)->Q (.ref 0e3) {s with heap:=h',toks:=tk}):
  wpAny 1e2 A (call (.type "set") [.ref l]) Q E s:=by
 have hlen:items.size=qs.length:=by rw[<- QT,hi,Rz]
 refine wc hh hl (hi ▸ tx hk (DT hT) hu) (fun h' k e=>⟨mj e,fun p hp=>?_⟩) fun h' tk ⟨j1,_⟩=>h h' tk ?_
 ·obtain⟨o,its,n,ho,rest⟩:=hT p hp;exact⟨o,its,n,k _ _ ho,rest⟩
 ·rw[hlen,List.take_length]at j1;exact j1
theorem wb{items:Array Value}(hh:A.handled=none)(hl:s.heap.IsTuple l items)(hi:items.toList=qs.map fun p=>Value.ref p.2)(hk:∀p∈qs,p.1∈prs)(hT:∀p∈qs,Tk prog w 3e2 p.1 p.2)(hu:A.units+20<cLine)(h:∀(h':Heap)(tk:Nat),cQ w h' 0e3 (gx qs)->(∀b o,b<s.heap.objs.size->s.heap.get? b=some o->h'.get? b=some o)->Q (.ref 0e3) {s with heap:=h',toks:=tk}):
  wpAny 1e2 A (call (.type "set") [.ref l]) Q E s:=by
 have hlen:items.size=qs.length:=by rw[<- QT,hi,Rz]
 refine ub hh hl (hi ▸ tx hk (DT hT) hu) (fun h' k e=>⟨mj e,fun p hp=>?_⟩) fun h' tk ⟨j1,_⟩=>h h' tk ?_
 ·obtain⟨o,its,n,ho,rest⟩:=hT p hp;exact⟨o,its,n,k _ _ ho,rest⟩
 ·rw[hlen,List.take_length]at j1;exact j1
end
end RS
namespace RS
open PySem PySem.W PyProof.Rows
structure fR(n:Nat)(p:Array Nat):Prop where
 size:p.size=n
 perm:p.toList.Perm (List.range n)
def at'(key:Nat->Int)(p:Array Nat)(k:Nat):Int:=key (p.getD k 0)
def FU(key:Nat->Int)(p:Array Nat)(m:Nat):Prop:=∀i j,i<j->j<m->at' key p i<at' key p j
def Ge(key:Nat->Int)(p:Array Nat)(m:Nat):Prop:=∀i j,i<j->j<m->at' key p j<at' key p i
section
variable{key:Nat->Int}{cmp:Nat->Nat->(Bool->Shared->Prop)->Shared->Prop}{p:Array Nat}
theorem fR.lt(g:fR n p){k:Nat}(hk:k<n):p.getD k 0<n:=by
 have hs:k<p.size:=by rw[g.size];exact hk
 have:p[k]∈p.toList:=by rw[TR];exact Ud hs
 have:=g.perm.mem_iff.mp this;rw[QC]at this;simpa[Array.getD,hs] using this
theorem fR.inj(g:fR n p){k k':Nat}(hk:k<n)(hk':k'<n)(e:p.getD k 0=p.getD k' 0):k=k':=by
 have hs:k<p.toList.length:=by rw[QT,g.size];exact hk
 have hs':k'<p.toList.length:=by rw[QT,g.size];exact hk'
 have nd:p.toList.Nodup:=g.perm.nodup_iff.mpr Tg;refine(QN (h₀:=hs) (h₁:=hs') nd).mp ?_;have h1:k<p.size:=by rw[g.size];exact hk
 have h2:k'<p.size:=by rw[g.size];exact hk'
 simpa[Array.getD,h1,h2] using e
variable(hkey:∀i j,i<n->j<n->key i=key j->i=j)(hc:∀i j,i<n->j<n->∀C:Bool->Shared->Prop,C (decide (key i<key j)) s->cmp i j C s)
include hkey in
theorem Dx(g:fR n p){k k':Nat}(hk:k<n)(hk':k'<n)(h:k≠k'):at' key p k≠at' key p k':=fun e=>h (g.inj hk hk' (hkey _ _ (g.lt hk) (g.lt hk') e))
include hkey hc
theorem zz(g:fR n p):∀(f m:Nat)(Q:Nat->Shared->Prop),1<=m->m+f<=n->FU key p m->(∀m',m<=m'->m'<=m+f->FU key p m'->(m'=m+f\/at' key p m'<at' key p (m'-1))->Q m' s)->(kas_asc p f m).kasWp cmp Q s
 |0,m,Q,h1,h2,ha,hQ=>hQ m 8e0 8e0 ha 11e7
 |f+1,m,Q,h1,h2,ha,hQ=>by
  show cmp (p.getD m 0) (p.getD (m-1) 0) _ s;refine hc _ _ (g.lt 0e0) (g.lt 0e0) _ ?_;by_cases hlt:key (p.getD m 0)<key (p.getD (m-1) 0)
  ·rw[Sr hlt];(show (if true=true then _ else _:KasT _).kasWp cmp _ s);rw[Qu rfl];exact hQ m 8e0 0e0 ha (.inr hlt)
  ·rw [Qr hlt]; (show (if false = true then _ else _ : KasT _).kasWp cmp _ s); rw [Qv Q0];have hne:=Dx hkey g (k:=m) (k':=m-1) 0e0 0e0 0e0;have hgt:at' key p (m-1)<at' key p m:=by unfold at' at *;omega
   refine zz g f (m+1) Q 0e0 0e0 (fun i j hij hj=>?_) (fun m' a b c d=>hQ m' 0e0 0e0 c (d.elim (fun e=>.inl 0e0) .inr));by_cases ej:j=m
   ·subst ej;by_cases ei:i=j-1
    ·rw[ei];exact hgt
    ·have:=ha i (j-1) 0e0 0e0;omega
   ·exact ha i j hij 0e0
theorem Bb(g:fR n p):∀(f m:Nat)(Q:Array Nat×Nat×Nat->Shared->Prop),1<=m->m+f<=n->Ge key p m->(∀m',m<=m'->m'<=m+f->Ge key p m'->Q (p,m',0) s)->(kas_desc f p m 0).kasWp cmp Q s
 |0,m,Q,h1,h2,ha,hQ=>hQ m 8e0 8e0 ha
 |f+1,m,Q,h1,h2,ha,hQ=>by
  show cmp (p.getD m 0) (p.getD (m-1) 0) _ s;refine hc _ _ (g.lt 0e0) (g.lt 0e0) _ ?_;by_cases hlt:key (p.getD m 0)<key (p.getD (m-1) 0)
  ·rw [Sr hlt]; (show (if true = true then _ else _ : KasT _).kasWp cmp _ s); rw [Qu rfl, Qv 0e0];refine Bb g f (m+1) Q 0e0 0e0 (fun i j hij hj=>?_) (fun m' a b c=>hQ m' 0e0 0e0 c);by_cases ej:j=m
   ·subst ej;by_cases ei:i=j-1
    ·rw[ei];exact hlt
    ·have:=ha i (j-1) 0e0 0e0;have:at' key p j<at' key p (j-1):=hlt;omega
   ·exact ha i j hij 0e0
  ·rw [Qr hlt]; (show (if false = true then _ else _ : KasT _).kasWp cmp _ s); rw [Qv Q0];show cmp (p.getD (m-1) 0) (p.getD m 0) _ s;refine hc _ _ (g.lt 0e0) (g.lt 0e0) _ ?_;have hne:=Dx hkey g (k:=m) (k':=m-1) 0e0 0e0 0e0;have hgt:key (p.getD (m-1) 0)<key (p.getD m 0):=by unfold at' at hne;omega
   rw[Sr hgt];(show (if true=true then _ else _:KasT _).kasWp cmp _ s);rw[Qu rfl];exact hQ m 8e0 0e0 ha
omit hkey hc in
theorem sD{p p':Array Nat}{k k':Nat}(h:p[k]?=p'[k']?):at' key p k=at' key p' k':=by
 unfold at';rw[Tr,Tr,h]
omit hkey hc in
theorem uT{p':Array Nat}(g:fR n p)(h:p'.Perm p)(hs:p'.size=p.size):fR n p':=⟨hs.trans g.size,(Array.perm_iff_toList_perm.mp h).trans g.perm⟩
omit hkey hc in
theorem G6(g:fR n p)(hm:m<=n)(hd:Ge key p m):fR n (kas_rev p 0 m)/\FU key (kas_rev p 0 m) m:=by
 have hs:m<=p.size:=by rw[g.size];exact hm
 refine⟨uT g (mirror_perm _ _ _ _) (mirror_size _ _ _ _),fun i j hij hj=>?_⟩;have ei:at' key (kas_rev p 0 m) i=at' key p (0+m-1-i):=sD (by unfold kas_rev;rw[getElem?_mirror_all hs,Qu ⟨SI _,by omega⟩]);have ej:at' key (kas_rev p 0 m) j=at' key p (0+m-1-j):=sD (by unfold kas_rev;rw[getElem?_mirror_all hs,Qu ⟨SI _,by omega⟩]);rw[ei,ej];exact hd _ _ 0e0 0e0
theorem Ea(g:fR n p)(h1:1<=m)(hm:m<=n)(hd:Ge key p m)(Q:Nat×Array Nat->Shared->Prop)(hQ:∀m' p',fR n p'->1<=m'->m'<=n->FU key p' m'->Q (m',p') s):(kas_tail3 m n p).kasWp cmp Q s:=by
 obtain⟨g',ha⟩:=G6 (key:=key) g hm hd;unfold kas_tail3;rw[Ue];exact zz hkey hc g' (n-m) m _ h1 0e0 ha fun m' a b c d=>hQ m' _ g' 0e0 0e0 c
theorem FG(g:fR n p)(h2:2<=n)(Q:Nat×Array Nat->Shared->Prop)(hQ:∀m' p',fR n p'->1<=m'->m'<=n->FU key p' m'->Q (m',p') s):(kas_count n p).kasWp cmp Q s:=by
 unfold kas_count;rw[Ue];refine zz hkey hc g (n-1) 1 _ 8e0 0e0 (fun i j hij hj=>by omega) fun m a b c d=>?_;by_cases e:m=n
 ·rw[Qu (by simpa using e)];exact hQ m p g a 0e0 c
 ·rw [Qv (by simpa using e)];by_cases h1:m>1
  ·rw[Qu h1];show cmp (p.getD 0 0) (p.getD (m-1) 0) _ s;refine hc _ _ (g.lt 0e0) (g.lt 0e0) _ ?_;have:at' key p 0<at' key p (m-1):=c 0 (m-1) 0e0 0e0;rw[Sr (show key (p.getD 0 0)<key (p.getD (m-1) 0) from this)];(show (if true=true then _ else _:KasT _).kasWp cmp _ s);rw[Qu rfl];exact hQ m p g a 0e0 c
  ·rw [Qv h1];have em:m=1:=by omega
   subst em;unfold kas_descPart;rw[Ue];have hlt:at' key p 1<at' key p 0:=d.elim (fun e'=>by omega) id;refine Bb hkey hc g (n-(1+1)) (1+1) _ 0e0 0e0 (fun i j hij hj=>?_) fun m' a' b' c'=>?_
   ·have ei : i = 0 := by omega
    have ej:j=1:=by omega
    rw[ei,ej];exact hlt
   ·show (if (0:Nat)>0 then _ else _:KasT (Nat×Array Nat)).kasWp cmp Q s;rw[Qv 0e0];exact Ea hkey hc g 0e0 0e0 c' Q hQ
theorem sI(g:fR n p){k:Nat}(hk:k<n)(ha:FU key p k):∀(f l r:Nat)(Q:Nat->Shared->Prop),l<=r->r<=k->r-l<=f->(∀i,i<l->at' key p i<at' key p k)->(∀i,r<=i->i<k->at' key p k<at' key p i) ->
  (∀l',l'<=k->(∀i,i<l'->at' key p i<at' key p k)->(∀i,l'<=i->i<k->at' key p k<at' key p i)->Q l' s)->(kas_place p k f l r).kasWp cmp Q s
 |0,l,r,Q,h1,h2,h3,ha1,hb1,hQ=>by
  have e:l=r:=by omega
  subst e;exact hQ l h2 ha1 hb1
 |f+1,l,r,Q,h1,h2,h3,ha1,hb1,hQ=>by
  unfold kas_place;by_cases e:l ≥ r
  ·rw [Qu e];have e':l=r:=by omega
   subst e';exact hQ l h2 ha1 hb1
  ·rw [Qv e];show cmp (p.getD k 0) (p.getD ((l+r) / 2) 0) _ s;refine hc _ _ (g.lt hk) (g.lt 0e0) _ ?_;by_cases hlt:key (p.getD k 0)<key (p.getD ((l+r) / 2) 0)
   ·rw [Sr hlt]; (show (if true = true then _ else _ : KasT _).kasWp cmp _ s); rw [Qu rfl];refine sI g hk ha f l ((l+r) / 2) Q 0e0 0e0 0e0 ha1 (fun i hi hik=>?_) hQ;by_cases ei:i=(l+r) / 2
    ·rw[ei];exact hlt
    ·have:=ha ((l+r) / 2) i 0e0 hik;have:at' key p k<at' key p ((l+r) / 2):=hlt;omega
   ·rw [Qr hlt]; (show (if false = true then _ else _ : KasT _).kasWp cmp _ s); rw [Qv Q0];have hne:=Dx hkey g (k:=k) (k':=(l+r) / 2) hk 0e0 0e0;have hgt:at' key p ((l+r) / 2)<at' key p k:=by unfold at' at *;omega
    refine sI g hk ha f ((l+r) / 2+1) r Q 0e0 h2 0e0 (fun i hi=>?_) hb1 hQ;by_cases ei:i=(l+r) / 2
    ·rw[ei];exact hgt
    ·have:=ha i ((l+r) / 2) 0e0 0e0;omega
theorem D5:∀(f:Nat)(p:Array Nat)(k:Nat)(Q:Array Nat->Shared->Prop),fR n p->k+f=n->FU key p k->(∀p',fR n p'->FU key p' n->Q p' s)->(kas_bin f p k).kasWp cmp Q s
 |0,p,k,Q,g,hk,ha,hQ=>by
  have e:k=n:=by omega
  rw[e]at ha;exact hQ p g ha
 |f+1,p,k,Q,g,hk,ha,hQ=>by
  unfold kas_bin;rw[Ue];refine sI hkey hc g 0e0 ha k 0 k _ (SI _) 8e0 0e0 (fun i hi=>by omega) (fun i h1 h2=>by omega) fun l hl ha1 hb1=>?_;have hs:k<p.size:=by rw[g.size];omega
  refine D5 f _ (k+1) Q (uT g (bubble_perm _ _ _) (bubble_size _ _ _)) 0e0 (fun i j hij hj=>?_) hQ
  have hb:∀x,at' key (bubble p k (k-l)) x=if x=l then at' key p k else if l<x/\x<=k then at' key p (x-1) else at' key p x:=fun x=>by
   have e:=getElem?_bubble hs (k-l) 0e0 x;have el:k-(k-l)=l:=by omega
   rw[el]at e;by_cases e1:x=l
   ·rw[Qu e1]at e⊢;exact sD e
   ·rw [Qv e1] at e ⊢;by_cases e2:l<x/\x<=k
    ·rw[Qu e2]at e⊢;exact sD e
    ·rw[Qv e2]at e⊢;exact sD e
  rw[hb i,hb j];by_cases i1:i=l
  ·rw[Qu i1,Qv 0e0,Qu 7e9];exact hb1 (j-1) 0e0 0e0
  ·rw [Qv i1];by_cases i2:l<i/\i<=k
   ·rw[Qu i2,Qv 0e0,Qu 7e9];exact ha (i-1) (j-1) 0e0 0e0
   ·rw [Qv i2];have hi:i<l:=by omega
    by_cases j1:j=l
    ·rw[Qu j1];exact ha1 i hi
    ·rw [Qv j1];by_cases j2:l<j/\j<=k
     ·rw [Qu j2];by_cases ej:i=j-1
      ·omega
      ·exact ha i (j-1) 0e0 0e0
     ·rw[Qv j2];exact ha i j hij 0e0
theorem GK(h2:2<=n)(Q:Array Nat->Shared->Prop)(hQ:∀p',fR n p'->FU key p' n->Q p' s):(kas_sort n).kasWp cmp Q s:=by
 unfold kas_sort;rw[Ue];have g0:fR n (List.toArray (List.range n)):=⟨by simp,by simp⟩;refine FG hkey hc g0 h2 _ fun m p' g h1 hm ha=>?_;show (if m<n then _ else _:KasT (Array Nat)).kasWp cmp Q s;by_cases e:m<n
 ·rw [Qu e];have em:max m 1=m:=by omega
  rw[em];exact D5 hkey hc (n-m) p' m Q g 0e0 ha hQ
 ·rw [Qv e];have em:m=n:=by omega
  rw[em]at ha;exact hQ p' g ha
end
def pI(k:List Int):Int:=k.getD 0 0*6+k.getD 1 0
theorem jv(h:k∈prs):∃a b:Int,k=[a,b]/\0<=a/\a<b/\b<6:=by
 have key:∀k∈prs,0<=k.getD 0 0/\k.getD 0 0<k.getD 1 0/\k.getD 1 0<6/\k=[k.getD 0 0,k.getD 1 0]:=by decide +kernel
 obtain⟨h1,h2,h3,h4⟩:=key k h;exact⟨_,_,h4,h1,h2,h3⟩
theorem Iz{k':List Int}(h:k∈prs)(h':k'∈prs)(e:pI k=pI k'):k=k':=by
 obtain⟨a,b,rfl,h1,h2,h3⟩:=jv h;obtain⟨c,d,rfl,h4,h5,h6⟩:=jv h';have e':a*6+b=c*6+d:=e;have:a=c:=by omega
 have:b=d:=by omega
 subst_vars;rfl
section
theorem zg {h:Heap}{a b:Int}{r:Addr} (t:Tk prog w h [a,b] r):∃o n t1 t2,h.get? r=some o/\o.cls=.type "tuple" /\ o.data=.seq #[.int a t1,.int b t2] n:=by
 obtain⟨o,items,n,ho,hc,hd,hi⟩:=t;cases hi':items.toList with
 |nil=>rw[hi']at hi;cases hi
 |cons v1 r1=>
  rw[hi']at hi;cases hi with
  |cons h1 t1=>
   cases t1 with
   |cons h2 t2=>
    cases t2;obtain⟨x1,e1⟩:=Qq (k:=a) h1;obtain⟨x2,e2⟩:=Qq (k:=b) h2
    have e:items=#[.int a x1,.int b x2]:=by
     apply Array.toList_inj.mp;rw[hi',e1,e2]
    exact⟨o,n,x1,x2,ho,hc,by rw[hd,e]⟩
theorem Hs{x y:Addr}{k':List Int}{Q:Bool->Shared->Prop}(hx:Tk prog w 3e2 k x)(hy:Tk prog w 3e2 k' y)(hk:k∈prs)(hk':k'∈prs)(h:Q (decide (pI k<pI k')) s):
  wpAny 1e2 A (keyLt' (tuples' true) (.ref x) (.ref y)) Q E s:=by
 obtain⟨a,b,rfl,h1,h2,h3⟩:=jv hk;obtain⟨c,d,rfl,h4,h5,h6⟩:=jv hk';obtain⟨o,n,t1,t2,ho,_,hd⟩:=zg hx;obtain⟨o',n',t1',t2',ho',_,hd'⟩:=zg hy;have h':Q (decide (a*6+b<c*6+d)) s:=h;refine kat_lt ho hd ho' hd' ?_;show KatLex prog w A true (decide (2<2)) Q [(.int a t1,.int c t1'),(.int b t2,.int d t2')] 0 s;refine kat_cons (Qt ?_);by_cases e1:a=c
 ·rw [show (a == c) = true by simpa using e1];refine kat_yes (kat_cons (Qt ?_));by_cases e2:b=d
  ·rw [show (b == d) = true by simpa using e2];refine kat_yes (kat_nil ?_);have:decide (a*6+b<c*6+d)=decide (2<2):=by rw[Ug];omega
   rw[<- this];exact h'
  ·rw [show (b == d) = false by simpa using e2];refine kat_no ?_;show wpAny _ A (oneLt' false _ _) Q _ s;refine kat_one _ _ (lt_int ?_);have:decide (a*6+b<c*6+d)=decide (b<d):=by rw[Ug];omega
   show Q _ s;rw[<- this];exact h'
 ·rw [show (a == c) = false by simpa using e1];refine kat_no ?_;show wpAny _ A (keyLt' oneType' _ _) Q _ s;refine kat_lt_int ?_;have:decide (a*6+b<c*6+d)=decide (a<c):=by rw[Ug];omega
  rw[<- this];exact h'
end
def jE(ps:List KP):Prop:=ps.Pairwise fun p q=>pI p.1<pI q.1
def bo(ps:List KP):List Value:=ps.map fun p=>Value.ref p.2
section
theorem AD{h:Heap}:∀{ps:List KP},(∀p∈ps,p.1∈prs)->(∀p∈ps,Tk prog w h p.1 p.2)->∃fs,KatTups h (bo ps) fs/\fs.length=ps.length/\∀v∈fs,∃i t,v=Value.int i t
 |[],_,_=>⟨[],KatTups.nil,rfl,fun v hv=>by simp at hv⟩
 |p::ps,hk,ht=>by
  obtain⟨fs,h1,h2,h3⟩:=AD (ps:=ps) (fun q hq=>hk q (QH _ hq)) (fun q hq=>ht q (QH _ hq));obtain⟨a,b,e,_⟩:=jv (hk p QG);have t:=ht p QG;rw[e]at t;obtain⟨o,n,t1,t2,ho,hc,hd⟩:=zg t;refine⟨.int a t1::fs,KatTups.cons ho hc hd rfl h1,by rw[Sx,Sx,h2],fun v hv=>?_⟩;rcases QI.mp hv with q|q
  ·exact⟨a,t1,q⟩
  ·exact h3 v q
theorem K4{ps:List KP}(hk:∀p∈ps,p.1∈prs)(hn:(ps.map 5e4).Nodup){p:Array Nat}(g:fR ps.length p)(ha:FU (fun i=>pI (ps.getD i ([],0)).1) p ps.length) :
  ∃out:List KP,(p.toList.map fun i=>(bo ps).getD i Value.none)=bo out/\out.Perm ps/\jE out:=by
 refine⟨p.toList.map fun i=>ps.getD i ([],0),?_,?_,?_⟩
 ·unfold bo;rw[SX];refine SY fun i hi=>?_;have hi':i<ps.length:=QC.mp (g.perm.mem_iff.mp hi);simp[Uh,hi']
 ·refine (g.perm.map _).trans ?_
  have:(List.range ps.length).map (fun i=>ps.getD i ([],0))=ps:=by
   apply Ui;intro i;rw[Rv];by_cases hi:i<ps.length
   ·rw[Uj hi];simp[hi]
   ·rw[Uk 6e3,Uk 0e0];rfl
  rw[this]
 ·unfold jE;rw[Ul];refine Tb.mpr fun i j hi hj hij=>?_;have hi':i<p.size:=by simpa using hi
  have hj':j<p.size:=by simpa using hj
  have:=ha i j hij (by rw[<- g.size];exact hj');unfold at' at this;simpa[Array.getD,hi',hj'] using this
theorem zH{ps:List KP}{P:PySem.Fin->Shared->Prop}(ho:s.heap.get? a=some (seqObj "list" (bo ps).toArray n))(hk:∀p∈ps,p.1∈prs)(hn:(ps.map 5e4).Nodup)(hT:∀p∈ps,Tk prog w 3e2 p.1 p.2)(h:∀out:List KP,out.Perm ps->jE out->P (.done (.ret .none)) {s with heap:=sortedHeap 3e2 a (bo ps) (bo out).toArray}):
  wpAny 1e2 A (Builtin.«list.sort» ⟨[.ref a],[]⟩) P E s:=by
 have hlen:=oI hk hn;have hvl:(bo ps).length=ps.length:=by unfold bo;rw[Rz]
 rw[list_sort_plain];have hal:a<s.heap.objs.size:=Qw ho;refine QW (listItems_at ho rfl ?_);refine QW (Um ho rfl ?_ (by rw[Rf,hvl];exact QD hlen 0e4) (SI _));obtain⟨e1,ho1⟩:∃e1,(s.heap.update a (Obj.mapSeq fun _=>#[])).get? a=some (seqObj "list" #[] e1):=⟨_,Uo ho (fun _=>#[])⟩;refine QW (seqEpoch_at ho1 rfl ?_);refine QW (wpAny_newTuple ?_);refine QW (Uq ?_);refine QX ?_
 have ho6:(((s.heap.update a (Obj.mapSeq fun _=>#[])).push (seqObj "tuple" (bo ps).toArray 0)).push 3e1).get? a=some (seqObj "list" #[] e1):=by
  rw[SV _ _ _ (by rw[Ur,Us];exact QA (SA hal)),SV _ _ _ (by rw[Us];exact QA hal)];exact ho1
 show wpAny 1e2 A _ P E {s with heap:=((s.heap.update a (Obj.mapSeq fun _=>#[])).push (seqObj "tuple" (bo ps).toArray 0)).push 3e1};dsimp only
 have hna:∀p∈ps,p.2≠a:=fun p hp e=>by
  obtain⟨o,items,m,ho',hc',_⟩:=hT p hp;rw[e,ho]at ho';have:=Qp ho';subst this;exact absurd (show Value.type "list" = Value.type "tuple" from hc') 0e4
 generalize hS:({s with heap:=((s.heap.update a (Obj.mapSeq fun _=>#[])).push (seqObj "tuple" (bo ps).toArray 0)).push 3e1}:Shared)=s1;have eh1:s1.heap=((s.heap.update a (Obj.mapSeq fun _=>#[])).push (seqObj "tuple" (bo ps).toArray 0)).push 3e1:=by rw[<- hS]
 have hT1:∀p∈ps,Tk prog w s1.heap p.1 p.2:=fun p hp=>by
  obtain⟨o,items,m,ho',rest⟩:=hT p hp;refine⟨o,items,m,?_,rest⟩;rw[eh1];refine Q6 _ (Q6 _ ?_);rw[Ut _ _ _ _ (hna p hp)];exact ho'
 rw[<- eh1]at ho6
 have hfin:∀out:List KP,out.Perm ps->jE out->P (.done (.ret .none)) {s1 with heap:=s1.heap.update a (Obj.mapSeq fun _=>(bo out).toArray)}:=fun out h1 h2=>by
  have q:=h out h1 h2;rw[<- hS];exact q
 have hszv:(bo ps).toArray.size=ps.length:=by rw[Rf,hvl]
 by_cases h2:(bo ps).toArray.size<2
 ·rw [Qu h2, Qu h2];refine QW (Q3 ?_);rw[StateT.run_pure];refine QW (Q3 ?_);dsimp only;refine QW (seqEpoch_at ho6 rfl ?_)
  have eo:(arrOf (SortSt.mk' general' ((bo ps).toArray.zip (bo ps).toArray) #[] 7 none)).map (·.2)=(bo ps).toArray:=by
   show (((bo ps).toArray.zip (bo ps).toArray)).map (·.2)=_;apply Array.toList_inj.mp;rw[Array.toList_map,Array.toList_zip];exact List.map_snd_zip 8e0
  rw[eo];refine QW (Um ho6 rfl ?_ (SI _) (by show (bo ps).toArray.size<=_;rw[hszv];exact QD hlen 0e4));dsimp[Uu,Sw,RH];refine Q3 (hfin ps (List.Perm.refl _) ?_);rw[hszv]at h2
  match ps,h2 with
  |[],_=>exact List.Pairwise.nil
  |[_],_=>exact List.pairwise_singleton _ _
  |_::_::_,h=>rw[Sx,Sx]at h;omega
 ·rw [Qv h2, Qv h2];rw[hszv]at h2;obtain⟨fs,k1,k2,k3⟩:=AD hk hT1;refine QW (kat_kind (T:=Value.type "int") k1 0e0 (fun v hv=>?_) (by rfl) ?_)
  ·obtain⟨i,t,e⟩:=k3 v hv;rw[e];exact .now
  ·have et : (Value.type "int" != Value.type "tuple") = true := by decide
   rw[et]
   refine QW (QR (kat_run (ks:=bo ps) (vs:=bo ps) (Q:=fun st' s'=>s'=s1/\failedOf st'=none/\∃out:List KP,out.Perm ps/\jE out/\(arrOf st').map (·.2)=(bo out).toArray)
    (G:=fun p s'=>s'=s1/\∃out:List KP,(p.toList.map fun i=>(bo ps).getD i Value.none)=bo out/\out.Perm ps/\jE out) rfl (by rw[hvl];omega) (by rw[hvl];omega) ?_ ?_) ?_ fun _ _ e=>e)
   ·rintro p st' s' hp har hf ⟨e, out, o1, o2, o3⟩
    exact⟨e,hf,out,o2,o3,by rw[kat_snds rfl har,o1]⟩
   ·rw [hvl];refine GK (key:=fun i=>pI (ps.getD i ([],0)).1) (fun i j hi hj e=>?_) (fun i j hi hj C hC=>?_) 0e0 _ (fun p g ha=>⟨rfl,K4 hk hn g ha⟩)
    ·have hi' : ps.getD i ([], 0) = ps[i] := by simp [Uh, hi]
     have hj':ps.getD j ([],0)=ps[j]:=by simp[Uh,hj]
     dsimp[hi',hj']at e;have e2:=Iz (hk _ (Uv hi)) (hk _ (Uv hj)) e;have hil:i<(ps.map 5e4).length:=by rw[Rz];exact hi
     have hjl:j<(ps.map 5e4).length:=by rw[Rz];exact hj
     exact(QN (h₀:=hil) (h₁:=hjl) hn).mp (by simpa using e2)
    ·unfold kas_ask;have gi:(bo ps).getD i Value.none=.ref ps[i].2:=by unfold bo;simp[Uh,hi]
     have gj:(bo ps).getD j Value.none=.ref ps[j].2:=by unfold bo;simp[Uh,hj]
     have hi':ps.getD i ([],0)=ps[i]:=by simp[Uh,hi]
     have hj':ps.getD j ([],0)=ps[j]:=by simp[Uh,hj]
     rw[gi,gj];dsimp[hi',hj']at hC;exact Hs (hT1 _ (Uv hi)) (hT1 _ (Uv hj)) (hk _ (Uv hi)) (hk _ (Uv hj)) hC
   ·rintro ⟨⟨⟩, st'⟩ s' ⟨rfl, hf, out, o1, o2, o3⟩
    dsimp only;refine QW (seqEpoch_at ho6 rfl ?_);rw[o3];refine QW (Um ho6 rfl ?_ (SI _) (by show (bo out).toArray.size<=_;rw[Rf];unfold bo;rw[Rz,o1.length_eq];exact QD hlen 0e4));rw[hf];dsimp[Uu,Sw,RH];exact Q3 (hfin out o1 o2)
end
namespace Fx
theorem slot_setiter_next:Slot "set_iterator" "__next__" "set_iterator.__next__" :=
 .of (owner:="set_iterator") (n:="__next__") (by rw[typeLookup_type,builtinLookup_eq_fast];kernel_rfl) 0e9 0e9 0e9
  (by first|exact .inl 0e9|exact .inr 0e9) (by rw[T5];kernel_rfl)
theorem entry_setiter_next:entryFor table "set_iterator.__next__" = some Builtin.«set_iterator.__next__»:=entryFor_of_fast 0e2
theorem args_setiter_next (a:Value):argsOk "set_iterator.__next__" ⟨[a],[]⟩:=by unfold argsOk;kernel_rfl
theorem entry_set_iter:entryFor table "set.__iter__" = some Builtin.«frozenset.__iter__»:=
 entryFor_alias (id':="frozenset.__iter__") 0e2 rfl 0e9 0e2
end Fx
def eJ (h:Heap) (I S:Addr) (i n ep slot:Nat):Prop:=h.get? I=some {cls:=.type "set_iterator",dict:=none,data:=.fields #[.int (slot:Int) 0,.int (i:Int) 0,.ref S,.int (n:Int) 0,.int (ep:Int) 0],slots:=#[]}
def eS (w:World) (S:Addr) (ep:Nat) (es:Array (Int×Value)):List (Int×Value):=if w.params.followText "set-order" then (pickOrder (w.params.setOrder S ep) es).toList else es.toList
def d4 (w:World) (ρ:List (Nat×Int×Value)) (i:Nat):Nat:=if w.params.followText "set-order" then 0 else if i=0 then 0 else (ρ.getD (i-1) (0,0,.none)).1+1
theorem uK{J:Type}(next:Nat->Nat):∀(fuel k:Nat)(left:List J)(out:Array J),left.length=fuel->(pickOrder.go next fuel k left out).toList.Perm (out.toList++left)
 |0,k,left,out,h=>by
  have:left=[]:=Uw.mp h;subst this;show out.toList.Perm (out.toList++[]);rw[Rg]
 |fuel+1,k,left,out,h=>by
  have hlt:next k%left.length<left.length:=Nat.mod_lt _ 0e0
  show (match left[next k%left.length]? with|some x=>_|none=>_:Array J).toList.Perm _;rw[Ux hlt];show (pickOrder.go next fuel (k+1) (left.eraseIdx (next k%left.length)) (out.push left[next k%left.length])).toList.Perm _;refine(uK next fuel (k+1) _ _ (by rw[List.length_eraseIdx_of_lt hlt];omega)).trans ?_;rw[Array.toList_push,Sh];refine List.Perm.append_left _ ?_;rw[List.singleton_append,List.eraseIdx_eq_take_drop_succ]
  have q:(left.take (next k%left.length)++left[next k%left.length]::left.drop (next k%left.length+1))=left:=by
   rw[List.getElem_cons_drop];exact Tj _ _
  have q2:=(List.perm_middle (a:=left[next k%left.length]) (l₁:=left.take (next k%left.length)) (l₂:=left.drop (next k%left.length+1))).symm;rw[q]at q2;exact q2
theorem l7{S:Addr}{ep:Nat}:(eS w S ep es).Perm es.toList:=by
 unfold eS;split
 ·have:=uK (w.params.setOrder S ep) es.size 0 es.toList #[] 0e6;simpa[pickOrder] using this
 ·exact List.Perm.refl _
theorem FL(T:wN t es ρ)(hb:w.params.followText "set-order" = false)(hi:i<=ρ.length):SetTable.below t.place (d4 w ρ i)=i:=by
 have r:FS t.place.toList:=by rw[T.place];exact T.ris
 obtain⟨b1,b2,b3⟩:=nZ r (d4 w ρ i);have hsz:=T.size.1
 have gz:∀k,k<ρ.length->t.place.getD k (d4 w ρ i)=(ρ.getD k (0,0,.none)).1:=fun k hk=>by
  have e:t.place[k]?=some (ρ[k]).1:=by rw[<- Sl,T.place,Rv,Ux hk];rfl
  rw[Tr,e,Uh,Ux hk];rfl
 have hris:∀a b,a<b->b<ρ.length->(ρ.getD a (0,0,.none)).1<(ρ.getD b (0,0,.none)).1:=fun a b hab hbz=>by
  rw[<- gz a 0e0,<- gz b hbz];exact vO r _ a b hab 0e0
 have hs:d4 w ρ i=if i=0 then 0 else (ρ.getD (i-1) (0,0,.none)).1+1:=by
  unfold d4;rw[hb,Qv Q0]
 by_cases h0:i=0
 ·rw [Qu h0] at hs;rw[hs]at b2⊢;by_cases hz:SetTable.below t.place 0=0
  ·rw[hz,h0]
  ·have:=b2 0 0e0;omega
 ·rw [Qv h0] at hs
  have hlo:¬ SetTable.below t.place (d4 w ρ i)<=i-1:=fun hle=>by
   have:=b3 (i-1) hle 0e0;rw[gz _ 0e0]at this;omega
  have hhi:¬ i<SetTable.below t.place (d4 w ρ i):=fun hlt=>by
   have:=b2 i hlt;have hiz:i<ρ.length:=by omega
   rw[gz i hiz]at this;have:=hris (i-1) i 0e0 hiz;omega
  omega
section
theorem xH{ps:List (Int×Value)}{o es ep t ρ}{Q:Option (Value×Nat)->Shared->Prop}(S:gM w 3e2 a ps o es ep t ρ)(hi:i<=ρ.length)(h:Q (((eS w a ep es)[i]?).map fun e=>(e.2,d4 w ρ (i+1))) s):wpAny 1e2 A (setNext a (d4 w ρ i) i ep) Q E s:=by
 unfold setNext;refine QW (TN S.ho S.hd S.fits ?_);dsimp only;unfold setsByText;refine QW (QW (SF (Q3 ?_)));cases hb:w.params.followText "set-order" with
 |true=>
  have e1:eS w a ep es=(pickOrder (w.params.setOrder a ep) es).toList:=by unfold eS;rw[hb,Qu rfl]
  have e2:∀j,d4 w ρ j=0:=fun j=>by unfold d4;rw[hb,Qu rfl]
  rw[e1,e2]at h;show wpAny _ _ (if (w.params.followText "set-order")=true then _ else _) _ _ _;rw[hb,Qu rfl];rw[Qv 0e6];refine QW ?_;unfold setWalk;refine QW (TN S.ho S.hd S.fits ?_);dsimp only;unfold setsByText;refine QW (QW (SF (Q3 ?_)));show wpAny _ _ (if (w.params.followText "set-order")=true then _ else _) _ _ _;rw[hb,Qu rfl];refine QW (SF (Q3 (Q3 ?_)));rw[e2,<- Sl];exact h
 |false=>
  have e1:eS w a ep es=es.toList:=by unfold eS;rw[hb,Qv Q0]
  have hled:t.led=true:=by rw[S.led,hb];rfl
  show wpAny _ _ (if (w.params.followText "set-order")=true then _ else _) _ _ _;rw[hb,Qv Q0];have hdr:(!t.plain&&decide (es.size>1))=false:=by rw[S.plain];rfl
  show wpAny _ _ (if (!t.plain&&decide (es.size>1))=true then _ else _) _ _ _;rw[hdr,Qv Q0];refine QW ?_;show wpAny _ _ (if (!t.led && !es.isEmpty)=true then _ else _) _ _ _;rw[hled];dsimp[TL,Q5,Sw,RH];refine Q3 (Q3 ?_);rw[FL S.tab hb hi];rw[e1,Sl]at h;by_cases hlt:i<ρ.length
  ·have ez : ρ[i]? = some ρ[i] := Ux hlt;have ee:=S.tab.hashAt ez;have ep':t.place[i]?=some (ρ[i]).1:=by rw[<- Sl,S.tab.place,Rv,ez];rfl
   rw[ee,ep'];rw[ee]at h
   have es':d4 w ρ (i+1)=(ρ[i]).1+1:=by
    unfold d4;rw[hb,Qv Q0,Qv 0e0,Nat.add_sub_cancel,Uh,ez];rfl
   rw[es']at h;exact h
  ·have : es[i]? = none := by rw [Tw, S.tab.size.2]; omega
   rw[this];rw[this]at h;exact h
end
section
theorem eJ.typeIs{S:Addr}{ep slot:Nat}(h:eJ 3e2 I S i n ep slot):s.TypeIs (.ref I) "set_iterator" := ⟨_,h,rfl⟩
theorem iz{ps:List (Int×Value)}{o es ep t ρ}(S:gM w 3e2 a ps o es ep t ρ):s.TypeIs (.ref a) "set" := ⟨o,S.ho,S.ex.1⟩
theorem Et{ps:List (Int×Value)}{o es ep t ρ}(S:gM w 3e2 a ps o es ep t ρ)(hQ:Q (.ref 0e3) {s with heap:=s.heap.push {cls:=.type "set_iterator",data:=.fields #[.int ((0:Nat):Int) 0,.int ((0:Nat):Int) 0,.ref a,.int (ρ.length:Int) 0,.int (ep:Int) 0]}}):
  wpAny 1e2 A (pyIter (.ref a)) Q E s:=by
 refine wpAny_pyIter_slot (iz S) PySem.F.slot_set_iter (RQ PySem.F.slot_set_iter (iz S) Fx.entry_set_iter ?_ (PySem.F.args_set_iter_1 _));unfold Builtin.«frozenset.__iter__» Builtin.Frozenset.sizeOf;refine QW (m:=Builtin.Frozenset.slot0 "__iter__" _) (SH (a:=a) rfl ?_);refine QW (QW (Uy S.ho S.hd S.fits (Q3 ?_)));unfold setDrawn;refine QW (QW (TN S.ho S.hd S.fits ?_));dsimp only;unfold setsByText;refine QW (QW (SF (Q3 (Q3 ?_))));have hdr:(!w.params.followText "set-order" && (!t.plain&&decide (es.size>1)))=false:=by rw[S.plain];simp
 show wpAny _ _ (if (!w.params.followText "set-order" && (!t.plain&&decide (es.size>1)))=true then _ else _) _ _ _;rw[hdr,Qv Q0];refine QW (Q3 ?_);refine QW (wpAny_setEpoch_of S.ho S.hd S.fits ?_);refine QW (RX (Q3 ⟨_,rfl, "set_iterator",_,⟨_,Q7 _ rfl,rfl⟩,Fx.slot_setiter_next.lookup,?_⟩));rw[S.tab.size.2];exact hQ
theorem Eu{ps:List (Int×Value)}{o es ep t ρ}{v:Int×Value}{Q:Option Value->Shared->Prop}(S:gM w 3e2 a ps o es ep t ρ)(hit:eJ 3e2 I a i ρ.length ep (d4 w ρ i))(hv:(eS w a ep es)[i]?=some v)(hQ:∀h',eJ h' I a (i+1) ρ.length ep (d4 w ρ (i+1))->Heap.SameBut I 3e2 h'->Q (some v.2) {s with heap:=h'}):wpAny 1e2 A (pyNext (.ref I)) Q E s:=by
 have hT:=hit.typeIs;have hoi:=hit;unfold eJ at hoi
 have hil:i<ρ.length:=by
  have:=(QM.mp hv).1;rw[l7.length_eq,QT,S.tab.size.2]at this;exact this
 unfold pyNext;refine QW 12e2;unfold Builtin.«set_iterator.__next__»;refine QW (m:=slotArgs "__next__" 0 _) (SH (a:=(.ref I,[])) rfl ?_);dsimp only;unfold fieldsOf;refine QW (QW (Q4 hoi ?_));refine Q3 ?_;refine QW (Uy S.ho S.hd S.fits ?_);rw[S.tab.size.2];dsimp[Uu,Sw,RH,RF];refine QW (xH S (QE hil) ?_);rw[hv];dsimp only[Option.map_some];refine QW (Uz hoi 0e6 fun h1 e1 sb1=>?_);refine QW (Uz (s:={s with heap:=h1}) e1 0e6 fun h2 e2 sb2=>?_);refine Q3 ⟨v.2,rfl,Q3 (hQ h2 ?_ (sb1.trans sb2))⟩;unfold eJ;rw[e2];simp[rawInt]
theorem GS{ps:List (Int×Value)}{o es ep t ρ}{Q:Option Value->Shared->Prop}(hh:A.handled=none)(S:gM w 3e2 a ps o es ep t ρ)(hit:eJ 3e2 I a ρ.length ρ.length ep (d4 w ρ ρ.length))(hQ:∀h',Heap.ExtBut I 3e2 h'->Q none {s with heap:=h'}):wpAny 1e2 A (pyNext (.ref I)) Q E s:=by
 have hT:=hit.typeIs;have hoi:=hit;unfold eJ at hoi
 have hv:(eS w a ep es)[ρ.length]?=none:=by
  rw[List.getElem?_eq_none_iff,l7.length_eq,QT,S.tab.size.2];exact Q8 _
 unfold pyNext;refine QW 12e2;unfold Builtin.«set_iterator.__next__»;refine QW (m:=slotArgs "__next__" 0 _) (SH (a:=(.ref I,[])) rfl ?_);dsimp only;unfold fieldsOf;refine QW (QW (Q4 hoi ?_));refine Q3 ?_;refine QW (Uy S.ho S.hd S.fits ?_);rw[S.tab.size.2];dsimp[Uu,Sw,RH,RF];refine QW (xH S 8e0 ?_);rw[hv];dsimp only[Option.map_none];refine QW (Uz hoi 0e6 fun h1 e1 sb1=>?_);refine QW ?_;dsimp[newExc,newTuple];refine QW (RX ?_ (by size_fits));refine QW (m:=firstArgMember _ _) (SH (a:=Value.none) (by first|rfl|(dsimp[firstArgMember];rfl)) ?_);refine RX ?_ (by size_fits);dsimp[raiseNew];refine QW (wpAny_handled ?_);rw[show A.in1.handled=none from hh];refine QW (Q3 (wpAny_throw ?_));refine QW (wpAny_isInstance (T:="StopIteration") (b:=true) ⟨_,Q7 _ rfl,rfl⟩ isSubtype_stop ?_);exact Q3 (hQ _ ((sb1.extBut.push _).push _))
end
namespace Fx
theorem entry_extend_loop:entryFor table "list.extend.loop" = some Builtin.«list.extend.loop»:=entryFor_of_fast 0e2
theorem plain_extend_loop:plainId "list.extend.loop" = true:=by decide +kernel
theorem split_set_len:splitId "set.__len__" = some ("set", "__len__"):=by decide +kernel
end Fx
section
theorem yL{ps:List (Int×Value)}{o es ep t ρ}{Q:Bool->Shared->Prop}(S:gM w 3e2 a ps o es ep t ρ)(h:Q false s):wpAny 1e2 A (Builtin.List.listLengthHint (.ref a)) Q E s:=by
 unfold Builtin.List.listLengthHint;refine QW (wpAny_specialOf (iz S) PySem.F.slot_set_len.lookup ?_);dsimp only;rw[Fx.split_set_len];dsimp only;refine QW (wpAny_isInstance (iz S) sub_set_self ?_);dsimp[TL,Sw,RH];rw[Qu (by rfl)];refine QW (RU (iz S) ?_);exact Q3 h
theorem yM{R:Result->Shared->Prop}{L:Addr}{ps:List (Int×Value)}{o es ep t ρ}(hh:A.handled=none)(hIa:I≠a)(hIL:I≠L)(hLa:L≠a)(hz:ρ.length<=100):
  ∀(k i n:Nat) (s:Shared),ρ.length-i=k->i<=ρ.length->gM w 3e2 a ps o es ep t ρ->eJ 3e2 I a i ρ.length ep (d4 w ρ i)->s.heap.get? L=some (seqObj "list" (((eS w a ep es).take i).map (·.2)).toArray n) ->
   (∀h' m,(∀b u,b≠I->b≠L->s.heap.get? b=some u->h'.get? b=some u)->h'.get? L=some (seqObj "list" ((eS w a ep es).map (·.2)).toArray m)->R (.ok (.ret (.ref L))) {s with heap:=h'}) ->
   codeAny 1e2 A (.builtin "list.extend.loop" ⟨[.ref L,.ref I,.ref L],[]⟩) R s:=by
 intro k
 induction k with
 |zero=>
  intro i n s ek hi S hit hL hR;have e:i=ρ.length:=by omega
  subst e;refine TZ Fx.entry_extend_loop ?_;rw[T1 Fx.plain_extend_loop _];show wpAny _ A.in1 (pyNext (.ref I) >>= _) _ _ s;refine QW (GS (by simpa using hh) S hit fun h' eb=>?_);show wpAny _ A.in1 (ret (.ref L)) _ _ _;refine Q3 (hR h' n (fun b u hb _ q=>eb b u hb q) ?_);rw[Td (by rw[l7.length_eq,QT,S.tab.size.2];exact Q8 _)]at hL;exact eb L _ (QJ hIL) hL
 |succ k ih=>
  intro i n s ek hi S hit hL hR;have hil:i<(eS w a ep es).length:=by rw[l7.length_eq,QT,S.tab.size.2];omega
  refine TZ Fx.entry_extend_loop ?_;rw[T1 Fx.plain_extend_loop _];show wpAny _ A.in1 (pyNext (.ref I) >>= _) _ _ s;refine QW (Eu S hit (Ux hil) fun h' hit' sb=>?_);have hL':h'.get? L=some (seqObj "list" (((eS w a ep es).take i).map (·.2)).toArray n):=(sb.2 L (QJ hIL)).trans hL
  have hsz:(((eS w a ep es).take i).map (·.2)).toArray.size<=100:=by
   rw[Rf,Rz,Rn];omega
  show wpAny _ A.in1 (Builtin.List.listUpdate (.ref L) _ >>= _) _ _ _;refine QW (Um (s:={s with heap:=h'}) hL' rfl ?_ (QD hsz 0e4) (by rw[Array.size_push];exact QD (Nat.succ_le_succ hsz) 0e4));have hL2:=Uo hL' (·.push ((eS w a ep es)[i]).2)
  have eL:(((eS w a ep es).take i).map (·.2)).toArray.push ((eS w a ep es)[i]).2=(((eS w a ep es).take (i+1)).map (·.2)).toArray:=by
   have q:(eS w a ep es).take (i+1)=(eS w a ep es).take i++[(eS w a ep es)[i]]:=by rw[Uc,Ux hil];rfl
   rw[q,To,List.push_toArray];rfl
  rw[eL]at hL2;have hsb2:=SQ h' L (Obj.mapSeq (·.push ((eS w a ep es)[i]).2));refine Q3 ⟨T4 Fx.plain_extend_loop _,ih (i+1) _ _ 0e0 0e0 ?_ ?_ hL2 fun h'' m kk hm=>?_⟩
  ·refine⟨?_,S.ex,S.hd,S.tab,S.plain,S.led,S.big,S.perm⟩;exact(hsb2.2 a (QJ hLa)).trans ((sb.2 a (QJ hIa)).trans S.ho)
  ·exact(hsb2.2 I hIL).trans hit'
  ·refine hR h'' m (fun b u hb1 hb2 q=>kk b u hb1 hb2 ?_) hm;exact(hsb2.2 b hb2).trans ((sb.2 b hb1).trans q)
theorem wk{J:Type}{f:J->β}{l m:List β}(h:l.Perm m):∀ps:List J,m=ps.map f->∃qs:List J,qs.Perm ps/\l=qs.map f:=by
 induction h with
 |nil=>
  intro ps e;have:ps=[]:=List.map_eq_nil_iff.mp e.symm;exact⟨[],by rw[this],rfl⟩
 |cons x _ ih=>
  intro ps e;cases ps with
  |nil=>cases e
  |cons p ps=>
   rw[RZ]at e;obtain⟨qs,h1,h2⟩:=ih ps (S9 e).2;exact⟨p::qs,h1.cons p,by rw[RZ,<- h2,(S9 e).1]⟩
 |swap x y l=>
  intro ps e
  match ps,e with
  |p::q::r,e=>
   rw[RZ,RZ]at e;obtain⟨e1,e2⟩:=S9 e;obtain⟨e2,e3⟩:=S9 e2;exact⟨q::p::r,List.Perm.swap _ _ _,by rw[RZ,RZ,e1,e2,e3]⟩
 |trans _ _ ih1 ih2=>
  intro ps e;obtain⟨qs,h1,h2⟩:=ih2 ps e;obtain⟨rs,h3,h4⟩:=ih1 qs h2;exact⟨rs,h3.trans h1,h4⟩
theorem yP{ps:List (Int×Value)}{o es ep t ρ}{Q:List Value->Shared->Prop}(hh:A.handled=none)(S:gM w 3e2 a ps o es ep t ρ)(hz:ρ.length<=100)(h:∀qs:List (Int×Value),qs.Perm ps->∀h',(∀b u,s.heap.get? b=some u->h'.get? b=some u)->s.heap.objs.size<=h'.objs.size->Q (qs.map (·.2)) {s with heap:=h'}):wpAny 1e2 A (collect (.ref a)) Q E s:=by
 have hal:a<s.heap.objs.size:=Qw S.ho;unfold collect;refine QW (Ua (TZ entry_proto_collect' ?_));show wpAny _ _ (do again (.builtin "list.__iadd__" ⟨[<- newList [],.ref a],[]⟩)) _ _ s;refine QW (Uq (Q3 ⟨T7 _ 0e9,TZ entry_list_iadd' ?_⟩));show wpAny _ _ (Builtin.List.listExtendWith (.ref 0e3) (.ref a) (.ref 0e3)) _ _ {s with heap:=s.heap.push 3e1};have S1:gM w (s.heap.push 3e1) a ps o es ep t ρ:=⟨Q6 _ S.ho,S.ex,S.hd,S.tab,S.plain,S.led,S.big,S.perm⟩;unfold Builtin.List.listExtendWith;refine QW (RU (iz (s:={s with heap:=s.heap.push 3e1}) S1) ?_)
 have hsame:Builtin.List.listSameRef (.ref 0e3) (.ref a)=false:=by
  show (s.heap.objs.size == a)=false;simpa using Q2 hal
 rw[hsame,Qv 0e4];refine QW (Et (s:={s with heap:=s.heap.push 3e1}) S1 ?_);dsimp only;generalize hH:(s.heap.push 3e1).push {cls:=.type "set_iterator",data:=.fields #[.int ((0:Nat):Int) 0,.int ((0:Nat):Int) 0,.ref a,.int (ρ.length:Int) 0,.int (ep:Int) 0]}=H2;have eI:(s.heap.push 3e1).objs.size=s.heap.objs.size+1:=by rw[Ur]
 have hk2:∀b u,s.heap.get? b=some u->H2.get? b=some u:=fun b u q=>by rw[<- hH];exact Q6 _ (Q6 _ q)
 have S2:gM w H2 a ps o es ep t ρ:=⟨hk2 a o S.ho,S.ex,S.hd,S.tab,S.plain,S.led,S.big,S.perm⟩;have hL2:H2.get? 0e3=some 3e1:=by rw[<- hH];exact Q6 _ (Q7 _ rfl)
 have hI2:H2.get? 8e7=some {cls:=.type "set_iterator",data:=.fields #[.int ((0:Nat):Int) 0,.int ((0:Nat):Int) 0,.ref a,.int (ρ.length:Int) 0,.int (ep:Int) 0]}:=by
  rw[<- hH,<- eI];exact Q7 _ rfl
 rw[eI];refine QW (QX (yL (s:={s with heap:=H2}) S2 ?_));rw[Qu (by rfl)];refine QW (SG ?_);refine QW ?_;unfold Builtin.List.listTouch;refine QW (Um (s:={s with heap:=H2}) hL2 rfl ?_ (SI _) 0e4);have hL3:=Uo hL2 (·.push Value.none);refine Um (s:={s with heap:=H2.update 0e3 (Obj.mapSeq (·.push Value.none))}) hL3 rfl ?_ 0e4 0e4;have hL4:=Uo hL3 (·.pop);have sb3:=SQ H2 0e3 (Obj.mapSeq (·.push Value.none));have sb4:=(sb3.trans (SQ (H2.update 0e3 (Obj.mapSeq (·.push Value.none))) 0e3 (Obj.mapSeq (·.pop))));generalize hH4:(H2.update 0e3 (Obj.mapSeq (·.push Value.none))).update 0e3 (Obj.mapSeq (·.pop))=H4 at hL4 sb4;have neL:a≠s.heap.objs.size:=QA hal;have neI:s.heap.objs.size+1≠s.heap.objs.size:=Nat.succ_ne_self _;refine Q3 ⟨T7 _ 0e9,?_⟩
 refine yM (by simpa using hh) (Q2 (SA hal)) neI (QJ neL) hz (ρ.length-0) 0 _ {s with heap:=H4} (by omega) (SI _)
  ⟨(sb4.2 a neL).trans S2.ho,S.ex,S.hd,S.tab,S.plain,S.led,S.big,S.perm⟩ ?_ (by rw[List.take_zero];exact hL4) fun h' m kk hm=>?_
 ·unfold eJ;have e0:d4 w ρ 0=0:=by unfold d4;split <;> simp
  rw[e0];exact(sb4.2 _ neI).trans hI2
 ·dsimp only;refine QW (Q4 hm ?_);refine Q3 ?_;have hp:(eS w a ep es).Perm ps:=l7.trans (by rw[S.tab.ents];exact S.perm)
  have fin:=h (eS w a ep es) hp h' fun b u q=>by
   have hb:b<s.heap.objs.size:=Qw q;exact kk b u (QA (SA hb)) (QA hb) ((sb4.2 b (QA hb)).trans (hk2 b u q))
  exact fin (QE (Qw hm))
theorem yN{ps:List KP}{Q:List Value->Shared->Prop}(hh:A.handled=none)(S:cQ w 3e2 a ps)(h:∀qs:List KP,qs.Perm ps->∀h',(∀b u,s.heap.get? b=some u->h'.get? b=some u)->s.heap.objs.size<=h'.objs.size->Q (bo qs) {s with heap:=h'}):wpAny 1e2 A (collect (.ref a)) Q E s:=by
 obtain⟨o,es,ep,t,ρ,S,hk,hn⟩:=S;have h15:=oI hk hn;refine yP hh S (by rw[S.len,Rz];omega) fun qs hq h' k1 k2=>?_;obtain⟨rs,q1,q2⟩:=wk hq ps rfl;have q3:qs.map (·.2)=bo rs:=by rw[q2,SX];rfl
 rw[q3];exact h rs q1 h' k1 k2
theorem BH{x:Value}{ps:List KP}(hk:∀p∈ps,p.1∈prs)(hn:(ps.map 5e4).Nodup)(hT:∀p∈ps,Tk prog w 3e2 p.1 p.2)(hcol:∀Q':List Value->Shared->Prop,(∀qs:List KP,qs.Perm ps->∀h',(∀b u,s.heap.get? b=some u->h'.get? b=some u)->s.heap.objs.size<=h'.objs.size->Q' (bo qs) {s with heap:=h'})->wpAny 1e2 A.in1 (collect x) Q' E s)(h:∀out:List KP,out.Perm ps->jE out->∀h' D,s.heap.objs.size<=D->(∀b u,s.heap.get? b=some u->h'.get? b=some u)->(∃n,h'.get? D=some (seqObj "list" (bo out).toArray n))->Q (.ref D) {s with heap:=h'}):
  wpAny 1e2 A (call (.builtin "sorted") [x]) Q E s:=by
 refine Calls.call_function_entry kind_sorted plain_sorted entry_sorted (args_sorted1 _) ?_;unfold Builtin.«sorted»;refine QW (m:=checkCount "sorted" 1 1 _) (Q3 ?_);refine QW (hcol _ fun qs hqs h1 k1 hsz=>?_);have hkq:∀p∈qs,p.1∈prs:=fun p hp=>hk p (hqs.mem_iff.mp hp);have hnq:(qs.map 5e4).Nodup:=(hqs.map _).nodup_iff.mpr hn;have hlen:=oI hkq hnq;have hvl:(bo qs).length<=15:=by unfold bo;rw[Rz];exact hlen
 refine QW (Uq ?_ (QD hvl 0e4));have hoL:(h1.push (seqObj "list" (bo qs).toArray 0)).get? h1.objs.size=some (seqObj "list" (bo qs).toArray 0):=Q7 _ rfl;have hnn:∀b u,h1.get? b=some u->b≠h1.objs.size:=fun b u q=>QA (Qw q);refine QW (QX (RQ slot_list_sort (s:={s with heap:=h1.push (seqObj "list" (bo qs).toArray 0)}) ⟨_,hoL,rfl⟩ entry_list_sort ?body (args_list_sort _)))
 case body=>
  refine zH (s:={s with heap:=h1.push (seqObj "list" (bo qs).toArray 0)}) hoL hkq hnq (fun p hp=>?_) fun out h2 h3=>?_
  ·obtain⟨o,its,n,ho,rest⟩:=hT p (hqs.mem_iff.mp hp);exact⟨o,its,n,Q6 _ (k1 _ _ ho),rest⟩
  ·refine ⟨_, rfl, Q3 ⟨_, rfl, h out (h2.trans hqs) h3 _ h1.objs.size hsz (fun b u q => ?_) ?_⟩⟩
   ·have hb:=hnn b u (k1 b u q);unfold sortedHeap;rw[Ut _ _ _ _ hb];refine Q6 _ (Q6 _ ?_);rw[Ut _ _ _ _ hb];exact Q6 _ (k1 b u q)
   ·unfold sortedHeap;have g1:=Uo hoL (fun _=>#[]);have g2:=Q6 3e1 (Q6 (seqObj "tuple" (bo qs).toArray 0) g1);exact⟨_,Uo g2 (fun _=>(bo out).toArray)⟩
theorem nT{ps:List KP}(hh:A.handled=none)(S:cQ w 3e2 a ps)(hT:∀p∈ps,Tk prog w 3e2 p.1 p.2)(h:∀out:List KP,out.Perm ps->jE out->∀h' D,s.heap.objs.size<=D->(∀b u,s.heap.get? b=some u->h'.get? b=some u)->(∃n,h'.get? D=some (seqObj "list" (bo out).toArray n))->Q (.ref D) {s with heap:=h'}):
  wpAny 1e2 A (call (.builtin "sorted") [.ref a]) Q E s:=by
 obtain⟨o,es,ep,t,ρ,S0,hk,hn⟩:=id S;exact BH hk hn hT (fun Q' hq=>yN (by simpa using hh) S hq) h
end
end RS
namespace L2
open PySem PySem.Spec PyProof.Rows
theorem fS.thr{h:Heap}{o:HO}(x:fS P w H h a o):∃ob,h.get? a=some ob:=by
 cases o with
 |lst xs=>obtain⟨_,_,_,_,e⟩:=x;exact⟨_,e⟩
 |tup xs=>obtain⟨_,_,_,ob,e,_⟩:=x;exact⟨_,e⟩
 |dK kvs=>obtain⟨_,_,_,_,o,_,_,e,_⟩:=x;exact⟨_,e⟩
 |dT kvs=>obtain⟨_,_,_,_,o,_,_,e,_⟩:=x;exact⟨_,e⟩
 |set S n=>obtain⟨o,_,_,_,e,_⟩:=x;exact⟨_,e⟩
 |ins C dx fs=>obtain⟨_,_,_,e,_⟩:=x;exact⟨_,e⟩
 |own y=>obtain⟨_,e⟩:=x;exact⟨_,e⟩
 |xd fs=>obtain⟨_,⟨_,_,_,e,_⟩,_⟩:=x;exact⟨_,e⟩
 |rng lo hi=>obtain⟨_,_,_,e⟩:=x;exact⟨_,e⟩
 |frz ob u=>obtain⟨e,_⟩:=x;exact⟨_,e⟩
 |tbl ps=>exact⟨_,show h.get? a=some _ from x⟩
 |met f y=>exact⟨_,show h.get? a=some _ from x⟩
 |ext φ=>obtain⟨_,⟨_,e⟩,_⟩:=x;exact⟨_,e⟩
theorem Da{fs:List Addr}{H':Hp}{h0 h1 σ:Heap}(u:Un fs [] H0 H' h0 h1)(hB:∀b o,h0.get? b=some o->b∉fs->∃o',σ.get? b=some o')(k1:σ.StaysIn h1)(k2:σ.StaysIn h')(up:h1.UpToSlots h')(hf:∀b∈fs,H0 b=none/\∃o,h0.get? b=some o/\∀vs,o.data≠.fields vs):Un fs [] H0 H' h0 h' where
 keep:=fun b o e n hb hx=>by
  obtain⟨o',q⟩:=hB b o e hb;have q1:=k1 b o' q;rw[u.keep b o e n hb hx]at q1;cases q1;exact k2 b o q
 slot:=fun b o e n hb hx=>by
  obtain⟨sl,q⟩:=u.slot b o e n hb hx;obtain⟨_,o1,e1,nf⟩:=hf b hb;rw[e]at e1;cases e1;obtain⟨sl',q'⟩:=up b _ q nf;exact⟨sl',q'⟩
 free:=u.free
 there:=fun b o e hx=>by
  by_cases hb:b∈fs
  ·obtain⟨n,o1,e1,nf⟩:=hf b hb;rw[e]at e1;cases e1;obtain⟨sl,q⟩:=u.slot b o e n hb hx;obtain⟨sl',q'⟩:=up b _ q nf;exact⟨_,q'⟩
  ·obtain⟨o',q⟩:=hB b o e hb;exact⟨o',k2 b o' q⟩
 tups:=u.tups
 frzs:=u.frzs
 tbls:=u.tbls
noncomputable def MC(P:Program)(w:World):wO:=fun outer H s E e s'=>
 ∃ea C a0 σ H',e=.ref ea/\s'.os=s.os/\AllBare s'.gens/\Un (qD outer) [] H H' 3e2 s'.heap/\pL P w H' σ/\Heap.FlyingW σ outer ea 10e4 a0 s'.heap/\H' ea=none /\
  (∀b o,s.heap.get? b=some o->b∉qD outer->∃o',σ.get? b=some o')/\E 10e4 (some ea) H'
section
variable{s0:Shared}{E:XK}
noncomputable abbrev FR(P:Program)(w:World)(K:W.Frag)(mg:Str->Option Value)(base:Heap)(N:List Str)(qual:Str)(scope:Scope)(f:Addr)(cdv:Value)(A:Around)(outer:List Env)(s0:Shared)(H0:Hp)(E:XK):Cx:=sd (MC P w) P w K mg base N qual scope f cdv A outer s0 H0 E
theorem Ip(hb:b∈qD (envOfC qual scope s0.heap.objs.size f cdv::outer)):b=s0.heap.objs.size\/b∈qD outer:=by
 obtain⟨env,he,hf⟩:=Ra.mp hb;rcases QI.mp he with rfl|he
 ·exact .inl (Qp hf).symm
 ·exact .inr (Ra.mpr ⟨env,he,hf⟩)
theorem qL(I:bb 3e4 pins B H s){o:Obj}(e:s0.heap.get? b=some o)(hb:b∉qD outer):
  (∃o',s.heap.get? b=some o')/\b∉qD (envOfC qual scope s0.heap.objs.size f cdv::outer):=
 ⟨I.base.there b o e (fun z => by cases z), fun z => by
  rcases Ip z with z|z
  ·exact absurd (Qw e) (by rw[z];exact Qy _)
  ·exact hb z⟩
theorem uV(I:bb 3e4 pins B H s):∀b∈qD outer,H0 b=none/\∃o,s0.heap.get? b=some o/\∀vs,o.data≠.fields vs:=
 fun b hb=>⟨I.ok.frf b hb,(I.ok.funs.mem hb).2⟩
theorem Og:lY (MC P w) 3e4 E:=by
 intro pins B H s e s' I hc;obtain⟨ea,C,a0,σ,H',rfl,os,bare,un,hok,fl,hn,bk,q⟩:=hc;have α:=I.call' os un (hok.kept fl.1) bare (ch:=[]) (fun b z=>absurd z 0e6)
 have hB:∀b o,s0.heap.get? b=some o->b∉qD outer->∃o',σ.get? b=some o':=fun b o e hb=>by
  obtain⟨⟨o1,e1⟩,nb⟩:=qL I e hb;exact bk b o1 e1 nb
 refine wpAny_leaves_onW I.ok.frames rfl fl fun h' fl' up=>?_;exact⟨ea,C,a0,σ,H',rfl,α.os,bare,Da α.base hB fl.1 fl'.1 up (uV I),hok,fl',hn,hB,q⟩
theorem LB{C:Addr}{vs:List Value}(I:bb 3e4 pins B H s)(hs:s'={s with heap:=s'.heap})(hx:Heap.MadeExcOf 3e2 s'.heap ea 10e4 vs)(q:H ea=none->E 10e4 (some ea) H):(FR P w K mg base N qual scope f cdv A outer s0 H0 E).xe (.ref ea) s':=by
 have hn:H ea=none:=by
  cases z:H ea with
  |none=>rfl
  |some u=>
   obtain⟨o,e⟩:=(I.hok ea u z).thr;rw[hx.new]at e;cases e
 have hin:∀env∈(envOfC qual scope s0.heap.objs.size f cdv::outer),∀b,env.frame=some b->b∈qD (envOfC qual scope s0.heap.objs.size f cdv::outer):=fun env he b hb=>Ra.mpr ⟨env,he,hb⟩;have hst:(W.hideAll 3e2 (qD (envOfC qual scope s0.heap.objs.size f cdv::outer))).StaysIn 3e2:=fun b o q=>W.of_hideAll _ q
 have hB:∀b o,s0.heap.get? b=some o->b∉qD outer->∃o',(W.hideAll 3e2 (qD (envOfC qual scope s0.heap.objs.size f cdv::outer))).get? b=some o':=fun b o e hb=>by
  obtain⟨⟨o1,e1⟩,nb⟩:=qL I e hb;exact⟨o1,W.hideAll_get _ e1 nb⟩
 have nfr:∀c u,H c=some u->c∉qD (envOfC qual scope s0.heap.objs.size f cdv::outer):=fun c u e z=>by rw[I.stkFree c z]at e;cases e
 have hok:pL P w H (W.hideAll 3e2 (qD (envOfC qual scope s0.heap.objs.size f cdv::outer))):=fun b u e=>
  (I.hok b u e).stay (fun c v hc r => W.hideAll_get _ r (by
   rcases hc with rfl|hc
   ·exact nfr _ _ e
   ·exact nfr _ _ hc)) (fun _ r=>r) fun _ _ r=>r
 show wpAny _ _ (leaving _ (.ref ea)) _ _ s';refine wpAny_leaves_madeW I.ok.frames rfl hst (W.funFrames_hide I.stack hin) hx fun h' t fl _ _ up=>?_;rw[hs];exact⟨ea,C,.ref t,_,H,rfl,I.os,I.bare,Da I.base hB hst fl.1 ((Heap.UpToSlots.of_keeps hx.keeps).trans up) (uV I),hok,fl,hn,hB,q hn⟩
def rh(mg:Str->Option Value)(base:Heap)(c:Str)(C:Addr):Prop:=∃bm newId σ initId,OwnCls c C bm newId mg base/\ExcBaseFacts σ newId initId bm
theorem BR{c:Str}{C:Addr}{cpos:Pos}(O:rh mg base c C)(hg:Gl 3e4 c)(hd:(c == ("__debug__" : Str))=false):
  PS 3e4 (.Raise (some (.Call (.Name c np) [] [] cpos)) none pos) (fun _ _ H=>∀ea,H ea=none->E 10e4 (some ea) H):=by
 intro pins s B H D I q;obtain⟨bm,newId,σ,initId,O,FB⟩:=O;obtain⟨tl,Nn,nm,qn,bs,hdct,sn,sub,ab,col,dd,k0,k1,k2,k3,k5,mN,hC,hN,hni,T⟩:=O.obj
 refine wpAny_Raise_call_subT (C:=C) (nm:=nm) (q:=qn) (N:=Nn) (bs:=bs) (bm:=tl) (hdct:=hdct) (sn:=sn) (sub:=sub) (ab:=ab) (col:=col) (dd:=dd) (k0:=k0) (k1:=k1) (k2:=k2) (k3:=k3) (k5:=k5)
  FB (mN:=mN) (T.hasType FB.hasBase) (I.ok.hd rfl) rfl hni (oH I hg O.bound ⟨rfl,?_⟩ hd)
 exact evalArgs_empty ⟨rfl,SI _,I.bk _ _ hC,hN.keeps I.bk,T.keeps I.bk,fun h' e hm=>LB I rfl hm (q e)⟩
end
structure Cx.Fn(X:Cx):Prop where
 ex:X.ex=[]
 stk:X.stack=X.env::X.outer
 fr:X.env.frame=some X.env.locals
def Ov(X:Cx)(pins:List 3e5)(E:XK)(e:Value)(s':Shared):Prop:=
 ∃ea C a0 σ B H',e=.ref ea/\bb X pins B H' s'/\pL X.prog X.w H' σ/\Heap.FlyingW σ X.stack ea 10e4 a0 s'.heap/\H' ea=none /\
  (∀b o,X.s₀.heap.get? b=some o->b∉X.fs->∃o',σ.get? b=some o')/\(∀p∈X.pn++pins,∃o',σ.get? p.1=some o')/\E 10e4 (some ea) H'
abbrev Cx.tri(X:Cx)(pins:List 3e5)(E:XK):Cx:={X with pn:=X.pn++pins,xe:=Ov X pins E}
theorem Cx.Ok.tri{X:Cx}{E:XK}(ok:X.Ok):(X.tri pins E).Ok:=
 ⟨ok.mod,ok.kind,ok.glob,ok.blt,ok.above,ok.inj,ok.has,ok.cab,ok.hd,ok.frames,ok.stk,ok.exf,ok.bs,ok.bsz,ok.noex,ok.exfs,ok.funs,ok.frf⟩
theorem Cx.Ok.untri{X:Cx}{E:XK}(ok:(X.tri pins E).Ok):X.Ok:=
 ⟨ok.mod,ok.kind,ok.glob,ok.blt,ok.above,ok.inj,ok.has,ok.cab,ok.hd,ok.frames,ok.stk,ok.exf,ok.bs,ok.bsz,ok.noex,ok.exfs,ok.funs,ok.frf⟩
section
variable{X:Cx}{pins':List 3e5}{E:XK}
theorem bb.tri(I:bb X pins B H s):bb (X.tri pins E) [] B H s:=
 ⟨I.ok.tri,I.os,I.bare,I.base,I.loc,I.cell,I.free,I.freeC,fun p hp=>I.pin p (by simpa using hp),I.hok,I.len⟩
theorem bb.untri(I:bb (X.tri pins E) pins' B H s):bb X pins B H s:=
 ⟨I.ok.untri,I.os,I.bare,I.base,I.loc,I.cell,I.free,I.freeC,fun p hp=>I.pin p (QL _ hp),I.hok,I.len⟩
theorem SP.untri{D:pS}{f:Flow}(h:SP (X.tri pins E) pins' D f s'):SP X pins D f s':=by
 cases f with
 |next=>obtain⟨B',H',I,q⟩:=h;exact⟨B',H',I.untri,q⟩
 |brk=>obtain⟨B',H',I,q⟩:=h;exact⟨B',H',I.untri,q⟩
 |cont=>obtain⟨B',H',I,q⟩:=h;exact⟨B',H',I.untri,q⟩
 |ret u=>obtain⟨v,B',H',I,r,q⟩:=h;exact⟨v,B',H',I.untri,r,q⟩
end
theorem A7{X:Cx}(F:X.Fn)(hb:b∈qD X.stack):b=X.env.locals\/b∈X.fs:=by
 rw[F.stk]at hb;obtain⟨env,he,hf⟩:=Ra.mp hb;rcases QI.mp he with rfl|he
 ·rw[F.fr]at hf;exact .inl (Qp hf).symm
 ·exact .inr (Ra.mpr ⟨env,he,hf⟩)
theorem Jc{X:Cx}{E:XK}(F:X.Fn):lY (MC X.prog X.w) (X.tri pins E) E:=by
 intro pins' B H s e s' I hc;obtain⟨ea,C,a0,σ,H',rfl,os,bare,un,hok,fl,hn,bk,q⟩:=hc;have α:=I.call' os un (hok.kept fl.1) bare (ch:=[]) (fun b z=>absurd z 0e6);refine⟨ea,C,a0,σ,B,H',rfl,α.untri,hok,fl,hn,fun b o e hb=>?_,fun p hp=>?_,q⟩
 ·obtain ⟨o1, e1⟩ := I.base.there b o e (by show b ∉ X.ex; rw [F.ex]; exact fun z => by cases z);refine bk b o1 e1 fun z=>?_;rcases A7 F z with z|z
  ·have:=I.ok.above;rw[z]at e;exact absurd (Qw e) (Nat.not_lt.mpr this)
  ·exact hb z
 ·obtain ⟨p1, p2, p3, p4, p5⟩ := I.pin p (QL _ hp);refine bk p.1 p.2 p1 fun z=>?_;rcases A7 F z with z|z
  ·exact p3 z
  ·exact p4 z
theorem Be{h:Heap}{c:Addr}{v:Option Value}(x:h.IsCell c v)(up:h.UpToSlots h'):h'.IsCell c v:=by
 obtain⟨o,ho,hd⟩:=x;obtain⟨sl,q⟩:=up c o ho fun vs z=>by rw[hd]at z;cases z
 exact⟨_,q,hd⟩
section
variable{X:Cx}{σ:Heap}{C:Addr}{a0:Value}
theorem bb.up(F:X.Fn)(I:bb X pins B H s)(hok:pL X.prog X.w H σ)(c1:∀b o,X.s₀.heap.get? b=some o->b∉X.fs->∃o',σ.get? b=some o')(c2:∀p∈X.pn++pins,∃o',σ.get? p.1=some o')
  (k1:σ.StaysIn 3e2) (k2:σ.StaysIn h') (up:s.heap.UpToSlots h'):bb X pins B H {s with heap:=h'}:=by
 have hb:Un X.fs [] X.H₀ H X.s₀.heap h':=Da (by rw[<- F.ex];exact I.base) c1 k1 k2 up fun b hb=>⟨I.ok.frf b hb,(I.ok.funs.mem hb).2⟩;refine⟨I.ok,I.os,I.bare,by rw[F.ex];exact hb,?_,fun x c e=>?_,I.free,I.freeC,fun p hp=>?_,hok.kept k2,I.len⟩
 ·obtain ⟨m, hn, hl⟩ := I.loc;refine⟨m,up.ns hn,fun i x v a b c=>?_⟩;obtain⟨u,r,l⟩:=hl i x v a b c;refine⟨u,r,?_⟩;rcases l with l|⟨k,c,e,hc⟩
  ·exact .inl l
  ·exact .inr ⟨k,c,e,Be hc up⟩
 ·obtain⟨v,hv⟩:=I.cell x c e;exact⟨v,Be hv up⟩
 ·obtain⟨p1,p2⟩:=I.pin p hp;obtain⟨o',e⟩:=c2 p hp;have e1:=k1 _ _ e;rw[p1]at e1;cases e1;exact⟨k2 _ _ e,p2⟩
def w8(ea C:Addr):HO:=.ext fun h=>∃oe,h.get? ea=some oe/\oe.cls=.ref C
theorem Un.track{fs ex:List Addr}{h0 h:Heap}{o:HO}(u:Un fs ex H0 H h0 h)(hn:h0.get? ea=none)(hH:H ea=none):Un fs ex H0 (cV H ea o) h0 h where
 keep:=u.keep
 slot:=u.slot
 free:=fun b ob e n hx=>by rw[bE fun z=>by rw[z,hn]at e;cases e];exact u.free b ob e n hx
 there:=u.there
 tups:=fun b xs q=>by have:=u.tups b xs q;rw[bE (cL this hH)];exact this
 frzs:=fun b ob xs q=>by have:=u.frzs b ob xs q;rw[bE (cL this hH)];exact this
 tbls:=fun b ps q=>by obtain⟨m,this⟩:=u.tbls b ps q;exact⟨m,by rw[bE (cL this hH)];exact this⟩
theorem bb.track(F:X.Fn)(I:bb X pins B H s)(c1:∀b o,X.s₀.heap.get? b=some o->b∉X.fs->∃o',σ.get? b=some o')(c2:∀p∈X.pn++pins,∃o',σ.get? p.1=some o')
  (fl:Heap.FlyingW σ X.stack ea 10e4 a0 3e2) (hH:H ea=none):bb X pins B (cV H ea (w8 ea C)) s:=by
 obtain⟨f1,f2,f3,oe,vs,T,oT,ts,he,⟨hc,_⟩,hd,_⟩:=fl
 have hn:X.s₀.heap.get? ea=none:=by
  cases z:X.s₀.heap.get? ea with
  |none=>rfl
  |some o=>
   by_cases hf:ea∈X.fs
   ·obtain⟨_,o1,e1,nf⟩:=I.ok.funs.mem hf;obtain⟨sl,e2⟩:=I.base.slot ea o1 e1 (I.ok.frf ea hf) hf (by rw[F.ex];exact fun z=>by cases z);rw[he]at e2;cases e2;exact absurd hd (nf vs)
   ·obtain⟨o',e⟩:=c1 ea o z hf;rw[f2]at e;cases e
 have nl:X.env.locals≠ea:=fun z=>by
  obtain⟨m,⟨o',es,ep,ho',hd',_⟩,_⟩:=I.loc;rw[z,he]at ho';cases ho';rw[hd]at hd';cases hd'
 refine⟨I.ok,I.os,I.bare,I.base.track hn hH,I.loc,I.cell,by rw[bE nl];exact I.free,fun x c e=>?_,fun p hp=>?_,fun b u q=>?_,I.len⟩
 ·rw [bE fun z => ?_]
  ·exact I.freeC x c e
  ·obtain⟨v,o',ho',hd'⟩:=I.cell x c e;rw[z,he]at ho';cases ho';rw[hd]at hd';cases hd'
 ·obtain ⟨p1, p2, p3, p4, p5⟩ := I.pin p hp;refine⟨p1,?_,p3,p4,p5⟩;rw[bE fun z=>?_]
  ·exact p2
  ·obtain⟨o',e⟩:=c2 p hp;rw[z,f2]at e;cases e
 ·by_cases hb : b = ea
  ·subst hb;rw[cz]at q;cases q;refine⟨⟨oe,he,hc⟩,⟨oe,he⟩,fun h1 h2 a k=>?_⟩;obtain⟨o,e,c⟩:=a;exact⟨o,k o e,c⟩
  ·rw[bE hb]at q;exact(I.hok b u q).stay (fun _ _ _ r=>r) (fun c r=>by rw[bE (cL r hH)];exact r) fun c xs r=>by rw[bE (cL r hH)];exact r
end
abbrev Cx.hnd(X:Cx)(ea:Addr):Cx:={X with A:=X.A.mark (some (.ref ea)),calm:=false,xe:=fun _ _=>False}
theorem bb.hnd{X:Cx}(I:bb X pins B H s):bb (X.hnd ea) pins B H s:=
 ⟨⟨I.ok.mod, I.ok.kind, I.ok.glob, I.ok.blt, I.ok.above, I.ok.inj, I.ok.has, I.ok.cab, (fun z => by cases z), I.ok.frames, I.ok.stk, I.ok.exf, I.ok.bs, I.ok.bsz, I.ok.noex, I.ok.exfs, I.ok.funs, I.ok.frf⟩,
   I.os,I.bare,I.base,I.loc,I.cell,I.free,I.freeC,I.pin,I.hok,I.len⟩
theorem bb.unhnd{X:Cx}(ok:X.Ok)(I:bb (X.hnd ea) pins B H s):bb X pins B H s:=
 ⟨ok,I.os,I.bare,I.base,I.loc,I.cell,I.free,I.freeC,I.pin,I.hok,I.len⟩
theorem bb.forget{X:Cx}{m:Str->Option Value}(I:bb X pins B H s)(hn:h'.Ns X.env.locals m)(sb:Heap.SameBut X.env.locals 3e2 h'):
  bb X pins (List.replicate X.N.length none) H {s with heap:=h',toks:=t'}:=by
 have ne:∀b o,X.s₀.heap.get? b=some o->b≠X.env.locals:=fun b o e z=>by
  have:=I.ok.above;rw[z]at e;exact absurd (Qw e) (Nat.not_lt.mpr this)
 have same:∀b,b≠X.env.locals->h'.get? b=s.heap.get? b:=fun b hb=>sb.2 b hb;refine⟨I.ok,I.os,I.bare,⟨fun b o e n hb hx=>?_,fun b o e n hb hx=>?_,I.base.free,fun b o e hx=>?_,I.base.tups,I.base.frzs,I.base.tbls⟩,⟨m,hn,fun i x v _ e=>?_⟩,fun x c e=>?_,I.free,I.freeC,fun p hp=>?_,fun b u q=>?_,by simp⟩
 ·rw[same b (ne b o e)];exact I.base.keep b o e n hb hx
 ·rw[same b (ne b o e)];exact I.base.slot b o e n hb hx
 ·rw[same b (ne b o e)];exact I.base.there b o e hx
 ·rw[Rt]at e;split at e <;> cases e
 ·obtain⟨v,o,ho,hd⟩:=I.cell x c e;exact⟨v,o,by rw[same c (I.cne x c e)];exact ho,hd⟩
 ·obtain⟨p1,p2,p3,p4⟩:=I.pin p hp;exact⟨by rw[same _ p3];exact p1,p2,p3,p4⟩
 ·have nb : ∀ c u, H c = some u -> c ≠ X.env.locals := fun c u e z => by rw [z, I.free] at e; cases e
  exact(I.hok b u q).stay (fun c v hc r=>by
   rw[same c]
   ·exact r
   ·rcases hc with rfl | hc
    ·exact nb _ _ q
    ·exact nb _ _ hc) (fun _ r=>r) fun _ _ r=>r
theorem KG{X:Cx}(F:X.Fn){r n:Str}{R:Addr}{hpos:Pos}{suite:List Stmt}{b0:Stmt}{tb:XK->TS}{th:TS}(hN:X.N.Nodup)(hi:X.N[i]?=some n)(hx:Bi X.env.scope n)(hl:X.env.kindOf n=some .local)(hg:Gl X r)(hm:X.mg r=some (.ref R))(hd:(r == ("__debug__" : Str))=false)(hb:∀pins E,kj (X.tri pins E) body (tb E))(hs:∀ea,kj (X.hnd ea) (b0::suite) th):
  PS X (.Try body [.ExceptHandler (some (.Name r np)) (some n) (b0::suite) hpos] [] [] pos) (fun D B H=>∃E:XK,(∀C ea H',E 10e4 (some ea) H'->H' ea=none->W.exmOne X.K 10e4 (.ref R)=some true /\
   ∀B':St,B'.length=X.N.length->th {nx:=fun _ _=>False,rt:=D.rt} (B'.set i (some (.ref ea))) (cV H' ea (w8 ea C)))/\tb E D B H):=by
 intro pins s B H D I hq;obtain⟨E,hE,hq⟩:=hq;refine wpAny_Try_except (QR (hb pins E [] s B H D I.tri hq) (fun f s1 h1=>?_) fun e s1 h1=>?_)
 ·cases f with
  |next=>exact QV (SP.untri h1)
  |brk=>exact SP.untri h1
  |cont=>exact SP.untri h1
  |ret u=>exact SP.untri h1
 ·obtain ⟨ea, C, a0, σ, B1, H1, rfl, I1, hok, fl, hn, c1, c2, q⟩ := h1;obtain⟨q1,q2⟩:=hE C ea H1 q hn;have fl0:=fl;rw[F.stk]at fl;refine wpAny_looks_onW (by rw[<- F.stk];exact I.ok.frames) F.fr fl fun h4 held4 up4=>?_;refine wpAny_landsW held4 fun h5 fl5 up5=>?_;have fl5':=fl5;rw[<- F.stk]at fl5';have I5:=I1.up F hok c1 c2 fl0.1 fl5.1 (up4.trans up5);have α5:bb (X.hnd ea) pins B1 H1 {s1 with heap:=h5}:=I5.hnd;refine wpAny_handleBy_cons (codeAny_handlers_test (oH α5 hg hm ?_ hd)) (by intro q;cases q);obtain⟨ob,hob,hobc⟩:=fl5.there
  have LT:W.Looks 1e1 h5 (typeOf (.ref ea)) 10e4:=by
   rw[<- hobc];exact(W.Looks.ld hob).andThen .now
  refine(W.exm_one α5.kIn LT q1).here (codeAny_handlers_suite_as ?_);refine lands_againW fl5 fun h6 fl6 up6=>?_;have fl6':=fl6;rw[<- F.stk]at fl6';have I6:=I5.up F hok c1 c2 fl5.1 fl6.1 up6;have I6':=I6.track F c1 c2 fl6' hn;refine oO (v:=.ref ea) I6' hN hi hx rfl (fun s7 I7=>?_) (.inr hl);refine QR (hs ea pins s7 _ _ _ I7.hnd (q2 B1 I1.len)) (fun f s8 h8=>?_) fun _ _ z=>False.elim z;cases f with
  |next=>obtain⟨_,_,_,z⟩:=h8;exact False.elim z
  |brk=>obtain⟨_,_,_,z⟩:=h8;exact False.elim z
  |cont=>obtain⟨_,_,_,z⟩:=h8;exact False.elim z
  |ret u=>
   obtain⟨v,B',H',I8,rv,z⟩:=h8;have I8':=I8.unhnd I.ok;obtain⟨m,hn8,_⟩:=I8'.loc;refine wpAny_nameGoes hl hn8 (by rw[I.ok.kind];rfl) fun h9 m9 hn9 sb=>?_;exact⟨v,_,H',I8'.forget hn9 sb,rv,z⟩
structure fQ(k:Nat)(A:Around):Prop where
 dp:A.depth+3*k+5<recursionLimit
 un:A.units+16*k+200<cLine
 gd:A.guards=some []
theorem ip.h{k:Nat}(r:ip k A):fQ k A:=⟨r.dp,r.un,r.gd⟩
theorem fQ.mark{k:Nat}(r:fQ k A)(e:Option Value):fQ k (A.mark e):=⟨r.dp,r.un,r.gd⟩
theorem fQ.mono{k:Nat}(r:fQ k A)(h:j<=k):fQ j A:=⟨by have:=r.dp;omega,by have:=r.un;omega,r.gd⟩
theorem fQ.deeper{k:Nat}(r:fQ (k+1) A)(env:Env):fQ k (A.deeper env):=
 ⟨by have:=r.dp;show A.depth+1+3*k+5<_;omega,by have:=r.un;show A.units+3+16*k+200<_;omega,r.gd⟩
theorem fQ.depth{k:Nat}(r:fQ k A):A.depth<recursionLimit:=by have:=r.dp;omega
theorem fQ.units{k:Nat}(r:fQ k A):A.units+64<cLine:=by have:=r.un;omega
structure xt(P:Program)(w:World)(K:W.Frag)(mg:Str->Option Value)(base:Heap)(CX:wO)(k:Nat)(f:Addr)(fd:FuncData)(ps:List Str)(sp:Sp):Prop where
 len:∀vs H Q E,sp vs H Q E->vs.length=ps.length
 run:∀(A:Around)(outer:List Env)(s:Shared)(H:Hp)(args:Args)(us:List Value)(vs:List V)(Q:VK)(E:XK),fQ k A->Bp P w K mg base A outer s H->BindsTo s fd args (ps.zip us)->bt vs us->sp vs H Q E ->
  codeAny (model P w) A (.call 4e4 args) (CR CX outer P w H s Q E) s
section
variable{X:Cx}{k:Nat}{C:Addr}{ps:List Str}{dvs:List V}{ds:List Value}{E:XK}{m:Str}{p:Pos}{o:Expr}{es:List Expr}{ta:TE}{t:TA}
theorem G0{Q:VK}(F:xt X.prog X.w X.K X.mg X.base CX k f fd ps sp)(hr:fQ k X.A)(hb:iU X.K fd ps ds)(hd:bt dvs ds)(hx:lY CX X E)(I:bb X pins B H s)(r:bt vs us)(h:sp (vs++dvs) H Q E):wpAny 1e1 X.A (call 4e4 us) 10e6 X.xe s:=by
 have r2:bt (vs++dvs) (us++ds):=r.append hd;have hl:(us++ds).length=ps.length:=by rw[<- r2.length];exact F.len _ _ _ _ h
 refine wpAny_call (Rh (F.run X.A X.stack s H ⟨us,[]⟩ (us++ds) (vs++dvs) Q E hr I.env0 (hb s us I.kIn hl) r2 h) fun r s' hq=>?_);cases r with
 |error e=>exact hx pins B H s e s' I hq
 |ok fl=>
  cases fl with
  |ret u=>exact I.after hq
  |next=>exact False.elim hq
  |brk=>exact False.elim hq
  |cont=>exact False.elim hq
theorem EY(F:xt X.prog X.w X.K X.mg X.base CX k f fd ps sp)(hr:fQ k X.A)(hg:Gl X x)(hm:X.mg x=some 4e4)(hk:W.keepIn X.K 4e4=true)(hb:iU X.K fd ps ds)(hd:bt dvs ds)(hx:lY CX X E)
  (ha:PA X (e::es) t) (hdb:(x == ("__debug__" : Str))=false:=by decide) (he:starEach (e::es) 2e1=(false,eval e 2e1)::starEach es 2e1:=by rfl) (hpl:(backTo pos 7e6).any 5e4=false:=by rfl) :
  PE X (.Call (.Name x p) (e::es) [] pos) (IR sp dvs E t):=by
 intro pins s B H Q I h;refine Ri (oH I hg hm ?_ hdb);refine W.callWith_K (h₀:=X.base) I.ok.mod.kin hk (dF (ha pos pins s B H _ I h) fun us s1 ⟨vs,H1,I1,r,q⟩=>⟨I1.kIn,?_⟩) he hpl;exact G0 F hr hb hd hx I1 r q
end
noncomputable def so(CX:wO)(P:Program)(w:World)(K:W.Frag)(mg:Str->Option Value)(base:Heap)(N:List Str)(qual:Str)(scope:Scope)(f:Addr)(cd:Value)(A:Around)(outer:List Env)(s:Shared)(H:Hp)(E:XK):Cx where
 prog:=P
 w:=w
 K:=K
 mg:=mg
 base:=base
 A:=A.deeper (envOfC qual scope 0e3 f cd)
 N:=N
 s₀:=s
 H₀:=H
 env:=envOfC qual scope 0e3 f cd
 outer:=outer
 stack:=envOfC qual scope 0e3 f cd::outer
 ex:=[]
 calm:=false
 fn:=fun _=>true
 pn:=[]
 xe:=fun e s'=>wpAny (model P w) (A.deeper (envOfC qual scope 0e3 f cd)) (leaving (envOfC qual scope 0e3 f cd) e) (fun _ s''=>CX outer H s E e s'') (fun e' s''=>CX outer H s E e' s'') s'
theorem z6{ps:List Str}{cd:Value}{s1:Shared}{E:XK}(S:aV N ps scope)(e0:Bp P w K mg base A outer s H)(hl:vs.length=ps.length)(r:bt vs us)(x:InCallC s 0e3 (bindL (envOfC qual scope 0e3 f cd).kindOf (ps.zip us) fun _=>none) (cellsFrom 8e7 scope.names []) (bindC (envOfC qual scope 0e3 f cd).kindOf (ps.zip us) fun _=>none) s1):
  bb (so CX P w K mg base N qual scope f cd A outer s H E) [] (start N vs) H s1:=by
 have hpl:ps.length<=N.length:=by have:=QU List.length S.pre;rw[Rn]at this;omega
 obtain⟨h1,tk,rfl,hk⟩:=x.done;have noA:∀b:Addr,b∉(so CX P w K mg base N qual scope f cd A outer s H E).ex:=fun b z=>absurd (show b∈([]:List Addr) from z) 0e6
 refine⟨⟨e0.mod,S.kind,rfl,rfl,Q8 _,fun y z c h1 h2=>?_,fun y hy=>?_,fun y c _ h=>?_,(fun z=>by cases z),Around.frames_deeper e0.frames,.inr ⟨rfl,rfl⟩,fun b z=>absurd z (noA b),e0.bs,e0.bsz,fun b _ _=>noA b,fun b z=>absurd z (noA b),e0.funs,e0.frf⟩,
  rfl,e0.bare,Un.kept hk,⟨_,x.toInCall.ns,fun i y v h1 h2 h3=>?_⟩,fun y c h=>⟨_,x.cell y c h⟩,e0.hok.fresh 8e0,fun y c h=>?_,fun p hp=>absurd (show p∈([]:List 3e5) from hp) 0e6,e0.hok.kept hk,?_⟩
 ·exact name_of_addr x.apart (Rp h1) (Rp h2)
 ·have hy : scope.names.lookup y = some .cell \/ scope.names.lookup y = some .free := hy;rcases hy with hy|hy
  ·exact pd hy
  ·exact absurd rfl (S.nofree _ (Rp hy))
 ·exact QE (x.above y c (Rp h))
 ·have hi:i<vs.length:=by
   unfold start at h2;by_cases hi:i<vs.length
   ·exact hi
   ·rw[Rq 6e3]at h2;rw[Rt]at h2;split at h2 <;> cases h2
  have ha:vs[i]?=some v:=by
   unfold start at h2;rw[Ru 6e3,Rv]at h2;cases e:vs[i]? with
   |none=>rw[e]at h2;cases h2
   |some a=>rw[e]at h2;cases h2;rfl
  obtain⟨u,hu,rv⟩:=r.get ha
  have hp:ps[i]?=some y:=by
   rw[<- S.pre,Rw 0e0];exact h1
  have ndP:ps.Nodup:=by rw[<- S.pre];exact S.nd.sublist (List.take_sublist _ _)
  refine⟨u,rv,?_⟩;rcases S.par y (Rx hp) with k|k
  ·exact .inl ⟨k,qp ndP hp hu k⟩
  ·obtain⟨c,e⟩:=pd (n:=s.heap.objs.size+1) k;refine .inr ⟨.inl k,c,e,?_⟩;have q:=x.cell y c e;rw[qq ndP hp hu (by show scope.names.lookup y≠_;rw[k];decide)]at q;exact q
 ·exact e0.hok.fresh (QE (x.above y c (Rp h)))
 ·unfold start;show _=N.length;rw[Ry,Rz,RA];omega
theorem L4{k:Nat}{name:Str}{dV kV doc pm ct oc:Value}{od:Option Addr}{ps:List Str}(lk:K.lookup f=some ⟨oc,od,.func 10e8,osl⟩)(hcd:W.codeIn K cdv qual=true)(S:aV N ps scope)(len:∀vs H Q E,sp vs H Q E->vs.length=ps.length)(hbody : ∀ (A : Around) (outer : List Env) (s : Shared) (H : Hp) (vs : List V) (Q : VK) (E : XK), fQ k (A.deeper (envOfC qual scope 0e3 f cdv)) -> sp vs H Q E ->
   ∃t,kj (so CX P w K mg base N qual scope f cdv A outer s H E) body t/\t {nx:=fun _ H'=>Q .non H',rt:=Q} (start N vs) H):
  xt P w K mg base CX (k+1) f 10e8 ps sp:=by
 refine⟨len,fun A outer s H args us vs Q E hr e0 hb r hsp=>?_⟩;have hl:=len _ _ _ _ hsp;have KX:K.In 3e2:=e0.mod.kin.keeps fun b o e=>(e0.bs b o e).1;have lim:s.heap.NoLimit:=e0.mod.nolimit.keeps fun b o e=>(e0.bs b o e).1
 have hkind:∀y∈ps.zip us,scope.names.lookup y.1=some .local\/(scope.names.lookup y.1=some .cell/\((cellsFrom 8e7 scope.names []).lookup y.1).isSome=true):=fun⟨n,v⟩ hy=>by
  rcases S.par n (Rk hy).1 with q|q
  ·exact .inl q
  ·exact .inr ⟨q,W.cellsFrom_some _ _ _ (.inl q)⟩
 refine codeAny_call_function hr.depth (KX _ _ lk) rfl S.co S.gen rfl (W.codeRec_of KX hcd) (hb _ _ _ _ ?_);refine wpAny_newFunctionEnv_cells S.kind hkind fun env he s1 x=>?_;subst he;refine⟨lim.keeps x.toInCall.keep,codeAny_func ?_⟩;obtain⟨t,ht,hq⟩:=hbody A outer s H vs Q E (hr.deeper _) hsp;have I:bb (so CX P w K mg base N qual scope f cdv A outer s H E) [] (start N vs) H s1:=z6 S e0 hl r x;refine QR (ht [] s1 (start N vs) H _ I hq) (fun fl s' hs=>?_) fun e s' hs=>hs
 have fin:∀{B':St}{H':Hp}{v:V}{u:Value},bb (so CX P w K mg base N qual scope f cdv A outer s H E) [] B' H' s'->cB v u->Q v H'->CE outer P w H s Q u s':=
  fun {B' H' v u} α rv q=>⟨v,H',α.os,α.bare,α.base,α.hok,rv,q⟩
 cases fl with
 |ret u=>
  obtain⟨v,B',H',α,rv,q⟩:=hs;exact fin α rv q
 |next=>
  obtain⟨B',H',α,q⟩:=hs;exact fin (v:=V.non) (u:=Value.none) α rfl q
 |brk=>
  obtain⟨_,_,_,q⟩:=hs;exact False.elim q
 |cont=>
  obtain⟨_,_,_,q⟩:=hs;exact False.elim q
section
theorem ik.okH{ps:List Str}{k:Nat}(F:ik K x qual st f fd)(S:aV N ps (av st))(len:∀vs H Q E,sp vs H Q E->vs.length=ps.length)(hbody : ∀ (cdv : Value) (A : Around) (outer : List Env) (s : Shared) (H : Hp) (vs : List V) (Q : VK) (E : XK), fQ k 7e0 -> sp vs H Q E ->
   ∃t,kj (so y6 P w K mg base N qual (av st) f cdv A outer s H E).nox (cR st) t/\t {nx:=fun _ H'=>Q .non H',rt:=Q} (start N vs) H):xt P w K mg base y6 (k+1) f fd ps sp:=by
 obtain⟨oc,od,kV,doc,pm,an,cdv,ct,osl,rfl,lk,hcd⟩:=F.ex;refine L4 lk hcd S len fun A outer s H vs Q E hr hsp=>?_;obtain⟨t,h,q⟩:=hbody cdv A outer s H vs Q E hr hsp;exact⟨t,h.nox,q⟩
end
end L2
namespace PySem.W
open PySem PySem.Spec PySem.Calls PyProof.Rows
section
variable{K:Frag}{x D:Addr}{a g:Value}{name:Str}{h:Heap}{M:Model}
theorem yK (X:K.In h) (ha:findIn K (.ref D) name=some (some a)) (hg:specialIn K a "__get__" = some (some g)) (ht:takesIn K a=some true):Looks M h (Builtin.ObjectAttr.find (.ref x) (.ref D) name) (.bind g a):=
 (looks_findIn X ha).andThen ((show Looks M h (Builtin.ObjectAttr.getOf (some a)) (some g) from looks_specialIn X hg).andThen ((show Looks M h (Builtin.ObjectAttr.dataDescriptor? (some a) (some g)) (some (g,a)) from (looks_takesIn X ht).andThen .now).andThen (Looks.tag .now)))
theorem Ag {R:Result->Shared->Prop} (X:K.In 3e2) (L:Looks 1e2 3e2 (typeOf (.ref x)) (.ref D)) (hm:mroIn K D 9e3=some true) (hr:R (.ok (.ret (.ref D))) s) :
  codeAny 1e2 A (.call 10e3 ⟨[.builtin "object.__class__",.ref x,.ref D],[]⟩) R s:=by
 obtain⟨hh,g,d,t,os⟩:=s;have L0:Looks 1e2 hh (typeOf (.ref x)) (.ref D):=L;have L1:Looks 1e2 hh (isSubtype (.ref D) 9e3) true:=looks_mroIn X hm;have hT5:(⟨hh,g,d,t,os⟩:Shared).TypeIs 3e6 "getset_descriptor" := F.typeOf_object_class;have ow:(".".intercalate ("object.__class__".cutAt '.').dropLast) = "object" := by decide +kernel
 refine T8 F.slot_gs_get.plain F.entry_gs_get (F.slot_gs_get.check _ _ _ _ _ _ _ _ hT5 (F.args_gs_get _ _ _) ?_)
 repeat (any_goals (first|assumption|with_reducible refine L0.at ?_|(rw[ow])|with_reducible refine L1.at ?_|wp_step))
 refine⟨T7 _ 0e9,TZ KF.entry_class ?_⟩;unfold Builtin.«object.__class__»
 repeat (any_goals (first|assumption|with_reducible refine L0.at ?_|wp_step))
theorem Fv {hh:Heap}{g:Array GenState}{d:Drawn}{t:Nat}{os:OsState}{M:Model}{nameV:Value}{Q:Unit->Shared->Prop} (X:K.In hh) (L0:Looks M hh (typeOf (.ref x)) (.ref D)) (hmB:mroIn K D 6e8=some true) (hq:Q () ⟨hh,g,d,t,os⟩) :
  wpAny M A (checkBuiltinCall "BaseException.__getattribute__" ⟨[.ref x,nameV],[]⟩) Q E ⟨hh,g,d,t,os⟩:=by
 have hk:builtinKind "BaseException.__getattribute__" = some .slot:=by decide +kernel
 have hsplit:splitId "BaseException.__getattribute__" = some ("BaseException", "__getattribute__"):=by decide +kernel
 have ha:=F.args_bexc_ga (.ref x) nameV;have L1:=looks_mroIn (M:=M) X hmB;dsimp[checkBuiltinCall,hk,hsplit];refine QW ?_
 ·unfold isInstance
  repeat (first|lk|wp_step)
  exact hq
theorem Fu {tk:Tok}{Q:Fin->Shared->Prop} (X:K.In 3e2) (L:Looks 1e2 3e2 (typeOf (.ref x)) (.ref D)) (ha:findIn K (.ref D) "__class__" = some (some 3e6)) (hn:specialIn K 3e6 "__get__" = some (some 10e3)) (htk:takesIn K 3e6=some true) (hm:mroIn K D 9e3=some true) (hq:Q (.done (.ret (.ref D))) s) :
  wpAny 1e2 A (Builtin.«object.__getattribute__» ⟨[.ref x,.str "__class__" tk],[]⟩) Q E s:=by
 obtain⟨hh,g,d,t,os⟩:=s;have L0:Looks 1e2 hh (typeOf (.ref x)) (.ref D):=L;have f3:Looks 1e2 hh (Builtin.ObjectAttr.find (.ref x) (.ref D) "__class__") (.bind 10e3 3e6):=yK X ha hn htk;unfold Builtin.«object.__getattribute__»
 repeat (any_goals (first|assumption|with_reducible refine L0.at ?_|with_reducible refine f3.at ?_|wp_step))
 refine Ag (s:=⟨hh,g,d,t,os⟩) X L hm ?_
 repeat (any_goals (first|assumption|wp_step))
theorem Cr {Q:Option Value->Shared->Prop} (X:K.In 3e2) (L:Looks 1e2 3e2 (typeOf (.ref x)) (.ref D)) (hga:findIn K (.ref D) "__getattribute__" = some (some (.builtin "BaseException.__getattribute__"))) (hgn:findIn K (.ref D) "__getattr__" = some none)
  (ha:findIn K (.ref D) "__class__" = some (some 3e6)) (hn:specialIn K 3e6 "__get__" = some (some 10e3)) (htk:takesIn K 3e6=some true) (hm:mroIn K D 9e3=some true) (hmB:mroIn K D 6e8=some true) (hq:Q (some (.ref D)) {s with toks:=s.toks+1}) :
  wpAny 1e2 A (getAttr? (.ref x) "__class__") Q E s:=by
 obtain⟨hh,g,d,t,os⟩:=s;have L0:Looks 1e2 hh (typeOf (.ref x)) (.ref D):=L;have L1:Looks 1e2 hh (typeLookup (.ref D) "__getattribute__") (some (.builtin "BaseException.__getattribute__")):=looks_findIn X hga;have L2:Looks 1e2 hh (typeLookup (.ref D) "__getattr__") none:=looks_findIn X hgn;have f3:=PySem.F.attr_ValueError.ga.bind (.ref x);have hx2:(Value.builtin "BaseException.__getattribute__" == Value.builtin "object.__getattribute__")=false:=by decide +kernel
 have hx1:(onTheHeap (Value.ref D)&&Value.builtin "BaseException.__getattribute__" == Value.builtin "object.__getattribute__")=false:=by rw[hx2];rfl
 have hx0:(false&&onTheHeap (Value.builtin "BaseException.__getattribute__"))=false:=rfl;unfold getAttr? getAttrBy?
 repeat (any_goals (first|assumption|with_reducible refine L0.at ?_|with_reducible refine L1.at ?_|with_reducible refine L2.at ?_|wp_step))
 refine T8 PySem.F.attr_ValueError.ga.plain F.entry_bexc_ga (Fv X L0 hmB (Fu (tk:=t) X L0 ha hn htk hm ?_))
 repeat (any_goals (first|assumption|wp_step))
end
noncomputable def excCls (K:Frag) (D:Addr):Bool:=findIn K (.ref D) "__getattribute__" == some (some (.builtin "BaseException.__getattribute__"))&&findIn K (.ref D) "__getattr__" == some none&&(clsIn K D).isSome&&findIn K (.ref D) "__class__" == some (some 3e6) &&
 mroIn K D 9e3 == some true&&mroIn K D 6e8 == some true&&specialIn K 3e6 "__get__" == some (some 10e3)&&takesIn K 3e6 == some true
section
variable{K:Frag}{x D:Addr}
theorem kitx_exc(e:excCls K D=true):KitX K (.ref x) (.ref D) (fun h=>∃ox,h.get? x=some ox/\ox.cls=.ref D):=by
 unfold excCls at e;dsimp[RW,UA]at e;obtain⟨⟨⟨⟨⟨⟨⟨hga,hgn⟩,hc⟩,ha⟩,hm⟩,hmB⟩,hn⟩,htk⟩:=e
 exact {
  ty:=fun _ _ _ ⟨ox,h1,h2⟩=>h2 ▸ (Looks.ld h1).andThen .now
  it:=fun _ _ X _=>by
   obtain⟨cdD,hcD⟩:=Rm.mp hc;unfold clsIn at hcD;split at hcD
   ·rename_i c' d' cd' sl' ho;intro A' Q' E' s' k q;unfold isType loadHead;exact QW (wpAny_loadPart (k _ _ (X _ _ ho)) (Q3 q))
   ·cases hcD
  ne:=fun h tp dd its n sl X htp=>by
   obtain⟨cdD,hcD⟩:=Rm.mp hc;refine Bool.eq_false_iff.mpr fun q=>?_;have e:D=tp:=Value.ref.inj (UA.mp q);subst e;unfold clsIn at hcD;split at hcD
   ·rename_i c' d' cd' sl' ho;have z:=(X _ _ ho).symm.trans htp;cases z
   ·cases hcD
  ca:=fun {prog w A E Q s} X ⟨ox,h1,h2⟩ h=>Cr X (h2 ▸ (Looks.ld h1).andThen .now) hga hgn ha hn htk hm hmB h}
end
end PySem.W
namespace L2
open PySem PySem.Spec PyProof.Rows
def MV(K:W.Frag)(u:Value):List V->Hp->VK->Prop:=fun xs H Q=>∃a D b v,xs=[.ref a,v]/\cB v u/\H a=some (w8 a D)/\W.excCls K D=true/\W.kitOne K (.ref D) u=some b/\Q (.bl b) H
theorem yt{X:Cx}(hu:∀v w,cB v u->cB v w->w=u):dX X (.builtin "isinstance") (MV X.K u):=by
 intro pins s B H xs us Q I r h;obtain⟨a,D,b,v,rfl,rv,ea,hc,e,q⟩:=h;cases r with
 |cons r1 r2=>
  cases r2 with
  |cons r3 r4=>
   cases r4;cases (show _=Value.ref a from r1);have z:=hu v _ rv r3;subst z;obtain⟨⟨oe,h1,h2⟩,_⟩:=(show fS X.prog X.w H 3e2 a (w8 a D) from I.hok a _ ea);exact W.kia_one (W.kitx_exc hc) I.kIn ⟨oe,h1,h2⟩ e (fun z=>nomatch z) fun tk=>⟨.bl b,H,I.tok _,rfl,q⟩
end L2
namespace L2
open PySem PySem.Spec PyProof.Rows RS
inductive D where
 |non|bl (b:Bool)|int (i:Int)|str (x:Str)|tup (xs:List D)|frz (xs:List D)|obj (n:Nat)
inductive O where
 |lst (xs:List D)|set (ks:List 1e9)|dic|exc (c:Str)
abbrev aB:=List O
abbrev Ro:=List (Option D)
def IK(K:W.Frag)(H:Hp)(a:Addr)(xs:List V):Prop:=
 (∃ o, H a = some (.frz o 2e9)) \/
  ∃(o:Obj) (its:Array Value) (n:Nat),K.lookup a=some o/\o.cls=.type "list" /\ o.dict=none/\o.data=.seq its n/\its.size<=sizeLine/\bt xs its.toList
theorem IK.sq{xs:List V}(h:IK K H a xs):gP K H a xs:=by
 rcases h with⟨o,h⟩|h
 ·exact .inl (.inr ⟨o,h⟩)
 ·exact .inr h
section
variable(K:W.Frag)(H:Hp)(J:List Addr)
mutual
def aQ:D->V->Prop
 |.non,v=>v=.non
 |.bl b,v=>v=.bl b
 |.int i,v=>v=.int i
 |.str x,v=>v=.str x
 |.tup xs,v=>∃a vs,v=.ref a/\gh K H a vs/\Reps xs vs
 |.frz xs,v=>∃a vs,v=.ref a/\IK K H a vs/\Reps xs vs
 |.obj n,v=>∃a,v=.ref a/\J[n]?=some a
def Reps:List D->List V->Prop
 |[],vs=>vs=[]
 |x::xs,vs=>∃v r,vs=v::r/\aQ x v/\Reps xs r
end
end
structure lN(K:W.Frag)(H H':Hp)(J J':List Addr):Prop where
 tup:∀a xs,gh K H a xs->gh K H' a xs
 frz:∀a xs,IK K H a xs->IK K H' a xs
 pre:∀(n:Nat) a,J[n]?=some a->J'[n]?=some a
section
variable{H' H1 H2:Hp}{J' J1 J2:List Addr}
theorem lN.refl:lN K H H J J:=⟨fun _ _ h=>h,fun _ _ h=>h,fun _ _ h=>h⟩
theorem lN.trans(a:lN K H H1 J J1)(b:lN K H1 H2 J1 J2):lN K H H2 J J2:=
 ⟨fun c xs h=>b.tup c xs (a.tup c xs h),fun c xs h=>b.frz c xs (a.frz c xs h),fun n c h=>b.pre n c (a.pre n c h)⟩
mutual
theorem aQ.mono(e:lN K H H' J J'):∀{d:D}{v:V},aQ K H J d v->aQ K H' J' d v
 |.non,_,h=>by dsimp[aQ]at h⊢;exact h
 |.bl _,_,h=>by dsimp[aQ]at h⊢;exact h
 |.int _,_,h=>by dsimp[aQ]at h⊢;exact h
 |.str _,_,h=>by dsimp[aQ]at h⊢;exact h
 |.tup xs,_,h=>by
  dsimp[aQ]at h⊢;obtain⟨a,vs,rfl,h1,h2⟩:=h;exact⟨a,vs,rfl,e.tup a vs h1,Reps.mono e h2⟩
 |.frz xs,_,h=>by
  dsimp[aQ]at h⊢;obtain⟨a,vs,rfl,h1,h2⟩:=h;exact⟨a,vs,rfl,e.frz a vs h1,Reps.mono e h2⟩
 |.obj n,_,h=>by
  dsimp[aQ]at h⊢;obtain⟨a,rfl,h1⟩:=h;exact⟨a,rfl,e.pre n a h1⟩
theorem Reps.mono(e:lN K H H' J J'):∀{ds:List D}{vs:List V},Reps K H J ds vs->Reps K H' J' ds vs
 |[],_,h=>by dsimp[Reps]at h⊢;exact h
 |d::ds,_,h=>by
  dsimp[Reps]at h⊢;obtain⟨v,r,rfl,h1,h2⟩:=h;exact⟨v,r,rfl,aQ.mono e h1,Reps.mono e h2⟩
end
theorem Reps.nil:Reps K H J [] []:=by dsimp[Reps]
theorem Reps.cons{d:D}{ds:List D}(h1:aQ K H J d v)(h2:Reps K H J ds vs):Reps K H J (d::ds) (v::vs):=by
 dsimp[Reps];exact⟨v,vs,rfl,h1,h2⟩
theorem Reps.length:∀{ds:List D}{vs:List V},Reps K H J ds vs->vs.length=ds.length
 |[],vs,h=>by dsimp[Reps]at h;rw[h];rfl
 |d::ds,vs,h=>by
  dsimp[Reps]at h;obtain⟨v,r,rfl,h1,h2⟩:=h;simp[Reps.length h2]
theorem Reps.get:∀{ds:List D}{vs:List V}{i:Nat}{d:D},Reps K H J ds vs->ds[i]?=some d->∃v,vs[i]?=some v/\aQ K H J d v
 |[],_,_,_,_,e=>by simp at e
 |d::ds,vs,i,x,h,e=>by
  dsimp[Reps]at h;obtain⟨v,r,rfl,h1,h2⟩:=h;cases i with
  |zero=>simp at e;subst e;exact⟨v,rfl,h1⟩
  |succ i=>exact Reps.get (i:=i) h2 (by simpa using e)
theorem Reps.append:∀{ds es:List D}{vs ws:List V},Reps K H J ds vs->Reps K H J es ws->Reps K H J (ds++es) (vs++ws)
 |[],_,vs,_,h,g=>by dsimp[Reps]at h;subst h;exact g
 |d::ds,_,vs,_,h,g=>by
  dsimp[Reps]at h;obtain⟨v,r,rfl,h1,h2⟩:=h;exact Reps.cons h1 (Reps.append h2 g)
theorem Reps.take:∀{ds:List D}{vs:List V}(n:Nat),Reps K H J ds vs->Reps K H J (ds.take n) (vs.take n)
 |[],vs,n,h=>by dsimp[Reps]at h;subst h;simpa using Reps.nil
 |d::ds,vs,n,h=>by
  dsimp[Reps]at h;obtain⟨v,r,rfl,h1,h2⟩:=h;cases n with
  |zero=>exact Reps.nil
  |succ n=>exact Reps.cons h1 (Reps.take n h2)
theorem Reps.drop:∀{ds:List D}{vs:List V}(n:Nat),Reps K H J ds vs->Reps K H J (ds.drop n) (vs.drop n)
 |[],vs,n,h=>by dsimp[Reps]at h;subst h;simpa using Reps.nil
 |d::ds,vs,n,h=>by
  cases n with
  |zero=>exact h
  |succ n=>
   dsimp[Reps]at h;obtain⟨v,r,rfl,h1,h2⟩:=h;exact Reps.drop n h2
theorem Reps.set{d:D}{v:V}(q:aQ K H J d v):∀{ds:List D}{vs:List V}(n:Nat),Reps K H J ds vs->Reps K H J (ds.set n d) (vs.set n v)
 |[],vs,n,h=>by dsimp[Reps]at h;subst h;simpa using Reps.nil
 |e::ds,vs,n,h=>by
  dsimp[Reps]at h;obtain⟨v',r,rfl,h1,h2⟩:=h;cases n with
  |zero=>exact Reps.cons q h2
  |succ n=>exact Reps.cons h1 (Reps.set q n h2)
theorem Reps.eraseIdx:∀{ds:List D}{vs:List V}(n:Nat),Reps K H J ds vs->Reps K H J (ds.eraseIdx n) (vs.eraseIdx n)
 |[],vs,n,h=>by dsimp[Reps]at h;subst h;simpa using Reps.nil
 |e::ds,vs,n,h=>by
  dsimp[Reps]at h;obtain⟨v',r,rfl,h1,h2⟩:=h;cases n with
  |zero=>exact h2
  |succ n=>exact Reps.cons h1 (Reps.eraseIdx n h2)
theorem Reps.reverse:∀{ds:List D}{vs:List V},Reps K H J ds vs->Reps K H J ds.reverse vs.reverse
 |[],vs,h=>by dsimp[Reps]at h;subst h;exact Reps.nil
 |d::ds,vs,h=>by
  dsimp[Reps]at h;obtain⟨v,r,rfl,h1,h2⟩:=h;rw[Sd,Sd];exact Reps.append (Reps.reverse h2) (Reps.cons h1 Reps.nil)
theorem Reps.one{d:D}(h:Reps K H J [d] vs):∃v,vs=[v]/\aQ K H J d v:=by
 dsimp[Reps]at h;obtain⟨v,r,rfl,h1,rfl⟩:=h;exact⟨v,rfl,h1⟩
theorem Reps.two{d e:D}(h:Reps K H J [d,e] vs):∃v u,vs=[v,u]/\aQ K H J d v/\aQ K H J e u:=by
 dsimp[Reps]at h;obtain⟨v,r,rfl,h1,u,r',rfl,h2,rfl⟩:=h;exact⟨v,u,rfl,h1,h2⟩
theorem Reps.snoc{d:D}{ds:List D}(h:Reps K H J ds vs)(q:aQ K H J d v):Reps K H J (ds++[d]) (vs++[v]):=h.append (Reps.cons q Reps.nil)
theorem Reps.ints:∀{ns:List Int}{vs:List V},Reps K H J 6e6 vs->vs=ns.map V.int
 |[],vs,h=>by dsimp[RY,Reps]at h;exact h
 |n::ns,vs,h=>by
  dsimp[RZ,Reps]at h;obtain⟨v,r,rfl,h1,h2⟩:=h;dsimp[aQ]at h1;rw[h1,Reps.ints h2];rfl
theorem j9:∀(ns:List Int),Reps K H J 6e6 8e1
 |[]=>Reps.nil
 |n::ns=>Reps.cons (by dsimp[aQ]) (j9 ns)
theorem aN{xs:List D}:aQ K H J (.tup xs) v↔∃a vs,v=.ref a/\gh K H a vs/\Reps K H J xs vs:=by dsimp[aQ]
theorem bI{xs:List D}:aQ K H J (.frz xs) v↔∃a vs,v=.ref a/\IK K H a vs/\Reps K H J xs vs:=by dsimp[aQ]
theorem aY:aQ K H J (.obj n) v↔∃a,v=.ref a/\J[n]?=some a:=by dsimp[aQ]
theorem ax{n:Int}:aQ K H J (.int n) v↔v=.int n:=by dsimp[aQ]
theorem aZ{n:Bool}:aQ K H J (.bl n) v↔v=.bl n:=by dsimp[aQ]
theorem bC{n:Str}:aQ K H J (.str n) v↔v=.str n:=by dsimp[aQ]
theorem bS:aQ K H J .non v↔v=.non:=by dsimp[aQ]
end
def tZ(K:W.Frag)(w:World)(H:Hp)(J:List Addr):O->Addr->Prop
 |.lst xs,a=>∃vs,H a=some (.lst vs)/\Reps K H J xs vs
 |.set ks,a=>∃ps:List KP,ps.map 5e4=ks/\H a=some (.ext fun h=>cQ w h a ps)/\(∀p∈ps,p.1∈prs)/\(ps.map 5e4).Nodup/\∀p∈ps,gh K H p.2 (p.1.map V.int)
 |.dic,a=>H a=some (.dK [])
 |.exc c,a=>∃C,W.nsIn K mainGlobals c=some (some 10e4)/\H a=some (w8 a C)
structure gv(K:W.Frag)(w:World)(H:Hp)(J:List Addr)(Y:aB):Prop where
 len:J.length=8e6
 nd:J.Nodup
 ob:∀(n:Nat) o a,Y[n]?=some o->J[n]?=some a->tZ K w H J o a
section
variable{H':Hp}{J':List Addr}{Y:aB}
theorem tZ.live{o:O}(h:tZ K w H J o a):H a≠none:=by
 cases o with
 |lst xs=>obtain⟨vs,e,_⟩:=h;rw[e];exact fun z=>by cases z
 |set ks=>obtain⟨ps,_,e,_⟩:=h;rw[e];exact fun z=>by cases z
 |dic=>have e:H a=some (.dK []):=h;rw[e];exact fun z=>by cases z
 |exc c=>obtain⟨C,_,e⟩:=h;rw[e];exact fun z=>by cases z
theorem tZ.mono{o:O}(h:tZ K w H J o a)(e:lN K H H' J J')(ha:H' a=H a):tZ K w H' J' o a:=by
 cases o with
 |lst xs=>obtain⟨vs,q,r⟩:=h;exact⟨vs,ha.trans q,r.mono e⟩
 |set ks=>obtain⟨ps,h1,q,h2,h3,h4⟩:=h;exact⟨ps,h1,ha.trans q,h2,h3,fun p hp=>e.tup _ _ (h4 p hp)⟩
 |dic=>exact ha.trans h
 |exc c=>obtain⟨C,h1,q⟩:=h;exact⟨C,h1,ha.trans q⟩
theorem gv.at(S:gv K w H J Y){o:O}(e:Y[n]?=some o):∃a,J[n]?=some a/\tZ K w H J o a:=by
 have hn:n<Y.length:=(QM.mp e).1;have hn':n<J.length:=by rw[S.len];exact hn
 exact⟨J[n],Ux hn',S.ob n o _ e (Ux hn')⟩
theorem gv.live(S:gv K w H J Y)(h:a∈J):H a≠none:=by
 obtain⟨n,hn,e⟩:=UB h;have hm:n<Y.length:=by rw[<- S.len];exact hn
 exact(S.ob n _ a (Ux hm) (by rw[<- e];exact Ux hn)).live
theorem gv.fresh(S:gv K w H J Y){p:Addr}(h:H p=none):p∉J:=fun z=>S.live z h
theorem gv.same(S:gv K w H J Y)(e:lN K H H' J J)(h:∀a,H a≠none->H' a=H a):gv K w H' J Y:=
 ⟨S.len,S.nd,fun n o a h1 h2=>(S.ob n o a h1 h2).mono e (h a (S.ob n o a h1 h2).live)⟩
theorem bW{p:Addr}{o:HO}(h:H p=none):lN K H (cV H p o) J J:=by
 refine⟨fun a xs q=>?_,fun a xs q=>?_,fun _ _ z=>z⟩
 ·rcases q with (q | ⟨x, q⟩) | q
  ·exact .inl (.inl (by rw[bE (cL q h)];exact q))
  ·exact .inl (.inr ⟨x,by rw[bE (cL q h)];exact q⟩)
  ·exact .inr q
 ·rcases q with ⟨x, q⟩ | q
  ·exact .inl ⟨x,by rw[bE (cL q h)];exact q⟩
  ·exact .inr q
theorem iG{p:Addr}{o:HO}(h:H p=some (.lst vs)):lN K H (cV H p o) J J:=by
 refine⟨fun a xs q=>?_,fun a xs q=>?_,fun _ _ z=>z⟩
 ·rcases q with (q | ⟨x, q⟩) | q
  ·exact .inl (.inl (by rw[bE (ux q h (by intro z;cases z))];exact q))
  ·exact .inl (.inr 11e8)
  ·exact .inr q
 ·rcases q with ⟨x, q⟩ | q
  ·exact .inl 11e8
  ·exact .inr q
theorem kD(β:List Addr):lN K H H J (J++β):=⟨fun _ _ h=>h,fun _ _ h=>h,fun n a h=>by rw[Ru (QM.mp h).1];exact h⟩
theorem gv.tuple(S:gv K w H J Y){p:Addr}(h:H p=none):gv K w (cV H p (.tup vs)) J Y:=
 S.same (bW h) fun a ha=>bE fun z=>ha (by rw[z];exact h)
theorem gv.more(S:gv K w H J Y){p:Addr}{o:O}{ho:HO}(h:H p=none)(q:tZ K w (cV H p ho) (J++[p]) o p):gv K w (cV H p ho) (J++[p]) (Y++[o]):=by
 refine⟨by simp[S.len],?_,fun n o' a h1 h2=>?_⟩
 ·rw[TU];exact⟨S.nd,by simp,fun x hx y hy z=>by simp at hy;subst hy;subst z;exact S.fresh h hx⟩
 ·by_cases hn : n < Y.length
  ·rw[Ru hn]at h1;rw[Ru (by rw[S.len];exact hn)]at h2;exact(S.ob n o' a h1 h2).mono ((bW h).trans (kD [p])) (bE fun z=>(S.ob n o' a h1 h2).live (by rw[z];exact h))
  ·have hn':n=Y.length:=by
    have:=(QM.mp h1).1;simp at this;omega
   subst hn';rw[Rq 8e0]at h1;rw[Rq (by rw[S.len];exact Q8 _),S.len]at h2;simp at h1 h2;subst h1;subst h2;exact q
theorem gv.put(S:gv K w H J Y){xs ys:List D}{us:List V}(h1:Y[n]?=some 2e9)(h2:J[n]?=some a)(h3:H a=some (.lst us))(q:Reps K H J ys vs):gv K w (cV H a (.lst vs)) J (Y.set n (.lst ys)):=by
 have e:=iG (K:=K) (J:=J) (o:=.lst vs) h3;refine⟨by simp[S.len],S.nd,fun m o b g1 g2=>?_⟩;have hn:n<Y.length:=(QM.mp h1).1;by_cases hm:m=n
 ·subst hm;rw[QO hn]at g1;cases g1;rw[h2]at g2;cases g2;exact⟨vs,cz,q.mono e⟩
 ·rw[QP (fun z=>hm z.symm)]at g1;refine(S.ob m o b g1 g2).mono e (bE fun z=>hm ?_);subst z;have i1:=(QM.mp g2);have i2:=(QM.mp h2);obtain⟨l1,e1⟩:=i1;obtain⟨l2,e2⟩:=i2;exact(QN S.nd).mp (e1.trans e2.symm)
end
structure dD(K:W.Frag)(H:Hp)(J:List Addr)(Z:Ro)(B:St):Prop where
 len:Z.length=B.length
 at':∀(i:Nat) d,Z[i]?=some (some d)->∃v,B[i]?=some (some v)/\aQ K H J d v
theorem dD.mono{H':Hp}{J':List Addr}{Z:Ro}(e:lN K H H' J J')(R:dD K H J Z B):dD K H' J' Z B:=
 ⟨R.len,fun i d h=>let ⟨v,h1,h2⟩:=R.at' i d h;⟨v,h1,h2.mono e⟩⟩
theorem dD.set{Z:Ro}{d:D}(R:dD K H J Z B)(i:Nat)(q:aQ K H J d v):dD K H J (Z.set i (some d)) (B.set i (some v)):=by
 refine⟨by simp[R.len],fun j d' h=>?_⟩;by_cases hj:j=i
 ·subst hj;have hl:j<Z.length:=by have:=(QM.mp h).1;simpa using this
  rw[QO hl]at h;cases h;exact⟨v,by rw[QO (by rw[<- R.len];exact hl)],q⟩
 ·rw[QP (fun z=>hj z.symm)]at h⊢;exact R.at' j d' h
structure DX where
 cls:Str
 args:List D
inductive ai(β:Type) where
 |ok (a:β) (Y:aB)|exc (x:DX) (Y:aB)|bad
noncomputable def ai.bind{γ:Type}(o:ai β)(g:β->aB->ai γ):ai γ:=match o with
 |.ok a Y=>g a Y
 |.exc x Y=>.exc x Y
 |.bad=>.bad
@[simp] theorem aa{γ:Type}{a:β}{Y:aB}{g:β->aB->ai γ}:(ai.ok a Y).bind g=g a Y:=UC 8e3
inductive SO where
 |next (Z:Ro) (Y:aB)|ret (d:D) (Y:aB)|brk (Z:Ro) (Y:aB)|cnt (Z:Ro) (Y:aB)|exc (x:DX) (Y:aB)|bad
noncomputable def ai.bindS(o:ai β)(g:β->aB->SO):SO:=match o with
 |.ok a Y=>g a Y
 |.exc x Y=>.exc x Y
 |.bad=>.bad
@[simp] theorem af{a:β}{Y:aB}{g:β->aB->SO}:(ai.ok a Y).bindS g=g a Y:=UC 8e3
noncomputable def SO.bind(o:SO)(g:Ro->aB->SO):SO:=match o with
 |.next Z Y=>g Z Y
 |o=>o
structure Pa where
 K:W.Frag
 w:World
 xw:DX->aB->Hp->List Addr->Prop
abbrev Pa.S(p:Pa):=gv p.K p.w
abbrev Pa.X(p:Pa):=lN p.K
abbrev Pa.R(p:Pa):=aQ p.K
abbrev Pa.Rs(p:Pa):=Reps p.K
def aH(p:Pa)(H:Hp)(J:List Addr)(o:ai β)(R:β->aB->Hp->List Addr->Prop):Prop:=match o with
 |.ok a Y'=>∀H' J',p.X H H' J J'->p.S H' J' Y'->R a Y' H' J'
 |.exc x Y'=>∀H' J',p.X H H' J J'->p.S H' J' Y'->p.xw x Y' H' J'
 |.bad=>False
def eT(p:Pa)(H:Hp)(J:List Addr)(o:SO)(D:pS):Prop:=match o with
 |.next Z' Y'=>∀H' J' B',p.X H H' J J'->p.S H' J' Y'->dD p.K H' J' Z' B'->D.nx B' H'
 |.brk Z' Y'=>∀H' J' B',p.X H H' J J'->p.S H' J' Y'->dD p.K H' J' Z' B'->D.bk B' H'
 |.cnt Z' Y'=>∀H' J' B',p.X H H' J J'->p.S H' J' Y'->dD p.K H' J' Z' B'->D.ct B' H'
 |.ret d Y'=>∀H' J' v,p.X H H' J J'->p.S H' J' Y'->p.R H' J' d v->D.rt v H'
 |.exc x Y'=>∀H' J',p.X H H' J J'->p.S H' J' Y'->p.xw x Y' H' J'
 |.bad=>False
section
variable{p:Pa}{H1:Hp}{J1:List Addr}{γ:Type}
theorem aH.imp{o:ai β}{R R':β->aB->Hp->List Addr->Prop}(h:aH p H J o R)(k:∀a Y' H' J',p.X H H' J J'->p.S H' J' Y'->R a Y' H' J'->R' a Y' H' J'):aH p H J o R':=by
 cases o with
 |ok a Y=>exact fun H' J' e s=>k a Y H' J' e s (h H' J' e s)
 |exc x Y=>exact h
 |bad=>exact h
theorem aH.from{o:ai β}{R:β->aB->Hp->List Addr->Prop}(e:p.X H H1 J J1)(h:aH p H J o R):aH p H1 J1 o R:=by
 cases o with
 |ok a Y=>exact fun H' J' e' s=>h H' J' (e.trans e') s
 |exc x Y=>exact fun H' J' e' s=>h H' J' (e.trans e') s
 |bad=>exact h
theorem aH.bind{o:ai β}{g:β->aB->ai γ}{R:γ->aB->Hp->List Addr->Prop}(h:aH p H J (o.bind g) R):aH p H J o (fun a Y1 H1 J1=>aH p H1 J1 (g a Y1) R):=by
 cases o with
 |ok a Y=>exact fun H' J' e s=>aH.from e h
 |exc x Y=>exact h
 |bad=>exact h
theorem aH.now{a:β}{Y:aB}{R:β->aB->Hp->List Addr->Prop}(h:aH p H J (.ok a Y) R)(s:p.S H J Y):R a Y H J:=h H J lN.refl s
theorem eT.from{o:SO}{D:pS}(e:p.X H H1 J J1)(h:eT p H J o D):eT p H1 J1 o D:=by
 cases o with
 |next Z Y=>exact fun H' J' B' e' s r=>h H' J' B' (e.trans e') s r
 |brk Z Y=>exact fun H' J' B' e' s r=>h H' J' B' (e.trans e') s r
 |cnt Z Y=>exact fun H' J' B' e' s r=>h H' J' B' (e.trans e') s r
 |ret d Y=>exact fun H' J' v e' s r=>h H' J' v (e.trans e') s r
 |exc x Y=>exact fun H' J' e' s=>h H' J' (e.trans e') s
 |bad=>exact h
theorem aH.bindS{o:ai β}{g:β->aB->SO}{D:pS}(h:eT p H J (o.bindS g) D):aH p H J o (fun a Y1 H1 J1=>eT p H1 J1 (g a Y1) D):=by
 cases o with
 |ok a Y=>exact fun H' J' e s=>eT.from e h
 |exc x Y=>exact h
 |bad=>exact h
end
abbrev ME:=Ro->aB->ai D
abbrev MT:=Ro->aB->ai Bool
abbrev MA:=Ro->aB->ai (List D)
abbrev MS:=Ro->aB->SO
abbrev MG:=D->Ro->aB->ai Ro
abbrev RV(p:Pa)(Q:VK):D->aB->Hp->List Addr->Prop:=fun d _ H' J'=>∀v,p.R H' J' d v->Q v H'
def tD(p:Pa)(f:ME):TE:=fun B H Q=>∃J Z Y,p.S H J Y/\dD p.K H J Z B/\aH p H J (f Z Y) (RV p Q)
def iw(p:Pa)(f:MT):TT:=fun B H Q=>∃J Z Y,p.S H J Y/\dD p.K H J Z B/\aH p H J (f Z Y) (fun b _ H' _=>Q b H')
def mX(p:Pa)(f:MA):TA:=fun B H Q=>∃J Z Y,p.S H J Y/\dD p.K H J Z B/\aH p H J (f Z Y) (fun ds _ H' J'=>∀vs,p.Rs H' J' ds vs->Q vs H')
def iQ(p:Pa)(f:MS):TS:=fun D B H=>∃J Z Y,p.S H J Y/\dD p.K H J Z B/\eT p H J (f Z Y) D
def pH(p:Pa)(g:MG):TG:=fun v B H Q=>∃J Z Y d,p.S H J Y/\dD p.K H J Z B/\p.R H J d v/\aH p H J (g d Z Y) (fun Z' _ H' J'=>∀B',dD p.K H' J' Z' B'->Q B' H')
theorem PE.weak{X:Cx}{t t':TE}(h:PE X e t)(k:∀B H Q,t' B H Q->t B H Q):PE X e t':=fun pins s B H Q I q=>h pins s B H Q I (k B H Q q)
theorem PT.weak{X:Cx}{t t':TT}(h:PT X e t)(k:∀B H Q,t' B H Q->t B H Q):PT X e t':=fun pins s B H Q I q=>h pins s B H Q I (k B H Q q)
theorem PW.weak{X:Cx}{t t':TT}(h:PW X e t)(k:∀B H Q,t' B H Q->t B H Q):PW X e t':=fun wh pins s B H Q I q=>h wh pins s B H Q I (k B H Q q)
theorem PA.weak{X:Cx}{e:List Expr}{t t':TA}(h:PA X e t)(k:∀B H Q,t' B H Q->t B H Q):PA X e t':=fun pos pins s B H Q I q=>h pos pins s B H Q I (k B H Q q)
theorem PS.weak{X:Cx}{e:Stmt}{t t':TS}(h:PS X e t)(k:∀D B H,t' D B H->t D B H):PS X e t':=fun pins s B H Q I q=>h pins s B H Q I (k Q B H q)
theorem kj.weak{X:Cx}{e:List Stmt}{t t':TS}(h:kj X e t)(k:∀D B H,t' D B H->t D B H):kj X e t':=fun pins s B H Q I q=>h pins s B H Q I (k Q B H q)
def aj(i:Nat):ME:=fun Z Y=>match Z[i]? with
 |some (some d)=>.ok d Y
 |_=>.bad
def cC(d:D):ME:=fun _ Y=>.ok d Y
def ay(op:D->D->aB->ai D)(fa fb:ME):ME:=fun Z Y=>(fa Z Y).bind fun a Y1=>(fb Z Y1).bind fun b Y2=>op a b Y2
def mY(op:D->aB->ai D)(fa:ME):ME:=fun Z Y=>(fa Z Y).bind fun a Y1=>op a Y1
def az:MA:=fun _ Y=>.ok [] Y
def ag(fa:ME)(fr:MA):MA:=fun Z Y=>(fa Z Y).bind fun a Y1=>(fr Z Y1).bind fun r Y2=>.ok (a::r) Y2
def aE(f:List D->aB->ai D)(fa:MA):ME:=fun Z Y=>(fa Z Y).bind f
def bV(fa:MA):ME:=aE (fun ds Y=>if ds.length<=sizeLine then .ok (.tup ds) Y else .bad) fa
def fq(fa:MA):ME:=aE (fun ds Y=>if ds.length<=sizeLine then .ok 1e0 (Y++[.lst ds]) else .bad) fa
def Aq:D->aB->ai Bool
 |.bl b,Y=>.ok b Y
 |_,_=>.bad
def gb(f:ME):MT:=fun Z Y=>(f Z Y).bind Aq
def lF(f g:MT):MT:=fun Z Y=>(f Z Y).bind fun b Y1=>if b=true then g Z Y1 else .ok false Y1
def pQ(f g:MT):MT:=fun Z Y=>(f Z Y).bind fun b Y1=>if b=true then .ok true Y1 else g Z Y1
def gR(f:MT):MT:=fun Z Y=>(f Z Y).bind fun b Y1=>.ok (!b) Y1
def gS(f g:ME):ME:=fun Z Y=>(f Z Y).bind fun a Y1=>(Aq a Y1).bind fun b Y2=>if b=true then g Z Y2 else .ok 4e2 Y2
def xn(f:ME):ME:=fun Z Y=>(f Z Y).bind fun a Y1=>(Aq a Y1).bind fun b Y2=>.ok (.bl (!b)) Y2
def Ju(c:MT)(f g:ME):ME:=fun Z Y=>(c Z Y).bind fun b Y1=>if b=true then f Z Y1 else g Z Y1
def pK(p:Pa)(op:D->D->aB->ai D)(r:R2):Prop:=∀a b v y H J Y Q,p.S H J Y->p.R H J a v->p.R H J b y->aH p H J (op a b Y) (RV p Q)->r v y H Q
def PY(p:Pa)(op:D->aB->ai D)(r:V->Hp->VK->Prop):Prop:=∀a v H J Y Q,p.S H J Y->p.R H J a v->aH p H J (op a Y) (RV p Q)->r v H Q
def yW(p:Pa)(f:List D->aB->ai D)(r:List V->Hp->VK->Prop):Prop:=∀ds vs H J Y Q,p.S H J Y->p.Rs H J ds vs->aH p H J (f ds Y) (RV p Q)->r vs H Q
section
variable{p:Pa}
theorem nS{d:D}{Y:aB}{R:Bool->aB->Hp->List Addr->Prop}(h:aH p H J (Aq d Y) R)(r:p.R H J d v)(s:p.S H J Y):∃b,d=.bl b/\v=.bl b/\R b Y H J:=by
 cases d with
 |bl b=>exact⟨b,rfl,aZ.mp r,h.now s⟩
 |non=>exact h.elim
 |int i=>exact h.elim
 |str x=>exact h.elim
 |tup xs=>exact h.elim
 |frz xs=>exact h.elim
 |obj n=>exact h.elim
variable{X:Cx}{a b:Expr}{es:List Expr}{fa fb fc:ME}
theorem Kj(h:PE X (.Name x pos) (MH i)):PE X (.Name x pos) (tD p (aj i)):=h.weak fun B H Q ⟨J,Z,Y,S,R,P⟩=>by
 unfold aj at P;cases e:Z[i]? with
 |none=>rw[e]at P;exact P.elim
 |some o=>
  rw[e]at P;cases o with
  |none=>exact P.elim
  |some d=>
   obtain⟨v,h1,h2⟩:=R.at' i d e;exact⟨v,h1,P.now S v h2⟩
theorem CY{d:D}(h:PE X e (tC v))(r:∀H J,p.R H J d v):PE X e (tD p (cC d)):=h.weak fun B H Q ⟨J,Z,Y,S,R,P⟩=>P.now S v (r H J)
theorem nL{op:Operator}{o:D->D->aB->ai D}{r:R2}(ho:jQ X (binaryOp op) r)(hd:pK p o r)(ha:PE X a (tD p fa))(hb:PE X b (tD p fb)):PE X (.BinOp a op b pos) (tD p (ay o fa fb)):=
 (Oc ho ha hb).weak fun B H Q ⟨J,Z,Y,S,R,P⟩=>⟨J,Z,Y,S,R,P.bind.imp fun x Y1 H1 J1 X1 S1 P1 v rv=>⟨J1,Z,Y1,S1,R.mono X1,P1.bind.imp fun y Y2 H2 J2 X2 S2 P2 u ru=>hd x y v u H2 J2 Y2 Q S2 (rv.mono X2) ru P2⟩⟩
theorem Ks{o:D->D->aB->ai D}{r:R2}(ho:jQ X (compareOp op) r)(hd:pK p o r)(ha:PE X a (tD p fa))(hb:PE X b (tD p fb))(hm:behindInMarks op b=false):PE X (.Compare a [op] [b] pos) (tD p (ay o fa fb)):=
 (Hr ho ha hb hm).weak fun B H Q ⟨J,Z,Y,S,R,P⟩=>⟨J,Z,Y,S,R,P.bind.imp fun x Y1 H1 J1 X1 S1 P1 v rv=>⟨J1,Z,Y1,S1,R.mono X1,P1.bind.imp fun y Y2 H2 J2 X2 S2 P2 u ru=>hd x y v u H2 J2 Y2 Q S2 (rv.mono X2) ru P2⟩⟩
theorem α1{o:D->D->aB->ai D}{r:R2}(ho:jQ X (compareOp op) r)(hd:pK p o r)(ha:PE X a (tD p fa))(hb:PE X b (tD p fb))(hm:behindInMarks op b=false):PT X (.Compare a [op] [b] pos) (iw p (gb (ay o fa fb))):=
 (Hc ho ha hb hm).weak fun B H Q ⟨J, Z, Y, S, R, P⟩ => ⟨J, Z, Y, S, R, P.bind.bind.imp fun x Y1 H1 J1 X1 S1 P1 v rv => ⟨J1, Z, Y1, S1, R.mono X1, P1.bind.imp fun y Y2 H2 J2 X2 S2 P2 u ru =>
  hd x y v u H2 J2 Y2 _ S2 (rv.mono X2) ru (P2.imp fun d Y3 H3 J3 X3 S3 P3 z rz=>by
   obtain⟨k,_,e,q⟩:=nS P3 rz S3
   exact⟨k,e,q⟩)⟩⟩
theorem NW{op:UnaryOp}{o:D->aB->ai D}{r:V->Hp->VK->Prop}(ho:OJ X (unaryOp op) r)(hd:PY p o r)(ha:PE X a (tD p fa)):PE X (.UnaryOp op a pos) (tD p (mY o fa)):=
 (Ob ho ha).weak fun B H Q ⟨J,Z,Y,S,R,P⟩=>⟨J,Z,Y,S,R,P.bind.imp fun x Y1 H1 J1 X1 S1 P1 v rv=>hd x v H1 J1 Y1 Q S1 rv P1⟩
theorem Ku:PA X [] (mX p az):=sx.weak fun B H Q ⟨J,Z,Y,S,R,P⟩=>P.now S [] Reps.nil
theorem GZ{fr:MA}(ha:PE X a (tD p fa))(hr:PA X es (mX p fr))(hs:starEach (a::es) 2e1=(false,eval a 2e1)::starEach es 2e1):PA X (a::es) (mX p (ag fa fr)):=
 (jU ha hr hs).weak fun B H Q ⟨J,Z,Y,S,R,P⟩=>⟨J,Z,Y,S,R,P.bind.imp fun x Y1 H1 J1 X1 S1 P1 v rv=>⟨J1,Z,Y1,S1,R.mono X1,P1.bind.imp fun y Y2 H2 J2 X2 S2 P2 us ru=>P2.now S2 _ (Reps.cons (rv.mono X2) ru)⟩⟩
theorem Kk{k:Nat}{fr:MA}(h:PA X es (mX p fr)):PE X (.Tuple es k pos) (tD p (bV fr)):=
 (KU h).weak fun B H Q ⟨J, Z, Y, S, R, P⟩ => ⟨J, Z, Y, S, R, P.bind.imp fun ds Y1 H1 J1 X1 S1 P1 vs rv => by
  by_cases hl:ds.length<=sizeLine
  ·rw[Qu hl]at P1;refine⟨by rw[rv.length];exact hl,fun q hq=>?_⟩;exact P1 _ _ (bW hq) (S1.tuple hq) _ (aN.mpr ⟨q,vs,rfl,gh.of cz,rv.mono (bW hq)⟩)
  ·rw [Qv hl] at P1
   exact P1.elim⟩
theorem du{Y:aB}{ds:List D}{q:Addr}(S:p.S H J Y)(hq:H q=none)(rv:p.Rs H J ds vs):
  p.X H (cV H q (.lst vs)) J (J++[q])/\p.S (cV H q (.lst vs)) (J++[q]) (Y++[.lst ds])/\p.R (cV H q (.lst vs)) (J++[q]) 1e0 (.ref q):=by
 have X1:p.X H (cV H q (.lst vs)) J (J++[q]):=(bW hq).trans (kD [q]);exact⟨X1,S.more hq ⟨vs,cz,rv.mono X1⟩,aY.mpr ⟨q,rfl,by rw[<- S.len];simp⟩⟩
theorem Km{fr:MA}(h:PA X es (mX p fr)):PE X (.List es pos) (tD p (fq fr)):=
 (K1 h).weak fun B H Q ⟨J, Z, Y, S, R, P⟩ => ⟨J, Z, Y, S, R, P.bind.imp fun ds Y1 H1 J1 X1 S1 P1 vs rv => by
  by_cases hl:ds.length<=sizeLine
  ·rw[Qu hl]at P1;refine⟨by rw[rv.length];exact hl,fun q hq=>?_⟩;obtain⟨x1,x2,x3⟩:=du S1 hq rv;exact P1 _ _ x1 x2 _ x3
  ·rw [Qv hl] at P1
   exact P1.elim⟩
variable{ft gt:MT}
theorem JZ(ha:PT X a (iw p ft))(hb:PW X (.BoolOp .And (b::rest) pos) (iw p gt)):PW X 12e9 (iw p (lF ft gt)):=
 (KD ha hb).weak fun B H Q ⟨J, Z, Y, S, R, P⟩ => ⟨J, Z, Y, S, R, P.bind.imp fun k Y1 H1 J1 X1 S1 P1 => by
  cases k with
  |true=>rw[Qu rfl]at P1⊢;exact⟨J1,Z,Y1,S1,R.mono X1,P1⟩
  |false=>rw[Qv Q0]at P1⊢;exact P1.now S1⟩
theorem NR(ha:PT X a (iw p ft))(hb:PW X (.BoolOp .Or (b::rest) pos) (iw p gt)):PW X (.BoolOp .Or (a::b::rest) pos) (iw p (pQ ft gt)):=
 (N9 ha hb).weak fun B H Q ⟨J, Z, Y, S, R, P⟩ => ⟨J, Z, Y, S, R, P.bind.imp fun k Y1 H1 J1 X1 S1 P1 => by
  cases k with
  |true=>rw[Qu rfl]at P1⊢;exact P1.now S1
  |false=>rw[Qv Q0]at P1⊢;exact⟨J1,Z,Y1,S1,R.mono X1,P1⟩⟩
theorem α0(ha:PT X a (iw p ft)):PT X (.UnaryOp .Not a pos) (iw p (gR ft)):=
 (KE ha).weak fun B H Q ⟨J,Z,Y,S,R,P⟩=>⟨J,Z,Y,S,R,P.bind.imp fun k Y1 H1 J1 X1 S1 P1=>P1.now S1⟩
theorem Kt(ha:PE X a (tD p fa))(hb:PE X (.BoolOp .And (b::rest) pos) (tD p fb)):PE X 12e9 (tD p (gS fa fb)):=
 (K3 ha hb).weak fun B H Q ⟨J, Z, Y, S, R, P⟩ => ⟨J, Z, Y, S, R, P.bind.imp fun d Y1 H1 J1 X1 S1 P1 v rv => by
  obtain⟨k,_,e,q⟩:=nS P1.bind rv S1;refine⟨k,e,?_⟩;cases k with
  |true=>rw[Qu rfl]at q⊢;exact⟨J1,Z,Y1,S1,R.mono X1,q⟩
  |false=>rw[Qv Q0]at q⊢;exact q.now S1 _ (aZ.mpr rfl)⟩
theorem Kl(ha:PE X a (tD p fa)):PE X (.UnaryOp .Not a pos) (tD p (xn fa)):=
 (KZ ha).weak fun B H Q ⟨J, Z, Y, S, R, P⟩ => ⟨J, Z, Y, S, R, P.bind.imp fun d Y1 H1 J1 X1 S1 P1 v rv => by
  obtain⟨k,_,e,q⟩:=nS P1.bind rv S1
  exact⟨k,e,q.now S1 _ (aZ.mpr rfl)⟩⟩
theorem NY(hc:PT X c (iw p ft))(ha:PE X a (tD p fa))(hb:PE X b (tD p fb)):PE X (.IfExp c a b pos) (tD p (Ju ft fa fb)):=
 (EV hc ha hb).weak fun B H Q ⟨J, Z, Y, S, R, P⟩ => ⟨J, Z, Y, S, R, P.bind.imp fun k Y1 H1 J1 X1 S1 P1 => by
  cases k with
  |true=>rw[Qu rfl]at P1⊢;exact⟨J1,Z,Y1,S1,R.mono X1,P1⟩
  |false=>rw[Qv Q0]at P1⊢;exact⟨J1,Z,Y1,S1,R.mono X1,P1⟩⟩
theorem EB{id:String}{f:List D->aB->ai D}{fr:MA}{r:List V->Hp->VK->Prop}(hc:dX X (.builtin id) r)(hd:yW p f r)(hg:Gl X x)(hm:X.mg x=none)(hv:bootBuiltins x=some (.builtin id))(ha:PA X (a::es) (mX p fr))(hn:x ≠ "__name__")(hdb:(x == ("__debug__" : Str))=false)(he:starEach (a::es) 2e1=(false,eval a 2e1)::starEach es 2e1)(hpl:(backTo pos 7e6).any 5e4=false):PE X 7e7 (tD p (aE f fr)):=
 (oR hc hg hm hv ha hn hdb he hpl).weak fun B H Q ⟨J,Z,Y,S,R,P⟩=>⟨J,Z,Y,S,R,P.bind.imp fun ds Y1 H1 J1 X1 S1 P1 vs rv=>hd ds vs H1 J1 Y1 Q S1 rv P1⟩
theorem BM{T:String}{f:List D->aB->ai D}{fr:MA}{r:List V->Hp->VK->Prop}(hc:dX X (.type T) r)(hd:yW p f r)(hg:Gl X x)(hm:X.mg x=none)(hv:bootBuiltins x=some (.type T))(ha:PA X (a::es) (mX p fr))(hn:x ≠ "__name__")(hdb:(x == ("__debug__" : Str))=false)(he:starEach (a::es) 2e1=(false,eval a 2e1)::starEach es 2e1)(hpl:(backTo pos 7e6).any 5e4=false):PE X 7e7 (tD p (aE f fr)):=
 (uL hc hg hm hv ha hn hdb he hpl).weak fun B H Q ⟨J,Z,Y,S,R,P⟩=>⟨J,Z,Y,S,R,P.bind.imp fun ds Y1 H1 J1 X1 S1 P1 vs rv=>hd ds vs H1 J1 Y1 Q S1 rv P1⟩
end
def cH(f:ME):MS:=fun Z Y=>(f Z Y).bindS fun d Y'=>.ret d Y'
def dO:MS:=fun Z Y=>.next Z Y
def F6:MS:=fun _ _=>.bad
def bj(f g:MS):MS:=fun Z Y=>(f Z Y).bind g
def lL(c:MT)(f g:MS):MS:=fun Z Y=>(c Z Y).bindS fun b Y1=>if b=true then f Z Y1 else g Z Y1
def bx(f:ME)(g:MG):MS:=fun Z Y=>(f Z Y).bindS fun d Y1=>(g d Z Y1).bindS fun Z' Y2=>.next Z' Y2
def lz(f:ME):MS:=fun Z Y=>(f Z Y).bindS fun _ Y1=>.next Z Y1
def C0(i:Nat)(op:D->D->aB->ai D)(f:ME):MS:=fun Z Y=>(aj i Z Y).bindS fun a Y0=>(f Z Y0).bindS fun b Y1=>(op a b Y1).bindS fun c Y2=>.next (Z.set i (some c)) Y2
def ak(i:Nat):MG:=fun d Z Y=>.ok (Z.set i (some d)) Y
abbrev F2:=List D->Ro->aB->ai Ro
def de:F2:=fun ds Z Y=>match ds with
 |[]=>.ok Z Y
 |_::_=>.bad
def aW(g:MG)(u:F2):F2:=fun ds Z Y=>match ds with
 |[]=>.bad
 |d::r=>(g d Z Y).bind fun Z' Y'=>u r Z' Y'
def dc(n:Nat)(u:F2):MG:=fun d Z Y=>match d with
 |.tup xs=>if xs.length=n then u xs Z Y else .bad
 |_=>.bad
def zc(o i v:D)(Y:aB):ai Unit:=match o,i with
 |.obj n,.int k=>match Y[n]? with
  |some 2e9=>match wM 3e9 k with
   |some j=>.ok () (Y.set n (.lst (xs.set j v)))
   |none=>.bad
  |_=>.bad
 |_,_=>.bad
def nt(fo fi:ME):MG:=fun d Z Y=>(fo Z Y).bind fun o Y1=>(fi Z Y1).bind fun i Y2=>(zc o i d Y2).bind fun _ Y3=>.ok Z Y3
def wV(p:Pa)(g:F2):FY:=fun vs B H Q=>∃J Z Y ds,p.S H J Y/\dD p.K H J Z B/\p.Rs H J ds vs/\aH p H J (g ds Z Y) (fun Z' _ H' J'=>∀B',dD p.K H' J' Z' B'->Q B' H')
theorem PG.weak{X:Cx}{t t':TG}(h:PG X e t)(k:∀v B H Q,t' v B H Q->t v B H Q):PG X e t':=fun pins s B H v u Q I r q=>h pins s B H v u Q I r (k v B H Q q)
theorem yZ.weak{X:Cx}{e:List Expr}{t t':FY}(h:yZ X e t)(k:∀v B H Q,t' v B H Q->t v B H Q):yZ X e t':=fun pins s B H v u Q I r q=>h pins s B H v u Q I r (k v B H Q q)
theorem PI.weak{X:Cx}{t t':TI}(h:PI X tg e t)(k:∀B H R,t' B H R->t B H R):PI X tg e t':=fun pins s B H Q I q=>h pins s B H Q I (k B H Q q)
section
variable{p:Pa}{X:Cx}{a b:Expr}{es:List Expr}{f:ME}{g:MG}{u:F2}{sts:List Stmt}{fs gs:MS}{ft:MT}
theorem α6:kj X [] (iQ p dO):=He.weak fun D B H ⟨J,Z,Y,S,R,P⟩=>P H J B lN.refl S R
theorem Ew{t u:TS}{D:pS}{B:St}{H:Hp}{J:List Addr}{o:SO}{k:MS}(h:eT p H J (o.bind k) D)
  (hk:∀D B H,iQ p k D B H->u D B H):eT p H J o {D with nx:=u D}:=by
 cases o with
 |next Z Y=>exact fun H' J' B' e s r=>hk _ _ _ ⟨J',Z,Y,s,r,eT.from e h⟩
 |brk Z Y=>exact h
 |cnt Z Y=>exact h
 |ret d Y=>exact h
 |exc x Y=>exact h
 |bad=>exact h
theorem GF(h1:PS X st (iQ p fs))(h2:kj X sts (iQ p gs)):kj X (st::sts) (iQ p (bj fs gs)):=
 (EL h1 h2).weak fun D B H ⟨J,Z,Y,S,R,P⟩=>⟨J,Z,Y,S,R,Ew (t:=iQ p fs) (B:=B) P fun _ _ _ z=>z⟩
theorem α4(h1:PS X st (iQ p fs)):kj X [st] (iQ p fs):=Hd h1
theorem α3(h:PE X e (tD p f)):PS X (.Return (some e) pos) (iQ p (cH f)):=
 (KI h).weak fun D B H ⟨J,Z,Y,S,R,P⟩=>⟨J,Z,Y,S,R,(aH.bindS P).imp fun d Y1 H1 J1 X1 S1 P1 v rv=>P1 H1 J1 v lN.refl S1 rv⟩
theorem Eg:PS X st (iQ p F6):=EO.weak fun D B H ⟨J,Z,Y,S,R,P⟩=>P
theorem NS{A σ:List Stmt}(hc:PT X c (iw p ft))(ha:kj X A (iQ p fs))(hb:kj X σ (iQ p gs)):PS X (.If c A σ pos) (iQ p (lL ft fs gs)):=
 (Oa hc ha hb).weak fun D B H ⟨J, Z, Y, S, R, P⟩ => ⟨J, Z, Y, S, R, (aH.bindS P).imp fun k Y1 H1 J1 X1 S1 P1 => by
  cases k with
  |true=>rw[Qu rfl]at P1⊢;exact⟨J1,Z,Y1,S1,R.mono X1,P1⟩
  |false=>rw[Qv Q0]at P1⊢;exact⟨J1,Z,Y1,S1,R.mono X1,P1⟩⟩
theorem yv{D:pS}(h:iQ p (bx f g) D B H):CV (tD p f) (pH p g) D B H:=by
 obtain⟨J,Z,Y,S,R,P⟩:=h;exact⟨J,Z,Y,S,R,(aH.bindS P).imp fun d Y1 H1 J1 X1 S1 P1 v rv=>⟨J1,Z,Y1,d,S1,R.mono X1,rv,(aH.bindS P1).imp fun Z' Y2 H2 J2 X2 S2 P2 B' r'=>P2 H2 J2 B' lN.refl S2 r'⟩⟩
theorem α9(he:PE X e (tD p f))(hg:PG X tg (pH p g))(hs:swapsWithSole [tg] e pos.line 2e1=pure false)(hw:swappedStores [tg] e 2e1=pure none)
  (h1:(assignEach [tg] 2e1).map (·.2)=[assign tg 2e1]):PS X (.Assign [tg] e pos) (iQ p (bx f g)):=(KM he hg hs hw h1).weak fun D B H h=>yv h
theorem tj{Q:St->Hp->Prop}(h:pH p (ak i) v B H Q):xh i v B H Q:=by
 obtain⟨J,Z,Y,d,S,R,r,P⟩:=h;exact P.now S _ (R.set i r)
theorem GR(hN:X.N.Nodup)(hi:X.N[i]?=some x)(hx:Bi X.env.scope x)(hf:X.fn x=true\/X.env.scope.names.lookup x=some .local):PG X (.Name x pos) (pH p (ak i)):=
 (Hm hN hi hx hf).weak fun v B H Q h=>tj h
theorem α2(hN:X.N.Nodup)(hi:X.N[i]?=some x)(hx:Bi X.env.scope x)(he:PE X e (tD p f))(hs:swapsWith e (some (.Name x pos')) pos.line 2e1=pure false)(hf:X.fn x=true\/X.env.scope.names.lookup x=some .local):
  PS X (.Assign [.Name x pos'] e pos) (iQ p (bx f (ak i))):=(KH hN hi hx he hs hf).weak fun D B H h=>by
 obtain⟨J,Z,Y,S,R,P⟩:=yv h;exact⟨J,Z,Y,S,R,P.imp fun d Y1 H1 J1 X1 S1 P1 v rv=>tj (P1 v rv)⟩
theorem GE(he:PE X e (tD p f))(hs:swapsWith e none pos.line 2e1=pure false):PS X (.Expr e pos) (iQ p (lz f)):=
 (Hg he hs).weak fun D B H ⟨J,Z,Y,S,R,P⟩=>⟨J,Z,Y,S,R,(aH.bindS P).imp fun d Y1 H1 J1 X1 S1 P1 v rv=>P1 H1 J1 B lN.refl S1 (R.mono X1)⟩
theorem GQ:yZ X [] (wV p de):=Hl.weak fun vs B H Q ⟨J,Z,Y,ds,S,R,r,P⟩=>by
 cases ds with
 |nil=>dsimp[Reps]at r;exact⟨r,P.now S B R⟩
 |cons d ds=>exact P.elim
theorem Er(h1:PG X e (pH p g))(h2:yZ X es (wV p u))(hs:(assignEach (e::es) 2e1).map (·.2)=assign e 2e1::(assignEach es 2e1).map (·.2)):yZ X (e::es) (wV p (aW g u)):=
 (ET h1 h2 hs).weak fun vs B H Q ⟨J, Z, Y, ds, S, R, r, P⟩ => by
  cases ds with
  |nil=>exact P.elim
  |cons d ds=>
   dsimp[Reps]at r;obtain⟨v,vr,rfl,r1,r2⟩:=r;refine⟨v,vr,rfl,J,Z,Y,d,S,R,r1,?_⟩;exact(aH.bind (o:=g d Z Y) P).imp fun Z' Y1 H1 J1 X1 S1 P1 B' r'=>⟨J1,Z',Y1,ds,S1,r',r2.mono X1,P1⟩
theorem Kh{k:Nat}(hK:X.K=p.K)(hc:X.calm=true)(h:yZ X es (wV p u))(hn:(assignEach es 2e1).length=n)(hst:(assignEach es 2e1).findIdx? 5e4=none):PG X (.Tuple es k pos) (pH p (dc n u)):=
 (KQ hc h hn hst).weak fun v B H Q ⟨J, Z, Y, d, S, R, r, P⟩ => by
  cases d with
  |tup xs=>
   obtain⟨a,vs,rfl,h1,h2⟩:=aN.mp r;have P':aH p H J (if xs.length=n then u xs Z Y else .bad) _:=P;by_cases hl:xs.length=n
   ·rw[Qu hl]at P';exact⟨a,vs,rfl,by rw[hK];exact h1,by rw[h2.length];exact hl,J,Z,Y,xs,S,R,h2,P'⟩
   ·rw[Qv hl]at P';exact P'.elim
  |non=>exact P.elim
  |bl b=>exact P.elim
  |int i=>exact P.elim
  |str x=>exact P.elim
  |frz xs=>exact P.elim
  |obj n=>exact P.elim
theorem GT{o i d:D}{Y:aB}{R:Unit->aB->Hp->List Addr->Prop}{vo vi:V}(S:p.S H J Y)(ro:p.R H J o vo)(ri:p.R H J i vi)(rv:p.R H J d v)(P:aH p H J (zc o i d Y) R):
  IW vo vi v H fun H'=>∃Y',p.X H H' J J/\p.S H' J Y'/\R () Y' H' J:=by
 unfold zc at P;split at P
 ·rename_i n k;split at P
  ·rename_i xs hx;split at P
   ·rename_i j hj;obtain⟨a,ea,us,hH,rr⟩:=S.at hx;obtain⟨a',rfl,ea'⟩:=aY.mp ro;rw[ea]at ea';cases ea';rw[ax.mp ri];have q:=rr.set rv j;refine⟨a,us,k,j,rfl,rfl,hH,by rw[rr.length];exact hj,_,iG hH,S.put hx ea hH q,?_⟩;exact P _ _ (iG hH) (S.put hx ea hH q)
   ·exact P.elim
  ·exact P.elim
 ·exact P.elim
theorem Ki{o i:Expr}{fo fi:ME}(ho:PE X o (tD p fo))(hi:PE X i (tD p fi))
  (ha : ∀ v, assign (.Subscript o i pos) 2e1 v = (do
   let ov <- holding [v] (eval o 2e1)
   let iv <- holding [v,ov] (eval i 2e1)
   standAt pos
   holding [v,ov,iv] (setItem ov iv v)
   release [v,ov,iv] [])):PG X (.Subscript o i pos) (pH p (nt fo fi)):=
 (KR ho hi Es ha).weak fun v B H Q ⟨J, Z, Y, d, S, R, r, P⟩ => ⟨J, Z, Y, S, R, (aH.bind P).imp fun od Y1 H1 J1 X1 S1 P1 vo ro => ⟨J1, Z, Y1, S1, R.mono X1, (aH.bind P1).imp fun id Y2 H2 J2 X2 S2 P2 vi ri => by
  obtain⟨pp,xs,k,j,e1,e2,e3,e4,Y3,x3,s3,q⟩:=GT S2 (ro.mono X2) ri ((r.mono X1).mono X2) (aH.bind P2)
  exact⟨pp,xs,k,j,e1,e2,e3,e4,q.now s3 B (((R.mono X1).mono X2).mono x3)⟩⟩⟩
theorem α8{op:Operator}{o:D->D->aB->ai D}{r:R2}(hN:X.N.Nodup)(hi:X.N[i]?=some x)(hx:Bi X.env.scope x)(he:PE X e (tD p f))(ho:OK X op r)(hd:pK p o r)(hf:X.fn x=true\/X.env.scope.names.lookup x=some .local):
  PS X (.AugAssign (.Name x pos') op e pos) (iQ p (C0 i o f)):=(KL hN hi hx he ho hf).weak fun D B H ⟨J,Z,Y,S,R,P⟩=>by
 unfold C0 aj at P;cases er:Z[i]? with
 |none=>rw[er]at P;exact P.elim
 |some oo=>
  rw[er]at P;cases oo with
  |none=>exact P.elim
  |some d=>
   obtain⟨v,h1,h2⟩:=R.at' i d er;have P':eT p H J ((f Z Y).bindS fun b Y1=>(o d b Y1).bindS fun c Y2=>.next (Z.set i (some c)) Y2) D:=P;refine⟨v,h1,J,Z,Y,S,R,(aH.bindS P').imp fun y Y1 H1 J1 X1 S1 P1 u ru=>?_⟩;exact hd d y v u H1 J1 Y1 _ S1 (h2.mono X1) ru ((aH.bindS P1).imp fun z Y2 H2 J2 X2 S2 P2 t rt=>P2 H2 J2 _ lN.refl S2 (((R.mono X1).mono X2).set i rt))
end
inductive pJ where
 |fix (xs:List D)|own (n:Nat) (xs:List D)|eno (n:Nat) (xs:List D)
def fP:Nat->List D->List D
 |_,[]=>[]
 |i,x::r=>.tup [.int i,x]::fP (i+1) r
theorem uY:∀{xs:List D}{k i:Nat},(fP k xs)[i]?=(xs[i]?).map fun x=>D.tup [.int ((k+i:Nat):Int),x]
 |[],_,_=>by simp[fP]
 |x::r,k,0=>by simp[fP]
 |x::r,k,i+1=>by
  dsimp[fP,UE];rw[uY (xs:=r) (k:=k+1) (i:=i)];congr 1;funext y;congr 4;omega
theorem uX:∀{xs:List D}{k:Nat},(fP k xs).length=3e9
 |[],_=>rfl
 |x::r,k=>by simp[fP,uX (xs:=r)]
def pJ.items:pJ->List D
 |.fix xs=>xs
 |.own _ xs=>xs
 |.eno _ xs=>fP 0 xs
def cN:pJ->aB->Prop
 |.fix _,_=>True
 |.own n xs,Y=>Y[n]?=some 2e9
 |.eno n xs,Y=>Y[n]?=some 2e9
def ze(p:Pa)(α:It)(src:pJ)(H0:Hp)(J0:List Addr):Prop:=
 ∀H2 J2 Y2,p.X H0 H2 J0 J2->p.S H2 J2 Y2->cN src Y2 ->
  (∀(i:Nat) d,src.items[i]?=some d->α.go i H2/\∀x H3,α.yld i H2 x H3->p.X H2 H3 J2 J2/\p.S H3 J2 Y2/\p.R H3 J2 d x)/\α.stop src.items.length H2
abbrev MI:=Ro->aB->ai pJ
def rY(p:Pa)(f:MI):TI:=fun B H R=>∃J Z Y,p.S H J Y/\dD p.K H J Z B/\aH p H J (f Z Y) (fun src Y' H' J'=>∀α,cN src Y'->ze p α src H' J'->R α H')
noncomputable def SO.loop(o:SO)(k:Ro->aB->SO):SO:=match o with
 |.next Z Y=>k Z Y
 |.cnt Z Y=>k Z Y
 |.brk Z Y=>.next Z Y
 |.ret d Y=>.ret d Y
 |.exc x Y=>.exc x Y
 |.bad=>.bad
open Classical in
def iS(src:pJ)(g:MG)(fb:MS):List D->Ro->aB->SO
 |[],Z,Y=>if cN src Y then .next Z Y else .bad
 |d::r,Z,Y=>if cN src Y then (g d Z Y).bindS fun Z' Y'=>(fb Z' Y').loop (iS src g fb r) else .bad
def lM(fi:MI)(g:MG)(fb:MS):MS:=fun Z Y=>(fi Z Y).bindS fun src Y1=>iS src g fb src.items Z Y1
def jD(c:MT)(fb:MS):Nat->Ro->aB->SO
 |0,_,_=>.bad
 |n+1,Z,Y=>(c Z Y).bindS fun b Y1=>if b=true then (fb Z Y1).loop (jD c fb n) else .next Z Y1
def pT(n:Nat)(c:MT)(fb:MS):MS:=jD c fb n
section
variable{p:Pa}{X:Cx}{fi:MI}{g:MG}{fb:MS}{ft:MT}
theorem uO{o:SO}{k:Ro->aB->SO}{D:pS}{N:St->Hp->Prop}(h:eT p H J (o.loop k) D)(hN:∀Z Y H' J' B',p.X H H' J J'->p.S H' J' Y->dD p.K H' J' Z B'->eT p H' J' (k Z Y) D->N B' H'):eT p H J o {D with nx:=N,ct:=N,bk:=D.nx}:=by
 cases o with
 |next Z Y=>exact fun H' J' B' e s r=>hN Z Y H' J' B' e s r (eT.from e h)
 |cnt Z Y=>exact fun H' J' B' e s r=>hN Z Y H' J' B' e s r (eT.from e h)
 |brk Z Y=>exact h
 |ret d Y=>exact h
 |exc x Y=>exact h
 |bad=>exact h
theorem α7(hp:PassesOwn 1e1 X.A 2e1 X.xe)(hc:X.calm=true)(hi:PI X tg iter (rY p fi))(hg:PG X tg (pH p g))(hb:kj X body (iQ p fb))(hs:∀x,foldedSetIterable iter 2e1 x=pure x) :
  PS X (.For tg iter body [] pos) (iQ p (lM fi g fb)):=(KJ hp hc hi hg hb hs).weak fun D B H ⟨J,Z,Y,S,R,P⟩=>by
 refine⟨J,Z,Y,S,R,(aH.bindS P).imp fun src Y1 H1 J1 X1 S1 P1 α hok hJ=>?_⟩
 refine⟨fun i m B2 H2=>m=src.items.length-i/\i<=src.items.length/\∃J2 Z2 Y2,p.X H1 H2 J1 J2/\p.S H2 J2 Y2/\dD p.K H2 J2 Z2 B2/\eT p H2 J2 (iS src g fb (src.items.drop i) Z2 Y2) D,
  ⟨_,rfl,SI _,J1,Z,Y1,lN.refl,S1,R.mono X1,by simpa using P1⟩,?_⟩
 rintro i m B2 H2 ⟨rfl,hi,J2,Z2,Y2,X2,S2,R2,P2⟩
 by_cases hlt:i<src.items.length
 ·rw [UF hlt] at P2;unfold iS at P2;by_cases ho:cN src Y2
  ·rw [Qu ho] at P2;obtain⟨hgo,hy⟩:=(hJ H2 J2 Y2 X2 S2 ho).1 i _ (Ux hlt)
   refine .inr ⟨hgo,fun B' H'=>i+1<=src.items.length/\∃J2 Z2 Y2,p.X H1 H' J1 J2/\p.S H' J2 Y2/\dD p.K H' J2 Z2 B'/\eT p H' J2 (iS src g fb (src.items.drop (i+1)) Z2 Y2) D,
    fun B' H' ⟨h1,h2⟩=>⟨_,by omega,rfl,h1,h2⟩,fun x H3 yx=>?_⟩
   obtain⟨X3,S3,R3⟩:=hy x H3 yx;refine⟨J2,Z2,Y2,_,S3,R2.mono X3,R3,(aH.from X3 (aH.bindS P2)).imp fun Z4 Y4 H4 J4 X4 S4 P4 B4 R4=>⟨J4,Z4,Y4,S4,R4,uO P4 fun Z5 Y5 H5 J5 B5 X5 S5 R5 P5=>⟨hlt,J5,Z5,Y5,((X2.trans X3).trans X4).trans X5,S5,R5,P5⟩⟩⟩
  ·rw[Qv ho]at P2;exact P2.elim
 ·have e : i = src.items.length := by omega
  subst e;rw[UG]at P2;unfold iS at P2;by_cases ho:cN src Y2
  ·rw[Qu ho]at P2;exact .inl ⟨(hJ H2 J2 Y2 X2 S2 ho).2,P2 H2 J2 B2 lN.refl S2 R2⟩
  ·rw[Qv ho]at P2;exact P2.elim
theorem Ef(hp:PassesOwn 1e1 X.A 2e1 X.xe)(hc:PT X c (iw p ft))(hb:kj X body (iQ p fb)):PS X (.While c body [] pos) (iQ p (pT n ft fb)):=
 (EM hp hc hb).weak fun D B H ⟨J, Z, Y, S, R, P⟩ => by
  refine⟨fun m B2 H2=>∃J2 Z2 Y2,p.S H2 J2 Y2/\dD p.K H2 J2 Z2 B2/\eT p H2 J2 (jD ft fb m Z2 Y2) D,⟨n,J,Z,Y,S,R,P⟩,?_⟩
  rintro m B2 H2 ⟨J2,Z2,Y2,S2,R2,P2⟩
  cases m with
  |zero=>exact P2.elim
  |succ m=>
   unfold jD at P2;refine⟨J2,Z2,Y2,S2,R2,(aH.bindS P2).imp fun k Y3 H3 J3 X3 S3 P3=>?_⟩;cases k with
   |true=>
    rw[Qu rfl]at P3⊢
    exact⟨fun B' H'=>∃J2 Z2 Y2,p.S H' J2 Y2/\dD p.K H' J2 Z2 B'/\eT p H' J2 (jD ft fb m Z2 Y2) D,fun B' H' h=>⟨m,Sy _,h⟩,
     J3,Z2,Y3,S3,R2.mono X3,uO P3 fun Z5 Y5 H5 J5 B5 X5 S5 R5 P5=>⟨J5,Z5,Y5,S5,R5,P5⟩⟩
   |false=>
    rw[Qv Q0]at P3⊢;exact P3 H3 J3 B2 lN.refl S3 (R2.mono X3)
end
section
variable{p:Pa}{X:Cx}
theorem Ci{Y:aB}{xs:List D}(S:p.S H J Y)(hn:Y[n]?=some 2e9)(ha:J[n]?=some a):ze p (OM p.K a) (.own n xs) H J:=by
 intro H2 J2 Y2 X2 S2 ho;obtain⟨a',ea,vs,hH,rr⟩:=S2.at ho;rw[X2.pre n a ha]at ea;cases ea;refine⟨fun i d hd=>?_,vs,gP.of hH,by rw[rr.length];exact Q8 _⟩;obtain⟨v,hv,rv⟩:=rr.get hd;refine⟨⟨vs,v,gP.of hH,hv⟩,fun x H3 ⟨e,hx⟩=>?_⟩;subst e;have:=hx vs (gP.of hH);rw[hv]at this;cases this;exact⟨lN.refl,S2,rv⟩
theorem Fp{xs:List D}(h:IK p.K H a vs)(r:p.Rs H J xs vs):ze p (OM p.K a) (.fix xs) H J:=by
 intro H2 J2 Y2 X2 S2 ho;have h2:=(X2.frz a vs h).sq;have rr:=r.mono X2;refine⟨fun i d hd=>?_,vs,h2,by rw[rr.length];exact Q8 _⟩;obtain⟨v,hv,rv⟩:=rr.get hd;refine⟨⟨vs,v,h2,hv⟩,fun x H3 ⟨e,hx⟩=>?_⟩;subst e;have:=hx vs h2;rw[hv]at this;cases this;exact⟨lN.refl,S2,rv⟩
theorem Fo{xs:List D}(h:gh p.K H a vs)(r:p.Rs H J xs vs):ze p (OW p.K a) (.fix xs) H J:=by
 intro H2 J2 Y2 X2 S2 ho;have h2:=X2.tup a vs h;have rr:=r.mono X2;refine⟨fun i d hd=>?_,vs,h2,by rw[rr.length];exact Q8 _⟩;obtain⟨v,hv,rv⟩:=rr.get hd;refine⟨⟨vs,v,h2,hv⟩,fun x H3 ⟨e,hx⟩=>?_⟩;subst e;have:=hx vs h2;rw[hv]at this;cases this;exact⟨lN.refl,S2,rv⟩
def bu(lo:Int)(n:Nat):List D:=(List.range n).map fun(i:Nat)=>D.int (lo+(i:Int))
theorem yd(lo:Int)(n:Nat):ze p (Mt lo n) (.fix (bu lo n)) H J:=by
 intro H2 J2 Y2 X2 S2 ho;refine⟨fun i d hd=>?_,by simp[pJ.items,bu,Mt]⟩;have hd':(bu lo n)[i]?=some d:=hd;unfold bu at hd';rw[Rv]at hd';by_cases hi:i<n
 ·rw[Uj hi]at hd';cases hd';refine⟨hi,fun x H3 ⟨e,hx⟩=>?_⟩;subst e;subst hx;exact⟨lN.refl,S2,ax.mpr rfl⟩
 ·rw[Uk 6e3]at hd';cases hd'
def zb(d:D)(Y:aB):ai pJ:=match d with
 |.tup xs=>.ok (.fix xs) Y
 |.frz xs=>.ok (.fix xs) Y
 |.obj n=>match Y[n]? with
  |some 2e9=>.ok (.own n xs) Y
  |_=>.bad
 |_=>.bad
def fL(f:ME):MI:=fun Z Y=>(f Z Y).bind zb
def Po(K:W.Frag)(tl:TE):TI:=fun B H R=>tl B H fun x H1=>∃a,x=.ref a/\(((∃xs,gP K H1 a xs)/\R (OM K a) H1)\/((∃xs,gh K H1 a xs)/\R (OW K a) H1))
theorem KO{l:Expr}{tl:TE}(hl:PE X l tl):PI X tg l (Po X.K tl):=by
 intro pins s B H R I h;refine dF (hl pins s B H _ I h) fun v s1 ⟨x,H1,I1,r1,q1⟩=>?_;obtain⟨a,e,q⟩:=q1;subst e;cases r1;rcases q with⟨⟨xs,hq⟩,q⟩|⟨⟨xs,hq⟩,q⟩
 ·obtain ⟨its, rv, p, hz⟩ := I1.list hq;refine T9 p.isList ?_;refine⟨8e2,[8e2],_,_,H1,rfl,I1.kept (t':=s1.toks) fun b o e=>Q6 _ e,Bt a _,⟨_,Q7 _ rfl,rfl,rfl⟩,fun b hb=>?_,q⟩;have e:b=s1.heap.objs.size:=by simpa using hb
  subst e;exact I1.fpOk 8e0 (I1.hok.fresh 8e0)
 ·obtain ⟨its, rv, p, hz⟩ := I1.tuple hq;refine SR (show s1.heap.IsTuple a 2e7 from p) ?_;refine⟨8e2,[8e2],_,_,H1,rfl,I1.kept (t':=s1.toks) fun b o e=>Q6 _ e,zB a _,⟨_,Q7 _ rfl,rfl,rfl⟩,fun b hb=>?_,q⟩;have e:b=s1.heap.objs.size:=by simpa using hb
  subst e;exact I1.fpOk 8e0 (I1.hok.fresh 8e0)
theorem Kg{l:Expr}{f:ME}(hK:X.K=p.K)(hl:PE X l (tD p f)):PI X tg l (rY p (fL f)):=(KO hl).weak fun B H R ⟨J,Z,Y,S,Rr,P⟩=>by
 refine⟨J,Z,Y,S,Rr,(aH.bind P).imp fun d Y1 H1 J1 X1 S1 P1 v rv=>?_⟩;rw[hK];cases d with
 |tup xs=>
  obtain⟨a,vs,rfl,h1,h2⟩:=aN.mp rv;exact⟨a,rfl,.inr ⟨⟨vs,h1⟩,P1.now S1 _ trivial (Fo h1 h2)⟩⟩
 |frz xs=>
  obtain⟨a,vs,rfl,h1,h2⟩:=bI.mp rv;exact⟨a,rfl,.inl ⟨⟨vs,h1.sq⟩,P1.now S1 _ trivial (Fp h1 h2)⟩⟩
 |obj n=>
  obtain⟨a,rfl,ha⟩:=aY.mp rv;unfold zb at P1;dsimp only at P1;split at P1
  ·rename_i xs hx;obtain⟨a',ea,vs,hH,rr⟩:=S1.at hx;rw[ha]at ea;cases ea;exact⟨a,rfl,.inl ⟨⟨vs,gP.of hH⟩,P1.now S1 _ hx (Ci S1 hx ha)⟩⟩
  ·exact P1.elim
 |non=>exact P1.elim
 |bl b=>exact P1.elim
 |int i=>exact P1.elim
 |str x=>exact P1.elim
def km(ds:List D)(Y:aB):ai pJ:=match ds with
 |[.int j]=>if -(2^62)<=j/\j<2^62 then .ok (.fix (bu 0 j.toNat)) Y else .bad
 |_=>.bad
def pM(ds:List D)(Y:aB):ai pJ:=match ds with
 |[.int i,.int j]=>if -(2^62)<=i/\i<2^62/\-(2^62)<=j/\j<2^62 then .ok (.fix (bu i (j-i).toNat)) Y else .bad
 |_=>.bad
def fM(f:List D->aB->ai pJ)(fa:MA):MI:=fun Z Y=>(fa Z Y).bind f
theorem BK{a:Expr}{fa:MA}(hg:Gl X "range")(hm:X.mg "range" = none)(ha:PA X [a] (mX p fa))(hs:starEach [a] 2e1=[11e2]):PI X tg (.Call (.Name "range" px) [a] [] pos) (rY p (fM km fa)):=
 (BW hg hm ha hs).weak fun B H R ⟨J, Z, Y, S, Rr, P⟩ => ⟨J, Z, Y, S, Rr, (aH.bind P).imp fun ds Y1 H1 J1 X1 S1 P1 vs rv => by
  unfold km at P1;split at P1
  ·rename_i j;obtain⟨v,rfl,r1⟩:=rv.one;rw[ax.mp r1];split at P1
   ·rename_i hj;exact⟨j,rfl,hj.1,hj.2,P1.now S1 _ trivial (yd 0 _)⟩
   ·exact P1.elim
  ·exact P1.elim⟩
theorem BJ{a b:Expr}{fa:MA}(hg:Gl X "range")(hm:X.mg "range" = none)(ha:PA X [a,b] (mX p fa))(hs:starEach [a,b] 2e1=[11e2,(false,eval b 2e1)])(hs2:starEach [b] 2e1=[(false,eval b 2e1)]):PI X tg (.Call (.Name "range" px) [a,b] [] pos) (rY p (fM pM fa)):=
 (BV hg hm ha hs hs2).weak fun B H R ⟨J, Z, Y, S, Rr, P⟩ => ⟨J, Z, Y, S, Rr, (aH.bind P).imp fun ds Y1 H1 J1 X1 S1 P1 vs rv => by
  unfold pM at P1;split at P1
  ·rename_i i j;obtain⟨v,u,rfl,r1,r2⟩:=rv.two;rw[ax.mp r1,ax.mp r2];split at P1
   ·rename_i hj;exact⟨i,j,rfl,hj,P1.now S1 _ trivial (yd i _)⟩
   ·exact P1.elim
  ·exact P1.elim⟩
theorem uP{b:Bool}{src:pJ}{xs:List D}(hi:src.items=fP 0 xs)(hs:∀H2 J2 Y2,p.X H H2 J J2->p.S H2 J2 Y2->cN src Y2->∃vs,Sq b p.K H2 a vs/\p.Rs H2 J2 xs vs ):ze p (OX b p.K a) src H J:=by
 intro H2 J2 Y2 X2 S2 ho;obtain⟨vs,h2,rr⟩:=hs H2 J2 Y2 X2 S2 ho;rw[hi];refine⟨fun i d hd=>?_,vs,h2,by rw[rr.length,uX]⟩;rw[uY]at hd;cases e:xs[i]? with
 |none=>rw[e]at hd;cases hd
 |some y=>
  rw[e]at hd;cases hd;obtain⟨v,hv,rv⟩:=rr.get e;refine⟨⟨vs,v,h2,hv⟩,fun x H3 ⟨q,w,e1,hq,e2,hx⟩=>?_⟩;subst e1 e2;have:=hx vs h2;rw[hv]at this;cases this;refine⟨bW hq,S2.tuple hq,aN.mpr ⟨q,_,rfl,gh.of cz,?_⟩⟩;rw[Nat.zero_add];exact Reps.cons 11e3 (Reps.cons (rv.mono (bW hq)) Reps.nil)
def qI(ds:List D)(Y:aB):ai pJ:=match ds with
 |[.tup xs]=>.ok (.fix (fP 0 xs)) Y
 |[.obj n]=>match Y[n]? with
  |some 2e9=>.ok (.eno n xs) Y
  |_=>.bad
 |_=>.bad
theorem GP{a:Expr}{fa:MA}{tpos:Pos}(hK:X.K=p.K)(hg:Gl X "enumerate")(hm:X.mg "enumerate" = none)(ha:PA X [a] (mX p fa))(hs:starEach [a] 2e1=[11e2]):
  PI X (.Tuple elts k1 tpos) (.Call (.Name "enumerate" px) [a] [] pos) (rY p (fM qI fa)):=
 (Hk hg hm ha hs).weak fun B H R ⟨J, Z, Y, S, Rr, P⟩ => ⟨J, Z, Y, S, Rr, (aH.bind P).imp fun ds Y1 H1 J1 X1 S1 P1 vs rv => by
  rw[hK];unfold qI at P1;split at P1
  ·rename_i xs;obtain⟨v,rfl,r1⟩:=rv.one;obtain⟨a,us,rfl,h1,h2⟩:=aN.mp r1;exact⟨a,false,rfl,⟨us,h1⟩,P1.now S1 _ trivial (uP (b:=false) rfl fun H2 J2 Y2 X2 S2 _=>⟨us,X2.tup a us h1,h2.mono X2⟩)⟩
  ·rename_i n;split at P1
   ·rename_i xs hx;obtain⟨v,rfl,r1⟩:=rv.one;obtain⟨a,rfl,ha⟩:=aY.mp r1;obtain⟨a',ea,us,hH,rr⟩:=S1.at hx;rw[ha]at ea;cases ea;refine⟨a,true,rfl,⟨us,gP.of hH⟩,P1.now S1 _ hx (uP (b:=true) rfl fun H2 J2 Y2 X2 S2 ho=>?_)⟩;obtain⟨a2,ea2,us2,hH2,rr2⟩:=S2.at (show Y2[n]?=some 2e9 from ho);rw[X2.pre n a ha]at ea2;cases ea2;exact⟨us2,gP.of hH2,rr2⟩
   ·exact P1.elim
  ·exact P1.elim⟩
end
noncomputable def ai.nox(o:ai β):ai β:=match o with
 |.exc _ _=>.bad
 |o=>o
@[simp] theorem ae{a:β}{Y:aB}:(ai.ok a Y).nox=.ok a Y:=UC 8e3
abbrev Pa.nx(p:Pa):Pa:=⟨p.K,p.w,fun _ _ _ _=>False⟩
theorem d7{γ:Type}{p:Pa}{o:ai β}{k:β->aB->ai γ}{R:γ->aB->Hp->List Addr->Prop}(h:aH p H J (o.nox.bind k) R):aH p.nx H J o (fun a Y1 H1 J1=>aH p H1 J1 (k a Y1) R):=by
 cases o with
 |ok a Y=>exact fun H' J' e s=>aH.from e h
 |exc x Y=>exact False.elim h
 |bad=>exact h
def dr(cap:List 4e7)(Z:Ro):Ro:=cap.map fun o=>o.bind fun j=>(Z[j]?).join
theorem dD.cap{Z:Ro}(R:dD K H J Z B)(cap:List 4e7):dD K H J (dr cap Z) (sr cap B):=by
 refine⟨by simp[dr,sr],fun i d h=>?_⟩;unfold dr at h;unfold sr;rw[Rv]at h⊢;cases e:cap[i]? with
 |none=>rw[e]at h;cases h
 |some o=>
  rw[e]at h;cases o with
  |none=>simp at h
  |some j=>
   simp at h⊢
   obtain⟨v,h1,h2⟩:=R.at' j d (by
    cases e2:Z[j]? with
    |none=>rw[e2]at h;simp at h
    |some x=>rw[e2]at h;simp at h;rw[h])
   exact⟨v,by rw[h1];rfl,h2⟩
def qG(n:Nat)(y:D)(Y:aB):ai Unit:=match Y[n]? with
 |some (.lst ys)=>if ys.length<sizeLine then .ok () (Y.set n (.lst (ys++[y]))) else .bad
 |_=>.bad
open Classical in
noncomputable def compLoop(src:pJ)(n:Nat)(g:MG)(t:MT)(e:ME):List D->Ro->aB->ai D
 |[],_,Y=>if cN src Y then .ok (.obj n) Y else .bad
 |d::r,Z,Y=>if cN src Y then (g d Z Y).nox.bind fun Z1 Y1=>(t Z1 Y1).nox.bind fun b Y2=>if b=true then (e Z1 Y2).nox.bind fun y Y3=>(qG n y Y3).bind fun _ Y4=>compLoop src n g t e r Z1 Y4 else compLoop src n g t e r Z1 Y2 else .bad
def bY(fi:MI)(cap:List 4e7)(g:MG)(t:MT)(e:ME):ME:=fun Z Y=>(fi Z Y).bind fun src Y1=>compLoop src 6e9 g t e src.items (dr cap Z) (Y1++[.lst []])
def bp:MT:=fun _ Y=>.ok true Y
theorem xQ{p:Pa}{y:D}{Y:aB}{R:Unit->aB->Hp->List Addr->Prop}(S:p.S H J Y)(ha:J[n]?=some acc)(rv:p.R H J y v)(P:aH p H J (qG n y Y) R):
  ∃ys,H acc=some (.lst ys)/\ys.length<sizeLine/\∃Y',p.X H (cV H acc (.lst (ys++[v]))) J J/\p.S (cV H acc (.lst (ys++[v]))) J Y'/\R () Y' (cV H acc (.lst (ys++[v]))) J:=by
 unfold qG at P;split at P
 ·rename_i xs hx;obtain⟨a,ea,us,hH,rr⟩:=S.at hx;rw[ha]at ea;cases ea;split at P
  ·rename_i hl;have q:=rr.snoc rv;exact⟨us,hH,by rw[rr.length];exact hl,_,iG hH,S.put hx ha hH q,P _ _ (iG hH) (S.put hx ha hH q)⟩
  ·exact P.elim
 ·exact P.elim
section
variable{p:Pa}{X:Cx}{ifs:List Expr}{cap:List 4e7}{fi:MI}{g:MG}{t:MT}{e:ME}
theorem u4{Q:VK}(h:tD p (bY fi cap g t e) B H Q):Dh (rY p fi) cap (pH p.nx g) (iw p.nx t) (tD p.nx e) B H Q:=by
 obtain⟨J,Z,Y,S,R,P⟩:=h;refine⟨J,Z,Y,S,R,(aH.bind P).imp fun src Y1 H1 J1 X1 S1 P1 α hok hJ acc hacc=>?_⟩;obtain⟨x1,s1,_⟩:=du (ds:=[]) (vs:=[]) S1 hacc Reps.nil;have hn:(J1++[acc])[6e9]?=some acc:=by rw[<- S1.len];simp
 refine⟨fun i m B2 H2=>m=src.items.length-i/\i<=src.items.length/\∃J2 Z2 Y2,p.X H1 H2 J1 J2/\p.S H2 J2 Y2/\dD p.K H2 J2 Z2 B2/\J2[6e9]?=some acc/\aH p H2 J2 (compLoop src 6e9 g t e (src.items.drop i) Z2 Y2) (RV p Q),
  ⟨_,rfl,SI _,J1++[acc],dr cap Z,Y1++[.lst []],x1,s1,((R.mono X1).cap cap).mono x1,hn,by simpa using aH.from x1 P1⟩,?_⟩
 rintro i m B2 H2 ⟨rfl,hi,J2,Z2,Y2,X2,S2,R2,a2,P2⟩
 by_cases hlt:i<src.items.length
 ·rw [UF hlt] at P2;unfold compLoop at P2;by_cases ho:cN src Y2
  ·rw [Qu ho] at P2;obtain⟨hgo,hy⟩:=(hJ H2 J2 Y2 X2 S2 ho).1 i _ (Ux hlt)
   refine .inr ⟨hgo,fun B' H'=>i+1<=src.items.length/\∃J2 Z2 Y2,p.X H1 H' J1 J2/\p.S H' J2 Y2/\dD p.K H' J2 Z2 B'/\J2[6e9]?=some acc/\aH p H' J2 (compLoop src 6e9 g t e (src.items.drop (i+1)) Z2 Y2) (RV p Q),
    fun B' H' ⟨h1,h2⟩=>⟨_,by omega,rfl,h1,h2⟩,fun x H3 yx=>?_⟩
   obtain⟨X3,S3,R3⟩:=hy x H3 yx;refine⟨J2,Z2,Y2,_,S3,R2.mono X3,R3,(aH.from (p:=p.nx) X3 (d7 P2)).imp fun Z4 Y4 H4 J4 X4 S4 P4 B4 R4=>?_⟩;refine⟨J4,Z4,Y4,S4,R4,(d7 P4).imp fun b Y5 H5 J5 X5 S5 P5=>?_⟩;have xx:p.X H1 H5 J1 J5:=((X2.trans X3).trans X4).trans X5;have a5:J5[6e9]?=some acc:=X5.pre _ _ (X4.pre _ _ (X3.pre _ _ a2));cases b with
   |false=>
    rw[Qv Q0]at P5;refine Ng ?_;exact⟨hlt,J5,Z4,Y5,xx,S5,R4.mono X5,a5,P5⟩
   |true=>
    rw[Qu rfl]at P5;refine Nf ?_;refine⟨J5,Z4,Y5,S5,R4.mono X5,(d7 P5).imp fun y Y6 H6 J6 X6 S6 P6 v rv=>?_⟩;obtain⟨ys,e1,e2,Y7,x7,s7,q7⟩:=xQ (p:=p) S6 (X6.pre _ _ a5) rv (aH.bind P6);exact⟨ys,e1,e2,hlt,J6,Z4,Y7,(xx.trans X6).trans x7,s7,((R4.mono X5).mono X6).mono x7,X6.pre _ _ a5,q7⟩
  ·rw[Qv ho]at P2;exact P2.elim
 ·have e : i = src.items.length := by omega
  subst e;rw[UG]at P2;unfold compLoop at P2;by_cases ho:cN src Y2
  ·rw[Qu ho]at P2;exact .inl ⟨(hJ H2 J2 Y2 X2 S2 ho).2,P2 H2 J2 lN.refl S2 _ (aY.mpr ⟨acc,rfl,a2⟩)⟩
  ·rw[Qv ho]at P2;exact P2.elim
theorem GA{X:Cx}:rZ X [] (iw p bp):=fun pins s B H Q I h=>by
 obtain⟨J,Z,Y,S,R,P⟩:=h;exact Hb pins s B H Q I (P.now S)
theorem Gz{X:Cx}{t:MT}(h:PT X c (iw p t)):rZ X [c] (iw p t):=G9 h
theorem GU(hc:X.calm=true)(S:bZ X.N 2e1 scope Nc cap)(hi:PI X tg iter (rY p fi))
  (hg:∀cl C s H fp,PG 0e7 tg (pH p.nx g)) (ht:∀cl C s H fp,rZ 0e7 ifs (iw p.nx t)) (he:∀cl C s H fp,PE 0e7 elt (tD p.nx e))
  (hs:∀x,foldedSetIterable iter 2e1 x=pure x):PE X 3e3 (tD p (bY fi cap g t e)):=
 (Hq hc S hi hg ht he hs).weak fun B H Q h=>u4 h
theorem GD(hc:X.calm=true)(hN:X.N.Nodup)(hix:X.N[i]?=some x)(hx:X.env.scope.names.lookup x=some .local)(S:bZ X.N 2e1 scope Nc cap)(hi:PI X tg iter (rY p fi))(hg:∀cl C s H fp,PG 0e7 tg (pH p.nx g))(ht:∀cl C s H fp,rZ 0e7 ifs (iw p.nx t))(he:∀cl C s H fp,PE 0e7 elt (tD p.nx e))(hsw:swapsWith 3e3 (some (.Name x pos1)) pos2.line 2e1=pure true)(hs:∀x,foldedSetIterable iter 2e1 x=pure x):
  PS X (.Assign [.Name x pos1] 3e3 pos2) (iQ p (bx (bY fi cap g t e) (ak i))):=
 (Hf hc hN hix hx S hi hg ht he hsw hs).weak fun D B H h => by
  obtain⟨J,Z,Y,S,R,P⟩:=h;refine u4 ⟨J,Z,Y,S,R,(aH.bindS P).imp fun d Y1 H1 J1 X1 S1 P1 v rv=>?_⟩;exact P1 H1 J1 _ lN.refl S1 ((R.mono X1).set i rv)
end
abbrev MB:=Nat->Ro->aB->ai Ro
def sm(e:ME):MB:=fun n Z Y=>(e Z Y).nox.bind fun y Y1=>(qG n y Y1).bind fun _ Y2=>.ok Z Y2
open Classical in
noncomputable def ji(src:pJ)(n:Nat)(g:MG)(t:MT)(fb:MB):List D->Ro->aB->ai Ro
 |[],Z,Y=>if cN src Y then .ok Z Y else .bad
 |d::r,Z,Y=>if cN src Y then (g d Z Y).nox.bind fun Z1 Y1=>(t Z1 Y1).nox.bind fun b Y2=>if b=true then (fb n Z1 Y2).nox.bind fun Z2 Y3=>ji src n g t fb r Z2 Y3 else ji src n g t fb r Z1 Y2 else .bad
def vA(fi:MI)(g:MG)(t:MT)(fb:MB):MB:=fun n Z Y=>(fi Z Y).nox.bind fun src Y1=>ji src n g t fb src.items Z Y1
def nP(fi:MI)(cap:List 4e7)(g:MG)(t:MT)(fb:MB):ME:=fun Z Y=>(fi Z Y).bind fun src Y1=>(ji src 6e9 g t fb src.items (dr cap Z) (Y1++[.lst []])).bind fun _ Y2=>.ok (.obj 6e9) Y2
section
variable{p:Pa}
def wR(p:Pa)(fb:MB)(acc:Addr):CU:=fun B H N=>∃J Z Y n,p.S H J Y/\dD p.K H J Z B/\J[n]?=some acc/\aH p H J (fb n Z Y) 12e5
theorem Cu{e:ME}{N:St->Hp->Prop}(h:wR p (sm e) acc B H N):Dg (tD p.nx e) acc B H N:=by
 obtain⟨J,Z,Y,n,S,R,a,P⟩:=h;refine⟨J,Z,Y,S,R,(d7 P).imp fun y Y6 H6 J6 X6 S6 P6 v rv=>?_⟩;obtain⟨ys,e1,e2,Y7,x7,s7,q7⟩:=xQ (p:=p) S6 (X6.pre _ _ a) rv (aH.bind P6);exact⟨ys,e1,e2,q7.now s7 B ((R.mono X6).mono x7)⟩
theorem nW{src:pJ}{g:MG}{t:MT}{fb:MB}{α:It}{H1:Hp}{J1 J0:List Addr}{Z:Ro}{Y1:aB}{N:St->Hp->Prop}(X0:p.X H0 H1 J0 J1)(S1:p.S H1 J1 Y1)(R:dD p.K H1 J1 Z B)(hn:J1[n]?=some acc)(hJ:ze p α src H0 J0)(P1:aH p H1 J1 (ji src n g t fb src.items Z Y1) 12e5):OD α (pH p.nx g) (iw p.nx t) (wR p.nx fb acc) N B H1:=by
 refine⟨fun i m B2 H2=>m=src.items.length-i/\i<=src.items.length/\∃J2 Z2 Y2,p.X H0 H2 J0 J2/\p.S H2 J2 Y2/\dD p.K H2 J2 Z2 B2/\J2[n]?=some acc/\aH p H2 J2 (ji src n g t fb (src.items.drop i) Z2 Y2) 12e5,
  ⟨_,rfl,SI _,J1,Z,Y1,X0,S1,R,hn,by simpa using P1⟩,?_⟩
 rintro i m B2 H2 ⟨rfl,hi,J2,Z2,Y2,X2,S2,R2,a2,P2⟩
 by_cases hlt:i<src.items.length
 ·rw [UF hlt] at P2;unfold ji at P2;by_cases ho:cN src Y2
  ·rw [Qu ho] at P2;obtain⟨hgo,hy⟩:=(hJ H2 J2 Y2 X2 S2 ho).1 i _ (Ux hlt)
   refine .inr ⟨hgo,fun B' H'=>i+1<=src.items.length/\∃J2 Z2 Y2,p.X H0 H' J0 J2/\p.S H' J2 Y2/\dD p.K H' J2 Z2 B'/\J2[n]?=some acc/\aH p H' J2 (ji src n g t fb (src.items.drop (i+1)) Z2 Y2) 12e5,
    fun B' H' ⟨h1,h2⟩=>⟨_,by omega,rfl,h1,h2⟩,fun x H3 yx=>?_⟩
   obtain⟨X3,S3,R3⟩:=hy x H3 yx;refine⟨J2,Z2,Y2,_,S3,R2.mono X3,R3,(aH.from (p:=p.nx) X3 (d7 P2)).imp fun Z4 Y4 H4 J4 X4 S4 P4 B4 R4=>?_⟩;refine⟨J4,Z4,Y4,S4,R4,(d7 P4).imp fun b Y5 H5 J5 X5 S5 P5=>?_⟩;have xx:p.X H0 H5 J0 J5:=((X2.trans X3).trans X4).trans X5;have a5:J5[n]?=some acc:=X5.pre _ _ (X4.pre _ _ (X3.pre _ _ a2));cases b with
   |false=>
    rw[Qv Q0]at P5;refine Ng ?_;exact⟨hlt,J5,Z4,Y5,xx,S5,R4.mono X5,a5,P5⟩
   |true=>
    rw[Qu rfl]at P5;refine Nf ?_;refine⟨J5,Z4,Y5,n,S5,R4.mono X5,a5,(d7 P5).imp fun Z6 Y6 H6 J6 X6 S6 P6 B' r'=>?_⟩;exact⟨hlt,J6,Z6,Y6,xx.trans X6,S6,r',X6.pre _ _ a5,P6⟩
  ·rw[Qv ho]at P2;exact P2.elim
 ·have e : i = src.items.length := by omega
  subst e;rw[UG]at P2;unfold ji at P2;by_cases ho:cN src Y2
  ·rw[Qu ho]at P2;exact .inl ⟨(hJ H2 J2 Y2 X2 S2 ho).2,P2.now S2 _ R2⟩
  ·rw[Qv ho]at P2;exact P2.elim
theorem z7{fi:MI}{g:MG}{t:MT}{fb:MB}{N:St->Hp->Prop}(h:wR p.nx (vA fi g t fb) acc B H N):DF (rY p.nx fi) (pH p.nx g) (iw p.nx t) (wR p.nx fb acc) B H N:=by
 obtain⟨J,Z,Y,n,S,R,a,P⟩:=h;refine⟨J,Z,Y,S,R,(d7 P).imp fun src Y1 H1 J1 X1 S1 P1 α hok hJ=>?_⟩;exact nW (p:=p.nx) lN.refl S1 (R.mono X1) (X1.pre _ _ a) hJ P1
theorem Ad{fi:MI}{cap:List 4e7}{g:MG}{t:MT}{fb:MB}{Q:VK}(h:tD p (nP fi cap g t fb) B H Q):nK (fun _=>.lst []) (rY p fi) cap (pH p.nx g) (iw p.nx t) (fun acc=>wR p.nx fb acc) B H Q:=by
 obtain⟨J,Z,Y,S,R,P⟩:=h;refine⟨J,Z,Y,S,R,(aH.bind P).imp fun src Y1 H1 J1 X1 S1 P1 α hok hJ acc hacc=>?_⟩;obtain⟨x1,s1,_⟩:=du (ds:=[]) (vs:=[]) S1 hacc Reps.nil;have hn:(J1++[acc])[6e9]?=some acc:=by rw[<- S1.len];simp
 refine nW (p:=p) x1 s1 (((R.mono X1).cap cap).mono x1) hn hJ ((aH.from x1 (aH.bind P1)).imp fun Z' Y' H' J' X' S' P' B' r'=>?_);exact P'.now S' _ (aY.mpr ⟨acc,rfl,X'.pre _ _ hn⟩)
variable{X:Cx}{cl0 cl:Comprehension}{rest:List Comprehension}{cap:List 4e7}{fi:MI}{g:MG}{t:MT}{fb:MB}{d:Nat}
theorem GY{f:ME}(hg:gens[d]?=none)(hxe:X.xe=vc)(hel:PE X elt (tD p.nx f)):vb X (.ListComp elt gens scope pos) d acc (wR p.nx (sm f) acc):=fun pins s B H N I h=>sJ hg hxe hel pins s B H N I (Cu (p:=p.nx) h)
theorem EC(he:nN e=true)(hz:∀g∈clausesOf e,g.is_async=0)(hg:(clausesOf e)[d]?=some cl)(hxe:X.xe=vc)(hc:X.calm=true)(hi:PI X cl.target cl.iter (rY p.nx fi))(hgc:PG X cl.target (pH p.nx g))(htc:rZ X cl.ifs (iw p.nx t))(hb:vb X e (d+1) acc (wR p.nx fb acc))
  (hs:∀x,foldedSetIterable cl.iter 2e1 x=pure x):vb X e d acc (wR p.nx (vA fi g t fb) acc):=fun pins s B H N I h=>BZ he hz hg hxe hc hi hgc htc hb hs pins s B H N I (z7 h)
theorem Ez(hc:X.calm=true)(hz:∀g∈cl0::rest,g.is_async=0)(S:bZ X.N 2e1 scope Nc cap)(hi:PI X cl0.target cl0.iter (rY p fi))
  (hg:∀cl C s H fp,PG 0e7 cl0.target (pH p.nx g)) (ht:∀cl C s H fp,rZ 0e7 cl0.ifs (iw p.nx t)) (hb:∀cl C s H fp acc,vb 0e7 8e5 1 acc (wR p.nx fb acc))
  (hs:∀x,foldedSetIterable cl0.iter 2e1 x=pure x):PE X 8e5 (tD p (nP fi cap g t fb)):=
 (xS hc hz S hi hg ht hb hs).weak fun B H Q h=>Ad h
end
mutual
def D.low(n:Nat):D->Prop
 |.tup xs=>D.lows n xs
 |.frz xs=>D.lows n xs
 |.obj m=>m<n
 |_=>True
def D.lows(n:Nat):List D->Prop
 |[]=>True
 |x::xs=>x.low n/\D.lows n xs
end
def O.low(n:Nat):O->Prop
 |.lst xs=>D.lows n xs
 |_=>True
section
variable{J':List Addr}
mutual
theorem aQ.low:∀{d:D}{v:V},aQ K H J d v->d.low J.length
 |.non,_,_=>trivial
 |.bl _,_,_=>trivial
 |.int _,_,_=>trivial
 |.str _,_,_=>trivial
 |.tup xs,_,h=>by
  obtain⟨a,vs,rfl,h1,h2⟩:=aN.mp h;dsimp[D.low];exact Reps.low h2
 |.frz xs,_,h=>by
  obtain⟨a,vs,rfl,h1,h2⟩:=bI.mp h;dsimp[D.low];exact Reps.low h2
 |.obj n,_,h=>by
  obtain⟨a,rfl,h1⟩:=aY.mp h;dsimp[D.low];exact(QM.mp h1).1
theorem Reps.low:∀{ds:List D}{vs:List V},Reps K H J ds vs->D.lows J.length ds
 |[],_,_=>trivial
 |d::ds,_,h=>by
  dsimp[Reps]at h;obtain⟨v,r,rfl,h1,h2⟩:=h;dsimp[D.lows];exact⟨aQ.low h1,Reps.low h2⟩
end
mutual
theorem aQ.cut{n:Nat}(e:∀m,m<n->J'[m]?=J[m]?):∀{d:D}{v:V},aQ K H J' d v->d.low n->aQ K H J d v
 |.non,_,h,_=>by dsimp[aQ]at h⊢;exact h
 |.bl _,_,h,_=>by dsimp[aQ]at h⊢;exact h
 |.int _,_,h,_=>by dsimp[aQ]at h⊢;exact h
 |.str _,_,h,_=>by dsimp[aQ]at h⊢;exact h
 |.tup xs,_,h,b=>by
  obtain⟨a,vs,rfl,h1,h2⟩:=aN.mp h;dsimp[D.low]at b;exact aN.mpr ⟨a,vs,rfl,h1,Reps.cut e h2 b⟩
 |.frz xs,_,h,b=>by
  obtain⟨a,vs,rfl,h1,h2⟩:=bI.mp h;dsimp[D.low]at b;exact bI.mpr ⟨a,vs,rfl,h1,Reps.cut e h2 b⟩
 |.obj m,_,h,b=>by
  obtain⟨a,rfl,h1⟩:=aY.mp h;dsimp[D.low]at b;exact aY.mpr ⟨a,rfl,by rw[<- e m b];exact h1⟩
theorem Reps.cut{n:Nat}(e:∀m,m<n->J'[m]?=J[m]?):∀{ds:List D}{vs:List V},Reps K H J' ds vs->D.lows n ds->Reps K H J ds vs
 |[],_,h,_=>by dsimp[Reps]at h⊢;exact h
 |d::ds,_,h,b=>by
  dsimp[Reps]at h⊢;obtain⟨v,r,rfl,h1,h2⟩:=h;dsimp[D.lows]at b;exact⟨v,r,rfl,aQ.cut e h1 b.1,Reps.cut e h2 b.2⟩
end
end
def Jz(Y Y':aB)(d:D):Prop:=d.low 8e6/\Y.length<=Y'.length/\∀(i:Nat) o,i<Y.length->Y'[i]?=some o->Y[i]?=some o\/o.low 8e6
open Classical in
def tT(Y:aB)(o:ai D):ai D:=match o with
 |.ok d Y'=>if Jz Y Y' d then .ok d (Y'.take 8e6) else .ok d Y'
 |o=>o
theorem rR{p:Pa}{Y:aB}{o:ai D}{Q:VK}(S:p.S H J Y)(P:aH p H J (tT Y o) (RV p Q)):aH p H J o (RV p Q):=by
 cases o with
 |exc x Y'=>exact P
 |bad=>exact P
 |ok d Y'=>
  unfold tT at P;dsimp only at P;by_cases hg:Jz Y Y' d
  ·rw [Qu hg] at P;obtain⟨g1,g2,g3⟩:=hg;intro H' J' e s v rv
   have al:∀m,m<Y.length->J'[m]?=J[m]?:=fun m hm=>by
    have hm':m<J.length:=by rw[S.len];exact hm
    rw[Ux hm'];exact e.pre m _ (Ux hm')
   refine P H' J ⟨e.tup,e.frz,fun _ _ z=>z⟩ ⟨by rw[Rn,S.len];omega,S.nd,fun n o a h1 h2=>?_⟩ v (aQ.cut al rv g1);have hn:n<Y.length:=by rw[<- S.len];exact(QM.mp h2).1
   rw[Rw hn]at h1;have q:=s.ob n o a h1 (e.pre n a h2)
   have ob:o.low 8e6:=by
    rcases g3 n o hn h1 with z|z
    ·have q0 := S.ob n o a z h2;cases o with
     |lst xs=>obtain⟨vs,_,r⟩:=q0;have:=r.low;rw[S.len]at this;exact this
     |set ks=>trivial
     |dic=>trivial
     |exc c=>trivial
    ·exact z
   cases o with
   |lst xs=>obtain⟨vs,h3,r⟩:=q;exact⟨vs,h3,Reps.cut al r ob⟩
   |set ks=>exact q
   |dic=>exact q
   |exc c=>exact q
  ·rw[Qv hg]at P;exact P
noncomputable def SO.out(o:SO):ai D:=match o with
 |.ret d Y=>.ok d Y
 |.next _ Y=>.ok .non Y
 |.exc x Y=>.exc x Y
 |_=>.bad
def iR(n N:Nat)(fb:MS):List D->aB->ai D:=fun ds Y=>if ds.length=n then tT Y (fb (ds.map some++List.replicate (N-n) none) Y).out else .bad
def FO(p:Pa)(n:Nat)(F:List D->aB->ai D):Sp:=fun vs H Q _=>vs.length=n/\∃J ds Y,p.S H J Y/\p.Rs H J ds vs/\aH p H J (F ds Y) (RV p Q)
structure dk(P:Program)(w:World)(K:W.Frag)(mg:Str->Option Value)(base:Heap)(p:Pa)(k:Nat)(x:Str)(n:Nat)(F:List D->aB->ai D):Prop where
 len:∀ds Y,ds.length≠n->F ds Y=.bad
 fn:∃f fd ps,mg x=some 4e4/\W.keepIn K 4e4=true/\iU K fd ps []/\sf P w K mg base y6 k f fd ps (FO p n F)
section
variable{p:Pa}{X:Cx}{k:Nat}{F:List D->aB->ai D}{a:Expr}{es:List Expr}{fr:MA}
theorem GV (h:dk X.prog X.w X.K X.mg X.base p k x n F) (hr:ip k X.A) (hg:Gl X x) (ha:PA X (a::es) (mX p fr)) (hdb:(x == ("__debug__" : Str))=false) (he:starEach (a::es) 2e1=(false,eval a 2e1)::starEach es 2e1) (hpl:(backTo pos 7e6).any 5e4=false) :
  PE X 7e7 (tD p (aE F fr)):=by
 obtain⟨f,fd,ps,h1,h2,h3,h4⟩:=h.fn;refine(vP (dvs:=[]) (E:=E0) h4 hr hg h1 h2 h3 .nil Dm ha hdb he hpl).weak fun B H Q ⟨J,Z,Y,S,R,P⟩=>⟨J,Z,Y,S,R,(aH.bind P).imp fun ds Y1 H1 J1 X1 S1 P1 vs rv=>?_⟩;show FO p n F (vs++[]) H1 Q E0;rw[Rg];refine⟨?_,J1,ds,Y1,S1,rv,P1⟩;by_cases hl:ds.length=n
 ·rw[rv.length];exact hl
 ·rw[h.len ds Y1 hl]at P1;exact P1.elim
end
theorem lj{ds:List D}(r:Reps K H J ds vs)(m:Nat):dD K H J (ds.map some++List.replicate m none) (vs.map some++List.replicate m none):=by
 refine⟨by simp[r.length],fun i d h=>?_⟩;by_cases hi:i<ds.length
 ·rw [Ru 6e3, Rv] at h;cases e:ds[i]? with
  |none=>rw[e]at h;cases h
  |some x=>
   rw[e]at h;cases h;obtain⟨v,hv,rv⟩:=r.get e;refine⟨v,?_,rv⟩;rw[Ru (by simp[r.length,hi]),Rv,hv];rfl
 ·rw[Rq 6e3,Rt]at h;split at h <;> cases h
theorem Md{p:Pa}{k:Nat}{ps:List Str}{fb:MS}(F:ik K x qual st f fd)(S:aV N ps (av st))(hn:ps.length=n)(hm:mg x=some 4e4)(hb:iU K fd ps [])(body : ∀ (cdv : Value) (A : Around) (outer : List Env) (s : Shared) (H : Hp) (E : XK), ip k 7e0 ->
   kj (sd y6 P w K mg base N qual (av st) f cdv A outer s H E).nox (cR st) (iQ p fb)):dk P w K mg base p (k+1) x n (iR n N.length fb):=by
 refine⟨fun ds Y h=>by unfold iR;rw[Qv h],f,fd,ps,hm,F.kp,hb,?_⟩;refine F.ok S (fun vs H Q E h=>h.1.trans hn.symm) fun cdv A outer s H vs Q E hr h=>?_;refine⟨_,body cdv A outer s H E hr,?_⟩;obtain⟨hl,J,ds,Y,S1,R1,P1⟩:=h;unfold iR at P1;have hd:ds.length=n:=by rw[<- R1.length];exact hl
 rw[Qu hd]at P1;have P2:=rR S1 P1;unfold start;rw[hl];refine⟨J,_,Y,S1,lj R1 _,?_⟩;cases e:fb (ds.map some++List.replicate (N.length-n) none) Y with
 |ret d Y'=>rw[e]at P2;exact fun H' J' v x s r=>P2 H' J' x s v r
 |next Z Y'=>rw[e]at P2;exact fun H' J' B' x s r=>P2 H' J' x s .non (bS.mpr rfl)
 |exc x Y'=>rw[e]at P2;exact P2
 |brk Z Y'=>rw[e]at P2;exact P2.elim
 |cnt Z Y'=>rw[e]at P2;exact P2.elim
 |bad=>rw[e]at P2;exact P2.elim
end L2
variable{Y:L2.aB}{xs:List L2.D}{d:L2.D}{p:L2.Pa}{M:L2.aB}{Y0:L2.aB}{F:List L2.D->L2.aB->L2.ai L2.D}{fr:L2.MA}{o:L2.D->L2.D->L2.aB->L2.ai L2.D}{Z:L2.Ro}{Y1:L2.aB}{fa:L2.ME}{o0:Option L2.D}{fi:L2.MI}{fb:L2.MS}{ds:List L2.D}{o7:Option L2.D}{gd:Int->Int->L2.D}{gg:Int->Int->L2.D}{o4:Option L2.D}{ys:List L2.D}{M0:L2.aB}{y:L2.D}{G:L2.aB}
namespace L2
open PySem PySem.Spec PyProof.Rows RS
section
variable(K:W.Frag)(H:Hp)
mutual
def om:PyData->V->Prop
 |.none,v=>v=.non
 |.bool b,v=>v=.bl b
 |.int i,v=>v=.int i
 |.str x,v=>v=.str x
 |.tuple xs,v=>∃a vs,v=.ref a/\gh K H a vs/\RdPs xs vs
 |.list xs,v=>∃a vs,v=.ref a/\gP K H a vs/\RdPs xs vs
 |.dict _,_=>False
def RdPs:List PyData->List V->Prop
 |[],vs=>vs=[]
 |x::xs,vs=>∃v r,vs=v::r/\om x v/\RdPs xs r
end
end
section
variable{X:Cx}
mutual
theorem dQ(I:bb X pins B H s):∀(d:PyData)(x:V)(v:Value),om X.K H d x->cB x v->∃as,Reads 3e2 v d as
 |.none,_,_,h,r=>by dsimp[om]at h;subst h;cases r;exact⟨_,.none⟩
 |.bool b,_,_,h,r=>by dsimp[om]at h;subst h;cases r;exact⟨_,.bool b⟩
 |.int b,_,_,h,r=>by dsimp[om]at h;subst h;obtain⟨t,rfl⟩:=r;exact⟨_,.int b t⟩
 |.str b,_,_,h,r=>by dsimp[om]at h;subst h;obtain⟨t,rfl⟩:=r;exact⟨_,.str b t⟩
 |.tuple xs,_,_,h,r=>by
  dsimp[om]at h;obtain⟨a,vs,rfl,h1,h2⟩:=h;cases r;obtain⟨its,rv,⟨o,e1,e2,n,e3⟩,_⟩:=I.tuple h1;obtain⟨as,q⟩:=readsAll_of I xs vs its h2 rv;exact⟨_,.tuple e1 e2 e3 (by simpa using q)⟩
 |.list xs,_,_,h,r=>by
  dsimp[om]at h;obtain⟨a,vs,rfl,h1,h2⟩:=h;cases r;obtain⟨its,rv,⟨o,n,e1,e2,_,e3⟩,_⟩:=I.list h1;obtain⟨as,q⟩:=readsAll_of I xs vs its h2 rv;exact⟨_,.list e1 e2 e3 (by simpa using q)⟩
 |.dict _,_,_,h,_=>by dsimp[om]at h
theorem readsAll_of(I:bb X pins B H s):∀(ds:List PyData)(xs:List V)(vs:List Value),RdPs X.K H ds xs->bt xs vs->∃as,ReadsAll 3e2 vs ds as
 |[],_,_,h,r=>by dsimp[RdPs]at h;subst h;cases r;exact⟨_,.nil⟩
 |d::ds,_,_,h,r=>by
  dsimp[RdPs]at h;obtain⟨v,q,rfl,h1,h2⟩:=h;cases r with
  |cons r rr=>
   obtain⟨as,g1⟩:=dQ I d _ _ h1 r;obtain⟨bs,g2⟩:=readsAll_of I ds _ _ h2 rr;exact⟨_,.cons g1 g2⟩
end
def dN(d:PyData):Bool:=d.canLay0&&decide (d.depth<=60)
def C3(K:W.Frag)(neg:Bool):R2:=fun x y H Q=>∃a b,om K H a x/\om K H b y/\dN a=true/\dN b=true/\Q (.bl (if neg then !PyData.eqv a b else PyData.eqv a b)) H
theorem qi{a b:PyData}(ha:dN a=true)(hu:A.units+64<cLine):A.units+min a.depth b.depth<cLine:=by
 unfold dN at ha;dsimp[RW,UH]at ha;have:=Nat.min_le_left a.depth b.depth;omega
theorem cJ{a:PyData}(ha:dN a=true):a.canLay0=true:=by
 unfold dN at ha;dsimp[RW,UH]at ha;exact ha.1
theorem lh{a:PyData}(ha:dN a=true):a.depth<=60:=by
 unfold dN at ha;dsimp[RW,UH]at ha;exact ha.2
theorem Ld(hu:X.A.units+64<cLine):jQ X (compareOp .Eq) (C3 X.K false):=by
 intro pins s B H x y v u Q I rx ry h;obtain⟨a,b,h1,h2,h3,h4,q⟩:=h;obtain⟨as,r1⟩:=dQ I a x v h1 rx;obtain⟨bs,r2⟩:=dQ I b y u h2 ry;exact SeqAt.compareEq_reads r1 r2 (cJ h3) (cJ h4) (qi h3 hu) ⟨.bl _,H,I,rfl,q⟩
theorem K8(hu:X.A.units+64<cLine):jQ X (compareOp .NotEq) (C3 X.K true):=by
 intro pins s B H x y v u Q I rx ry h;obtain⟨a,b,h1,h2,h3,h4,q⟩:=h;obtain⟨as,r1⟩:=dQ I a x v h1 rx;obtain⟨bs,r2⟩:=dQ I b y u h2 ry;exact SeqAt.compareNe_reads r1 r2 (cJ h3) (cJ h4) (qi h3 hu) ⟨.bl _,H,I,rfl,q⟩
noncomputable def C2(K:W.Frag)(neg:Bool):R2:=fun x y H Q=>∃a b xs,om K H a x/\om K H b y/\(b=.list xs\/b=.tuple xs)/\dN a=true/\dN b=true/\Q (.bl (if neg then !(xs.any fun y=>PyData.eqv y a) else xs.any fun y=>PyData.eqv y a)) H
theorem Lc(hu:X.A.units+64<cLine):jQ X (compareOp .In) (C2 X.K false):=by
 intro pins s B H x y v u Q I rx ry h;obtain⟨a,b,xs,h1,h2,hb,h3,h4,q⟩:=h;obtain⟨as,r1⟩:=dQ I a x v h1 rx;obtain⟨bs,r2⟩:=dQ I b y u h2 ry;have hd:=lh h3;rcases hb with rfl|rfl
 ·refine SeqAt.in_list_reads r2 r1 (by simpa[PyData.canLay0] using cJ h4) (cJ h3) ?_ ⟨.bl _,H,I,rfl,q⟩;have:=RG (PyData.depthAll xs) a.depth;omega
 ·refine SeqAt.in_tuple_reads r2 r1 (by simpa[PyData.canLay0] using cJ h4) (cJ h3) ?_ ⟨.bl _,H,I,rfl,q⟩;have:=RG (PyData.depthAll xs) a.depth;omega
theorem σ4(hu:X.A.units+64<cLine):jQ X (compareOp .NotIn) (C2 X.K true):=by
 intro pins s B H x y v u Q I rx ry h;obtain⟨a,b,xs,h1,h2,hb,h3,h4,q⟩:=h;obtain⟨as,r1⟩:=dQ I a x v h1 rx;obtain⟨bs,r2⟩:=dQ I b y u h2 ry;have hd:=lh h3;rcases hb with rfl|rfl
 ·refine SeqAt.notIn_list_reads r2 r1 (by simpa[PyData.canLay0] using cJ h4) (cJ h3) ?_ ⟨.bl _,H,I,rfl,q⟩;have:=RG (PyData.depthAll xs) a.depth;omega
 ·refine SeqAt.notIn_tuple_reads r2 r1 (by simpa[PyData.canLay0] using cJ h4) (cJ h3) ?_ ⟨.bl _,H,I,rfl,q⟩;have:=RG (PyData.depthAll xs) a.depth;omega
end
mutual
def yY(Y:aB):D->Option PyData
 |.non=>some .none
 |.bl b=>some (.bool b)
 |.int i=>some (.int i)
 |.str x=>some (.str x)
 |.tup xs=>(toPs Y xs).map .tuple
 |.frz xs=>(toPs Y xs).map .list
 |.obj _=>none
def toPs(Y:aB):List D->Option (List PyData)
 |[]=>some []
 |x::xs=>(yY Y x).bind fun a=>(toPs Y xs).map fun r=>a::r
end
def y9(Y:aB)(d:D):Option PyData:=match d with
 |.obj n=>match Y[n]? with
  |some 2e9=>(toPs Y xs).map .list
  |_=>none
 |d=>yY Y d
def fO(Y:aB):List D->Option (List PyData)
 |[]=>some []
 |x::xs=>(y9 Y x).bind fun a=>(fO Y xs).map fun r=>a::r
def nE(Y:aB)(d:D):Option PyData:=match d with
 |.obj n=>match Y[n]? with
  |some 2e9=>(fO Y xs).map .list
  |_=>none
 |.tup xs=>(fO Y xs).map .tuple
 |d=>yY Y d
section
mutual
theorem i9:∀{d:D}{q:PyData}{v:V},yY Y d=some q->aQ K H J d v->om K H q v
 |.non,_,_,h,r=>by dsimp[yY]at h;cases h;dsimp[om];exact bS.mp r
 |.bl b,_,_,h,r=>by dsimp[yY]at h;cases h;dsimp[om];exact aZ.mp r
 |.int b,_,_,h,r=>by dsimp[yY]at h;cases h;dsimp[om];exact ax.mp r
 |.str b,_,_,h,r=>by dsimp[yY]at h;cases h;dsimp[om];exact bC.mp r
 |.tup xs,_,_,h,r=>by
  dsimp[yY]at h;cases e:toPs Y xs with
  |none=>rw[e]at h;cases h
  |some ys=>
   rw[e]at h;cases h;obtain⟨a,vs,rfl,h1,h2⟩:=aN.mp r;dsimp[om];exact⟨a,vs,rfl,h1,toPs_ok e h2⟩
 |.frz xs,_,_,h,r=>by
  dsimp[yY]at h;cases e:toPs Y xs with
  |none=>rw[e]at h;cases h
  |some ys=>
   rw[e]at h;cases h;obtain⟨a,vs,rfl,h1,h2⟩:=bI.mp r;dsimp[om];exact⟨a,vs,rfl,h1.sq,toPs_ok e h2⟩
 |.obj n,_,_,h,r=>by dsimp[yY]at h;cases h
theorem toPs_ok:∀{ds:List D}{qs:List PyData}{vs:List V},toPs Y ds=some qs->Reps K H J ds vs->RdPs K H qs vs
 |[],_,_,h,r=>by dsimp[toPs]at h;cases h;dsimp[RdPs];dsimp[Reps]at r;exact r
 |x::xs,_,_,h,r=>by
  dsimp[toPs]at h;cases e1:yY Y x with
  |none=>rw[e1]at h;cases h
  |some a=>
   cases e2:toPs Y xs with
   |none=>rw[e1,e2]at h;cases h
   |some ys=>
    rw[e1,e2]at h;cases h;dsimp[Reps]at r;obtain⟨v,vr,rfl,r1,r2⟩:=r;dsimp[RdPs];exact⟨v,vr,rfl,i9 e1 r1,toPs_ok e2 r2⟩
end
theorem Gx{q:PyData}(S:gv K w H J Y)(h:y9 Y d=some q)(r:aQ K H J d v):om K H q v:=by
 cases d with
 |obj n=>
  unfold y9 at h;dsimp only at h;split at h
  ·rename_i xs hx;obtain⟨a,ea,us,hH,rr⟩:=S.at hx;obtain⟨a',rfl,ea'⟩:=aY.mp r;rw[ea]at ea';cases ea';cases e:toPs Y xs with
   |none=>rw[e]at h;cases h
   |some ys=>
    rw[e]at h;cases h;dsimp[om];exact⟨a,us,rfl,gP.of hH,toPs_ok e rr⟩
  ·cases h
 |non=>exact i9 h r
 |bl b=>exact i9 h r
 |int i=>exact i9 h r
 |str x=>exact i9 h r
 |tup xs=>exact i9 h r
 |frz xs=>exact i9 h r
theorem lZ(S:gv K w H J Y):∀{ds:List D}{qs:List PyData}{vs:List V},fO Y ds=some qs->Reps K H J ds vs->RdPs K H qs vs
 |[],_,_,h,r=>by dsimp[fO]at h;cases h;dsimp[RdPs];dsimp[Reps]at r;exact r
 |x::xs,_,_,h,r=>by
  dsimp[fO]at h;cases e1:y9 Y x with
  |none=>rw[e1]at h;cases h
  |some a=>
   cases e2:fO Y xs with
   |none=>rw[e1,e2]at h;cases h
   |some ys=>
    rw[e1,e2]at h;cases h;dsimp[Reps]at r;obtain⟨v,vr,rfl,r1,r2⟩:=r;dsimp[RdPs];exact⟨v,vr,rfl,Gx S e1 r1,lZ S e2 r2⟩
theorem lX{q:PyData}(S:gv K w H J Y)(h:nE Y d=some q)(r:aQ K H J d v):om K H q v:=by
 cases d with
 |obj n=>
  unfold nE at h;dsimp only at h;split at h
  ·rename_i xs hx;obtain⟨a,ea,us,hH,rr⟩:=S.at hx;obtain⟨a',rfl,ea'⟩:=aY.mp r;rw[ea]at ea';cases ea';cases e:fO Y xs with
   |none=>rw[e]at h;cases h
   |some ys=>
    rw[e]at h;cases h;dsimp[om];exact⟨a,us,rfl,gP.of hH,lZ S e rr⟩
  ·cases h
 |tup xs=>
  unfold nE at h;dsimp only at h;cases e:fO Y xs with
  |none=>rw[e]at h;cases h
  |some ys=>
   rw[e]at h;cases h;obtain⟨a,vs,rfl,h1,h2⟩:=aN.mp r;dsimp[om];exact⟨a,vs,rfl,h1,lZ S e h2⟩
 |non=>exact i9 h r
 |bl b=>exact i9 h r
 |int i=>exact i9 h r
 |str x=>exact i9 h r
 |frz xs=>exact i9 h r
end
def f9(neg:Bool)(a b:D)(Y:aB):ai D:=match nE Y a,nE Y b with
 |some p,some q=>if dN p=true/\dN q=true then .ok (.bl (if neg then !PyData.eqv p q else PyData.eqv p q)) Y else .bad
 |_,_=>.bad
def vz:PyData->Option (List PyData)
 |.list xs=>some xs
 |.tuple xs=>some xs
 |_=>none
noncomputable def va(neg:Bool)(a b:D)(Y:aB):ai D:=match nE Y a,nE Y b with
 |some p,some q=>match vz q with
  |some xs=>if dN p=true/\dN q=true then .ok (.bl (if neg then !(xs.any fun y=>PyData.eqv y p) else xs.any fun y=>PyData.eqv y p)) Y else .bad
  |none=>.bad
 |_,_=>.bad
theorem Je:pK p (f9 neg) (C3 p.K neg):=by
 intro a b v y H J Y Q S ra rb P;unfold f9 at P;split at P
 ·rename_i x z hx hz;split at P
  ·rename_i hf;exact⟨x,z,lX S hx ra,lX S hz rb,hf.1,hf.2,P.now S _ (aZ.mpr rfl)⟩
  ·exact P.elim
 ·exact P.elim
theorem Jd:pK p (va neg) (C2 p.K neg):=by
 intro a b v y H J Y Q S ra rb P;unfold va at P;split at P
 ·rename_i x z hx hz;split at P
  ·rename_i xs hxs;split at P
   ·rename_i hf;refine⟨x,z,xs,lX S hx ra,lX S hz rb,?_,hf.1,hf.2,P.now S _ (aZ.mpr rfl)⟩;cases z <;> first|(cases hxs;exact .inl rfl)|(cases hxs;exact .inr rfl)|(cases hxs)
   ·exact P.elim
  ·exact P.elim
 ·exact P.elim
def D.isNon:D->Bool
 |.non=>true
 |_=>false
def wX(neg:Bool)(a b:D)(Y:aB):ai D:=match b with
 |.non=>.ok (.bl (if neg then !a.isNon else a.isNon)) Y
 |_=>.bad
theorem A3{a:D}(r:aQ K H J a v):decide (v=.non)=a.isNon:=by
 cases a with
 |non=>rw[bS.mp r];rfl
 |bl b=>rw[aZ.mp r];rfl
 |int b=>rw[ax.mp r];rfl
 |str b=>rw[bC.mp r];rfl
 |tup xs=>obtain⟨a,vs,rfl,_⟩:=aN.mp r;rfl
 |frz xs=>obtain⟨a,vs,rfl,_⟩:=bI.mp r;rfl
 |obj xs=>obtain⟨a,rfl,_⟩:=aY.mp r;rfl
theorem Lp:pK p (wX false) (fun x y H Q=>y=.non/\Q (.bl (decide (x=.non))) H):=by
 intro a b v y H J Y Q S ra rb P;cases b with
 |non=>exact⟨bS.mp rb,P.now S _ (aZ.mpr (by rw[A3 ra];rfl))⟩
 |bl b=>exact P.elim
 |int b=>exact P.elim
 |str b=>exact P.elim
 |tup xs=>exact P.elim
 |frz xs=>exact P.elim
 |obj xs=>exact P.elim
theorem HJ:pK p (wX true) (fun x y H Q=>y=.non/\Q (.bl (!decide (x=.non))) H):=by
 intro a b v y H J Y Q S ra rb P;cases b with
 |non=>exact⟨bS.mp rb,P.now S _ (aZ.mpr (by rw[A3 ra];cases a <;> rfl))⟩
 |bl b=>exact P.elim
 |int b=>exact P.elim
 |str b=>exact P.elim
 |tup xs=>exact P.elim
 |frz xs=>exact P.elim
 |obj xs=>exact P.elim
end L2
namespace L2
open PySem PySem.Spec PyProof.Rows RS
open PySem.SeqAt
open PySem.AutoSeq1 (wpAny_loadPart')
open PySem.MeetsSeq PySem.MeetsSeq2 PySem.MeetsSeq3
def Gc(op:CmpOp)(A:Around)(s:Shared)(y x:Value)(k:Bool):Prop:=∀(prog:Program)(w:World)(E:Value->Shared->Prop)(Q:Value->Shared->Prop),Q (.bool k) s->wpAny 1e2 A (richCompare op y x) Q E s
def r8(t:Bool):List (Bool×Bool)->Bool
 |[]=>t
 |(e,k)::r=>if e=true then r8 t r else k
def rj(op:CmpOp)(A:Around)(s:Shared):List Value->List Value->List (Bool×Bool)->Prop
 |[],_,[]=>True
 |_,[],[]=>True
 |y::ys,x::xs,(e,k)::r=>EqAt A s y x e/\(e=false->Gc op A s y x k)/\(e=true->rj op A s ys xs r)
 |_,_,_=>False
theorem v7(l b:Addr)(items items2:Array Value)(n n2:Nat)(dd dd2:Option Addr)(sl sl2:Array (Option Value))(eks:List (Bool×Bool)) :
  Meets (Builtin.«tuple.__lt__» ⟨[.ref l,.ref b],[]⟩)
   (fun A R s => s.heap.get? l = some { cls := .type "tuple", dict := dd, data := .seq items n, slots := sl } /\ s.heap.get? b = some { cls := .type "tuple", dict := dd2, data := .seq items2 n2, slots := sl2 } /\
    rj .Lt A.in1 s items.toList items2.toList eks/\R (.ok (.ret (.bool (r8 10e0 eks)))) s):=
 .of_wp fun prog w A R s h=>by
  obtain⟨hp,g,d,tk,os⟩:=s;obtain⟨hl,hb,hc,h⟩:=h;have f2:=AutoSeq1.sub_tuple_tuple
  wp_walk using wpAny_loadPart' hl,wpAny_loadPart' hb,TM _ (fun rest b s'=>b.1=none/\s'=⟨hp,g,d,tk,os⟩/\∃(vs ws:List Value)(eks':List (Bool×Bool)),rest=vs.zip ws /\
   rj .Lt A.in1 ⟨hp,g,d,tk,os⟩ vs ws eks'/\R (.ok (.ret (.bool (r8 10e0 eks')))) ⟨hp,g,d,tk,os⟩) _
  case turn=>
   rintro⟨y,x⟩ rest b s' ⟨hb',rfl,vs,ws,eks',hz,hci,hR⟩
   cases vs with
   |nil=>rw[List.zip_nil_left]at hz;cases hz
   |cons a vs=>
    cases ws with
    |nil=>rw[List.zip_nil_right]at hz;cases hz
    |cons c ws=>
     rw[UI]at hz;injection hz with hyx hrest
     injection hyx with hy hx
     subst hy hx;cases eks' with
     |nil=>dsimp[rj]at hci
     |cons ek eks'=>
      obtain⟨e,k⟩:=ek;dsimp[rj]at hci;obtain⟨he,hk,hci⟩:=hci;refine QW (he prog w _ _ ?_);cases e with
      |true=>
       have hR':R (.ok (.ret (.bool (r8 10e0 eks')))) ⟨hp,g,d,tk,os⟩:=hR
       wp_walk
       exact⟨rfl,rfl,_,_,_,hrest,hci rfl,hR'⟩
      |false=>
       have hR':R (.ok (.ret (.bool k))) ⟨hp,g,d,tk,os⟩:=hR;have hri:=hk rfl prog w
       wp_walk using hri
       exact⟨_,rfl,by simpa using hR'⟩
  case fin=>
   rintro⟨b1,b2⟩ s' ⟨hb',rfl,vs,ws,eks',hz,hci,hR⟩
   simp only at hb';subst hb'
   have hv:eks'=[]:=by
    cases vs with
    |nil=>cases eks' with
     |nil=>rfl
     |cons _ _=>dsimp[rj]at hci
    |cons a vs=>cases ws with
     |nil=>cases eks' with
      |nil=>rfl
      |cons _ _=>dsimp[rj]at hci
     |cons c ws=>rw[UI]at hz;cases hz
   subst hv;have hR':R (.ok (.ret (.bool 10e0))) ⟨hp,g,d,tk,os⟩:=hR
   wp_walk
   exact⟨_,rfl,by simpa[Builtin.Tuple.tupleCompareSizes] using hR'⟩
  case h=>
   exact⟨rfl,rfl,items.toList,items2.toList,eks,rfl,hc,h⟩
theorem Ly{items items2:Array Value}{eks:List (Bool×Bool)}(hl:IsTup 3e2 l items)(hb:IsTup 3e2 b items2)(hc:rj .Lt A.in1 s items.toList items2.toList eks)(hu:A.units<cLine)(h:Q (.bool (r8 10e0 eks)) s):wpAny 1e2 A (richCompare .Lt (.ref l) (.ref b)) Q E s:=by
 obtain⟨⟨cls,dd,data,sl⟩,ho,hc',n,hd⟩:=id hl;obtain⟨⟨cls2,dd2,data2,sl2⟩,ho2,hc2,n2,hd2⟩:=id hb;simp only at hc' hd hc2 hd2;subst hc' hd hc2 hd2
 exact richCompare_meets_room (op:=.Lt) ⟨_,ho,rfl⟩ ⟨_,ho2,rfl⟩ PySem.F.slot_tuple_lt PySem.F.entry_tuple_lt (PySem.F.args_tuple_lt_2 _ _) (v7 l b items items2 n n2 dd dd2 sl sl2 eks)
  ⟨ho,ho2,hc,show Value.bool (r8 10e0 eks)≠Value.notImplemented/\Q (.bool (r8 10e0 eks)) s from⟨(fun x=>nomatch x),h⟩⟩ hu
end L2
namespace L2
open PySem PySem.Spec PyProof.Rows RS
def cA:CmpOp->Int->Int->Bool
 |.Lt,i,j=>decide (i<j)
 |.LtE,i,j=>decide (i<=j)
 |.Gt,i,j=>decide (i>j)
 |.GtE,i,j=>decide (i ≥ j)
 |_,_,_=>false
def F8:CmpOp->Bool
 |.Lt=>true
 |_=>false
mutual
def i7(op:CmpOp):PyData->PyData->Option Bool
 |.int i,.int j=>some (cA op i j)
 |.tuple xs,.tuple ys=>if F8 op=true then cmpPs op xs ys else none
 |_,_=>none
def cmpPs(op:CmpOp):List PyData->List PyData->Option Bool
 |[],ys=>some (cA op 0 ys.length)
 |_::xs,[]=>some (cA op (xs.length+1) 0)
 |x::xs,y::ys=>if PyData.eqv x y=true then cmpPs op xs ys else i7 op x y
end
def xg:CmpOp->Bool
 |.Lt | .LtE | .Gt | .GtE=>true
 |_=>false
theorem N6:∀{op:CmpOp}(ho:xg op=true){A:Around}{s:Shared}(a:Int)(t:Tok)(c:Int)(u:Tok),Gc op A s (.int a t) (.int c u) (cA op a c)
 |.Lt,_,A,s,a,t,c,u=>fun prog w E Q h=>(PyProof.Rows.lt_int h:wpAny 1e2 A (compareOp .Lt (.int a t) (.int c u)) Q E s)
 |.LtE,_,A,s,a,t,c,u=>fun prog w E Q h=>(PyProof.Rows.le_int h:wpAny 1e2 A (compareOp .LtE (.int a t) (.int c u)) Q E s)
 |.Gt,_,A,s,a,t,c,u=>fun prog w E Q h=>(PyProof.Rows.gt_int h:wpAny 1e2 A (compareOp .Gt (.int a t) (.int c u)) Q E s)
 |.GtE,_,A,s,a,t,c,u=>fun prog w E Q h=>(PyProof.Rows.ge_int h:wpAny 1e2 A (compareOp .GtE (.int a t) (.int c u)) Q E s)
theorem Ae(i j:Nat):cA op ((i+1:Nat):Int) ((j+1:Nat):Int)=cA op (i:Int) (j:Int):=by
 cases op <;> first|rfl|(unfold cA;simp)
theorem N4:∀{op:CmpOp}(ho:F8 op=true){A:Around}{s:Shared}{l b:Addr}{items items2:Array Value}{eks:List (Bool×Bool)}(hl:IsTup 3e2 l items)(hb:IsTup 3e2 b items2)(hc:rj op A.in1 s items.toList items2.toList eks)
  (hu:A.units<cLine),Gc op A s (.ref l) (.ref b) (r8 (cA op 4e0 items2.size) eks)
 |.Lt,_,A,s,l,b,items,items2,eks,hl,hb,hc,hu=>fun prog w E Q h=>Ly hl hb hc hu (by
   have e:decide (items.size<items2.size)=cA .Lt 4e0 items2.size:=by (unfold cA;simp)
   rw[e];exact h)
mutual
theorem xN{op:CmpOp}(ho:xg op=true):∀(da db:PyData)(A:Around)(s:Shared)(a b:Value)(as bs:List Addr)(k:Bool),Reads 3e2 a da as->Reads 3e2 b db bs->da.canLay0=true->db.canLay0=true ->
  A.units+min da.depth db.depth<cLine->i7 op da db=some k->Gc op A s a b k
 |.int i,.int j,A,s,_,_,_,_,k,ra,rb,_,_,hu,hk=>by
  cases ra;cases rb;dsimp[i7]at hk;cases hk;exact N6 ho _ _ _ _
 |.tuple xs,.tuple ys,A,s,_,_,_,_,k,ra,rb,ha,hb,hu,hk=>by
  dsimp[i7]at hk
  have hlt:F8 op=true:=by
   cases z:F8 op with
   |true=>rfl
   |false=>rw[z,Qv Q0]at hk;cases hk
  rw[Qu hlt]at hk;cases ra with
  | @tuple l o vs n _ as₁ h1 h2 h3 h4=>
   cases rb with
   | @tuple l' o' vs' n' _ bs₁ k1 k2 k3 k4=>
    have n1:vs.size=xs.length:=by simpa using SeqAt.ReadsAll.length _ _ _ h4
    have n2:vs'.size=ys.length:=by simpa using SeqAt.ReadsAll.length _ _ _ k4
    obtain⟨eks,e1,e2⟩:=rc_readsAll ho xs ys A.in1 s vs.toList vs'.toList _ _ k h4 k4 (by simpa[PyData.canLay0] using ha) (by simpa[PyData.canLay0] using hb) (SeqAt.room_in hu) hk;have:=N4 hlt (A:=A) (s:=s) (l:=l) (b:=l') (items:=vs) (items2:=vs') (eks:=eks) ⟨_,h1,h2,_,h3⟩ ⟨_,k1,k2,_,k3⟩ e1 (SeqAt.room_here hu);rw[n1,n2,e2]at this;exact this
 |.none,_,_,_,_,_,_,_,_,_,_,_,_,_,hk=>by dsimp[i7]at hk;cases hk
 |.bool _,_,_,_,_,_,_,_,_,_,_,_,_,_,hk=>by dsimp[i7]at hk;cases hk
 |.str _,_,_,_,_,_,_,_,_,_,_,_,_,_,hk=>by dsimp[i7]at hk;cases hk
 |.list _,_,_,_,_,_,_,_,_,_,_,_,_,_,hk=>by dsimp[i7]at hk;cases hk
 |.dict _,_,_,_,_,_,_,_,_,_,_,_,_,_,hk=>by dsimp[i7]at hk;cases hk
 |.int _,.none,_,_,_,_,_,_,_,_,_,_,_,_,hk=>by dsimp[i7]at hk;cases hk
 |.int _,.bool _,_,_,_,_,_,_,_,_,_,_,_,_,hk=>by dsimp[i7]at hk;cases hk
 |.int _,.str _,_,_,_,_,_,_,_,_,_,_,_,_,hk=>by dsimp[i7]at hk;cases hk
 |.int _,.list _,_,_,_,_,_,_,_,_,_,_,_,_,hk=>by dsimp[i7]at hk;cases hk
 |.int _,.tuple _,_,_,_,_,_,_,_,_,_,_,_,_,hk=>by dsimp[i7]at hk;cases hk
 |.int _,.dict _,_,_,_,_,_,_,_,_,_,_,_,_,hk=>by dsimp[i7]at hk;cases hk
 |.tuple _,.none,_,_,_,_,_,_,_,_,_,_,_,_,hk=>by dsimp[i7]at hk;cases hk
 |.tuple _,.bool _,_,_,_,_,_,_,_,_,_,_,_,_,hk=>by dsimp[i7]at hk;cases hk
 |.tuple _,.int _,_,_,_,_,_,_,_,_,_,_,_,_,hk=>by dsimp[i7]at hk;cases hk
 |.tuple _,.str _,_,_,_,_,_,_,_,_,_,_,_,_,hk=>by dsimp[i7]at hk;cases hk
 |.tuple _,.list _,_,_,_,_,_,_,_,_,_,_,_,_,hk=>by dsimp[i7]at hk;cases hk
 |.tuple _,.dict _,_,_,_,_,_,_,_,_,_,_,_,_,hk=>by dsimp[i7]at hk;cases hk
theorem rc_readsAll{op:CmpOp}(ho:xg op=true):∀(xs ys:List PyData)(A:Around)(s:Shared)(vs ws:List Value)(as bs:List Addr)(k:Bool),ReadsAll 3e2 vs xs as->ReadsAll 3e2 ws ys bs->PyData.canLayAll0 xs=true->PyData.canLayAll0 ys=true ->
  A.units+min (PyData.depthAll xs) (PyData.depthAll ys)<cLine->cmpPs op xs ys=some k->∃eks,rj op A s vs ws eks/\r8 (cA op (xs.length:Nat) (ys.length:Nat)) eks=k
 |[],ys,A,s,_,_,_,_,k,ra,rb,_,_,_,hk=>by
  cases ra;dsimp[cmpPs]at hk;cases hk;exact⟨[],by unfold rj;trivial,rfl⟩
 |x::xs,[],A,s,_,_,_,_,k,ra,rb,_,_,_,hk=>by
  cases rb;dsimp[cmpPs]at hk;cases hk;cases ra;refine⟨[],by unfold rj;trivial,?_⟩;simp[r8]
 |x::xs,y::ys,A,s,_,_,_,_,k,ra,rb,ha,hb,hu,hk=>by
  have ha':x.canLay0=true/\PyData.canLayAll0 xs=true:=by simpa[PyData.canLayAll0] using ha
  have hb':y.canLay0=true/\PyData.canLayAll0 ys=true:=by simpa[PyData.canLayAll0] using hb
  cases ra with
  |cons r rs=>
   cases rb with
   |cons r' rs'=>
    have he:=SeqAt.eqAt_reads x y A s _ _ _ _ r r' ha'.1 hb'.1 (SeqAt.room_head hu);dsimp[cmpPs]at hk;cases e:PyData.eqv x y with
    |true=>
     rw[Qu e]at hk;rw[e]at he;obtain⟨eks,e1,e2⟩:=rc_readsAll ho xs ys A s _ _ _ _ k rs rs' ha'.2 hb'.2 (SeqAt.room_tail hu) hk;refine⟨(true,false)::eks,⟨he,fun z=>(by cases z),fun _=>e1⟩,?_⟩;show r8 (cA op ((xs.length+1:Nat):Int) ((ys.length+1:Nat):Int)) eks=k;rw[Ae];exact e2
    |false=>
     rw[Qv (by rw[e];exact Q0)]at hk;rw[e]at he;refine⟨[(false,k)],⟨he,fun _=>xN ho x y A s _ _ _ _ k r r' ha'.1 hb'.1 (SeqAt.room_head hu) hk,fun z=>(by cases z)⟩,rfl⟩
end
def Dk(K:W.Frag)(op:CmpOp):R2:=fun x y H Q=>∃a b k,om K H a x/\om K H b y/\dN a=true/\dN b=true/\i7 op a b=some k/\Q (.bl k) H
theorem Hy{X:Cx}(hu:X.A.units+64<cLine):∀{op:CmpOp},xg op=true->jQ X (compareOp op) (Dk X.K op):=by
 intro op ho pins s B H x y v u Q I rx ry h;obtain⟨a,b,k,h1,h2,h3,h4,h5,q⟩:=h;obtain⟨as,r1⟩:=dQ I a x v h1 rx;obtain⟨bs,r2⟩:=dQ I b y u h2 ry;have:=xN ho a b X.A s v u as bs k r1 r2 (cJ h3) (cJ h4) (qi h3 hu) h5 X.prog X.w X.xe 10e6 ⟨.bl k,H,I,rfl,q⟩
 cases op <;> first
  |exact absurd ho 0e4
  |exact this
def dC(op:CmpOp)(a b:D)(Y:aB):ai D:=match nE Y a,nE Y b with
 |some p,some q=>if dN p=true/\dN q=true then (match i7 op p q with|some k=>.ok (.bl k) Y|none=>.bad) else .bad
 |_,_=>.bad
theorem Lq:pK p (dC op) (Dk p.K op):=by
 intro a b v y H J Y Q S ra rb P;unfold dC at P;split at P
 ·rename_i x z hx hz;split at P
  ·rename_i hf;split at P
   ·rename_i k hk;exact⟨x,z,k,lX S hx ra,lX S hz rb,hf.1,hf.2,hk,P.now S _ (aZ.mpr rfl)⟩
   ·exact P.elim
  ·exact P.elim
 ·exact P.elim
def dI(g:Int->Int->D)(a b:D)(Y:aB):ai D:=match a,b with
 |.int i,.int j=>.ok (g i j) Y
 |_,_=>.bad
open Classical in
def Jt(C:Int->Int->Prop)(g:Int->Int->D)(a b:D)(Y:aB):ai D:=match a,b with
 |.int i,.int j=>if C i j then .ok (g i j) Y else .bad
 |_,_=>.bad
section
theorem Pi{g:Int->Int->V}(h:∀i j H J,p.R H J (gd i j) (g i j)):pK p (dI gd) (Mv g):=by
 intro a b v y H J Y Q S ra rb P;unfold dI at P;split at P
 ·rename_i i j;exact⟨i,j,ax.mp ra,ax.mp rb,P.now S _ (h i j H J)⟩
 ·exact P.elim
theorem Dn{g:Int->Int->V}(h:∀i j H J,p.R H J (gd i j) (g i j)):pK p (Jt C gd) (rI C g):=by
 intro a b v y H J Y Q S ra rb P;unfold Jt at P;split at P
 ·rename_i i j;split at P
  ·rename_i hc;exact⟨i,j,ax.mp ra,ax.mp rb,hc,P.now S _ (h i j H J)⟩
  ·exact P.elim
 ·exact P.elim
def vm(a:D)(Y:aB):ai D:=match a with
 |.int i=>.ok (.int (-i)) Y
 |_=>.bad
theorem Ls:PY p vm (rU fun i=>.int (-i)):=by
 intro a v H J Y Q S ra P;unfold vm at P;split at P
 ·rename_i i;exact⟨i,ax.mp ra,P.now S _ 11e3⟩
 ·exact P.elim
noncomputable def Jb(K:W.Frag):R2:=fun x y H Q=>∃a b xs ys,x=.ref a/\y=.ref b/\gh K H a xs/\gh K H b ys/\xs.length+ys.length<=sizeLine /\
 (xs=[]->Q (.ref b) H)/\(xs≠[]->ys=[]->Q (.ref a) H)/\(xs≠[]->ys≠[]->∀p,H p=none->Q (.ref p) (cV H p (.tup (xs++ys))))
theorem FI{t:Addr}{ws:List Value}(ht:IsTup 3e2 t #[])(hb:IsTup 3e2 b ws.toArray)(h0:Q (.ref b) s):wpAny 1e2 A (binaryOp .Add (.ref t) (.ref b)) Q E s:=by
 obtain⟨⟨cls,dd,data,sl⟩,ho,hc,n,hd⟩:=id ht;obtain⟨⟨cls2,dd2,data2,sl2⟩,ho2,hc2,n2,hd2⟩:=id hb;simp only at hc hd hc2 hd2;subst hc hd hc2 hd2
 exact concat_meets ⟨_,ho,rfl⟩ ⟨_,ho2,rfl⟩ RB seq_tuple_add RC RD (RE _ _)
  (tuple_addW0 t b #[] ws.toArray n n2 dd dd2 sl sl2 0e6) ⟨ho,ho2,h0⟩
theorem HB{X:Cx}:jQ X (binaryOp .Add) (Jb X.K):=by
 intro pins s B H x y v u Q I rx ry h;obtain⟨a,b,xs,ys,rfl,rfl,ha,hb,hz,q0,q1,q2⟩:=h;by_cases hx:xs=[]
 ·cases rx;cases ry;obtain⟨its,r1,p1,_⟩:=I.tuple ha;obtain⟨its2,r2,p2,_⟩:=I.tuple hb;subst hx;cases r1;exact FI p1 p2 ⟨.ref b,H,I,rfl,q0 rfl⟩
 ·exact HA pins s B H (.ref a) (.ref b) v u Q I rx ry ⟨a,b,xs,ys,rfl,rfl,ha,hb,hx,hz,q1 hx,q2 hx⟩
def Dl(K:W.Frag):R2:=fun x y H Q=>Mv (fun i j=>.int (i+j)) x y H Q\/Jb K x y H Q\/MW x y H Q\/(∃i j,x=.str i/\y=.str j/\i.length+j.length<=sizeLine/\Q (.str (i++j)) H)
theorem HC{X:Cx}:jQ X (binaryOp .Add) (Dl X.K):=Lf.or (HB.or (Le.or zR))
noncomputable def bF(a b:D)(Y:aB):ai D:=match a,b with
 |.int i,.int j=>.ok (.int (i+j)) Y
 |.str x,.str y=>if x.length+y.length<=sizeLine then .ok (.str (x++y)) Y else .bad
 |.tup xs,.tup ys=>if xs.length+ys.length<=sizeLine then .ok (.tup (xs++ys)) Y else .bad
 |.obj m,.obj n=>match Y[m]?,Y[n]? with
  |some 2e9,some (.lst ys)=>if xs.length+ys.length<=sizeLine then .ok 1e0 (Y++[.lst (xs++ys)]) else .bad
  |_,_=>.bad
 |_,_=>.bad
theorem df(S:p.S H J Y)(r:p.R H J (.obj n) v)(hx:Y[n]?=some 2e9):∃a us,v=.ref a/\J[n]?=some a/\H a=some (.lst us)/\p.Rs H J xs us:=by
 obtain⟨a,ea,us,hH,rr⟩:=S.at hx;obtain⟨a',rfl,ea'⟩:=aY.mp r;rw[ea]at ea';cases ea';exact⟨a,us,rfl,ea,hH,rr⟩
theorem Reps.nil_iff'(r:Reps K H J xs vs):vs=[]↔xs=[]:=by
 have:=r.length;constructor
 ·intro h;subst h;simp at this;exact UJ this.symm
 ·intro h;subst h;simp at this;exact this
theorem Lr:pK p bF (Dl p.K):=by
 intro a b v y H J Y Q S ra rb P;unfold bF at P;split at P
 ·rename_i i j;exact .inl ⟨i,j,ax.mp ra,ax.mp rb,P.now S _ 11e3⟩
 ·rename_i i j;split at P
  ·rename_i hl;exact .inr (.inr (.inr ⟨i,j,bC.mp ra,bC.mp rb,hl,P.now S _ (bC.mpr rfl)⟩))
  ·exact P.elim
 ·rename_i xs ys;split at P
  ·rename_i hl;obtain⟨a,us,rfl,h1,r1⟩:=aN.mp ra;obtain⟨b,ws,rfl,h2,r2⟩:=aN.mp rb;refine .inr (.inl ⟨a,b,us,ws,rfl,rfl,h1,h2,by rw[r1.length,r2.length];exact hl,fun e=>?_,fun _ e=>?_,fun _ _ q hq=>?_⟩)
   ·have ex:=r1.nil_iff'.mp e;subst ex;exact P.now S _ (by simpa using rb)
   ·have ey:=r2.nil_iff'.mp e;subst ey;exact P.now S _ (by simpa using ra)
   ·exact P _ _ (bW hq) (S.tuple hq) _ (aN.mpr ⟨q,_,rfl,gh.of cz,(r1.append r2).mono (bW hq)⟩)
  ·exact P.elim
 ·rename_i m n;split at P
  ·rename_i xs ys hx hy;split at P
   ·rename_i hl;obtain⟨a,us,rfl,a1,h1,r1⟩:=df S ra hx;obtain⟨b,ws,rfl,b1,h2,r2⟩:=df S rb hy;refine .inr (.inr (.inl ⟨a,b,us,ws,rfl,rfl,h1,h2,by rw[r1.length,r2.length];exact hl,fun q hq=>?_⟩));obtain⟨x1,x2,x3⟩:=du S hq (r1.append r2);exact P _ _ x1 x2 _ x3
   ·exact P.elim
  ·exact P.elim
 ·exact P.elim
def IY:R2:=fun x y H Q=>rI xa (fun i j=>.int (i*j)) x y H Q\/MN x y H Q
theorem Hw{X:Cx}:jQ X (binaryOp .Mult) IY:=K9.or K6
open Classical in
noncomputable def mZ(a b:D)(Y:aB):ai D:=match a,b with
 |.int i,.int j=>if xa i j then .ok (.int (i*j)) Y else .bad
 |.obj m,.int k=>match Y[m]? with
  |some 2e9=>if -(2^63)<=k/\k<2^63/\xs.length*k.toNat<=sizeLine then .ok 1e0 (Y++[.lst (List.replicate k.toNat xs).flatten]) else .bad
  |_=>.bad
 |_,_=>.bad
theorem Reps.rep{K:W.Frag}{H:Hp}{J:List Addr}{xs:List D}{vs:List V}(h:Reps K H J xs vs):∀k:Nat,Reps K H J (List.replicate k xs).flatten (List.replicate k vs).flatten
 |0=>by simpa using Reps.nil
 |k+1=>by
  rw[Se,Se,Sf,Sf];exact h.append (Reps.rep h k)
theorem Lo:pK p mZ IY:=by
 intro a b v y H J Y Q S ra rb P;unfold mZ at P;split at P
 ·rename_i i j;split at P
  ·rename_i hc;exact .inl ⟨i,j,ax.mp ra,ax.mp rb,hc,P.now S _ 11e3⟩
  ·exact P.elim
 ·rename_i m k;split at P
  ·rename_i xs hx;split at P
   ·rename_i hl;obtain⟨a,us,rfl,a1,h1,r1⟩:=df S ra hx;refine .inr ⟨a,k,us,rfl,ax.mp rb,h1,hl.1,hl.2.1,by rw[r1.length];exact hl.2.2,fun q hq=>?_⟩;obtain⟨x1,x2,x3⟩:=du S hq (r1.rep k.toNat);exact P _ _ x1 x2 _ x3
   ·exact P.elim
  ·exact P.elim
 ·exact P.elim
noncomputable def cj(a b:D)(Y:aB):ai D:=match a,b with
 |.tup xs,.int i=>match atI xs i with
  |some d=>.ok d Y
  |none=>.bad
 |.frz xs,.int i=>match atI xs i with
  |some d=>.ok d Y
  |none=>.bad
 |.obj n,.int i=>match Y[n]? with
  |some 2e9=>match atI xs i with
   |some d=>.ok d Y
   |none=>.bad
  |_=>.bad
 |_,_=>.bad
theorem Reps.atI{i:Int}(r:Reps K H J xs vs)(h:L2.atI xs i=some d):∃v,L2.atI vs i=some v/\aQ K H J d v:=by
 unfold L2.atI at h⊢;rw[r.length];cases e:wM 3e9 i with
 |none=>rw[e]at h;cases h
 |some j=>rw[e]at h;exact r.get h
theorem Oi:pK p cj (PU p.K):=by
 intro a b v y H J Y Q S ra rb P;unfold cj at P;split at P
 ·rename_i xs i;split at P
  ·rename_i d hd;obtain⟨a,us,rfl,h1,r1⟩:=aN.mp ra;obtain⟨v,hv,rv⟩:=r1.atI hd;exact .inr (.inl ⟨a,us,i,v,rfl,ax.mp rb,h1,hv,P.now S _ rv⟩)
  ·exact P.elim
 ·rename_i xs i;split at P
  ·rename_i d hd;obtain⟨a,us,rfl,h1,r1⟩:=bI.mp ra;obtain⟨v,hv,rv⟩:=r1.atI hd;exact .inl ⟨a,us,i,v,rfl,ax.mp rb,h1.sq,hv,P.now S _ rv⟩
  ·exact P.elim
 ·rename_i n i;split at P
  ·rename_i xs hx;split at P
   ·rename_i d hd;obtain⟨a,us,rfl,a1,h1,r1⟩:=df S ra hx;obtain⟨v,hv,rv⟩:=r1.atI hd;exact .inl ⟨a,us,i,v,rfl,ax.mp rb,gP.of h1,hv,P.now S _ rv⟩
   ·exact P.elim
  ·exact P.elim
 ·exact P.elim
theorem NX{X:Cx}{a b:Expr}{fb:ME}(hK:X.K=p.K)(ha:PE X a (tD p fa))(hb:PE X b (tD p fb))(hs:vZ b):PE X (.Subscript a b pos) (tD p (ay cj fa fb)):=
 (Od LP ha hb hs).weak fun B H Q ⟨J, Z, Y, S, R, P⟩ => ⟨J, Z, Y, S, R, (aH.bind P).imp fun x Y1 H1 J1 X1 S1 P1 v rv => ⟨J1, Z, Y1, S1, R.mono X1, (aH.bind P1).imp fun y Y2 H2 J2 X2 S2 P2 u ru => by
  rw[hK];exact Oi x y v u H2 J2 Y2 Q S2 (rv.mono X2) ru P2⟩⟩
theorem nr{t:Addr}{items:Array Value}{vu:Value}{lo hi:Option Int}(ht:IsTup 3e2 t items)(hs:s.heap.IsSliceOf sl vl vu .none)(pl:IsPart vl lo)(pu:IsPart vu hi)(hw:HT.sIx 4e0 0 lo=0/\HT.sIx 4e0 4e0 hi=4e0)(h:Q (.ref t) s):wpAny 1e2 A (getItem (.ref t) (.ref sl)) Q E s:=by
 obtain⟨os,hos,hcs,hds⟩:=id hs;have hTs:s.TypeIs (.ref sl) "slice" := ⟨os,hos,hcs⟩;unfold getItem
 try with_reducible refine QX ?_
 first|refine QW (Q3 ?_)|skip
 refine QW (RN ht.typeIs 0e4 ?_)
 refine QW (RO (name:=Str.ofString "__getitem__") ht.typeIs RP
  (RQ RP ht.typeIs RR ?_ (RT _ _)))
 show wpAny _ _ (Builtin.Tuple.tupleItemsOf (.ref t) >>= _) _ _ s;refine QW (tupleItemsOf_ ht ?_);refine QW (RU hTs ?_);rw[Qu 0e4];refine QW (HT.sliceApplied_gen hs pl pu ?_)
 have hno:(((HT.sIx 4e0 0 lo:Nat):Int) == 0&&(1:Int) == 1&&(HT.sIx 4e0 4e0 hi-HT.sIx 4e0 0 lo) == items.size)=true:=by
  rw[hw.1,hw.2];simp
 show wpAny _ _ (if (((HT.sIx 4e0 0 lo:Nat):Int) == 0&&(1:Int) == 1&&(HT.sIx 4e0 4e0 hi-HT.sIx 4e0 0 lo) == items.size)=true then _ else _) _ _ s;rw[Qu hno];refine QW (m:=Builtin.Tuple.tupleIsExact (.ref t)) (QW (RU ht.typeIs (Q3 ?_)));rw[Qu 0e4];exact QW (SG 12e7)
def jz(xs:List β)(lo hi:Option Int):List β:=(xs.drop (HT.sIx 3e9 0 lo)).take (HT.sIx 3e9 3e9 hi-HT.sIx 3e9 0 lo)
theorem Aa(xs:List β)(lo hi:Option Int)(h:HT.sIx 3e9 0 lo=0/\HT.sIx 3e9 3e9 hi=3e9):jz xs lo hi=xs:=by
 unfold jz;rw[h.1,h.2];simp
def IV(K:W.Frag):V->Option Int->Option Int->Hp->VK->Prop:=fun x lo hi H Q=>∃a xs,x=.ref a/\gh K H a xs /\
 (HT.sIx 3e9 0 lo=0/\HT.sIx 3e9 3e9 hi=3e9)/\Q (.ref a) H
theorem GN{X:Cx}:FZ X (IV X.K):=by
 intro pins s B H x v vl vu lo hi sl Q I rx hs pl pu h;obtain⟨a,xs,rfl,hx,hw,q⟩:=h;cases rx;obtain⟨its,r,ht,hz⟩:=I.tuple hx;have hlen:its.toArray.size=xs.length:=by rw[Rf];exact r.length.symm
 refine⟨"tuple",_,RP.lookup,ht.typeIs,?_⟩;exact nr ht hs pl pu (by rw[hlen];exact hw) ⟨.ref a,H,I,rfl,q⟩
def MM(K:W.Frag):V->Option Int->Option Int->Hp->VK->Prop:=fun x lo hi H Q=>MK K x lo hi H Q\/IV K x lo hi H Q\/ML K x lo hi H Q
theorem Pg{X:Cx}:FZ X (MM X.K):=Kf.or (GN.or GO)
abbrev MO:=Ro->aB->ai (Option Int)
def yU:MO:=fun _ Y=>.ok none Y
def OH(d:D)(Y:aB):ai (Option Int):=match d with
 |.int i=>.ok (some i) Y
 |_=>.bad
def iq(f:ME):MO:=fun Z Y=>(f Z Y).bind OH
def II(p:Pa)(f:MO):TO:=fun B H Q=>∃J Z Y,p.S H J Y/\dD p.K H J Z B/\aH p H J (f Z Y) (fun o _ H' _=>Q o H')
theorem PO.weak{X:Cx}{e:Option Expr}{t t':TO}(h:PO X e t)(k:∀B H Q,t' B H Q->t B H Q):PO X e t':=fun pins s B H Q I q=>h pins s B H Q I (k B H Q q)
theorem GM{X:Cx}:PO X none (II p yU):=Hi.weak fun B H Q ⟨J,Z,Y,S,R,P⟩=>P.now S
theorem GL{X:Cx}{f:ME}(h:PE X e (tD p f)):PO X (some e) (II p (iq f)):=(Hh h).weak fun B H Q ⟨J,Z,Y,S,R,P⟩=>⟨J,Z,Y,S,R,(aH.bind P).imp fun d Y1 H1 J1 X1 S1 P1 v rv=>by
 unfold OH at P1;split at P1
 ·rename_i i;exact⟨i,ax.mp rv,P1.now S1⟩
 ·exact P1.elim⟩
noncomputable def yV(a:D)(lo hi:Option Int)(Y:aB):ai D:=match a with
 |.tup xs=>.ok (.tup (jz xs lo hi)) Y
 |.frz xs=>.ok 1e0 (Y++[.lst (jz xs lo hi)])
 |.obj n=>match Y[n]? with
  |some 2e9=>.ok 1e0 (Y++[.lst (jz xs lo hi)])
  |_=>.bad
 |_=>.bad
def wU(fa:ME)(fl fh:MO):ME:=fun Z Y=>(fa Z Y).bind fun a Y1=>(fl Z Y1).bind fun lo Y2=>(fh Z Y2).bind fun hi Y3=>yV a lo hi Y3
theorem Reps.cut'(r:Reps K H J xs vs)(lo hi:Option Int):Reps K H J (jz xs lo hi) (wY vs lo hi):=by
 unfold jz wY;rw[r.length];exact(r.drop _).take _
theorem NV{a:D}{lo hi:Option Int}{Q:VK}(S:p.S H J Y)(ra:p.R H J a v)(P:aH p H J (yV a lo hi Y) (RV p Q)):MM p.K v lo hi H Q:=by
 unfold yV at P;split at P
 ·rename_i xs;obtain⟨a,us,rfl,h1,r1⟩:=aN.mp ra;by_cases hw:HT.sIx us.length 0 lo=0/\HT.sIx us.length us.length hi=us.length
  ·refine .inr (.inl ⟨a,us,rfl,h1,hw,?_⟩);rw[r1.length]at hw;rw[Aa xs lo hi hw]at P;exact P.now S _ ra
  ·exact .inl ⟨a,us,rfl,h1,hw,fun q hq=>P _ _ (bW hq) (S.tuple hq) _ (aN.mpr ⟨q,_,rfl,gh.of cz,(r1.cut' lo hi).mono (bW hq)⟩)⟩
 ·rename_i xs;obtain⟨a,us,rfl,h1,r1⟩:=bI.mp ra;refine .inr (.inr ⟨a,us,rfl,h1.sq,fun q hq=>?_⟩);obtain⟨x1,x2,x3⟩:=du S hq (r1.cut' lo hi);exact P _ _ x1 x2 _ x3
 ·rename_i n;split at P
  ·rename_i xs hx;obtain⟨a,us,rfl,a1,h1,r1⟩:=df S ra hx;refine .inr (.inr ⟨a,us,rfl,gP.of h1,fun q hq=>?_⟩);obtain⟨x1,x2,x3⟩:=du S hq (r1.cut' lo hi);exact P _ _ x1 x2 _ x3
  ·exact P.elim
 ·exact P.elim
theorem Ex{X:Cx}{lo hi:Option Expr}{fl fh:MO}{p2:Pos}(hK:X.K=p.K)(he:PE X e (tD p fa))(hl:PO X lo (II p fl))(hu:PO X hi (II p fh)):PE X (.Subscript e (.Slice lo hi none p2) pos) (tD p (wU fa fl fh)):=
 (EU Pg he hl hu).weak fun B H Q ⟨J, Z, Y, S, R, P⟩ => ⟨J, Z, Y, S, R, (aH.bind P).imp fun a Y1 H1 J1 X1 S1 P1 v rv => ⟨J1, Z, Y1, S1, R.mono X1, (aH.bind P1).imp fun l Y2 H2 J2 X2 S2 P2 => ⟨J2, Z, Y2, S2, (R.mono X1).mono X2, (aH.bind P2).imp fun h Y3 H3 J3 X3 S3 P3 => by
  rw[hK];exact NV S3 ((rv.mono X2).mono X3) P3⟩⟩⟩
theorem mC{β γ:Type}{f:β->Option γ}{g:β->γ}:∀{l:List β},(∀m∈l,f m=some (g m))->l.filterMap f=l.map g
 |[],_=>rfl
 |x::r,h=>by rw[QF,h x QG,RZ,mC fun m hm=>h m (QH _ hm)]
theorem xR(xs:Array Value):((List.range xs.size).filterMap fun(m:Nat)=>xs[(((xs.size:Int)-1)+(m:Int)*(-1)).toNat]?).toArray=xs.toList.reverse.toArray:=by
 congr 1;apply Ui;intro i
 have hf:∀m∈List.range xs.size,xs[(((xs.size:Int)-1)+(m:Int)*(-1)).toNat]?=some (xs.toList.reverse.getD m .none):=by
  intro m hm;have hm':m<xs.size:=by simpa using hm
  have e:(((xs.size:Int)-1)+(m:Int)*(-1)).toNat=xs.size-1-m:=by omega
  rw[e,Uh,List.getElem?_reverse (by simpa using hm')];have h2:xs.size-1-m<xs.size:=by omega
  rw[TH h2];simp[QT,h2]
 rw[mC hf];by_cases hi:i<xs.size
 ·rw[Rv,Uj hi];dsimp[Option.map_some];rw[Uh,Ux 6e3];rfl
 ·rw[Uk 6e3,Uk 6e3]
theorem qx{t:Tok}{Q:Int×Int×Nat->Shared->Prop}(hs:s.heap.IsSliceOf sl .none .none (.int (-1) t))(h:Q ((n:Int)-1,-1,n) s):wpAny 1e2 A (Builtin.Slice.sliceApplied (.ref sl) (pure (n:Int))) Q E s:=by
 obtain⟨os,hos,hcs,hds⟩:=id hs;unfold Builtin.Slice.sliceApplied Builtin.Slice.sliceFields;refine QW (QW (RK hos hds (x:=.none) rfl (QW (RK hos hds (x:=.none) rfl (QW (RK hos hds (x:=.int (-1) t) rfl (Q3 ?_)))))));refine QW (slicePart_int ?_);show wpAny _ _ (if ((-1:Int) == 0)=true then _ else _) _ _ s;rw[Qv 0e4];refine QW (RJ (QW (RJ (QW (Q3 ?_)))));show wpAny _ _ (match Builtin.Slice.sliceAdjust none none (-1) (n:Int) with|(lo,hi)=>pure (lo,(-1:Int),Builtin.Slice.slicePlaces lo hi (-1))) _ _ s;have e:Builtin.Slice.sliceAdjust none none (-1) (n:Int)=((n:Int)-1,-1):=by unfold Builtin.Slice.sliceAdjust;simp
 rw[e];show wpAny _ _ (pure ((n:Int)-1,(-1:Int),Builtin.Slice.slicePlaces ((n:Int)-1) (-1) (-1))) _ _ s
 have e2:Builtin.Slice.slicePlaces ((n:Int)-1) (-1) (-1)=n:=by
  unfold Builtin.Slice.slicePlaces;rw[Qv 0e4];split <;> simp <;> omega
 rw[e2];exact Q3 h
theorem pG{t:Addr}{tk:Tok}{items:Array Value}(ht:IsTup 3e2 t items)(hs:s.heap.IsSliceOf sl .none .none (.int (-1) tk))(h:Q (.ref 0e3) {s with heap:=s.heap.push {cls:=.type "tuple",data:=.seq items.toList.reverse.toArray}})(hsz:items.size<=sizeLine):wpAny 1e2 A (getItem (.ref t) (.ref sl)) Q E s:=by
 have htake:sizeOk (.seq items.toList.reverse.toArray):=by
  show items.toList.reverse.toArray.size<=sizeLine;simpa using hsz
 obtain⟨os,hos,hcs,hds⟩:=id hs;have hTs:s.TypeIs (.ref sl) "slice" := ⟨os,hos,hcs⟩;unfold getItem
 try with_reducible refine QX ?_
 first|refine QW (Q3 ?_)|skip
 refine QW (RN ht.typeIs 0e4 ?_)
 refine QW (RO (name:=Str.ofString "__getitem__") ht.typeIs RP
  (RQ RP ht.typeIs RR ?_ (RT _ _)))
 show wpAny _ _ (Builtin.Tuple.tupleItemsOf (.ref t) >>= _) _ _ s;refine QW (tupleItemsOf_ ht ?_);refine QW (RU hTs ?_);rw[Qu 0e4];refine QW (qx hs ?_);show wpAny _ _ (if (((items.size:Int)-1) == 0&&(-1:Int) == 1&&items.size == items.size)=true then _ else _) _ _ s;rw[Qv 0e6,xR]
 first
  |exact QW (m:=Builtin.Tuple.tupleExact _) (RX 12e7 htake)
  |exact QW (m:=Builtin.Tuple.tupleExact _) (RX (QW (Q3 12e7)) htake)
  |exact QW (QW (m:=Builtin.Tuple.tupleExact _) (RX (Q3 12e7) htake))
  |exact QW (QW (m:=Builtin.Tuple.tupleExact _) (RX 12e7 htake))
end
inductive CS(K:W.Frag)(H:Hp):V->String->Prop where
 |non:CS K H .non "NoneType"
 |bl (x:Bool):CS K H (.bl x) "bool"
 |int (i:Int):CS K H (.int i) "int"
 |str (x:Str):CS K H (.str x) "str"
 |lst {a:Addr}{xs:List V} (e:gP K H a xs):CS K H (.ref a) "list"
 |tup {a:Addr}{xs:List V} (e:gh K H a xs):CS K H (.ref a) "tuple"
 |dic {a:Addr}{kvs:List (tV×V)} (e:H a=some (.dK kvs)):CS K H (.ref a) "dict"
def lO (tn T:String):Bool:=tn == T || (tn == "bool" && T == "int")
def vJ:List String:=["NoneType", "bool", "int", "str", "list", "tuple", "dict"]
theorem LH:∀tn∈vJ,∀T∈["int", "bool", "tuple", "list", "str", "dict"],W.kitOne K (.type tn) (.type T)=some (lO tn T):=by
 intro tn h1 T h2;dsimp[vJ,QI,SS,SU]at h1 h2;rcases h1 with rfl|rfl|rfl|rfl|rfl|rfl|rfl <;> rcases h2 with rfl|rfl|rfl|rfl|rfl|rfl <;> rfl
theorem CS.mem{x:V}(h:CS K H x tn):tn∈vJ:=by
 cases h <;> decide
section
variable{X:Cx}
theorem LQ{c:Value}{b:Bool}{x:V}(I:bb X pins B H s)(rx:cB x u)(ty:CS X.K H x tn)(e:W.kitOne X.K (.type tn) c=some b)(h:∀tk,Q (.bool b) {s with toks:=tk}):
  wpAny 1e1 A (call (.builtin "isinstance") [u,c]) Q E s:=by
 cases ty with
 |non=>cases (show u=Value.none from rx);exact W.kia_one W.kitx_none I.kIn True.intro e (fun z=>nomatch z) h
 |bl y=>cases (show u=Value.bool y from rx);exact W.kia_one W.kitx_bool I.kIn True.intro e (fun z=>nomatch z) h
 |int i=>obtain⟨t,q⟩:=(show ∃t,u=Value.int i t from rx);cases q;exact W.kia_one W.kitx_int I.kIn True.intro e (fun z=>nomatch z) h
 |str y=>obtain⟨t,q⟩:=(show ∃t,u=Value.str y t from rx);cases q;exact W.kia_one W.kitx_str I.kIn True.intro e (fun z=>nomatch z) h
 | @lst a xs ea=>
  cases (show u=Value.ref a from rx);obtain⟨its,_,⟨o,n,h1,h2,_⟩,_⟩:=I.list ea;exact W.kia_one W.kitx_list I.kIn ⟨o,h1,h2⟩ e (fun z=>nomatch z) h
 | @tup a xs ea=>
  cases (show u=Value.ref a from rx);obtain⟨its,_,⟨o,h1,h2,_⟩,_⟩:=I.tuple ea;exact W.kia_one W.kitx_tuple I.kIn ⟨o,h1,h2⟩ e (fun z=>nomatch z) h
 | @dic a kvs ea=>
  cases (show u=Value.ref a from rx);obtain⟨_,_,vs,_,p⟩:=(show fS X.prog X.w H 3e2 a (.dK kvs) from I.hok a _ ea);obtain⟨o,es,ep,h1,h2,_⟩:=p;exact W.kia_one W.kitx_dict I.kIn ⟨o,h1,h2.1⟩ e (fun z=>nomatch z) h
def MU(K:W.Frag):List V->Hp->VK->Prop:=fun xs H Q=>∃x T tn b,xs=[x,.ty T]/\CS K H x tn/\W.kitOne K (.type tn) (.type T)=some b/\Q (.bl b) H
theorem FK:dX X (.builtin "isinstance") (MU X.K):=by
 intro pins s B H xs us Q I r h;obtain⟨x,T,tn,b,rfl,ty,e,q⟩:=h;obtain⟨u,u2,rfl,ru,ru2⟩:=Au r;cases ru2;exact LQ I ru ty e fun tk=>⟨.bl b,H,I.tok _,rfl,q⟩
end
noncomputable def kP(Y:aB):D->Option String
 |.non=>some "NoneType"
 |.bl _=>some "bool"
 |.int _=>some "int"
 |.str _=>some "str"
 |.tup _=>some "tuple"
 |.frz _=>some "list"
 |.obj n=>match Y[n]? with
  |some (.lst _)=>some "list"
  |some .dic=>some "dict"
  |_=>none
theorem JR(S:p.S H J Y)(r:p.R H J d v)(h:kP Y d=some tn):CS p.K H v tn:=by
 cases d with
 |non=>cases h;rw[bS.mp r];exact .non
 |bl b=>cases h;rw[aZ.mp r];exact .bl b
 |int b=>cases h;rw[ax.mp r];exact .int b
 |str b=>cases h;rw[bC.mp r];exact .str b
 |tup xs=>cases h;obtain⟨a,vs,rfl,h1,_⟩:=aN.mp r;exact .tup h1
 |frz xs=>cases h;obtain⟨a,vs,rfl,h1,_⟩:=bI.mp r;exact .lst h1.sq
 |obj n=>
  unfold kP at h;dsimp only at h;split at h
  ·rename_i xs hx;cases h;obtain⟨a,us,rfl,a1,h1,_⟩:=df S r hx;exact .lst (gP.of h1)
  ·rename_i hx;cases h;obtain⟨a,ea,q⟩:=S.at hx;obtain⟨a',rfl,ea'⟩:=aY.mp r;rw[ea]at ea';cases ea';exact .dic q
  ·cases h
def eP(T:String)(d:D)(Y:aB):ai D:=match kP Y d with
 |some tn=>.ok (.bl (lO tn T)) Y
 |none=>.bad
theorem Ko{X:Cx}{a:Expr}{T:String}{xT:Str}{pt:Pos}(hK:X.K=p.K)(hT:T∈["int", "bool", "tuple", "list", "str", "dict"])(hg:Gl X "isinstance")(hm:X.mg "isinstance" = none)(hgT:Gl X xT)(hmT:X.mg xT=none)(hbT:bootBuiltins xT=some (.type T))(ha:PE X a (tD p fa))(hnT:xT ≠ "__name__")(hdT:(xT == ("__debug__" : Str))=false)(hs1:starEach [a,.Name xT pt] 2e1=(false,eval a 2e1)::starEach [.Name xT pt] 2e1):
  PE X 12e1 (tD p (mY (eP T) fa)):=by
 have hb:PE X (.Name xT pt) (tC (.ty T)):=AY hgT hmT hbT rfl hnT hdT;refine(oR FK hg hm UK (jU ha (jU hb sx rfl) hs1) 0e4 0e4 hs1 rfl).weak fun B H Q ⟨J,Z,Y,S,R,P⟩=>⟨J,Z,Y,S,R,(aH.bind P).imp fun d Y1 H1 J1 X1 S1 P1 v rv=>?_⟩;show MU X.K [v,.ty T] H1 Q;unfold eP at P1;split at P1
 ·rename_i tn htn;have ty:=JR S1 rv htn;rw[hK];exact⟨v,T,tn,_,rfl,ty,LH tn ty.mem T hT,P1.now S1 _ (aZ.mpr rfl)⟩
 ·exact P1.elim
def nQ:List D->Option (List Bool)
 |[]=>some []
 |.bl b::r=>(nQ r).map (b::·)
 |_::_=>none
theorem tu:∀{ds:List D}{bs:List Bool},nQ ds=some bs->ds=bs.map D.bl
 |[],bs,h=>by cases h;rfl
 |.bl b::r,bs,h=>by
  unfold nQ at h;cases e:nQ r with
  |none=>rw[e]at h;cases h
  |some cs=>rw[e]at h;cases h;rw[tu e];rfl
 |.non::r,bs,h=>by cases h
 |.int _::r,bs,h=>by cases h
 |.str _::r,bs,h=>by cases h
 |.tup _::r,bs,h=>by cases h
 |.frz _::r,bs,h=>by cases h
 |.obj _::r,bs,h=>by cases h
theorem CK(bs:List Bool):nQ (bs.map D.bl)=some bs:=by
 induction bs with
 |nil=>rfl
 |cons b r ih=>dsimp[RZ,nQ,ih];rfl
theorem Reps.bools{K:W.Frag}{H:Hp}{J:List Addr}:∀{bs:List Bool}{vs:List V},Reps K H J (bs.map D.bl) vs->vs=bs.map V.bl
 |[],vs,h=>by dsimp[RY,Reps]at h;exact h
 |n::ns,vs,h=>by
  dsimp[RZ,Reps]at h;obtain⟨v,r,rfl,h1,h2⟩:=h;rw[aZ.mp h1,Reps.bools h2];rfl
theorem zA{bs:List Bool}(h:bt (bs.map V.bl) us):us=bs.map Value.bool:=by
 induction bs generalizing us with
 |nil=>cases h;rfl
 |cons b r ih=>
  cases h with
  |cons h1 h2=>cases h1;rw[ih h2];rfl
theorem CM{bs:List Bool}:(List.range bs.length).all (fun i=>bs.getD i false)=bs.all id:=by
 induction bs with
 |nil=>rfl
 |cons b r ih=>
  rw[Sx,SW,Sa,UL,Sa];congr 1
section
variable{X:Cx}
def MX(K:W.Frag):List V->Hp->VK->Prop:=fun xs H Q=>∃(a:Addr)(bs:List Bool),xs=[.ref a]/\gP K H a (bs.map V.bl)/\Q (.bl (bs.all id)) H
theorem bb.fresh_it(I:bb X pins B H s){o:Obj}{tk:Nat}(hk:∀b ob,b ∉ [0e3]->(s.heap.push o).get? b=some ob->h'.get? b=some ob):bb X pins B H {s with heap:=h',toks:=tk}:=
 I.kept fun b ob e=>hk b ob (fun hm=>by
  have:b=s.heap.objs.size:=by simpa using hm
  subst this
  exact absurd (Qw e) (Qy _)) (Q6 _ e)
theorem CJ (hc:X.calm=true):dX X (.builtin "all") (MX X.K):=by
 intro pins s B H xs us Q I r h;obtain⟨a,bs,rfl,ha,q⟩:=h;obtain⟨u,rfl,ru⟩:=gQ r;cases ru;obtain⟨its,rv,pl,hz⟩:=I.list ha;have hi:its=bs.map Value.bool:=zA rv
 have hne:a≠s.heap.objs.size:=by
  obtain⟨o,n,e,_⟩:=pl;exact QA (Qw e)
 refine call_all_walk (T9 pl.isList ?_);refine⟨0e3,[0e3,a],[0e3],_,_,_,fun i=>bs.getD i false,rfl,Walks.list (A:=X.A.in1) 9e1 _ a hne 2e7,⟨⟨_,Q7 _ rfl,rfl,rfl⟩,pl.isList.at fun o e=>Q6 _ e⟩,?_,?_⟩
 ·intro i v s' Q' E' hP hQ;subst hi;have hv:(bs.map Value.bool)[i]?=some v:=by simpa using hP
  rw[Rv]at hv;cases e:bs[i]? with
  |none=>rw[e]at hv;cases hv
  |some b=>
   rw[e]at hv;cases hv;have:bs.getD i false=b:=by rw[Uh,e];rfl
   dsimp only at hQ;rw[this]at hQ;exact QS hQ
 ·intro h' tk hk;have e2:its.toArray.size=bs.length:=by subst hi;simp
  rw[e2,CM];exact⟨.bl _,H,I.fresh_it hk,rfl,q⟩
end
def tY(ds:List D)(Y:aB):ai D:=match ds with
 |[.obj n]=>match Y[n]? with
  |some 2e9=>match nQ xs with
   |some bs=>.ok (.bl (bs.all id)) Y
   |none=>.bad
  |_=>.bad
 |_=>.bad
theorem Ll:yW p tY (MX p.K):=by
 intro ds vs H J Y Q S r P;unfold tY at P;split at P
 ·rename_i n;split at P
  ·rename_i xs hx;split at P
   ·rename_i bs hb;obtain⟨v,rfl,r1⟩:=r.one;obtain⟨a,us,rfl,a1,h1,rr⟩:=df S r1 hx;rw[tu hb]at rr;exact⟨a,bs,rfl,by rw[<- rr.bools];exact gP.of h1,P.now S _ (aZ.mpr rfl)⟩
   ·exact P.elim
  ·exact P.elim
 ·exact P.elim
noncomputable def Ay(ds:List D)(Y:aB):ai D:=match ds with
 |[.tup xs]=>.ok (.int 3e9) Y
 |[.frz xs]=>.ok (.int 3e9) Y
 |[.str x]=>if x.length<=sizeLine then .ok (.int x.length) Y else .bad
 |[.obj n]=>match Y[n]? with
  |some 2e9=>.ok (.int 3e9) Y
  |_=>.bad
 |_=>.bad
theorem HG:yW p Ay (fun xs H Q=>∃x n,xs=[x]/\JE p.K x H n/\Q (.int n) H):=by
 intro ds vs H J Y Q S r P;unfold Ay at P;split at P
 ·rename_i xs;obtain⟨v,rfl,r1⟩:=r.one;obtain⟨a,us,rfl,h1,rr⟩:=aN.mp r1;exact⟨_,3e9,rfl,.inr ⟨us,h1,rr.length.symm⟩,P.now S _ 11e3⟩
 ·rename_i xs;obtain⟨v,rfl,r1⟩:=r.one;obtain⟨a,us,rfl,h1,rr⟩:=bI.mp r1;exact⟨_,3e9,rfl,.inl ⟨us,h1.sq,rr.length.symm⟩,P.now S _ 11e3⟩
 ·rename_i x;obtain⟨v,rfl,r1⟩:=r.one;split at P
  ·rename_i hl;exact⟨v,x.length,rfl,by rw[bC.mp r1];exact⟨hl,rfl⟩,P.now S _ 11e3⟩
  ·exact P.elim
 ·rename_i n;split at P
  ·rename_i xs hx;obtain⟨v,rfl,r1⟩:=r.one;obtain⟨a,us,rfl,a1,h1,rr⟩:=df S r1 hx;exact⟨_,3e9,rfl,.inl ⟨us,gP.of h1,rr.length.symm⟩,P.now S _ 11e3⟩
  ·exact P.elim
 ·exact P.elim
def eR(ds:List D)(Y:aB):ai D:=match ds with
 |[.tup xs]=>.ok (.tup xs) Y
 |[.frz xs]=>.ok (.tup xs) Y
 |[.obj n]=>match Y[n]? with
  |some 2e9=>.ok (.tup xs) Y
  |_=>.bad
 |_=>.bad
theorem E4:yW p eR (fun xs H Q=>∃q ys,xs=[.ref q]/\((gP p.K H q ys/\∀l,H l=none->Q (.ref l) (cV H l (.tup ys)))\/(gh p.K H q ys/\Q (.ref q) H))):=by
 intro ds vs H J Y Q S r P;unfold eR at P;split at P
 ·rename_i xs;obtain⟨v,rfl,r1⟩:=r.one;obtain⟨a,us,rfl,h1,rr⟩:=aN.mp r1;exact⟨a,us,rfl,.inr ⟨h1,P.now S _ r1⟩⟩
 ·rename_i xs;obtain⟨v,rfl,r1⟩:=r.one;obtain⟨a,us,rfl,h1,rr⟩:=bI.mp r1;exact⟨a,us,rfl,.inl ⟨h1.sq,fun q hq=>P _ _ (bW hq) (S.tuple hq) _ (aN.mpr ⟨q,us,rfl,gh.of cz,rr.mono (bW hq)⟩)⟩⟩
 ·rename_i n;split at P
  ·rename_i xs hx;obtain⟨v,rfl,r1⟩:=r.one;obtain⟨a,us,rfl,a1,h1,rr⟩:=df S r1 hx;exact⟨a,us,rfl,.inl ⟨gP.of h1,fun q hq=>P _ _ (bW hq) (S.tuple hq) _ (aN.mpr ⟨q,us,rfl,gh.of cz,rr.mono (bW hq)⟩)⟩⟩
  ·exact P.elim
 ·exact P.elim
noncomputable def lE(ds:List D)(Y:aB):ai D:=match ds with
 |[.tup xs]=>.ok 1e0 (Y++[.lst xs])
 |[.frz xs]=>.ok 1e0 (Y++[.lst xs])
 |[.obj n]=>match Y[n]? with
  |some 2e9=>.ok 1e0 (Y++[.lst xs])
  |_=>.bad
 |_=>.bad
theorem HF:yW p lE (fun xs H Q=>∃q ys,xs=[.ref q]/\(gP p.K H q ys\/gh p.K H q ys)/\∀l,H l=none->Q (.ref l) (cV H l (.lst ys))):=by
 intro ds vs H J Y Q S r P;unfold lE at P;split at P
 ·rename_i xs;obtain⟨v,rfl,r1⟩:=r.one;obtain⟨a,us,rfl,h1,rr⟩:=aN.mp r1;refine⟨a,us,rfl,.inr h1,fun q hq=>?_⟩;obtain⟨x1,x2,x3⟩:=du S hq rr;exact P _ _ x1 x2 _ x3
 ·rename_i xs;obtain⟨v,rfl,r1⟩:=r.one;obtain⟨a,us,rfl,h1,rr⟩:=bI.mp r1;refine⟨a,us,rfl,.inl h1.sq,fun q hq=>?_⟩;obtain⟨x1,x2,x3⟩:=du S hq rr;exact P _ _ x1 x2 _ x3
 ·rename_i n;split at P
  ·rename_i xs hx;obtain⟨v,rfl,r1⟩:=r.one;obtain⟨a,us,rfl,a1,h1,rr⟩:=df S r1 hx;refine⟨a,us,rfl,.inl (gP.of h1),fun q hq=>?_⟩;obtain⟨x1,x2,x3⟩:=du S hq rr;exact P _ _ x1 x2 _ x3
  ·exact P.elim
 ·exact P.elim
def qJ(ds:List D)(Y:aB):ai D:=match ds with
 |[.int i]=>.ok (.int i) Y
 |[.bl k]=>.ok (.int (if k then 1 else 0)) Y
 |_=>.bad
theorem Lk:yW p qJ (fun xs H Q=>(∃i,xs=[.int i]/\Q (.int i) H)\/∃k,xs=[.bl k]/\Q (.int (if k then 1 else 0)) H):=by
 intro ds vs H J Y Q S r P;unfold qJ at P;split at P
 ·rename_i i;obtain⟨v,rfl,r1⟩:=r.one;exact .inl ⟨i,by rw[ax.mp r1],P.now S _ 11e3⟩
 ·rename_i i;obtain⟨v,rfl,r1⟩:=r.one;exact .inr ⟨i,by rw[aZ.mp r1],P.now S _ 11e3⟩
 ·exact P.elim
def Du(ds:List D)(Y:aB):ai D:=match ds with
 |[.int i,.int j]=>.ok (.int (if j>i then j else i)) Y
 |_=>.bad
def Dt(ds:List D)(Y:aB):ai D:=match ds with
 |[.int i,.int j]=>.ok (.int (if j<i then j else i)) Y
 |_=>.bad
theorem HE:yW p Du (fun xs H Q=>∃i j,xs=[.int i,.int j]/\Q (.int (if j>i then j else i)) H):=by
 intro ds vs H J Y Q S r P;unfold Du at P;split at P
 ·rename_i i j;obtain⟨v,u,rfl,r1,r2⟩:=r.two;exact⟨i,j,by rw[ax.mp r1,ax.mp r2],P.now S _ 11e3⟩
 ·exact P.elim
theorem HD:yW p Dt (fun xs H Q=>∃i j,xs=[.int i,.int j]/\Q (.int (if j<i then j else i)) H):=by
 intro ds vs H J Y Q S r P;unfold Dt at P;split at P
 ·rename_i i j;obtain⟨v,u,rfl,r1,r2⟩:=r.two;exact⟨i,j,by rw[ax.mp r1,ax.mp r2],P.now S _ 11e3⟩
 ·exact P.elim
section
theorem yO{T:String}(hT:T = "list" \/ T = "tuple"){vs:List Value}{Q:List Value->Shared->Prop}{o:Obj}(ho:s.heap.get? l=some o)(hc:o.cls=.type T)(hd:o.data=.seq vs.toArray n)(h:Q vs {s with heap:=(s.heap.push 3e1).update 0e3 11e9})(hsz:vs.length<=sizeLine):
  wpAny 1e2 A (collect (.ref l)) Q E s:=by
 unfold collect;refine QW (Ua (TZ entry_proto_collect' ?_));show wpAny _ _ (do again (.builtin "list.__iadd__" ⟨[<- newList [],.ref l],[]⟩)) _ _ s;refine QW (Uq (Q3 ⟨T7 _ 0e9,TZ entry_list_iadd' ?_⟩));show wpAny _ _ (Builtin.List.listExtendWith (.ref 0e3) (.ref l) (.ref 0e3)) _ _ {s with heap:=s.heap.push 3e1};unfold Builtin.List.listExtendWith;have ho':(s.heap.push 3e1).get? l=some o:=Q6 _ ho;refine QW (RU (T:=T) ⟨o,ho',hc⟩ ?_);have h1:(Value.type "list" == Value.type "list")=true:=by rfl
 have h2:(Value.type "tuple" == Value.type "tuple")=true:=by rfl
 rw[Qu (by rcases hT with rfl|rfl <;> simp[h1,h2])];refine QW (listItems_at ho' hd ?_);refine QW (listItems_at (xs:=#[]) (n:=0) (Q7 _ rfl) rfl ?_);rw[Qv 0e6];refine QW (Um (xs:=#[]) (n:=0) (Q7 _ rfl) rfl ?_ (SI _) (by show (#[]++vs.toArray).size<=sizeLine+1;dsimp[Array.size_append,Rf,S8];omega));refine Q3 ?_
 show wpAny 1e2 A (do
   let o <- load 0e3
   match o.data with
   |.seq xs _=>pure xs.toList
   |_=>unsupported "internal:collect") Q E {s with heap:=(s.heap.push 3e1).update 0e3 11e9}
 refine QW (Q4 (Uo (Q7 _ rfl) _) ?_);show wpAny _ _ (pure ((#[]:Array Value)++vs.toArray).toList) Q E _;rw[show ((#[]:Array Value)++vs.toArray).toList=vs by simp];exact Q3 h
theorem v8{T:String}(hT:T = "list" \/ T = "tuple"){vs:List Value}{o:Obj}(ho:s.heap.get? l=some o)(hc:o.cls=.type T)(hd:o.data=.seq vs.toArray n)(hI:IntsAre vs ns)(h64:vs.length<64)(h:∀(out:Array Value)(ns':List Int),IntsAre out.toList ns'->ns'.Perm ns->ns'.Pairwise (·<=·)->Q (.ref 8e7) {s with heap:=sortedAll 3e2 vs out}):
  wpAny 1e2 A (call (.builtin "sorted") [.ref l]) Q E s:=by
 have hsz0:vs.length<=sizeLine:=QD (QE h64) 0e4;refine Calls.call_function_entry kind_sorted plain_sorted entry_sorted (args_sorted1 _) ?_;unfold Builtin.«sorted»;refine QW (m:=checkCount "sorted" 1 1 _) (Q3 ?_);refine QW (yO hT ho hc hd ?_ hsz0);refine QW (Uq ?_ hsz0)
 have hsz:((s.heap.push 3e1).update 0e3 11e9).objs.size=s.heap.objs.size+1:=by
  rw[Us,Ur]
 have hoL:(((s.heap.push 3e1).update 0e3 11e9).push (seqObj "list" vs.toArray 0)).get? 8e7=some (seqObj "list" vs.toArray 0):=by
  rw[<- hsz];exact Q7 _ rfl
 show wpAny _ _ _ _ _ {s with heap:=((s.heap.push 3e1).update 0e3 11e9).push (seqObj "list" vs.toArray 0)};rw[hsz];refine QW (QX (RQ slot_list_sort ⟨_,hoL,rfl⟩ entry_list_sort (list_sort_tree hoL hI h64 fun out ns' a1 a2 a3=>⟨_,rfl,?_⟩) (args_list_sort _)));exact Q3 ⟨_,rfl,h out ns' a1 a2 a3⟩
end
theorem t5{h:Heap}{vs:List Value}{out:Array Value}{u:Obj}(e:h.get? b=some u):(sortedAll h vs out).get? b=some u:=by
 have hb:=Qw e;have n1:b≠h.objs.size:=QA hb;have n2:b≠h.objs.size+1:=QA (SA hb);unfold sortedAll sortedHeap;rw[Ut _ _ _ _ n2];refine Q6 _ (Q6 _ ?_);rw[Ut _ _ _ _ n2];refine Q6 _ ?_;rw[Ut _ _ _ _ n1];exact Q6 _ e
theorem t6 {h:Heap}{vs:List Value}{out:Array Value}:∃n,(sortedAll h vs out).get? (h.objs.size+1)=some (seqObj "list" out n):=by
 unfold sortedAll sortedHeap
 have hsz:((h.push 3e1).update h.objs.size 11e9).objs.size=h.objs.size+1:=by
  rw[Us,Ur]
 have hoL:(((h.push 3e1).update h.objs.size 11e9).push (seqObj "list" vs.toArray 0)).get? (h.objs.size+1)=some (seqObj "list" vs.toArray 0):=by
  rw[<- hsz];exact Q7 _ rfl
 have g1:=Uo hoL (fun _=>#[]);have g2:=Q6 3e1 (Q6 (seqObj "tuple" vs.toArray 0) g1);exact⟨_,Uo g2 (fun _=>out)⟩
theorem v5(h:IntsAre us ns):bt 8e1 us:=by
 induction h with
 |nil=>exact .nil
 |cons n t _ ih=>exact .cons ⟨t,rfl⟩ ih
section
variable{X:Cx}
def DM(K:W.Frag):List V->Hp->VK->Prop:=fun xs H Q=>∃(a:Addr)(ns:List Int),xs=[.ref a]/\(gP K H a 8e1\/gh K H a 8e1)/\ns.length<64 /\
 ∀ns':List Int,ns'.Perm ns->ns'.Pairwise (·<=·)->∀l,H l=none->Q (.ref l) (cV H l (.lst (ns'.map V.int)))
theorem Ai:dX X (.builtin "sorted") (DM X.K):=by
 intro pins s B H xs us Q I r h;obtain⟨a,ns,rfl,ha,hl,q⟩:=h;obtain⟨u,rfl,ru⟩:=gQ r;cases ru
 have core:∀(T:String),T = "list" \/ T = "tuple" -> ∀(its:List Value) (o:Obj) (n:Nat),s.heap.get? a=some o->o.cls=.type T->o.data=.seq 2e7 n->bt 8e1 its->wpAny 1e1 X.A (call (.builtin "sorted") [.ref a]) 10e6 X.xe s:=by
  intro T hT its o n e1 e2 e3 rv;have hI:IntsAre its ns:=jL rv;refine v8 hT e1 e2 e3 hI (by rw[hI.length];exact hl) fun out ns' h1 h2 h3=>?_;refine⟨.ref 8e7,cV H 8e7 (.lst (ns'.map V.int)),I.laid (t':=s.toks) (fun b ob e=>t5 e) (Sg _) ?_,rfl,q ns' h2 h3 _ (I.hok.fresh (Sg _))⟩;obtain⟨m,e⟩:=t6 (h:=3e2) (vs:=its) (out:=out);refine⟨?_,out.toList,m,v5 h1,by simpa using e⟩;rw[Rz,h2.length_eq];exact QD (QE hl) 0e4
 rcases ha with ha|ha
 ·obtain⟨its,rv,⟨o,n,e1,e2,_,e3⟩,hz⟩:=I.list ha;exact core "list" (.inl rfl) its o n e1 e2 e3 rv
 ·obtain⟨its,rv,⟨o,e1,e2,n,e3⟩,hz⟩:=I.tuple ha;exact core "tuple" (.inr rfl) its o n e1 e2 e3 rv
theorem uu{r:Addr}(I:bb X pins B H s)(h:gh X.K H r (k.map V.int)):Tk X.prog X.w 3e2 k r:=by
 obtain⟨its,rv,⟨o,e1,e2,n,e3⟩,_⟩:=I.tuple h;refine⟨o,2e7,n,e1,e2,e3,?_⟩
 have core:∀(k:List Int)(its:List Value),bt (k.map V.int) its->PySem.ItemsAre (intKind X.prog X.w) k its:=by
  intro k
  induction k with
  |nil=>intro its h;cases h;exact .nil
  |cons i r ih=>
   intro its h;cases h with
   |cons h1 h2=>
    obtain⟨t,rfl⟩:=h1;exact .cons (by simp[intKind,Value.isInt]) (ih _ h2)
 simpa using core k its rv
def lU(qs:List KP):List V:=qs.map fun p=>V.ref p.2
theorem pZ:∀{qs:List KP}{its:List Value},bt (lU qs) its->its=qs.map fun p=>Value.ref p.2
 |[],its,h=>by cases h;rfl
 |q::qs,its,h=>by
  cases h with
  |cons h1 h2=>cases h1;rw[pZ h2];rfl
theorem qK:∀(qs:List KP),bt (lU qs) (bo qs)
 |[]=>.nil
 |q::qs=>.cons rfl (qK qs)
def Di(K:W.Frag)(w:World):List V->Hp->VK->Prop:=fun xs H Q=>∃(a:Addr)(qs:List KP),xs=[.ref a]/\(gP K H a (lU qs)\/gh K H a (lU qs))/\(∀p∈qs,p.1∈prs/\gh K H p.2 (p.1.map V.int)) /\
 ∀l,H l=none->Q (.ref l) (cV H l (.ext fun h=>cQ w h l (gx qs)))
theorem CC (hc:X.calm=true) (hu:X.A.units+64<cLine):dX X (.type "set") (Di X.K X.w):=by
 intro pins s B H xs us Q I r h;obtain⟨a,qs,rfl,ha,hq,q⟩:=h;obtain⟨u,rfl,ru⟩:=gQ r;cases ru
 have fin:∀(h':Heap)(tk:Nat),cQ X.w h' 0e3 (gx qs)->(∀b o,b<s.heap.objs.size->s.heap.get? b=some o->h'.get? b=some o)->EP X pins B Q (.ref 0e3) {s with heap:=h',toks:=tk}:=by
  intro h' tk hS hk;refine⟨.ref 0e3,cV H 0e3 (.ext fun h=>cQ X.w h 0e3 (gx qs)),I.laid (t':=tk) (fun b ob e=>hk b ob (Qw e) e) 8e0 ?_,rfl,q _ (I.hok.fresh 8e0)⟩;refine⟨hS,?_,fun h1 h2 g k=>g.keeps k⟩;obtain⟨o,es,ep,t,ρ,S0,_⟩:=hS;exact⟨o,S0.ho⟩
 rcases ha with ha|ha
 ·obtain⟨its,rv,pl,hz⟩:=I.list ha;exact yA (I.ok.hd hc) pl.isList (by simpa using pZ rv) (fun p hp=>(hq p hp).1) (fun p hp=>uu I (hq p hp).2) 0e0 fin
 ·obtain⟨its,rv,pl,hz⟩:=I.tuple ha;exact wb (I.ok.hd hc) pl (by simpa using pZ rv) (fun p hp=>(hq p hp).1) (fun p hp=>uu I (hq p hp).2) 0e0 fin
def DL(K:W.Frag)(w:World):List V->Hp->VK->Prop:=fun xs H Q=>∃(a:Addr)(ps:List KP),xs=[.ref a]/\H a=some (.ext fun h=>cQ w h a ps)/\(∀p∈ps,gh K H p.2 (p.1.map V.int)) /\
 ∀out:List KP,out.Perm ps->jE out->∀l,H l=none->Q (.ref l) (cV H l (.lst (lU out)))
theorem Ah (hc:X.calm=true):dX X (.builtin "sorted") (DL X.K X.w):=by
 intro pins s B H xs us Q I r h;obtain⟨a,ps,rfl,ha,hT,q⟩:=h;obtain⟨u,rfl,ru⟩:=gQ r;cases ru;obtain⟨hS,_⟩:=(show fS X.prog X.w H 3e2 a (.ext fun h=>cQ X.w h a ps) from I.hok a _ ha);refine nT (I.ok.hd hc) hS (fun p hp=>uu I (hT p hp)) fun out hp hr h' D hD hk hn=>?_;refine⟨.ref D,cV H D (.lst (lU out)),I.laid (t':=s.toks) (fun b ob e=>hk b ob e) hD ?_,rfl,q out hp hr _ (I.hok.fresh hD)⟩;obtain⟨n,e⟩:=hn;refine⟨?_,bo out,n,qK out,e⟩
 have hl:out.length<=15:=by
  rw[hp.length_eq];obtain⟨o,es,ep,t,ρ,S0,hk,hn⟩:=hS;exact oI hk hn
 unfold lU;rw[Rz];exact QD hl 0e4
end
def aq(k:List Int):D:=.tup (k.map D.int)
def Bl:D->Option 1e9
 |.tup [.int a,.int b]=>if 0<=a/\a<b/\b<6 then some [a,b] else none
 |_=>none
def qH:List D->Option (List 1e9)
 |[]=>some []
 |d::r=>match Bl d,qH r with
  |some k,some ks=>some (k::ks)
  |_,_=>none
theorem Ij(h:Bl d=some k):d=aq k/\k∈prs:=by
 unfold Bl at h;split at h
 ·split at h
  ·rename_i hc;cases h;exact⟨rfl,AV hc.1 hc.2.1 hc.2.2⟩
  ·cases h
 ·cases h
theorem Cg{a b:Int}(h:0<=a/\a<b/\b<6):Bl (.tup [.int a,.int b])=some [a,b]:=by
 dsimp[Bl,Qu h]
theorem yc:∀{ds:List D}{ks:List 1e9},qH ds=some ks->ds=ks.map aq/\∀k∈ks,k∈prs
 |[],ks,h=>by cases h;exact⟨rfl,fun k hk=>by simp at hk⟩
 |d::r,ks,h=>by
  unfold qH at h;split at h
  ·rename_i k ks' h1 h2;cases h;obtain⟨e1,e2⟩:=Ij h1;obtain⟨f1,f2⟩:=yc h2;refine⟨by rw[e1,f1];rfl,fun k' hk=>?_⟩;rcases QI.mp hk with z|z
   ·rw[z];exact e2
   ·exact f2 k' z
  ·cases h
theorem oW:∀{ks:List 1e9},(∀k∈ks,k∈prs)->qH 0e5=some ks
 |[],_=>rfl
 |k::ks,h=>by
  obtain⟨a,b,rfl,h1,h2,h3⟩:=jv (h k QG);dsimp[RZ,qH,oW fun k' hk=>h k' (QH _ hk)];have:Bl (aq [a,b])=some [a,b]:=Cg ⟨h1,h2,h3⟩;rw[this]
def nJ(ks:List 1e9)(k:List Int):List 1e9:=if k∈ks then ks else ks++[k]
def cT(ks:List 1e9):List 1e9:=ks.foldl nJ []
def cI(ks:List 1e9):List 1e9:=prs.filter fun k=>decide (k∈ks)
theorem tF:∀(qs ps:List KP),(qs.foldl (fun ps p=>jA ps p.1 p.2) ps).map 5e4=(qs.map 5e4).foldl nJ (ps.map 5e4)
 |[],ps=>rfl
 |q::qs,ps=>by
  rw[Si,RZ,Si,tF qs];congr 1;unfold jA nJ;split <;> simp
theorem Cw(qs:List KP):(gx qs).map 5e4=cT (qs.map 5e4):=tF qs []
theorem Cv:k∈cT ks↔k∈ks:=by
 have core:∀(ks acc:List 1e9),k∈ks.foldl nJ acc↔k∈acc\/k∈ks:=by
  intro ks
  induction ks with
  |nil=>intro acc;simp
  |cons x r ih=>
   intro acc;rw[Si,ih];unfold nJ;split
   ·rename_i hx;constructor
    ·rintro (h | h)
     ·exact .inl h
     ·exact .inr (QH _ h)
    ·rintro (h | h)
     ·exact .inl h
     ·rcases QI.mp h with z | z
      ·exact .inl (by rw[z];exact hx)
      ·exact .inr z
   ·simp[or_assoc]
 unfold cT;rw[core];simp
theorem sZ:prs.Pairwise fun a b=>pI a<pI b:=by decide +kernel
theorem FD{l m:List 1e9}(hl:l.Pairwise fun a b=>pI a<pI b)(hm:m.Pairwise fun a b=>pI a<pI b)(h:∀k,k∈l↔k∈m):l=m:=by
 have nl:l.Nodup:=hl.imp fun h e=>by subst e;omega
 have nm:m.Nodup:=hm.imp fun h e=>by subst e;omega
 have hp:l.Perm m:=(TF nl nm).mpr h;refine hp.eq_of_pairwise (le:=fun a b=>pI a<pI b) (fun a b _ _ h1 h2=>by omega) hl hm
theorem Ep{out:List KP}{ps:List KP}(hk:∀p∈ps,p.1∈prs)(hp:out.Perm ps)(hr:jE out):out.map 5e4=cI (ps.map 5e4):=by
 refine FD ?_ (sZ.filter _) fun k=>?_
 ·unfold jE at hr;rw[Ul];exact hr
 ·have h1 : k ∈ out.map 5e4 ↔ k ∈ ps.map 5e4 := (hp.map _).mem_iff;rw[h1];unfold cI;rw[QB,UH];constructor
  ·intro h;refine⟨?_,h⟩;obtain⟨p,hp',rfl⟩:=Te.mp h;exact hk p hp'
  ·exact fun h=>h.2
theorem j7(ks:List 1e9):cI (cT ks)=cI ks:=by
 unfold cI;apply List.filter_congr;intro k _;dsimp[Cv]
theorem Reps.keys{K:W.Frag}{H:Hp}{J:List Addr}:∀{ks:List 1e9}{vs:List V},Reps K H J 0e5 vs->∃qs:List KP,qs.map 5e4=ks/\vs=lU qs/\∀p∈qs,gh K H p.2 (p.1.map V.int)
 |[],vs,h=>by dsimp[RY,Reps]at h;exact⟨[],rfl,h,fun p hp=>by simp at hp⟩
 |k::ks,vs,h=>by
  dsimp[RZ,Reps]at h;obtain⟨v,r,rfl,h1,h2⟩:=h;obtain⟨a,us,rfl,h3,h4⟩:=aN.mp h1;obtain⟨qs,e1,e2,e3⟩:=Reps.keys h2;refine⟨(k,a)::qs,by rw[RZ,e1],by rw[e2];rfl,fun p hp=>?_⟩;rcases QI.mp hp with z|z
  ·subst z;rw[<- h4.ints];exact h3
  ·exact e3 p z
theorem qP{K:W.Frag}{H:Hp}{J:List Addr}:∀{qs:List KP},(∀p∈qs,gh K H p.2 (p.1.map V.int))->Reps K H J ((qs.map 5e4).map aq) (lU qs)
 |[],_=>Reps.nil
 |q::qs,h=>by
  refine Reps.cons (aN.mpr ⟨q.2,_,rfl,h q QG,j9 _⟩) (qP fun p hp=>h p (QH _ hp))
def lA:List D->Option 1e9
 |[]=>some []
 |.int i::r=>(lA r).map (i::·)
 |_::_=>none
theorem jw:∀{ds:List D}{ns:List Int},lA ds=some ns->ds=ns.map D.int
 |[],bs,h=>by cases h;rfl
 |.int b::r,bs,h=>by
  unfold lA at h;cases e:lA r with
  |none=>rw[e]at h;cases h
  |some cs=>rw[e]at h;cases h;rw[jw e];rfl
 |.non::r,bs,h=>by cases h
 |.bl _::r,bs,h=>by cases h
 |.str _::r,bs,h=>by cases h
 |.tup _::r,bs,h=>by cases h
 |.frz _::r,bs,h=>by cases h
 |.obj _::r,bs,h=>by cases h
def si(xs:List D)(Y:aB):ai D:=match qH xs with
 |some ks=>.ok 1e0 (Y++[.set (cT ks)])
 |none=>.bad
def qZ(ds:List D)(Y:aB):ai D:=match ds with
 |[.tup xs]=>si xs Y
 |[.obj n]=>match Y[n]? with
  |some 2e9=>si xs Y
  |_=>.bad
 |_=>.bad
section
theorem HM{Q:VK}(S:p.S H J Y)(hk:∀k∈ks,k∈prs)(r:p.Rs H J 0e5 vs)(P:aH p H J (.ok 1e0 (Y++[.set (cT ks)])) (RV p Q)):
  ∃qs:List KP,vs=lU qs/\(∀q∈qs,q.1∈prs/\gh p.K H q.2 (q.1.map V.int))/\∀l,H l=none->Q (.ref l) (cV H l (.ext fun h=>cQ p.w h l (gx qs))):=by
 obtain⟨qs,e1,e2,e3⟩:=r.keys;refine⟨qs,e2,fun q hq=>⟨hk _ (by rw[<- e1];exact Ti hq),e3 q hq⟩,fun l hl=>?_⟩;have x1:p.X H (cV H l (.ext fun h=>cQ p.w h l (gx qs))) J (J++[l]):=(bW hl).trans (kD [l]);refine P _ _ x1 (S.more hl ⟨gx qs,by rw[Cw,e1],cz,fun q hq=>?_,wK,fun q hq=>?_⟩) _ (aY.mpr ⟨l,rfl,by rw[<- S.len];simp⟩)
 ·exact hk _ (by rw[<- e1];exact Ti (n6 hq))
 ·exact x1.tup _ _ (e3 q (n6 hq))
theorem DH{us:List V}{Q:VK}(S:p.S H J Y)(h1:gP p.K H a us\/gh p.K H a us)(rr:p.Rs H J xs us)(P:aH p H J (si xs Y) (RV p Q)):Di p.K p.w [.ref a] H Q:=by
 unfold si at P;split at P
 ·rename_i ks hks;obtain⟨f1,f2⟩:=yc hks;rw[f1]at rr;obtain⟨qs,e1,e2,e3⟩:=HM S f2 rr P;exact⟨a,qs,rfl,by rw[<- e1];exact h1,e2,e3⟩
 ·exact P.elim
theorem Lg:yW p qZ (Di p.K p.w):=by
 intro ds vs H J Y Q S r P;unfold qZ at P;split at P
 ·rename_i xs;obtain⟨v,rfl,r1⟩:=r.one;obtain⟨a,us,rfl,h1,rr⟩:=aN.mp r1;exact DH S (.inr h1) rr P
 ·rename_i n;split at P
  ·rename_i xs hx;obtain⟨v,rfl,r1⟩:=r.one;obtain⟨a,us,rfl,a1,h1,rr⟩:=df S r1 hx;exact DH S (.inl (gP.of h1)) rr P
  ·exact P.elim
 ·exact P.elim
def sh(ns:List Int):List Int:=ns.mergeSort fun a b=>decide (a<=b)
theorem xG{ns':List Int}(hp:ns'.Perm ns)(hs:ns'.Pairwise (·<=·)):ns'=sh ns:=by
 have h1:(sh ns).Perm ns:=List.mergeSort_perm ns _
 have h2:(sh ns).Pairwise (·<=·):=by
  have:=List.pairwise_mergeSort (le:=fun(a b:Int)=>decide (a<=b)) (fun a b c h1 h2=>by simp at *;omega) (fun a b=>by simp;omega) ns;exact this.imp fun h=>by simpa using h
 exact(hp.trans h1.symm).eq_of_pairwise (fun a b _ _ h1 h2=>UM h1 h2) hs h2
noncomputable def di(ds:List D)(Y:aB):ai D:=match ds with
 |[.tup xs]=>match lA xs with
  |some ns=>if ns.length<64 then .ok 1e0 (Y++[.lst ((sh ns).map D.int)]) else .bad
  |none=>.bad
 |[.obj n]=>match Y[n]? with
  |some 2e9=>match lA xs with
   |some ns=>if ns.length<64 then .ok 1e0 (Y++[.lst ((sh ns).map D.int)]) else .bad
   |none=>.bad
  |some (.set ks)=>.ok 1e0 (Y++[.lst ((cI ks).map aq)])
  |_=>.bad
 |_=>.bad
theorem σ5:yW p di (fun xs H Q=>DM p.K xs H Q\/DL p.K p.w xs H Q):=by
 intro ds vs H J Y Q S r P
 have fin:∀{ns:List Int},aH p H J (.ok 1e0 (Y++[.lst ((sh ns).map D.int)])) (RV p Q)->∀ns':List Int,ns'.Perm ns->ns'.Pairwise (·<=·)->∀l,H l=none->Q (.ref l) (cV H l (.lst (ns'.map V.int))):=by
  intro ns P ns' h1 h2 l hl;rw[<- xG h1 h2]at P;obtain⟨x1,x2,x3⟩:=du S hl (j9 ns');exact P _ _ x1 x2 _ x3
 unfold di at P;split at P
 ·rename_i xs;split at P
  ·rename_i ns hns;split at P
   ·rename_i hl;obtain⟨v,rfl,r1⟩:=r.one;obtain⟨a,us,rfl,h1,rr⟩:=aN.mp r1;rw[jw hns]at rr;exact .inl ⟨a,ns,rfl,.inr (by rw[<- rr.ints];exact h1),hl,fin P⟩
   ·exact P.elim
  ·exact P.elim
 ·rename_i n;split at P
  ·rename_i xs hx;split at P
   ·rename_i ns hns;split at P
    ·rename_i hl;obtain⟨v,rfl,r1⟩:=r.one;obtain⟨a,us,rfl,a1,h1,rr⟩:=df S r1 hx;rw[jw hns]at rr;exact .inl ⟨a,ns,rfl,.inl (by rw[<- rr.ints];exact gP.of h1),hl,fin P⟩
    ·exact P.elim
   ·exact P.elim
  ·rename_i ks hx;obtain⟨v,rfl,r1⟩:=r.one;obtain⟨a,ea,ps,e1,e2,e3,e4,e5⟩:=S.at hx;obtain⟨a',rfl,ea'⟩:=aY.mp r1;rw[ea]at ea';cases ea';refine .inr ⟨a,ps,rfl,e2,e5,fun out hp hr l hl=>?_⟩;have rr:p.Rs H J ((out.map 5e4).map aq) (lU out):=qP fun q hq=>e5 q (hp.mem_iff.mp hq);rw[Ep e3 hp hr,e1]at rr;obtain⟨x1,x2,x3⟩:=du S hl rr;exact P _ _ x1 x2 _ x3
  ·exact P.elim
 ·exact P.elim
def jy(ds:List D)(Y:aB):ai D:=Ay ds Y
theorem Lj:yW p jy (fun xs H Q=>∃x n,xs=[x]/\JE p.K x H n/\Q (.int n) H):=HG
end
section
variable{X:Cx}
def IZ(K:W.Frag):List V->Hp->VK->Prop:=fun xs H Q=>∃(a:Addr)(ns:List Int),xs=[.ref a]/\(gP K H a 8e1\/gh K H a 8e1)/\ns≠[]/\∀m∈ns,(∀j∈ns,m<=j)->Q 6e1 H
def I0(K:W.Frag):List V->Hp->VK->Prop:=fun xs H Q=>∃(a:Addr)(ns:List Int),xs=[.ref a]/\(gP K H a 8e1\/gh K H a 8e1)/\ns≠[]/\∀m∈ns,(∀j∈ns,j<=m)->Q 6e1 H
theorem mJ(h:IntsAre its ns){v:Value}(e:its.toArray[i]?=some v):∃t,v=.int (ns.getD i 0) t/\i<ns.length:=by
 have e':its[i]?=some v:=by simpa using e
 obtain⟨n,t,rfl,hn⟩:=h.at i v e';have hi:=(QM.mp hn).1;exact⟨t,by rw[Uh,hn];rfl,hi⟩
theorem yh(h:i<ns.length):ns.getD i 0∈ns:=by
 rw[Uh,Ux h];exact Uv h
theorem ya{j:Int}(h:j∈ns):∃i,i<ns.length/\ns.getD i 0=j:=by
 obtain⟨i,hi,e⟩:=UB h;exact⟨i,hi,by rw[Uh,Ux hi];exact e⟩
theorem CF (hc:X.calm=true):dX X (.builtin "min") (IZ X.K):=by
 intro pins s B H xs us Q I r h;obtain⟨a,ns,rfl,ha,hne,q⟩:=h;obtain⟨u,rfl,ru⟩:=gQ r;cases ru;have hpos:0<ns.length:=UN.mpr hne
 have core:∀(its:List Value)(o:Obj),IntsAre its ns->∀v s',its.toArray[argBest (fun i j=>decide (ns.getD i 0<ns.getD j 0)) (its.toArray.size-1)]?=some v->Moved [0e3] (fun a b=>b=a) {s with heap:=s.heap.push o} s'->EP X pins B Q v s':=by
  intro its o hI v s' hv hm;obtain⟨t,rfl,hi⟩:=mJ hI hv;have hsz:its.toArray.size-1=ns.length-1:=by rw[Rf,hI.length]
  rw[hsz]at hi⊢;obtain⟨b1,b2⟩:=argBest_lt (fun i=>ns.getD i 0) (ns.length-1);obtain⟨hh,g,d,tk,os⟩:=s';have e1:g=s.gens:=hm.gens;have e2:d=s.drawn:=hm.drawn;have e3:os=s.os:=hm.os;subst e1 e2 e3;refine⟨.int _,H,I.fresh_it (o:=o) (h':=hh) (tk:=tk) fun b ob hb e=>hm.heap b ob hb e,⟨t,rfl⟩,q _ (yh hi) fun j hj=>?_⟩;obtain⟨i,hi',rfl⟩:=ya hj;exact b2 i 0e0
 have cmp:∀(its:List Value),IntsAre its ns->CmpOf X.prog X.w X.A.in1 .Lt (fun i v=>its.toArray[i]?=some v) (fun i j=>decide (ns.getD i 0<ns.getD j 0)):=by
  intro its hI i j vi vj s' Q' E' h1 h2 hQ;obtain⟨t1,rfl,_⟩:=mJ hI h1;obtain⟨t2,rfl,_⟩:=mJ hI h2;exact(PyProof.Rows.lt_int hQ:wpAny _ _ (compareOp .Lt _ _) _ _ _)
 rcases ha with ha|ha
 ·obtain ⟨its, rv, pl, hz⟩ := I.list ha;have hI:IntsAre its ns:=jL rv
  have hne:a≠s.heap.objs.size:=by
   obtain⟨o,n,e,_⟩:=pl;exact QA (Qw e)
  refine call_min_walkS (T9 pl.isList ?_);refine⟨0e3,[0e3,a],[0e3],_,_,_,_,_,rfl,(Walks.list (A:=X.A.in1) 9e1 _ a hne 2e7).toS,⟨⟨_,Q7 _ rfl,rfl,rfl⟩,pl.isList.at fun o e=>Q6 _ e⟩,fun b hb=>?_,by simp[hI.length,hpos],cmp its hI,fun v s' hv hm=>core its _ hI v s' hv hm⟩;obtain⟨o,n,e,_⟩:=pl;have:=Qw e;dsimp[QI,SS,SU]at hb;show b<(s.heap.push _).objs.size;rw[Ur];rcases hb with rfl|rfl
  ·exact Sy _
  ·exact SA this
 ·obtain ⟨its, rv, pl, hz⟩ := I.tuple ha;have hI:IntsAre its ns:=jL rv
  have hne:a≠s.heap.objs.size:=by
   obtain⟨o,e,_⟩:=pl;exact QA (Qw e)
  refine call_min_walkS (SR (show s.heap.IsTuple a 2e7 from pl) ?_);refine⟨0e3,[0e3,a],[0e3],_,_,_,_,_,rfl,(Ub (A:=X.A.in1) 9e1 _ a hne 2e7).toS,⟨⟨_,Q7 _ rfl,rfl,rfl⟩,(show s.heap.IsTuple a 2e7 from pl).at fun o e=>Q6 _ e⟩,fun b hb=>?_,by simp[hI.length,hpos],cmp its hI,fun v s' hv hm=>core its _ hI v s' hv hm⟩;obtain⟨o,e,_⟩:=pl;have:=Qw e;dsimp[QI,SS,SU]at hb;show b<(s.heap.push _).objs.size;rw[Ur];rcases hb with rfl|rfl
  ·exact Sy _
  ·exact SA this
theorem CH (hc:X.calm=true):dX X (.builtin "max") (I0 X.K):=by
 intro pins s B H xs us Q I r h;obtain⟨a,ns,rfl,ha,hne,q⟩:=h;obtain⟨u,rfl,ru⟩:=gQ r;cases ru;have hpos:0<ns.length:=UN.mpr hne
 have core:∀(its:List Value)(o:Obj),IntsAre its ns->∀v s',its.toArray[argBest (fun i j=>decide (ns.getD i 0>ns.getD j 0)) (its.toArray.size-1)]?=some v->Moved [0e3] (fun a b=>b=a) {s with heap:=s.heap.push o} s'->EP X pins B Q v s':=by
  intro its o hI v s' hv hm;obtain⟨t,rfl,hi⟩:=mJ hI hv;have hsz:its.toArray.size-1=ns.length-1:=by rw[Rf,hI.length]
  rw[hsz]at hi⊢;obtain⟨b1,b2⟩:=argBest_gt (fun i=>ns.getD i 0) (ns.length-1);obtain⟨hh,g,d,tk,os⟩:=s';have e1:g=s.gens:=hm.gens;have e2:d=s.drawn:=hm.drawn;have e3:os=s.os:=hm.os;subst e1 e2 e3;refine⟨.int _,H,I.fresh_it (o:=o) (h':=hh) (tk:=tk) fun b ob hb e=>hm.heap b ob hb e,⟨t,rfl⟩,q _ (yh hi) fun j hj=>?_⟩;obtain⟨i,hi',rfl⟩:=ya hj;exact b2 i 0e0
 have cmp:∀(its:List Value),IntsAre its ns->CmpOf X.prog X.w X.A.in1 .Gt (fun i v=>its.toArray[i]?=some v) (fun i j=>decide (ns.getD i 0>ns.getD j 0)):=by
  intro its hI i j vi vj s' Q' E' h1 h2 hQ;obtain⟨t1,rfl,_⟩:=mJ hI h1;obtain⟨t2,rfl,_⟩:=mJ hI h2;exact(PyProof.Rows.gt_int hQ:wpAny _ _ (compareOp .Gt _ _) _ _ _)
 rcases ha with ha|ha
 ·obtain ⟨its, rv, pl, hz⟩ := I.list ha;have hI:IntsAre its ns:=jL rv
  have hne:a≠s.heap.objs.size:=by
   obtain⟨o,n,e,_⟩:=pl;exact QA (Qw e)
  refine call_max_walkS (T9 pl.isList ?_);refine⟨0e3,[0e3,a],[0e3],_,_,_,_,_,rfl,(Walks.list (A:=X.A.in1) 9e1 _ a hne 2e7).toS,⟨⟨_,Q7 _ rfl,rfl,rfl⟩,pl.isList.at fun o e=>Q6 _ e⟩,fun b hb=>?_,by simp[hI.length,hpos],cmp its hI,fun v s' hv hm=>core its _ hI v s' hv hm⟩;obtain⟨o,n,e,_⟩:=pl;have:=Qw e;dsimp[QI,SS,SU]at hb;show b<(s.heap.push _).objs.size;rw[Ur];rcases hb with rfl|rfl
  ·exact Sy _
  ·exact SA this
 ·obtain ⟨its, rv, pl, hz⟩ := I.tuple ha;have hI:IntsAre its ns:=jL rv
  have hne:a≠s.heap.objs.size:=by
   obtain⟨o,e,_⟩:=pl;exact QA (Qw e)
  refine call_max_walkS (SR (show s.heap.IsTuple a 2e7 from pl) ?_);refine⟨0e3,[0e3,a],[0e3],_,_,_,_,_,rfl,(Ub (A:=X.A.in1) 9e1 _ a hne 2e7).toS,⟨⟨_,Q7 _ rfl,rfl,rfl⟩,(show s.heap.IsTuple a 2e7 from pl).at fun o e=>Q6 _ e⟩,fun b hb=>?_,by simp[hI.length,hpos],cmp its hI,fun v s' hv hm=>core its _ hI v s' hv hm⟩;obtain⟨o,e,_⟩:=pl;have:=Qw e;dsimp[QI,SS,SU]at hb;show b<(s.heap.push _).objs.size;rw[Ur];rcases hb with rfl|rfl
  ·exact Sy _
  ·exact SA this
end
def MZ:List Int->Int
 |[]=>0
 |x::r=>r.foldl min x
def Nb:List Int->Int
 |[]=>0
 |x::r=>r.foldl max x
theorem Cp(r:List Int):∀x:Int,(r.foldl min x=x\/r.foldl min x∈r)/\r.foldl min x<=x/\∀j∈r,r.foldl min x<=j:=by
 induction r with
 |nil=>intro x;exact⟨.inl rfl,Int.le_refl _,fun j hj=>by simp at hj⟩
 |cons y r ih=>
  intro x;obtain⟨h1,h2,h3⟩:=ih (min x y);rw[Si];have m1:min x y<=x:=Int.min_le_left _ _;have m2:min x y<=y:=Int.min_le_right _ _;refine⟨?_,by omega,fun j hj=>?_⟩
  ·rcases h1 with h | h
   ·rcases (by omega : min x y = x \/ min x y = y) with e | e
    ·exact .inl 0e0
    ·exact .inr (by rw[h,e];exact QG)
   ·exact .inr (QH _ h)
  ·rcases QI.mp hj with e | e
   ·rw[e];omega
   ·exact h3 j e
theorem Cq(r:List Int):∀x:Int,(r.foldl max x=x\/r.foldl max x∈r)/\x<=r.foldl max x/\∀j∈r,j<=r.foldl max x:=by
 induction r with
 |nil=>intro x;exact⟨.inl rfl,Int.le_refl _,fun j hj=>by simp at hj⟩
 |cons y r ih=>
  intro x;obtain⟨h1,h2,h3⟩:=ih (max x y);rw[Si];have m1:x<=max x y:=Int.le_max_left _ _;have m2:y<=max x y:=Int.le_max_right _ _;refine⟨?_,by omega,fun j hj=>?_⟩
  ·rcases h1 with h | h
   ·rcases (by omega : max x y = x \/ max x y = y) with e | e
    ·exact .inl 0e0
    ·exact .inr (by rw[h,e];exact QG)
   ·exact .inr (QH _ h)
  ·rcases QI.mp hj with e | e
   ·rw[e];omega
   ·exact h3 j e
theorem HU{m:Int}(h:m∈ns)(hm:∀j∈ns,m<=j):m=MZ ns:=by
 cases ns with
 |nil=>simp at h
 |cons x r=>
  obtain⟨h1,h2,h3⟩:=Cp r x
  have a1:m<=r.foldl min x:=by
   rcases h1 with e|e
   ·rw[e];exact hm x QG
   ·exact hm _ (QH _ e)
  have a2:r.foldl min x<=m:=by
   rcases QI.mp h with e|e
   ·rw[e];exact h2
   ·exact h3 m e
  exact UM a1 a2
theorem HV{m:Int}(h:m∈ns)(hm:∀j∈ns,j<=m):m=Nb ns:=by
 cases ns with
 |nil=>simp at h
 |cons x r=>
  obtain⟨h1,h2,h3⟩:=Cq r x
  have a1:r.foldl max x<=m:=by
   rcases h1 with e|e
   ·rw[e];exact hm x QG
   ·exact hm _ (QH _ e)
  have a2:m<=r.foldl max x:=by
   rcases QI.mp h with e|e
   ·rw[e];exact h2
   ·exact h3 m e
  exact UM a2 a1
def CW(d:D)(Y:aB):Option 1e9:=match d with
 |.tup xs=>lA xs
 |.frz xs=>lA xs
 |.obj n=>match Y[n]? with
  |some 2e9=>lA xs
  |_=>none
 |_=>none
theorem AO(S:p.S H J Y)(r:p.R H J d v)(h:CW d Y=some ns):∃a,v=.ref a/\(gP p.K H a 8e1\/gh p.K H a 8e1):=by
 unfold CW at h;split at h
 ·obtain⟨a,us,rfl,h1,rr⟩:=aN.mp r;rw[jw h]at rr;exact⟨a,rfl,.inr (by rw[<- rr.ints];exact h1)⟩
 ·obtain⟨a,us,rfl,h1,rr⟩:=bI.mp r;rw[jw h]at rr;exact⟨a,rfl,.inl (by rw[<- rr.ints];exact h1.sq)⟩
 ·split at h
  ·rename_i xs hx;obtain⟨a,us,rfl,a1,h1,rr⟩:=df S r hx;rw[jw h]at rr;exact⟨a,rfl,.inl (by rw[<- rr.ints];exact gP.of h1)⟩
  ·cases h
 ·cases h
def rf(ds:List D)(Y:aB):ai D:=match ds with
 |[d]=>match CW d Y with
  |some (n::ns)=>.ok (.int (MZ (n::ns))) Y
  |_=>.bad
 |ds=>Dt ds Y
def wW(ds:List D)(Y:aB):ai D:=match ds with
 |[d]=>match CW d Y with
  |some (n::ns)=>.ok (.int (Nb (n::ns))) Y
  |_=>.bad
 |ds=>Du ds Y
theorem Lh:yW p rf (fun xs H Q=>IZ p.K xs H Q\/∃i j,xs=[.int i,.int j]/\Q (.int (if j<i then j else i)) H):=by
 intro ds vs H J Y Q S r P;unfold rf at P;split at P
 ·rename_i d;split at P
  ·rename_i n ns hns;obtain⟨v,rfl,r1⟩:=r.one;obtain⟨a,rfl,h1⟩:=AO S r1 hns;refine .inl ⟨a,n::ns,rfl,h1,by simp,fun m hm hj=>?_⟩;rw[HU hm hj];exact P.now S _ 11e3
  ·exact P.elim
 ·exact .inr (HD ds vs H J Y Q S r P)
theorem Li:yW p wW (fun xs H Q=>I0 p.K xs H Q\/∃i j,xs=[.int i,.int j]/\Q (.int (if j>i then j else i)) H):=by
 intro ds vs H J Y Q S r P;unfold wW at P;split at P
 ·rename_i d;split at P
  ·rename_i n ns hns;obtain⟨v,rfl,r1⟩:=r.one;obtain⟨a,rfl,h1⟩:=AO S r1 hns;refine .inl ⟨a,n::ns,rfl,h1,by simp,fun m hm hj=>?_⟩;rw[HV hm hj];exact P.now S _ 11e3
  ·exact P.elim
 ·exact .inr (HE ds vs H J Y Q S r P)
theorem sW:∀{xs:List V}{us:List Value},xs.length=us.length->(∀(i:Nat) x u,xs[i]?=some x->us[i]?=some u->cB x u)->bt xs us
 |[],[],_,_=>.nil
 |[],_::_,h,_=>by simp at h
 |_::_,[],h,_=>by simp at h
 |x::xs,u::us,h,k=>.cons (k 0 x u rfl rfl) (sW (by simpa using h) fun i x' u' h1 h2=>k (i+1) x' u' (by simpa using h1) (by simpa using h2))
section
variable{X:Cx}
def NI(ta:TA):TE:=fun B H Q=>ta B H fun vs H1=>∃j:Int,vs=[.int j]/\∀r,H1 r=none->Q (.ref r) (cV H1 r (.rng 0 j))
theorem BX{a:Expr}{p:Pos}(hg:Gl X "range")(hm:X.mg "range" = none)(ha:PA X [a] ta)(hs:starEach [a] 2e1=[11e2]):PE X (.Call (.Name "range" p) [a] [] pos) (NI ta):=by
 intro pins s B H Q I h;refine Call_ (nM I hg hm boot_range (Q9 9e7 hs rfl));obtain⟨j,e,q⟩:=q1;subst e;cases r1 with
 |cons r rr=>
  cases rr;obtain⟨t,rfl⟩:=r;refine call_range_1 ?_;refine⟨.ref 8e2,cV H1 8e2 (.rng 0 j),I1.laid (fun b ob e=>Q6 _ e) 8e0 ⟨_,_,_,Q7 _ rfl⟩,rfl,q _ (I1.hok.fresh 8e0)⟩
def KA:List V->Hp->VK->Prop:=fun xs H Q=>∃(r:Addr)(j:Int),xs=[.ref r]/\H r=some (.rng 0 j)/\-(2^62)<=j/\j<=2^20/\∀l,H l=none->Q (.ref l) (cV H l (.lst ((List.range j.toNat).map fun(i:Nat)=>V.int (i:Int))))
theorem Ak (hc:X.calm=true):dX X (.type "list") KA:=by
 intro pins s B H xs us Q I r h;obtain⟨r0,j,rfl,ha,j1,j2,q⟩:=h;obtain⟨u,rfl,ru⟩:=gQ r;cases ru;obtain⟨t,u,v,hr⟩:=(show fS X.prog X.w H 3e2 r0 (.rng 0 j) from I.hok r0 _ ha);have hn:Builtin.Range.rangeSize 0 j 1=((j.toNat:Nat):Int):=by rw[rangeSize_one];split <;> omega
 refine call_list_range (n:=j.toNat) (I.ok.hd hc) hr (small_one 0e0 0e0 0e0 0e0) hn 0e0 fun h' tk acc' c' hk hl hit=>?_
 have hv:bt ((List.range j.toNat).map fun(i:Nat)=>V.int (i:Int)) acc'.toList:=by
  obtain⟨e1,e2⟩:=hit;refine sW (by simp[e1]) fun i x u h1 h2=>?_;rw[Rv]at h1
  have hi:i<j.toNat:=by
   have:=(QM.mp h2).1;simp[e1]at this;omega
  rw[Uj hi]at h1;cases h1;obtain⟨t,rfl⟩:=e2 i u (by simpa using h2);exact⟨t,by simp⟩
 refine⟨.ref 0e3,cV H 0e3 (.lst ((List.range j.toNat).map fun(i:Nat)=>V.int (i:Int))),I.laid (fun b ob e=>hk b ob e) 8e0 ⟨?_,acc'.toList,c',hv,by simpa using hl⟩,rfl,q _ (I.hok.fresh 8e0)⟩;have:(sizeLine:Nat)=16777216:=Re;dsimp[Rz,SZ];omega
end
noncomputable def kY(o1 o2:D->D->aB->ai D)(fa fb fc:ME):ME:=fun Z Y=>(fa Z Y).bind fun a Y1=>(fb Z Y1).bind fun b Y2=>(o1 a b Y2).bind fun z Y3=>(Aq z Y3).bind fun k Y4=>
 if k=true then (fc Z Y4).bind fun c Y5=>o2 b c Y5 else .ok 4e2 Y4
noncomputable def rS(o1 o2 o3:D->D->aB->ai D)(fa fb fc fd:ME):ME:=fun Z Y=>(fa Z Y).bind fun a Y1=>(fb Z Y1).bind fun b Y2=>(o1 a b Y2).bind fun z Y3=>(Aq z Y3).bind fun k Y4=>
 if k=true then (fc Z Y4).bind fun c Y5=>(o2 b c Y5).bind fun z2 Y6=>(Aq z2 Y6).bind fun k2 Y7=>if k2=true then (fd Z Y7).bind fun d Y8=>o3 c d Y8 else .ok 4e2 Y7 else .ok 4e2 Y4
def AF(r r' r'':R2)(ta tb tc td:TE):TE:=fun B H Q=>ta B H fun x H1=>tb B H1 fun y H2=>r x y H2 fun z H3=>∃k,z=.bl k /\
 (if k=true then tc B H3 fun w' H4=>r' y w' H4 fun z' H5=>∃k',z'=.bl k'/\(if k'=true then td B H5 fun v' H6=>r'' w' v' H6 Q else Q 4e2 H5) else Q 4e2 H3)
section
variable{X:Cx}{a b d:Expr}{ta tb tc td:TE}{fb fc fd:ME}{op' op'':CmpOp}{r r' r'':R2}{o1 o2 o3:D->D->aB->ai D}
theorem tq(hd1:pK p o1 r)(hd2:pK p o2 r'){Q:VK}(h:tD p (kY o1 o2 fa fb fc) B H Q):zh r r' (tD p fa) (tD p fb) (tD p fc) B H Q:=by
 obtain⟨J,Z,Y,S,R,P⟩:=h;refine⟨J,Z,Y,S,R,(aH.bind P).imp fun x Y1 H1 J1 X1 S1 P1 v rv=>⟨J1,Z,Y1,S1,R.mono X1,(aH.bind P1).imp fun y Y2 H2 J2 X2 S2 P2 u ru=>?_⟩⟩;refine hd1 x y v u H2 J2 Y2 _ S2 (rv.mono X2) ru ((aH.bind P2).imp fun z Y3 H3 J3 X3 S3 P3 w rw'=>?_);obtain⟨k,_,e,q⟩:=nS (aH.bind P3) rw' S3;refine⟨k,e,?_⟩;cases k with
 |true=>
  rw[Qu rfl]at q⊢;exact⟨J3,Z,Y3,S3,((R.mono X1).mono X2).mono X3,(aH.bind q).imp fun c Y5 H5 J5 X5 S5 P5 t rt=>hd2 y c u t H5 J5 Y5 Q S5 ((ru.mono X3).mono X5) rt P5⟩
 |false=>rw[Qv Q0]at q⊢;exact q.now S3 _ (aZ.mpr rfl)
theorem EA(ho:jQ X (compareOp op) r)(ho':jQ X (compareOp op') r')(hd1:pK p o1 r)(hd2:pK p o2 r')(ha:PE X a (tD p fa))(hb:PE X b (tD p fb))(hc:PE X c (tD p fc))
  (hm:lastMarks [op,op'] [b,c]=false):PE X (.Compare a [op,op'] [b,c] pos) (tD p (kY o1 o2 fa fb fc)):=(EX ho ho' ha hb hc hm).weak fun B H Q h=>tq hd1 hd2 h
theorem Bw{t:TE}{f:ME}(hk:∀B H Q,tD p f B H Q->t B H Q){Q:Bool->Hp->Prop}(h:iw p (gb f) B H Q):De t B H Q:=by
 obtain⟨J,Z,Y,S,R,P⟩:=h;refine hk B H _ ⟨J,Z,Y,S,R,(aH.bind P).imp fun d Y1 H1 J1 X1 S1 P1 v rv=>?_⟩;obtain⟨k,_,e,q⟩:=nS P1 rv S1;exact⟨k,e,q⟩
theorem Ec(ho:jQ X (compareOp op) r)(ho':jQ X (compareOp op') r')(hd1:pK p o1 r)(hd2:pK p o2 r')(ha:PE X a (tD p fa))(hb:PE X b (tD p fb))(hc:PE X c (tD p fc))
  (hm:lastMarks [op,op'] [b,c]=false):PT X (.Compare a [op,op'] [b,c] pos) (iw p (gb (kY o1 o2 fa fb fc))):=(EK ho ho' ha hb hc hm).weak fun B H Q h=>Bw (fun B H Q h=>tq hd1 hd2 h) h
noncomputable def Bj(d:D)(Y:aB):ai Bool:=match d with
 |.non=>.ok false Y
 |.bl b=>.ok b Y
 |.int i=>.ok (i != 0) Y
 |.str x=>if x.length<=sizeLine then .ok ((x.length:Int) != 0) Y else .bad
 |.tup xs=>.ok (!xs.isEmpty) Y
 |.frz xs=>.ok (!xs.isEmpty) Y
 |.obj n=>match Y[n]? with
  |some 2e9=>.ok (!xs.isEmpty) Y
  |_=>.bad
def i8(f:ME):MT:=fun Z Y=>(f Z Y).bind Bj
theorem Reps.isEmpty(r:Reps K H J xs vs):vs.isEmpty=xs.isEmpty:=by
 have:=r.length;cases xs with
 |nil=>have h:vs=[]:=UJ (by simpa using this);rw[h];rfl
 |cons x r=>cases vs with
  |nil=>simp at this
  |cons _ _=>rfl
theorem Gw{d:D}{R:Bool->aB->Hp->List Addr->Prop}(S:p.S H J Y)(r:p.R H J d v)(P:aH p H J (Bj d Y) R):∃k,JC p.K v H k/\R k Y H J:=by
 unfold Bj at P;split at P
 ·rw[bS.mp r];exact⟨false,rfl,P.now S⟩
 ·rename_i b;rw[aZ.mp r];exact⟨b,rfl,P.now S⟩
 ·rename_i i;rw[ax.mp r];exact⟨_,rfl,P.now S⟩
 ·rename_i x;split at P
  ·rename_i hl;rw[bC.mp r];exact⟨_,⟨hl,rfl⟩,P.now S⟩
  ·exact P.elim
 ·obtain⟨a,vs,rfl,h1,h2⟩:=aN.mp r;exact⟨_,.inr (.inl ⟨vs,h1,by rw[h2.isEmpty]⟩),P.now S⟩
 ·obtain⟨a,vs,rfl,h1,h2⟩:=bI.mp r;exact⟨_,.inl ⟨vs,h1.sq,by rw[h2.isEmpty]⟩,P.now S⟩
 ·split at P
  ·rename_i xs hx;obtain⟨a,us,rfl,a1,h1,rr⟩:=df S r hx;exact⟨_,.inl ⟨us,gP.of h1,by rw[rr.isEmpty]⟩,P.now S⟩
  ·exact P.elim
theorem Eb{f:ME}(hK:X.K=p.K)(h:PE X e (tD p f))(he:∀whole,isTrue e 2e1 whole=(do let v <- whole;standAt e.pos;holding [v] (truthy v))):PT X e (iw p (i8 f)):=
 (EJ h he).weak fun B H Q ⟨J, Z, Y, S, R, P⟩ => ⟨J, Z, Y, S, R, (aH.bind P).imp fun d Y1 H1 J1 X1 S1 P1 v rv => by
  rw[hK];exact Gw S1 rv P1⟩
def kX(ds:List D)(Y:aB):ai D:=match ds with
 |[.int j]=>if -(2^62)<=j/\j<=2^20 then .ok 1e0 (Y++[.lst (bu 0 j.toNat)]) else .bad
 |_=>.bad
theorem EG(n:Nat):Reps K H J (bu 0 n) ((List.range n).map fun(i:Nat)=>V.int (i:Int)):=by
 have:bu 0 n=((List.range n).map fun(i:Nat)=>((i:Nat):Int)).map D.int:=by
  unfold bu;rw[SX];apply SY;intro i _;simp
 rw[this];have h2:((List.range n).map fun(i:Nat)=>V.int (i:Int))=((List.range n).map fun(i:Nat)=>((i:Nat):Int)).map V.int:=by rw[SX];rfl
 rw[h2];exact j9 _
theorem Ey{pl pr p1:Pos}(hc:X.calm=true)(hg:Gl X "range")(hm:X.mg "range" = none)(hgl:Gl X "list")(hml:X.mg "list" = none)(ha:PA X [a] (mX p fr))(hs:starEach [a] 2e1=[11e2]):
  PE X (.Call (.Name "list" pl) [.Call (.Name "range" pr) [a] [] p1] [] pos) (tD p (aE kX fr)):=by
 refine(uL (T:="list") (Ak hc) hgl hml boot_list (jU (BX hg hm ha hs) sx rfl) 0e4 0e4 rfl rfl).weak fun B H Q ⟨J,Z,Y,S,R,P⟩=>⟨J,Z,Y,S,R,(aH.bind P).imp fun ds Y1 H1 J1 X1 S1 P1 vs rv=>?_⟩;unfold kX at P1;split at P1
 ·rename_i j;obtain⟨v,rfl,r1⟩:=rv.one;split at P1
  ·rename_i hj;refine⟨j,by rw[ax.mp r1],fun r0 hr=>?_⟩;refine⟨r0,j,rfl,cz,hj.1,hj.2,fun l hl=>?_⟩;have S2:p.S (cV H1 r0 (.rng 0 j)) J1 Y1:=S1.same (bW hr) fun a ha=>bE fun z=>ha (by rw[z];exact hr);obtain⟨x1,x2,x3⟩:=du S2 hl (EG j.toNat);exact P1 _ _ ((bW hr).trans x1) x2 _ x3
  ·exact P1.elim
 ·exact P1.elim
def NO:TE:=fun _ H Q=>∀q,H q=none->Q (.ref q) (cV H q (.dK []))
theorem Ho:PE X (.Dict [] [] pos) NO:=fun pins s B H Q I h=>by
 have hb:sysModules<s.heap.objs.size:=Nat.lt_trans 0e4 (I.mod.glob.keeps I.bk).lt;refine wpAny_Dict_empty ⟨.ref 0e3,_,I.laid (a:=0e3) (o:=.dK []) (t':=s.toks) (fun _ _ q=>Q6 _ q) 8e0 ?_,rfl,h _ (I.hok.fresh 8e0)⟩;exact⟨SI _,Qs.mpr (QJ (QA hb)),[],.nil,Heap.DictOf.new 3e2⟩
def C6:ME:=fun _ Y=>.ok 1e0 (Y++[.dic])
theorem Kr:PE X (.Dict [] [] pos) (tD p C6):=Ho.weak fun B H Q ⟨J,Z,Y,S,R,P⟩ q hq=>by
 have x1:p.X H (cV H q (.dK [])) J (J++[q]):=(bW hq).trans (kD [q]);exact P _ _ x1 (S.more hq cz) _ (aY.mpr ⟨q,rfl,by rw[<- S.len];simp⟩)
def Jw(p:Pa)(f:D->List D->aB->ai D)(r:V->List V->Hp->VK->Prop):Prop:=∀d ds v vs H J Y Q,p.S H J Y->p.R H J d v->p.Rs H J ds vs->aH p H J (f d ds Y) (RV p Q)->r v vs H Q
def oj(d:D)(Y:aB):Bool:=match d with
 |.obj n=>match Y[n]? with
  |some (.lst _)=>true
  |_=>false
 |_=>false
def uq(f:D->List D->aB->ai D)(fo:ME)(fr:MA):ME:=fun Z Y=>(fo Z Y).bind fun o Y1=>if oj o Y1=true then (fr Z Y1).bind fun ds Y2=>f o ds Y2 else .bad
theorem LS{d:D}(S:p.S H J Y)(r:p.R H J d v)(h:oj d Y=true):OR p.K "list" v H:=by
 unfold oj at h;split at h
 ·split at h
  ·rename_i xs hx;obtain⟨a,us,rfl,a1,h1,rr⟩:=df S r hx;exact .inl ⟨rfl,us,gP.of h1⟩
  ·cases h
 ·cases h
theorem uw{o:Expr}{es:List Expr}{fo:ME}{name:Str}{cpos:Pos}{id:String}{rr:V->List V->Hp->VK->Prop}{f:D->List D->aB->ai D}(hK:X.K=p.K)(slot:Slot "list" name id)(hty:typeOf (.builtin id)=pure (.type "method_descriptor"))(hm:PZ X id rr)(hf:Jw p f rr)(ho:PE X o (tD p fo))(ha:PA X (e::es) (mX p fr))(hbase:attributeBase o name 2e1 (eval o 2e1)=eval o 2e1)(hfew : ((backTo cpos (starEach (e :: es) 2e1)).all (fun x => !x.1) && (backToKw cpos (keywordEach [] 2e1)).all (fun x => x.1.isSome)
   && decide ((e::es).length+([]:List Keyword).length+(if ([]:List Keyword).isEmpty then 0 else 1)<30))=true)(hline:(apos.endLine == cpos.line)=true)(hs:starEach (e::es) 2e1=(false,eval e 2e1)::starEach es 2e1)(hplain:(backTo cpos 7e6).any 5e4=false):
  PE X (.Call (.Attribute o name apos) (e::es) [] cpos) (tD p (uq f fo fr)):=
 (Oe PySem.F.plainAttrs_list slot hty hm ho ha hbase hfew hline hs hplain).weak fun B H Q ⟨J, Z, Y, S, R, P⟩ => ⟨J, Z, Y, S, R, (aH.bind P).imp fun d Y1 H1 J1 X1 S1 P1 v rv => by
  by_cases hl:oj d Y1=true
  ·rw[Qu hl]at P1;rw[hK];exact⟨LS S1 rv hl,J1,Z,Y1,S1,R.mono X1,(aH.bind P1).imp fun ds Y2 H2 J2 X2 S2 P2 vs rs=>hf d ds v vs H2 J2 Y2 Q S2 (rv.mono X2) rs P2⟩
  ·rw[Qv hl]at P1;exact P1.elim⟩
noncomputable def sC(d:D)(ds:List D)(Y:aB):ai D:=match d,ds with
 |.obj n,[.int i]=>match Y[n]? with
  |some 2e9=>match wM 3e9 i with
   |some k=>match xs[k]? with
    |some y=>if -(2^63)<=i/\i<2^63 then .ok y (Y.set n (.lst (xs.eraseIdx k))) else .bad
    |none=>.bad
   |none=>.bad
  |_=>.bad
 |_,_=>.bad
theorem HQ:Jw p sC DO:=by
 intro d ds v vs H J Y Q S rd rs P;unfold sC at P;split at P
 ·rename_i n i;split at P
  ·rename_i xs hx;split at P
   ·rename_i k hk;split at P
    ·rename_i y hy;split at P
     ·rename_i hb;obtain⟨a,us,rfl,a1,h1,rr⟩:=df S rd hx;obtain⟨w,rfl,rw'⟩:=rs.one;obtain⟨z,hz,rz⟩:=rr.get hy;have hk':=(vU hk).1;have q:=rr.eraseIdx k;refine⟨a,us,i,k,z,rfl,by rw[ax.mp rw'],h1,hb.1,hb.2,by rw[rr.length];exact hk',hz,?_⟩;exact P _ _ (iG h1) (S.put hx a1 h1 q) _ (rz.mono (iG h1))
     ·exact P.elim
    ·exact P.elim
   ·exact P.elim
  ·exact P.elim
 ·exact P.elim
def dJ(d:D)(ds:List D)(Y:aB):ai D:=match d,ds with
 |.obj n,[y]=>match Y[n]? with
  |some 2e9=>if xs.length<sizeLine then .ok .non (Y.set n (.lst (xs++[y]))) else .bad
  |_=>.bad
 |_,_=>.bad
theorem HR:Jw p dJ AU:=by
 intro d ds v vs H J Y Q S rd rs P;unfold dJ at P;split at P
 ·rename_i n y;split at P
  ·rename_i xs hx;split at P
   ·rename_i hb;obtain⟨a,us,rfl,a1,h1,rr⟩:=df S rd hx;obtain⟨w,rfl,rw'⟩:=rs.one;have q:=rr.snoc rw';exact⟨a,us,w,rfl,rfl,h1,by rw[rr.length];exact hb,P _ _ (iG h1) (S.put hx a1 h1 q) _ (bS.mpr rfl)⟩
   ·exact P.elim
  ·exact P.elim
 ·exact P.elim
end
abbrev dj(K:W.Frag)(w:World):Pa:=⟨K,w,fun _ _ _ _=>False⟩
abbrev dG:D->D->aB->ai D:=dI fun i j=>.int (i-j)
noncomputable abbrev xm:D->D->aB->ai D:=Jt Gh fun i j=>.int (i / j)
noncomputable abbrev tX:D->D->aB->ai D:=Jt (fun _ j=>0<j) fun i j=>.int (i%j)
noncomputable abbrev C4:D->D->aB->ai D:=Jt Gg fun i j=>.int (i^j.toNat)
noncomputable def vF(N:List Str)(sc scope:Scope)(Nc:List Str)(cap:List 4e7):Bool:=
 (scope.kind == .function)&&scope.names.all (fun y=>scope.names.lookup y.1 == some y.2) &&
 scope.names.all (fun y=>y.2 != .free || sc.names.lookup y.1 == some .cell || sc.names.lookup y.1 == some .free)&&ir N {scope:=sc,globals:=0,builtins:=0,locals:=0,cells:=[],qual:="",func:=none,code:=.none,frame:=none} scope Nc cap
theorem qo{N:List Str}{e1 e2:Env}{scope:Scope}:∀{Nc:List Str}{cap:List 4e7},ir N e1 scope Nc cap=ir N e2 scope Nc cap
 |[],[]=>rfl
 |_::_,[]=>rfl
 |[],_::_=>rfl
 |_::Nc,none::cap=>by unfold ir;exact qo
 |x::Nc,some j::cap=>by unfold ir;rw[qo (Nc:=Nc) (cap:=cap) (e1:=e1) (e2:=e2)]
theorem u5{X:Cx}{cap:List 4e7}(hN:X.N=N)(hk:∀x,(sc.names.lookup x=some .cell\/sc.names.lookup x=some .free)->X.env.kindOf x=some .cell\/X.env.kindOf x=some .free)(h:vF N sc scope Nc cap=true):bZ X.N 2e1 scope Nc cap:=by
 unfold vF at h;dsimp[RW]at h;obtain⟨⟨⟨h1,h3⟩,h4⟩,h5⟩:=h;refine⟨eq_of_beq h1,fun y hy=>?_,fun y hy hf=>?_,?_⟩
 ·exact eq_of_beq (TJ.mp h3 y hy)
 ·have := TJ.mp h4 y hy;dsimp[UO,hf]at this;refine hk _ ?_;rcases this with (z|z)|z
  ·exact absurd z 0e4
  ·exact .inl (eq_of_beq z)
  ·exact .inr (eq_of_beq z)
 ·rw[hN,qo];exact h5
theorem bM{X:Cx}{cap:List 4e7}(hN:X.N=N)(hs:X.env.scope=sc)(h:vF N sc scope Nc cap=true):bZ X.N 2e1 scope Nc cap:=
 u5 hN (fun x hx=>by subst hs;exact hx) h
theorem IE{X:Cx}{cap:List 4e7}(hN:X.N=N)(hs:X.env.scope=relabel sc env)(h:vF N sc scope Nc cap=true):bZ X.N 2e1 scope Nc cap:=
 u5 hN (fun x hx=>by
  have e:X.env.kindOf x=(sc.names.lookup x).map fun k=>if (k == NameKind.free&&env.scope.kind == .function&&env.kindOf x == some .cell) then NameKind.cell else k:=by
   have:X.env.kindOf x=(relabel sc env).names.lookup x:=by rw[<- hs];rfl
   rw[this];exact jN
  rw[e];rcases hx with z|z
  ·rw[z];exact .inl rfl
  ·rw [z];show some (if _ then _ else _)=_\/some (if _ then _ else _)=_;split
   ·exact .inl rfl
   ·exact .inr rfl) h
structure Bx(P:Prop):Prop where
 h:P
section
variable{X:Cx}{a b d:Expr}{es:List Expr}{fb fc fd f:ME}{ft gt:MT}
theorem aF(i:Nat)(hN:X.N[i]?=some x:=by rfl)(hv:OI X.env.scope x:=by first|exact Or.inl rfl|exact Or.inr (Or.inl rfl)|exact Or.inr (Or.inr rfl))(hd:(x == ("__debug__" : Str))=false:=by decide)(hcd:(x == ("__classdict__" : Str))=false:=by decide):Bx (PE X (.Name x pos) (tD p (aj i))):=⟨Kj (KS hN hv hd hcd)⟩
theorem bA{i j}:Bx (PE X (.Constant (.int i) j pos) (tD p (cC (.int i)))):=⟨CY K2 fun _ _=>ax.mpr rfl⟩
theorem An{i j}:Bx (PE X (.Constant (.bool i) j pos) (tD p (cC (.bl i)))):=⟨CY Of fun _ _=>aZ.mpr rfl⟩
theorem Bh{j}:Bx (PE X (.Constant .none j pos) (tD p (cC .non))):=⟨CY K0 fun _ _=>bS.mpr rfl⟩
theorem yX{x j}:Bx (PE X (.Constant (.str x) j pos) (tD p (cC (.str x)))):=⟨CY KW fun _ _=>bC.mpr rfl⟩
theorem F4{i:Int}(h:∃t,X.mg x=some (.int i t))(hg:Gl X x:=by rfl)(hd:(x == ("__debug__" : Str))=false:=by decide):Bx (PE X (.Name x pos) (tD p (cC (.int i)))):=Bx.mk (by
 obtain⟨t,ht⟩:=h
 exact CY (AX (v:=.int i) hg ht ⟨t,rfl⟩ hd) fun _ _=>ax.mpr rfl)
theorem cn(ha:Bx 4e5)(hb:Bx 9e4)(hK:X.K=p.K:=by rfl):Bx (PE X (.BinOp a .Add b pos) (tD p (ay bF fa fb))):=⟨nL (r:=Dl p.K) (hK ▸ HC) Lr ha.h hb.h⟩
theorem iT(ha:Bx 4e5)(hb:Bx 9e4):Bx (PE X (.BinOp a .Sub b pos) (tD p (ay dG fa fb))):=⟨nL K5 (Pi fun _ _ _ _=>ax.mpr rfl) ha.h hb.h⟩
theorem xb(ha:Bx 4e5)(hb:Bx 9e4):Bx (PE X (.BinOp a .Mult b pos) (tD p (ay mZ fa fb))):=⟨nL Hw Lo ha.h hb.h⟩
theorem DC(ha:Bx 4e5)(hb:Bx 9e4):Bx (PE X (.BinOp a .FloorDiv b pos) (tD p (ay xm fa fb))):=⟨nL Hx (Dn fun _ _ _ _=>ax.mpr rfl) ha.h hb.h⟩
theorem ur(ha:Bx 4e5)(hb:Bx 9e4):Bx (PE X (.BinOp a .Mod b pos) (tD p (ay tX fa fb))):=⟨nL La (Dn fun _ _ _ _=>ax.mpr rfl) ha.h hb.h⟩
theorem IM(ha:Bx 4e5)(hb:Bx 9e4):Bx (PE X (.BinOp a .Pow b pos) (tD p (ay C4 fa fb))):=⟨nL K7 (Dn fun _ _ _ _=>ax.mpr rfl) ha.h hb.h⟩
theorem Ar(ha:Bx 4e5):Bx (PE X (.UnaryOp .USub a pos) (tD p (mY vm fa))):=⟨NW JO Ls ha.h⟩
structure lP(X:Cx)(p:Pa)(op:CmpOp)(o:D->D->aB->ai D):Prop where
 ex:∃r,jQ X (compareOp op) r/\pK p o r
theorem kQ(hu:X.A.units+64<cLine)(hK:X.K=p.K:=by rfl):lP X p .Eq (f9 false):=⟨C3 p.K false,hK ▸ Ld hu,Je⟩
theorem r9(hu:X.A.units+64<cLine)(hK:X.K=p.K:=by rfl):lP X p .NotEq (f9 true):=⟨C3 p.K true,hK ▸ K8 hu,Je⟩
theorem F7(hu:X.A.units+64<cLine)(hK:X.K=p.K:=by rfl):lP X p .In (va false):=⟨C2 p.K false,hK ▸ Lc hu,Jd⟩
theorem Dp(hu:X.A.units+64<cLine)(hK:X.K=p.K:=by rfl):lP X p .NotIn (va true):=⟨C2 p.K true,hK ▸ σ4 hu,Jd⟩
theorem Jk:lP X p .Is (wX false):=⟨_,Lb,Lp⟩
theorem LM:lP X p .IsNot (wX true):=⟨_,Hv,HJ⟩
theorem gL(hu:X.A.units+64<cLine)(ho:xg op=true:=by rfl)(hK:X.K=p.K:=by rfl):lP X p op (dC op):=⟨Dk p.K op,hK ▸ Hy hu ho,Lq⟩
variable{op' op'':CmpOp}{o' o'':D->D->aB->ai D}
theorem ly(k:lP X p op o)(ha:Bx 4e5)(hb:Bx 9e4)(hm:behindInMarks op b=false:=by rfl):Bx (PE X (.Compare a [op] [b] pos) (tD p (ay o fa fb))):=Bx.mk (let ⟨_,h1,h2⟩:=k.ex;Ks h1 h2 ha.h hb.h hm)
theorem cc(k:lP X p op o)(ha:Bx 4e5)(hb:Bx 9e4)(hm:behindInMarks op b=false:=by rfl):Bx (PT X (.Compare a [op] [b] pos) (iw p (gb (ay o fa fb)))):=Bx.mk (let ⟨_,h1,h2⟩:=k.ex;α1 h1 h2 ha.h hb.h hm)
theorem IP(k:lP X p op o)(k':lP X p op' o')(ha:Bx 4e5)(hb:Bx 9e4)(hc:Bx (PE X c (tD p fc)))(hm:lastMarks [op,op'] [b,c]=false:=by rfl):Bx (PE X (.Compare a [op,op'] [b,c] pos) (tD p (kY o o' fa fb fc))):=Bx.mk (let ⟨_,h1,h2⟩:=k.ex;let ⟨_,h3,h4⟩:=k'.ex;EA h1 h3 h2 h4 ha.h hb.h hc.h hm)
theorem NG(k:lP X p op o)(k':lP X p op' o')(ha:Bx 4e5)(hb:Bx 9e4)(hc:Bx (PE X c (tD p fc)))(hm:lastMarks [op,op'] [b,c]=false:=by rfl):Bx (PT X (.Compare a [op,op'] [b,c] pos) (iw p (gb (kY o o' fa fb fc)))):=Bx.mk (let ⟨_,h1,h2⟩:=k.ex;let ⟨_,h3,h4⟩:=k'.ex;Ec h1 h3 h2 h4 ha.h hb.h hc.h hm)
theorem wQ(h:Bx (PE X e (tD p f)))(he:∀whole,isTrue e 2e1 whole=(do let v <- whole;standAt e.pos;holding [v] (truthy v)):=by intro _;rfl)(hK:X.K=p.K:=by rfl):Bx (PT X e (iw p (i8 f))):=⟨Eb hK h.h he⟩
theorem xc(ha:Bx (PT X a (iw p ft)))(hb:Bx (PW X (.BoolOp .And (b::rest) pos) (iw p gt))):Bx (PW X 12e9 (iw p (lF ft gt))):=⟨JZ ha.h hb.h⟩
theorem tW(ha:Bx (PT X a (iw p ft)))(hb:Bx (PW X (.BoolOp .Or (b::rest) pos) (iw p gt))):Bx (PW X (.BoolOp .Or (a::b::rest) pos) (iw p (pQ ft gt))):=⟨NR ha.h hb.h⟩
theorem su(ha:Bx (PT X a (iw p ft))):Bx (PW X (.BoolOp .And [a] pos) (iw p ft)):=⟨G8 ha.h⟩
theorem sg(ha:Bx (PT X a (iw p ft))):Bx (PW X (.BoolOp .Or [a] pos) (iw p ft)):=⟨KC ha.h⟩
theorem lR{op}(ha:Bx 4e5):Bx (PE X (.BoolOp op [a] pos) (tD p fa)):=⟨KY ha.h⟩
def DR:Expr->Bool
 |.Starred _ _=>false
 |_=>true
theorem By{a:Expr}{es:List Expr}(h:DR a=true):starEach (a::es) env=(false,eval a env)::starEach es env:=by
 cases a <;> first|rfl|cases h
theorem aI(ha:Bx 4e5)(hr:Bx (PA X es (mX p fr)))(hs:DR a=true:=by rfl):Bx (PA X (a::es) (mX p (ag fa fr))):=⟨GZ ha.h hr.h (By hs)⟩
theorem aX  : Bx (PA X [] (mX p az)):=⟨Ku⟩
theorem aU{k:Nat}(h:dk X.prog X.w X.K X.mg X.base p k x n F)(hr:ip k X.A)(ha:Bx (PA X (a::es) (mX p fr)))(hg:Gl X x:=by rfl)(hdb:(x == ("__debug__" : Str))=false:=by decide)(he:starEach (a::es) 2e1=(false,eval a 2e1)::starEach es 2e1:=by rfl)(hpl:(backTo pos 7e6).any 5e4=false:=by rfl):Bx (PE X 7e7 (tD p (aE F fr))):=⟨GV h hr hg ha.h hdb he hpl⟩
structure rk(X:Cx)(p:Pa)(x:Str)(F:List D->aB->ai D):Prop where
 ex:∃(u:Value) (r:List V->Hp->VK->Prop),((∃id,u=.builtin id)\/∃T,u=.type T)/\bootBuiltins x=some u/\dX X u r/\yW p F r/\x ≠ "__name__" /\ (x == ("__debug__" : Str))=false
theorem bB(k:rk X p x F)(hm:X.mg x=none)(ha:Bx (PA X (a::es) (mX p fr)))(hg:Gl X x:=by rfl)(he:starEach (a::es) 2e1=(false,eval a 2e1)::starEach es 2e1:=by rfl)(hpl:(backTo pos 7e6).any 5e4=false:=by rfl):Bx (PE X 7e7 (tD p (aE F fr))):=Bx.mk (by
 obtain⟨u,r,hu,h1,h2,h3,h4,h5⟩:=k.ex;rcases hu with⟨id,rfl⟩|⟨T,rfl⟩
 ·exact EB h2 h3 hg hm h1 ha.h h4 h5 he hpl
 ·exact BM h2 h3 hg hm h1 ha.h h4 h5 he hpl)
theorem jC (hK:X.K=p.K:=by rfl) (hw:X.w=p.w:=by rfl):rk X p "len" jy:=⟨_,_,.inl ⟨_,rfl⟩,PySem.boot_len,FJ,by rw[hK];exact Lj,by decide,by decide⟩
theorem xo (hc:X.calm=true:=by rfl) (hK:X.K=p.K:=by rfl):rk X p "all" tY:=⟨_,_,.inl ⟨_,rfl⟩,by decide +kernel,CJ hc,hK ▸ Ll,by decide,by decide⟩
theorem gm (hK:X.K=p.K:=by rfl):rk X p "tuple" eR:=⟨_,_,.inr ⟨_,rfl⟩,by decide +kernel,um,hK ▸ E4,by decide,by decide⟩
theorem vH (hK:X.K=p.K:=by rfl):rk X p "list" lE:=⟨_,_,.inr ⟨_,rfl⟩,by decide +kernel,wJ,hK ▸ HF,by decide,by decide⟩
theorem Jn:rk X p "int" qJ:=⟨_,_,.inr ⟨_,rfl⟩,by decide +kernel,CI,Lk,by decide,by decide⟩
theorem AA (hc:X.calm=true:=by rfl) (hK:X.K=p.K:=by rfl):rk X p "min" rf:=⟨_,_,.inl ⟨_,rfl⟩,by decide +kernel,(CF hc).or (CD hc),hK ▸ Lh,by decide,by decide⟩
theorem Dw (hc:X.calm=true:=by rfl) (hK:X.K=p.K:=by rfl):rk X p "max" wW:=⟨_,_,.inl ⟨_,rfl⟩,by decide +kernel,(CH hc).or (CG hc),hK ▸ Li,by decide,by decide⟩
theorem Dv (hu:X.A.units+64<cLine) (hc:X.calm=true:=by rfl) (hK:X.K=p.K:=by rfl) (hw:X.w=p.w:=by rfl):rk X p "set" qZ:=⟨_,_,.inr ⟨_,rfl⟩,by decide +kernel,CC hc hu,by rw[hK,hw];exact Lg,by decide,by decide⟩
theorem mh (hc:X.calm=true:=by rfl) (hK:X.K=p.K:=by rfl) (hw:X.w=p.w:=by rfl):rk X p "sorted" di:=⟨_,_,.inl ⟨_,rfl⟩,by decide +kernel,Ai.or (Ah hc),by rw[hK,hw];exact σ5,by decide,by decide⟩
theorem lx{T:String}{xT:Str}{pt:Pos}(hT:T∈["int", "bool", "tuple", "list", "str", "dict"])(hbT:bootBuiltins xT=some (.type T))(hnT:xT ≠ "__name__")(hdT:(xT == ("__debug__" : Str))=false)(hm:X.mg "isinstance" = none)(hmT:X.mg xT=none)(ha:Bx 4e5)(hg:Gl X "isinstance" := by rfl)(hgT:Gl X xT:=by rfl)(hs1:starEach [a,.Name xT pt] 2e1=(false,eval a 2e1)::starEach [.Name xT pt] 2e1:=by rfl)(hK:X.K=p.K:=by rfl):Bx (PE X 12e1 (tD p (mY (eP T) fa))):=⟨Ko hK hT hg hm hgT hmT hbT ha.h hnT hdT hs1⟩
theorem D4:bootBuiltins "int" = some (.type "int"):=by decide +kernel
theorem vX:bootBuiltins "bool" = some (.type "bool"):=by decide +kernel
theorem jH:bootBuiltins "tuple" = some (.type "tuple"):=by decide +kernel
theorem DB {pl pr p1:Pos} (hm:X.mg "range" = none) (hml:X.mg "list" = none) (ha:Bx (PA X [a] (mX p fr))) (hc:X.calm=true:=by rfl) (hg:Gl X "range" := by rfl) (hgl:Gl X "list" := by rfl) (hs:starEach [a] 2e1=[11e2]:=by rfl):Bx (PE X (.Call (.Name "list" pl) [.Call (.Name "range" pr) [a] [] p1] [] pos) (tD p (aE kX fr))):=⟨Ey hc hg hm hgl hml ha.h hs⟩
theorem bO(ha:Bx 4e5)(hb:Bx 9e4)(hs:vZ b:=by exact fun _ _=>rfl)(hK:X.K=p.K:=by rfl):Bx (PE X (.Subscript a b pos) (tD p (ay cj fa fb))):=⟨NX hK ha.h hb.h hs⟩
theorem qY{lo hi:Option Expr}{fl fh:MO}{p2:Pos}(he:Bx (PE X e (tD p fa)))(hl:Bx (PO X lo (II p fl)))(hu:Bx (PO X hi (II p fh)))(hK:X.K=p.K:=by rfl):Bx (PE X (.Subscript e (.Slice lo hi none p2) pos) (tD p (wU fa fl fh))):=⟨Ex hK he.h hl.h hu.h⟩
theorem Ny{fo:ME}(ho:Bx (PE X ob (tD p fo)))(ha:Bx (PA X [e] (mX p fr)))(hbase:attributeBase ob "pop" X.env (eval ob 2e1)=eval ob 2e1:=by rfl)(hfew:((backTo pos (starEach [e] 2e1)).all (fun x=>!x.1)&&(backToKw pos (keywordEach [] 2e1)).all (fun x=>x.1.isSome)
   && decide 2e8)=true:=by rfl)(hline:(apos.endLine == pos.line)=true:=by rfl)(hs:starEach [e] 2e1=(false,eval e 2e1)::starEach [] 2e1:=by rfl)(hpl:(backTo pos (starEach [] 2e1)).any 5e4=false:=by rfl)(hK:X.K=p.K:=by rfl):Bx (PE X (.Call (.Attribute ob "pop" apos) [e] [] pos) (tD p (uq sC fo fr))):=⟨uw hK PySem.F.slot_list_pop PySem.F.type_list_pop Fg HQ ho.h ha.h hbase hfew hline hs hpl⟩
theorem As{fo:ME}(ho:Bx (PE X ob (tD p fo)))(ha:Bx (PA X [e] (mX p fr)))(hbase:attributeBase ob "append" X.env (eval ob 2e1)=eval ob 2e1:=by rfl)(hfew:((backTo pos (starEach [e] 2e1)).all (fun x=>!x.1)&&(backToKw pos (keywordEach [] 2e1)).all (fun x=>x.1.isSome)
   && decide 2e8)=true:=by rfl)(hline:(apos.endLine == pos.line)=true:=by rfl)(hs:starEach [e] 2e1=(false,eval e 2e1)::starEach [] 2e1:=by rfl)(hpl:(backTo pos (starEach [] 2e1)).any 5e4=false:=by rfl)(hK:X.K=p.K:=by rfl):Bx (PE X (.Call (.Attribute ob "append" apos) [e] [] pos) (tD p (uq dJ fo fr))):=⟨uw hK PySem.F.slot_list_append PySem.F.type_list_append uN HR ho.h ha.h hbase hfew hline hs hpl⟩
variable{g:MG}{u:F2}
theorem qW(hl:Bx (PE X e (tD p f)))(hK:X.K=p.K:=by rfl):Bx (PI X tg e (rY p (fL f))):=⟨Kg hK hl.h⟩
theorem pP(hm:X.mg "range" = none)(ha:Bx (PA X [a] (mX p fr)))(hg:Gl X "range" := by rfl)(hs:starEach [a] 2e1=[11e2]:=by rfl):Bx (PI X tg (.Call (.Name "range" px) [a] [] pos) (rY p (fM km fr))):=⟨BK hg hm ha.h hs⟩
theorem Bm(hm:X.mg "range" = none)(ha:Bx (PA X [a,b] (mX p fr)))(hg:Gl X "range" := by rfl)(hs:starEach [a,b] 2e1=[11e2,(false,eval b 2e1)]:=by rfl)(hs2:starEach [b] 2e1=[(false,eval b 2e1)]:=by rfl):Bx (PI X tg (.Call (.Name "range" px) [a,b] [] pos) (rY p (fM pM fr))):=⟨BJ hg hm ha.h hs hs2⟩
theorem Nh{tpos:Pos}(hm:X.mg "enumerate" = none)(ha:Bx (PA X [a] (mX p fr)))(hg:Gl X "enumerate" := by rfl)(hs:starEach [a] 2e1=[11e2]:=by rfl)(hK:X.K=p.K:=by rfl):Bx (PI X (.Tuple elts k1 tpos) (.Call (.Name "enumerate" px) [a] [] pos) (rY p (fM qI fr))):=⟨GP hK hg hm ha.h hs⟩
theorem gO(i:Nat)(hN:X.N.Nodup)(hi:X.N[i]?=some x:=by rfl)(hx:Bi X.env.scope x:=by first|exact Or.inl rfl|exact Or.inr rfl)(hf:X.fn x=true\/X.env.scope.names.lookup x=some .local:=by first|exact .inl rfl|exact .inr rfl):Bx (PG X (.Name x pos) (pH p (ak i))):=⟨GR hN hi hx hf⟩
theorem lC  : Bx (yZ X [] (wV p de)):=⟨GQ⟩
theorem cY(h1:Bx (PG X e (pH p g)))(h2:Bx (yZ X es (wV p u)))(hs:(assignEach (e::es) 2e1).map (·.2)=assign e 2e1::(assignEach es 2e1).map (·.2):=by rfl):Bx (yZ X (e::es) (wV p (aW g u))):=⟨Er h1.h h2.h hs⟩
theorem lB{k:Nat}(h:Bx (yZ X es (wV p u)))(hc:X.calm=true:=by rfl)(hn:(assignEach es 2e1).length=n:=by rfl)(hst:(assignEach es 2e1).findIdx? 5e4=none:=by rfl)(hK:X.K=p.K:=by rfl):Bx (PG X (.Tuple es k pos) (pH p (dc n u))):=⟨Kh hK hc h.h hn hst⟩
theorem uz{fo fi:ME}(ho:Bx (PE X a (tD p fo)))(hi:Bx (PE X b (tD p fi)))(ha:∀v,assign (.Subscript a b pos) 2e1 v=(do
   let ov <- holding [v] (eval a 2e1)
   let iv <- holding [v,ov] (eval b 2e1)
   standAt pos
   holding [v,ov,iv] (setItem ov iv v)
   release [v,ov,iv] []):=by intro _;rfl):Bx (PG X (.Subscript a b pos) (pH p (nt fo fi))):=⟨Ki ho.h hi.h ha⟩
variable{ifs:List Expr}{cap:List 4e7}{tt:MT}{te:ME}
theorem dP(S:bZ X.N 2e1 scope Nc cap)(hi:Bx (PI X tg iter (rY p fi)))(hg:∀cl C s H fp,Bx (PG 0e7 tg (pH p.nx g)))(ht:∀cl C s H fp,Bx (rZ 0e7 ifs (iw p.nx tt)))(he:∀cl C s H fp,Bx (PE 0e7 elt (tD p.nx te)))(hc:X.calm=true:=by rfl)(hs:∀x,foldedSetIterable iter 2e1 x=pure x:=by intro _;rfl):Bx (PE X 3e3 (tD p (bY fi cap g tt te))):=⟨GU hc S hi.h (fun cl C s H fp=>(hg cl C s H fp).h) (fun cl C s H fp=>(ht cl C s H fp).h) (fun cl C s H fp=>(he cl C s H fp).h) hs⟩
def rT(gs:List Comprehension):Bool:=gs.all fun g=>g.is_async == 0
theorem vM{gs:List Comprehension}(h:rT gs=true):∀g∈gs,g.is_async=0:=fun g hg=>eq_of_beq (TJ.mp h g hg)
variable{mb:MB}{cl0:Comprehension}{rest:List Comprehension}{d:Nat}
theorem Px(hg:gens[d]?=none)(hel:Bx (PE X elt (tD p.nx te)))(hxe:X.xe=vc:=by rfl):Bx (vb X (.ListComp elt gens scope pos) d acc (wR p.nx (sm te) acc)):=⟨GY hg hxe hel.h⟩
theorem Pw(hg:gens[d]?=some ⟨tg,iter,ifs,0⟩)(hi:Bx (PI X tg iter (rY p.nx fi)))(hgc:Bx (PG X tg (pH p.nx g)))(htc:Bx (rZ X ifs (iw p.nx tt)))(hb:Bx (vb X (.ListComp elt gens scope pos) (d+1) acc (wR p.nx mb acc)))(hz:rT gens=true:=by rfl)(hxe:X.xe=vc:=by rfl)(hc:X.calm=true:=by rfl)(hs:∀x,foldedSetIterable iter 2e1 x=pure x:=by intro _;rfl):Bx (vb X (.ListComp elt gens scope pos) d acc (wR p.nx (vA fi g tt mb) acc)):=
 ⟨EC (e:=.ListComp elt gens scope pos) (cl:=⟨tg,iter,ifs,0⟩) rfl (vM hz) hg hxe hc hi.h hgc.h htc.h hb.h hs⟩
theorem Gu(S:bZ X.N 2e1 scope Nc cap)(hi:Bx (PI X tg iter (rY p fi)))(hg:∀cl C s H fp,Bx (PG 0e7 tg (pH p.nx g)))(ht:∀cl C s H fp,Bx (rZ 0e7 ifs (iw p.nx tt)))(hb:∀cl C s H fp acc,Bx (vb 0e7 (.ListComp elt (⟨tg,iter,ifs,0⟩::rest) scope pos) 1 acc (wR p.nx mb acc)))(hz:rT (⟨tg,iter,ifs,0⟩::rest)=true:=by rfl)(hc:X.calm=true:=by rfl)(hs:∀x,foldedSetIterable iter 2e1 x=pure x:=by intro _;rfl):Bx (PE X (.ListComp elt (⟨tg,iter,ifs,0⟩::rest) scope pos) (tD p (nP fi cap g tt mb))):=
 ⟨Ez (cl0:=⟨tg,iter,ifs,0⟩) hc (vM hz) S hi.h (fun cl C s H fp=>(hg cl C s H fp).h) (fun cl C s H fp=>(ht cl C s H fp).h) (fun cl C s H fp acc=>(hb cl C s H fp acc).h) hs⟩
variable{fs gs:MS}{sts A σ:List Stmt}
theorem bK(i:Nat)(hN:X.N.Nodup)(he:Bx (PE X e (tD p f)))(hi:X.N[i]?=some x:=by rfl)(hx:Bi X.env.scope x:=by first|exact Or.inl rfl|exact Or.inr rfl)(hs:swapsWith e (some (.Name x pos')) pos.line 2e1=pure false:=by rfl)(hf:X.fn x=true\/X.env.scope.names.lookup x=some .local:=by first|exact .inl rfl|exact .inr rfl):Bx (PS X (.Assign [.Name x pos'] e pos) (iQ p (bx f (ak i)))):=⟨α2 hN hi hx he.h hs hf⟩
theorem kU(i:Nat)(hN:X.N.Nodup)(S:bZ X.N 2e1 scope Nc cap)(hi:Bx (PI X tg iter (rY p fi)))(hg:∀cl C s H fp,Bx (PG 0e7 tg (pH p.nx g)))(ht:∀cl C s H fp,Bx (rZ 0e7 ifs (iw p.nx tt)))(he:∀cl C s H fp,Bx (PE 0e7 elt (tD p.nx te)))(hix:X.N[i]?=some x:=by rfl)(hx:X.env.scope.names.lookup x=some .local:=by rfl)(hc:X.calm=true:=by rfl)(hsw:swapsWith 3e3 (some (.Name x pos1)) pos2.line 2e1=pure true:=by rfl)(hs:∀x,foldedSetIterable iter 2e1 x=pure x:=by intro _;rfl):Bx (PS X (.Assign [.Name x pos1] 3e3 pos2) (iQ p (bx (bY fi cap g tt te) (ak i)))):=⟨GD hc hN hix hx S hi.h (fun cl C s H fp=>(hg cl C s H fp).h) (fun cl C s H fp=>(ht cl C s H fp).h) (fun cl C s H fp=>(he cl C s H fp).h) hsw hs⟩
theorem oA(he:Bx (PE X e (tD p f)))(hg:Bx (PG X tg (pH p g)))(hs:swapsWithSole [tg] e pos.line 2e1=pure false:=by rfl)(hw:swappedStores [tg] e 2e1=pure none:=by rfl)(h1:(assignEach [tg] 2e1).map (·.2)=[assign tg 2e1]:=by rfl):Bx (PS X (.Assign [tg] e pos) (iQ p (bx f g))):=⟨α9 he.h hg.h hs hw h1⟩
theorem kW(he:Bx (PE X e (tD p f)))(hs:swapsWith e none pos.line 2e1=pure false:=by rfl):Bx (PS X (.Expr e pos) (iQ p (lz f))):=⟨GE he.h hs⟩
theorem jT(hp:PassesOwn 1e1 X.A 2e1 X.xe)(hi:Bx (PI X tg iter (rY p fi)))(hg:Bx (PG X tg (pH p g)))(hb:Bx (kj X body (iQ p fs)))(hc:X.calm=true:=by rfl)(hs:∀x,foldedSetIterable iter 2e1 x=pure x:=by intro _;rfl):Bx (PS X (.For tg iter body [] pos) (iQ p (lM fi g fs))):=⟨α7 hp hc hi.h hg.h hb.h hs⟩
theorem AQ(n:Nat)(hp:PassesOwn 1e1 X.A 2e1 X.xe)(hc:Bx (PT X c (iw p ft)))(hb:Bx (kj X body (iQ p fs))):Bx (PS X (.While c body [] pos) (iQ p (pT n ft fs))):=⟨Ef hp hc.h hb.h⟩
end
section
variable{X:Cx}{a b:Expr}{es:List Expr}{fb f:ME}{ft gt:MT}{fs gs:MS}{sts A σ:List Stmt}
theorem IL(ha:Bx 4e5):Bx (PE X (.UnaryOp .Not a pos) (tD p (xn fa))):=⟨Kl ha.h⟩
theorem jh(ha:Bx 4e5)(hb:Bx (PE X (.BoolOp .And (b::rest) pos) (tD p fb))):Bx (PE X 12e9 (tD p (gS fa fb))):=⟨Kt ha.h hb.h⟩
theorem MD(hc:Bx (PT X c (iw p ft)))(ha:Bx 4e5)(hb:Bx 9e4):Bx (PE X (.IfExp c a b pos) (tD p (Ju ft fa fb))):=⟨NY hc.h ha.h hb.h⟩
theorem bQ{k:Nat}(h:Bx (PA X es (mX p fr))):Bx (PE X (.Tuple es k pos) (tD p (bV fr))):=⟨Kk h.h⟩
theorem eE(h:Bx (PA X es (mX p fr))):Bx (PE X (.List es pos) (tD p (fq fr))):=⟨Km h.h⟩
theorem Np:Bx (PE X (.Dict [] [] pos) (tD p C6)):=⟨Kr⟩
theorem gX:Bx (PO X none (II p yU)):=⟨GM⟩
theorem fu(h:Bx (PE X e (tD p f))):Bx (PO X (some e) (II p (iq f))):=⟨GL h.h⟩
theorem jg(ha:Bx (PT X a (iw p ft))):Bx (PT X (.UnaryOp .Not a pos) (iw p (gR ft))):=⟨α0 ha.h⟩
theorem qX(h:Bx (PW X e (iw p ft))):Bx (PT X e (iw p ft)):=⟨h.h.pt⟩
theorem fN:Bx (rZ X [] (iw p bp)):=⟨GA⟩
theorem lQ(h:Bx (PT X c (iw p ft))):Bx (rZ X [c] (iw p ft)):=⟨Gz h.h⟩
theorem eX:Bx (kj X [] (iQ p dO)):=⟨α6⟩
theorem aJ(h1:Bx (PS X st (iQ p fs)))(h2:Bx (kj X sts (iQ p gs))):Bx (kj X (st::sts) (iQ p (bj fs gs))):=⟨GF h1.h h2.h⟩
theorem aR(h1:Bx (PS X st (iQ p fs))):Bx (kj X [st] (iQ p fs)):=⟨α4 h1.h⟩
theorem bG(h:Bx (PE X e (tD p f))):Bx (PS X (.Return (some e) pos) (iQ p (cH f))):=⟨α3 h.h⟩
theorem AB:Bx (PS X st (iQ p F6)):=⟨Eg⟩
theorem il(hc:Bx (PT X c (iw p ft)))(ha:Bx (kj X A (iQ p fs)))(hb:Bx (kj X σ (iQ p gs))):Bx (PS X (.If c A σ pos) (iQ p (lL ft fs gs))):=⟨NS hc.h ha.h hb.h⟩
end
theorem cW{k:Nat}{ps:List Str}(F:ik K x qual st f fd)(S:aV N ps (av st))(hn:ps.length=n)(hm:mg x=some 4e4)(hb:iU K fd ps [])(body : ∀ (cdv : Value) (A : Around) (outer : List Env) (s : Shared) (H : Hp) (E : XK), ip k 7e0 ->
   Bx (kj (sd y6 P w K mg base N qual (av st) f cdv A outer s H E).nox (cR st) (iQ p fb))):dk P w K mg base p (k+1) x n (iR n N.length fb):=
 Md F S hn hm hb fun cdv A outer s H E hr=>(body cdv A outer s H E hr).h
end L2
namespace L2
open PySem RS
section
variable{fb fc fd f:ME}{ft gt:MT}{op o1 o2 o3:D->D->aB->ai D}{fs gs:MS}{g:MG}
@[simp] theorem ah{r:Ro}:aj 0 (some d::r) Y=.ok d Y:=UC 8e3
@[simp] theorem ao{x:Option D}{r:Ro}:aj (i+1) (x::r) Y=aj i r Y:=UC 8e3
@[simp] theorem aT:cC d Z Y=.ok d Y:=UC 8e3
@[simp] theorem aC:ay op fa fb Z Y=(fa Z Y).bind fun a Y1=>(fb Z Y1).bind fun b Y2=>op a b Y2:=UC 8e3
@[simp] theorem fI {o:D->aB->ai D}:mY o fa Z Y=(fa Z Y).bind fun a Y1=>o a Y1:=UC 8e3
@[simp] theorem au:az Z Y=.ok [] Y:=UC 8e3
@[simp] theorem ar:ag fa fr Z Y=(fa Z Y).bind fun a Y1=>(fr Z Y1).bind fun r Y2=>.ok (a::r) Y2:=UC 8e3
@[simp] theorem aA:aE F fr Z Y=(fr Z Y).bind F:=UC 8e3
@[simp] theorem cb:bV fr Z Y=(fr Z Y).bind fun ds Y=>if ds.length<=sizeLine then .ok (.tup ds) Y else .bad:=UC 8e3
@[simp] theorem cZ:fq fr Z Y=(fr Z Y).bind fun ds Y=>if ds.length<=sizeLine then .ok 1e0 (Y++[.lst ds]) else .bad:=UC 8e3
@[simp] theorem aO {b:Bool}:Aq (.bl b) Y=.ok b Y:=UC 8e3
@[simp] theorem bR:gb f Z Y=(f Z Y).bind Aq:=UC 8e3
@[simp] theorem g7:lF ft gt Z Y=(ft Z Y).bind fun b Y1=>if b=true then gt Z Y1 else .ok false Y1:=UC 8e3
@[simp] theorem gU:pQ ft gt Z Y=(ft Z Y).bind fun b Y1=>if b=true then .ok true Y1 else gt Z Y1:=UC 8e3
@[simp] theorem bX:gR ft Z Y=(ft Z Y).bind fun b Y1=>.ok (!b) Y1:=UC 8e3
@[simp] theorem fv:gS fa fb Z Y=(fa Z Y).bind fun a Y1=>(Aq a Y1).bind fun b Y2=>if b=true then fb Z Y2 else .ok 4e2 Y2:=UC 8e3
@[simp] theorem A9:xn f Z Y=(f Z Y).bind fun a Y1=>(Aq a Y1).bind fun b Y2=>.ok (.bl (!b)) Y2:=UC 8e3
@[simp] theorem xj:Ju ft fa fb Z Y=(ft Z Y).bind fun b Y1=>if b=true then fa Z Y1 else fb Z Y1:=UC 8e3
@[simp] theorem mf:kY o1 o2 fa fb fc Z Y=(fa Z Y).bind fun a Y1=>(fb Z Y1).bind fun b Y2=>(o1 a b Y2).bind fun z Y3=>(Aq z Y3).bind fun k Y4=>
 if k=true then (fc Z Y4).bind fun c Y5=>o2 b c Y5 else .ok 4e2 Y4:=UC 8e3
@[simp] theorem Cs:rS o1 o2 o3 fa fb fc fd Z Y=(fa Z Y).bind fun a Y1=>(fb Z Y1).bind fun b Y2=>(o1 a b Y2).bind fun z Y3=>(Aq z Y3).bind fun k Y4=>
 if k=true then (fc Z Y4).bind fun c Y5=>(o2 b c Y5).bind fun z2 Y6=>(Aq z2 Y6).bind fun k2 Y7=>if k2=true then (fd Z Y7).bind fun d Y8=>o3 c d Y8 else .ok 4e2 Y7 else .ok 4e2 Y4:=UC 8e3
@[simp] theorem cq:i8 f Z Y=(f Z Y).bind Bj:=UC 8e3
@[simp] theorem bL {b:Bool}:Bj (.bl b) Y=.ok b Y:=UC 8e3
@[simp] theorem xi {fl fh:MO}:wU fa fl fh Z Y=(fa Z Y).bind fun a Y1=>(fl Z Y1).bind fun lo Y2=>(fh Z Y2).bind fun hi Y3=>yV a lo hi Y3:=UC 8e3
@[simp] theorem vC:yU Z Y=.ok none Y:=UC 8e3
@[simp] theorem me:iq f Z Y=(f Z Y).bind OH:=UC 8e3
@[simp] theorem sA {i:Int}:OH (.int i) Y=.ok (some i) Y:=UC 8e3
@[simp] theorem L7:C6 Z Y=.ok 1e0 (Y++[.dic]):=UC 8e3
@[simp] theorem lD {F:D->List D->aB->ai D}{fo:ME}:uq F fo fr Z Y=(fo Z Y).bind fun o Y1=>if oj o Y1=true then (fr Z Y1).bind fun ds Y2=>F o ds Y2 else .bad:=UC 8e3
@[simp] theorem bc:cH f Z Y=(f Z Y).bindS fun d Y'=>.ret d Y':=UC 8e3
@[simp] theorem bT:dO Z Y=.next Z Y:=UC 8e3
@[simp] theorem aG:bj fs gs Z Y=(fs Z Y).bind gs:=UC 8e3
@[simp] theorem bw:lL ft fs gs Z Y=(ft Z Y).bindS fun b Y1=>if b=true then fs Z Y1 else gs Z Y1:=UC 8e3
@[simp] theorem aS:bx f g Z Y=(f Z Y).bindS fun d Y1=>(g d Z Y1).bindS fun Z' Y2=>.next Z' Y2:=UC 8e3
@[simp] theorem g6:lz f Z Y=(f Z Y).bindS fun _ Y1=>.next Z Y1:=UC 8e3
@[simp] theorem aD {g:MS}:(SO.next Z Y).bind g=g Z Y:=UC 8e3
@[simp] theorem gT{g:MS}:(SO.ret d Y).bind g=.ret d Y:=UC 8e3
@[simp] theorem oG {g:MS}:(SO.next Z Y).loop g=g Z Y:=UC 8e3
@[simp] theorem aP:(SO.ret d Y).out=.ok d Y:=UC 8e3
@[simp] theorem E3:(SO.next Z Y).out=.ok .non Y:=UC 8e3
@[simp] theorem bH:ak i d Z Y=.ok (Z.set i (some d)) Y:=UC 8e3
@[simp] theorem mK{fo fi:ME}:nt fo fi d Z Y=(fo Z Y).bind fun o Y1=>(fi Z Y1).bind fun i Y2=>(zc o i d Y2).bind fun _ Y3=>.ok Z Y3:=UC 8e3
@[simp] theorem Iw{u:F2}:dc n u (.tup xs) Z Y=if xs.length=n then u xs Z Y else .bad:=UC 8e3
@[simp] theorem Iy:de [] Z Y=.ok Z Y:=UC 8e3
@[simp] theorem Fy{u:F2}{r:List D}:aW g u (d::r) Z Y=(g d Z Y).bind fun Z' Y'=>u r Z' Y':=UC 8e3
@[simp] theorem gW:lM fi g fs Z Y=(fi Z Y).bindS fun src Y1=>iS src g fs src.items Z Y1:=UC 8e3
@[simp] theorem cw:fL f Z Y=(f Z Y).bind zb:=UC 8e3
@[simp] theorem cF {F:List D->aB->ai pJ}:fM F fr Z Y=(fr Z Y).bind F:=UC 8e3
@[simp] theorem jV:zb (.tup xs) Y=.ok (.fix xs) Y:=UC 8e3
@[simp] theorem bP{cap:List 4e7}:bY fi cap g ft f Z Y=(fi Z Y).bind fun src Y1=>compLoop src 6e9 g ft f src.items (dr cap Z) (Y1++[.lst []]):=UC 8e3
@[simp] theorem bg:(pJ.fix xs).items=xs:=UC 8e3
@[simp] theorem cK:(pJ.own n xs).items=xs:=UC 8e3
@[simp] theorem OQ:dr [] Z=[]:=UC 8e3
@[simp] theorem OA {r:List 4e7}:dr (none::r) Z=none::dr r Z:=UC 8e3
@[simp] theorem Oy{r:List 4e7}:dr (some j::r) Z=(Z[j]?).join::dr r Z:=UC 8e3
theorem cu{N:Nat}{a:D}:iR 1 N fs [a] Y=tT Y (fs (some a::List.replicate (N-1) none) Y).out:=Qu rfl
theorem cS{N:Nat}{a b:D}:iR 2 N fs [a,b] Y=tT Y (fs (some a::some b::List.replicate (N-2) none) Y).out:=Qu rfl
theorem pY{N:Nat}{a b c:D}:iR 3 N fs [a,b,c] Y=tT Y (fs (some a::some b::some c::List.replicate (N-3) none) Y).out:=Qu rfl
@[simp] theorem cG {op:CmpOp}{i j:Int}:dC op (.int i) (.int j) Y=.ok (.bl (cA op i j)) Y:=UC 8e3
@[simp] theorem eV {i j:Int}:bF (.int i) (.int j) Y=.ok (.int (i+j)) Y:=UC 8e3
@[simp] theorem xk{i j:Int}:dI gg (.int i) (.int j) Y=.ok (gg i j) Y:=UC 8e3
@[simp] theorem nO{i j:Int}(h:C i j):Jt C gg (.int i) (.int j) Y=.ok (gg i j) Y:=by unfold Jt;simp[h]
@[simp] theorem OP {i j:Int} (h:xa i j):mZ (.int i) (.int j) Y=.ok (.int (i*j)) Y:=by unfold mZ;simp[h]
@[simp] theorem vD {i:Int}:vm (.int i) Y=.ok (.int (-i)) Y:=UC 8e3
@[simp] theorem cE{i j:Int}:f9 neg (.int i) (.int j) Y=.ok (.bl (if neg then !(i == j) else i == j)) Y:=UC 8e3
@[simp] theorem zu{a:D}:wX neg a .non Y=.ok (.bl (if neg then !a.isNon else a.isNon)) Y:=UC 8e3
@[simp] theorem dH:jy [.tup xs] Y=.ok (.int 3e9) Y:=UC 8e3
@[simp] theorem Ba:jy [.frz xs] Y=.ok (.int 3e9) Y:=UC 8e3
theorem vV(h:Y[n]?=some 2e9):jy [.obj n] Y=.ok (.int 3e9) Y:=by unfold jy Ay;simp[h]
theorem gk(h:Y[n]?=some 2e9):eR [.obj n] Y=.ok (.tup xs) Y:=by unfold eR;simp[h]
theorem jW{bs:List Bool}(h:Y[n]?=some (.lst (bs.map D.bl))):tY [.obj n] Y=.ok (.bl (bs.all id)) Y:=by unfold tY;simp[h,CK]
theorem jb{i:Int}(h:atI xs i=some d):cj (.tup xs) (.int i) Y=.ok d Y:=by unfold cj;simp[h]
theorem L6{i:Int}(h:atI xs i=some d):cj (.frz xs) (.int i) Y=.ok d Y:=by unfold cj;simp[h]
theorem eQ{i:Int}(hm:Y[n]?=some 2e9)(h:atI xs i=some d):cj (.obj n) (.int i) Y=.ok d Y:=by unfold cj;simp[hm,h]
theorem oJ{i:Int}(hm:Y[n]?=some 2e9)(h:wM 3e9 i=some j):zc (.obj n) (.int i) d Y=.ok () (Y.set n (.lst (xs.set j d))):=by unfold zc;simp[hm,h]
theorem d6(hm:Y[n]?=some 2e9):zb (.obj n) Y=.ok (.own n xs) Y:=by unfold zb;simp[hm]
theorem gY{j:Int}(h0:0<=j)(h:j<1000):km [.int j] Y=.ok (.fix (bu 0 j.toNat)) Y:=by
 unfold km;dsimp only;rw[Qu];omega
theorem kZ{i j:Int}(h0:0<=i)(h1:i<1000)(h2:-1000<=j)(h:j<1000):pM [.int i,.int j] Y=.ok (.fix (bu i (j-i).toNat)) Y:=by
 unfold pM;dsimp only;rw[Qu];omega
theorem uB{J:Type}{x:J}{r:List J}:atI (x::r) 0=some x:=by unfold atI wM;simp
theorem xp{J:Type}{x y:J}{r:List J}:atI (x::y::r) 1=some y:=k9 (j:=1) rfl
theorem Jo{J:Type}{x y z:J}{r:List J}:atI (x::y::z::r) 2=some z:=k9 (j:=2) rfl
@[simp] theorem cv {x:D}{r:List D}:cj (.tup (x::r)) (.int 0) Y=.ok x Y:=jb uB
@[simp] theorem gZ{x:D}{r:List D}:cj (.tup (x::y::r)) (.int 1) Y=.ok y Y:=jb xp
theorem nR{J:Type}{xs:List J}{i:Int}{x:J}(h0:0<=i)(h:xs[i.toNat]?=some x):atI xs i=some x:=by
 have:=k9 h
 rwa [show ((i.toNat:Nat):Int)=i by omega]at this
theorem kn{i:Int}(h0:0<=i)(h:i<n):wM n i=some i.toNat:=by unfold wM;simp[h0,h]
end
section
variable{g:aB}
@[simp] theorem Ic{i:Int}:(D.int i).low n=True:=by simp[D.low]
@[simp] theorem PM{i:Bool}:(D.bl i).low n=True:=by simp[D.low]
@[simp] theorem OO:D.non.low n=True:=by simp[D.low]
@[simp] theorem ON:(D.str x).low n=True:=by simp[D.low]
@[simp] theorem HZ:(D.tup xs).low n=D.lows n xs:=by simp[D.low]
@[simp] theorem Ib:(D.obj m).low n=(m<n):=by simp[D.low]
@[simp] theorem Ox:D.lows n []=True:=by simp[D.lows]
@[simp] theorem Mu{x:D}:D.lows n (x::xs)=(x.low n/\D.lows n xs):=by simp[D.lows]
theorem jG{n:Nat}:∀{xs:List D},D.lows n xs↔∀x∈xs,x.low n
 |[]=>by simp
 |x::xs=>by simp[jG (xs:=xs)]
theorem d5(hd:d.low 8e6):tT Y (.ok d (Y++g))=.ok d Y:=by
 unfold tT;dsimp only;rw[Qu]
 ·simp
 ·refine⟨hd,by simp,fun i o hi h=>.inl ?_⟩;rw[Ru hi]at h;exact h
theorem aL(hd:d.low 8e6):tT Y (.ok d Y)=.ok d Y:=by
 have:=d5 (Y:=Y) (g:=[]) hd;simpa using this
theorem zq{o:O}(hd:d.low 8e6)(ho:o.low 8e6):tT Y (.ok d (Y.set i o++g))=.ok d (Y.set i o):=by
 unfold tT;dsimp only;rw[Qu]
 ·congr 1;rw[UP 0e6];exact Td 0e6
 ·refine ⟨hd, by simp, fun j o' hj h => ?_⟩;rw[Ru (by simpa using hj)]at h;by_cases hij:i=j
  ·subst hij;rw[QO hj]at h;cases h;exact .inr ho
  ·rw[QP hij]at h;exact .inl h
theorem A6{o:O}(hd:d.low 8e6)(ho:o.low 8e6):tT Y (.ok d (Y.set i o))=.ok d (Y.set i o):=by
 have:=zq (Y:=Y) (g:=[]) (i:=i) hd ho;simpa using this
theorem Av{Y':aB}(h:¬ d.low 8e6):tT Y (.ok d Y')=.ok d Y':=by
 unfold tT;dsimp only;rw[Qv fun z=>h z.1]
theorem D2{Y':aB}:tT Y (.ok d Y')=.ok d Y'\/(tT Y (.ok d Y')=.ok d (Y'.take 8e6)/\d.low 8e6):=by
 unfold tT;dsimp only;by_cases h:Jz Y Y' d
 ·rw[Qu h];exact .inr ⟨rfl,h.1⟩
 ·rw[Qv h];exact .inl rfl
end
theorem l5{g:aB}{a b:O}:(Y1++a::g).set 6e9 b=Y1++b::g:=by
 rw[UQ _ _ 8e0,TB];rfl
theorem aw{g:aB}{a:O}:(Y1++a::g)[6e9]?=some a:=by
 rw[Rq 8e0,TB];rfl
theorem mT{g:aB}(h:ys.length<sizeLine):qG 6e9 y (Y1++.lst ys::g)=.ok () (Y1++.lst (ys++[y])::g):=by
 unfold qG;rw[aw];dsimp only;rw[Qu h,l5]
theorem dn{src:pJ}{g:MG}{t:MT}{e:ME}{Y1:aB}{q:D->Bool}{h:D->D}(R:Ro->Prop)(ho:∀a,cN src 4e1) :
  ∀{xs acc:List D}{Z:Ro},R Z->acc.length+xs.length<=sizeLine->(∀x∈xs,∀a Z,R Z->∃Z1,R Z1/\g x Z 4e1=.ok Z1 4e1/\t Z1 4e1=.ok (q x) 4e1/\(q x=true->e Z1 4e1=.ok (h x) 4e1)) ->
   compLoop src 6e9 g t e xs Z (Y1++[.lst acc])=.ok (.obj 6e9) (Y1++[.lst (acc++(xs.filter q).map h)])
 |[],acc,Z,hr,hl,he=>by
  unfold compLoop;rw[Qu (ho acc)];simp
 |x::xs,acc,Z,hr,hl,he=>by
  obtain⟨Z1,r1,e1,e2,e3⟩:=he x QG acc Z hr;unfold compLoop;rw[Qu (ho acc),e1];dsimp[ae,aa];rw[e2];dsimp[ae,aa];have he':=fun y hy=>he y (QH _ hy);dsimp[Sx]at hl;cases hq:q x with
  |false=>
   rw[Qv Q0,dn R ho r1 0e0 he',UR,hq];rfl
  |true=>
   rw[Qu rfl,e3 hq];dsimp[ae,aa];rw[mT 0e0];dsimp[aa];rw[dn R ho r1 10e7 he',UR,hq];simp
theorem iV{src:pJ}{g:MG}{t:MT}{e:ME}{n:Nat}(α:List D->List D->Ro->aB->aB->Prop)
  (fin:∀ys Z Y1 s,α [] ys Z Y1 s->Y1.length=n/\cN src (Y1++.lst ys::s))
  (step : ∀ x r ys Z Y1 s, α (x :: r) ys Z Y1 s -> Y1.length = n /\ cN src (Y1 ++ .lst ys :: s) /\ ∃ Z1 μa sa b μb sb, g x Z (Y1 ++ .lst ys :: s) = .ok Z1 (μa ++ .lst ys :: sa) /\ t Z1 (μa ++ .lst ys :: sa) = .ok b (μb ++ .lst ys :: sb) /\
   (b=true->∃y μc sc,e Z1 (μb++.lst ys::sb)=.ok y (μc++.lst ys::sc)/\ys.length<sizeLine/\μc.length=n/\α r (ys++[y]) Z1 μc sc)/\(b=false->α r ys Z1 μb sb)) :
  ∀{xs ys:List D}{Z:Ro}{Y1 s:aB},α xs ys Z Y1 s->∃ys' Z' Y1' s',α [] ys' Z' Y1' s'/\compLoop src n g t e xs Z (Y1++.lst ys::s)=.ok (.obj n) (Y1'++.lst ys'::s')
 |[],ys,Z,Y1,s,hJ=>by
  refine⟨ys,Z,Y1,s,hJ,?_⟩;unfold compLoop;rw[Qu (fin ys Z Y1 s hJ).2]
 |x::xs,ys,Z,Y1,s,hJ=>by
  obtain⟨hn,ho,Z1,μa,sa,b,μb,sb,e1,e2,e3,e4⟩:=step x xs ys Z Y1 s hJ;unfold compLoop;rw[Qu ho,e1];dsimp[ae,aa];rw[e2];dsimp[ae,aa];cases b with
  |false=>
   rw[Qv Q0];exact iV α fin step (e4 rfl)
  |true=>
   obtain⟨y,μc,sc,f1,f2,f3,f4⟩:=e3 rfl;rw[Qu rfl,f1];dsimp[ae,aa];subst f3;rw[mT f2];dsimp[aa];exact iV α fin step f4
theorem iF{src:pJ}{g:MG}{fb:MS}(α:List D->Ro->aB->Prop)(fin:∀Z Y,α [] Z Y->cN src Y)
  (step:∀x r Z Y,α (x::r) Z Y->cN src Y/\∃Z1 Y1 Z2 Y2,g x Z Y=.ok Z1 Y1/\fb Z1 Y1=.next Z2 Y2/\α r Z2 Y2) :
  ∀{xs:List D}{Z:Ro}{Y:aB},α xs Z Y->∃Z' Y',α [] Z' Y'/\iS src g fb xs Z Y=.next Z' Y'
 |[],Z,Y,h=>⟨Z,Y,h,by unfold iS;rw[Qu (fin Z Y h)]⟩
 |x::xs,Z,Y,h=>by
  obtain⟨ho,Z1,Y1,Z2,Y2,e1,e2,h2⟩:=step x xs Z Y h;obtain⟨Z',Y',h3,e3⟩:=iF α fin step h2;refine⟨Z',Y',h3,?_⟩;unfold iS;rw[Qu ho,e1];dsimp[af];rw[e2];exact e3
end L2
namespace L2
open PySem PySem.Spec PyProof.Rows RS
theorem Os{k:Nat}{ps:List Str}(F:ik K x qual st f fd)(S:aV N ps (av st))(hn:ps.length=n)(body : ∀ (cdv : Value) (A : Around) (outer : List Env) (s : Shared) (H : Hp) (E : XK), ip k 7e0 ->
   Bx (kj (sd y6 P w K mg base N qual (av st) f cdv A outer s H E).nox (cR st) (iQ p fb))):sf P w K mg base y6 (k+1) f fd ps (FO p n (iR n N.length fb)):=by
 refine F.ok S (fun vs H Q E h=>h.1.trans hn.symm) fun cdv A outer s H vs Q E hr h=>?_;refine⟨_,(body cdv A outer s H E hr).h,?_⟩;obtain⟨hl,J,ds,Y,S1,R1,P1⟩:=h;unfold iR at P1;have hd:ds.length=n:=by rw[<- R1.length];exact hl
 rw[Qu hd]at P1;have P2:=rR S1 P1;unfold start;rw[hl];refine⟨J,_,Y,S1,lj R1 _,?_⟩;cases e:fb (ds.map some++List.replicate (N.length-n) none) Y with
 |ret d Y'=>rw[e]at P2;exact fun H' J' v x s r=>P2 H' J' x s v r
 |next Z Y'=>rw[e]at P2;exact fun H' J' B' x s r=>P2 H' J' x s .non (bS.mpr rfl)
 |exc x Y'=>rw[e]at P2;exact P2
 |brk Z Y'=>rw[e]at P2;exact P2.elim
 |cnt Z Y'=>rw[e]at P2;exact P2.elim
 |bad=>rw[e]at P2;exact P2.elim
theorem uI{K:W.Frag}{H:Hp}{J:List Addr}:∀ns:List Int,Reps K H J 6e6 8e1
 |[]=>by dsimp[RY,Reps]
 |n::ns=>by
  dsimp[RZ,Reps];exact⟨_,_,rfl,ax.mpr rfl,uI ns⟩
theorem Fj{E:XK}(hF:∃Y',F [.frz 6e6] []=.ok 5e8 Y')(hO:Gd H)(hS:gP K H a 8e1):
  FO 2e5 1 F [.ref a] H (fun v _=>v=.bl true) E:=by
 obtain⟨Y',e⟩:=hF
 have fz:IK K H a 8e1:=by
  rcases hS with (h|h)|h
  ·rcases hO a with z | ⟨o, xs, z⟩
   ·rw[h]at z;cases z
   ·rw[h]at z;cases z
  ·exact .inl h
  ·exact .inr h
 refine⟨rfl,[],[.frz 6e6],[],⟨rfl,Tx,fun n o a h=>by simp at h⟩,?_,?_⟩
 ·dsimp[Reps];exact⟨_,_,rfl,bI.mpr ⟨a,_,rfl,fz,uI ns⟩,rfl⟩
 ·rw[e];exact fun H' J' x s v r=>aZ.mp r
section
variable{X:Cx}
def DZ:D->Bool
 |.tup _=>true
 |.frz _=>true
 |.obj _=>true
 |_=>false
def vw(q:PyData):Bool:=q.showable && !q.hasDict&&decide (q.depth<=60)&&decide (q.shown.length<=sizeLine)
theorem zZ(h:DZ d=true)(r:aQ K H J d v):∃a,v=.ref a:=by
 cases d with
 |tup xs=>obtain⟨a,us,rfl,_⟩:=aN.mp r;exact⟨a,rfl⟩
 |frz xs=>obtain⟨a,us,rfl,_⟩:=bI.mp r;exact⟨a,rfl⟩
 |obj n=>obtain⟨a,rfl,_⟩:=aY.mp r;exact⟨a,rfl⟩
 |_=>cases h
theorem uc:seqSlot? (.type "list") (dunderI "add")=pure (some (.builtin "list.__iadd__")):=US UT.lookup 0e9
theorem oh{M:Model}{a b:Value}(ha:s.TypeIs a "list")(hb:s.TypeIs b "list")(hc:wpAny M A (call (.builtin "list.__iadd__") [a,b]) Q E s):wpAny M A (inplaceOp .Add a b) Q E s:=by
 unfold inplaceOp;refine QX ?_
 have hfi:fillsInplaceSlot (.type "list") "add" (Operator.Add == .Add)=pure false:=by
  unfold fillsInplaceSlot;show (typeLookup (.type "list") (dunderI "add") >>= fun fi=>pure (fi.isSome && !isSeqSlot fi))=pure false;rw[UT.lookup];rfl
 refine QW (RU ha (QW (SH hfi ?_)));show wpAny M A (if false=true then _ else _) Q E s;rw[Qv Q0];refine QW (wpAny_binaryOp1_none (nm:="add") ha hb noFill_list_add ?_);refine QW (SH uc ?_);exact QW (SG hc)
noncomputable def Ja:Mx:=fun x y H Q=>(∃i j,x=.int i/\y=.int j/\Q (.int (i+j)) H) \/
 ∃l b xs zs,x=.ref l/\y=.ref b/\H l=some 2e9/\H b=some (.lst zs)/\xs.length+zs.length<=sizeLine/\Q (.ref l) (cV H l (.lst (xs++zs)))
theorem Im:OK X .Add Ja:=by
 intro pins s B H x y v u Q I r1 r2 h;rcases h with h|h
 ·exact LU pins s B H x y v u Q I r1 r2 h
 ·obtain ⟨l, b, xs, zs, rfl, rfl, hH, hB, hz, q⟩ := h;cases r1;cases r2;obtain⟨z,its,n,r,hl,e⟩:=I.lstM hH;obtain⟨z2,its2,n2,r2,hl2,e2⟩:=I.lstM hB;have hsz:its.toArray.size+its2.toArray.size<=sizeLine:=by rw[Rf,Rf];omega
  have hlong:¬ (!its.toArray.isEmpty&&Builtin.List.listTooLong (its.toArray.size+its2.toArray.size))=true:=by
   rw[xY hsz,TX];exact Q0
  refine oh ⟨_,e,rfl⟩ ⟨_,e2,rfl⟩ ?_
  refine Sj UT ⟨_,e,rfl⟩ F.entry_list_iadd (F.args_list_iadd_2 _ _)
   (AutoSeq1.list___iadd___list_list_0 l 2e7 n b its2.toArray n2 hlong (by rw[Rf];omega) 0e0) ⟨e,e2,?_⟩
  refine⟨.ref l,_,I.lset (its':=its++its2) hH e 0e6 (r.append r2) ?_,rfl,q⟩;rw[Ry];omega
noncomputable def xl(a b:D)(Y:aB):ai D:=match a,b with
 |.int i,.int j=>.ok (.int (i+j)) Y
 |.obj m,.obj n=>match Y[m]?,Y[n]? with
  |some 2e9,some (.lst ys)=>if xs.length+ys.length<=sizeLine then .ok (.obj m) (Y.set m (.lst (xs++ys))) else .bad
  |_,_=>.bad
 |_,_=>.bad
theorem HL:pK p xl Ja:=by
 intro a b v y H J Y Q S ra rb P;unfold xl at P;split at P
 ·rename_i i j;obtain rfl:=ax.mp ra;obtain rfl:=ax.mp rb;exact .inl ⟨i,j,rfl,rfl,P.now S _ 11e3⟩
 ·rename_i m n;split at P
  ·rename_i xs ys hx hy;split at P
   ·rename_i hb;obtain⟨a,us,rfl,a1,h1,rr⟩:=df S ra hx;obtain⟨a',us',rfl,a1',h1',rr'⟩:=df S rb hy;have q:=rr.append rr';exact .inr ⟨a,a',us,us',rfl,rfl,h1,h1',by rw[rr.length,rr'.length];exact hb,P _ _ (iG h1) (S.put hx a1 h1 q) _ (aY.mpr ⟨a,rfl,a1⟩)⟩
   ·exact P.elim
  ·exact P.elim
 ·exact P.elim
theorem NZ{f:ME}(i:Nat)(hN:X.N.Nodup)(he:Bx (PE X e (tD p f)))(hi:X.N[i]?=some x:=by rfl)(hx:Bi X.env.scope x:=by first|exact Or.inl rfl|exact Or.inr rfl)(hf:X.fn x=true\/X.env.scope.names.lookup x=some .local:=by first|exact .inl rfl|exact .inr rfl):
  Bx (PS X (.AugAssign (.Name x pos') .Add e pos) (iQ p (C0 i xl f))):=⟨α8 hN hi hx he.h Im HL hf⟩
def C5(neg:Bool)(a b:D)(Y:aB):ai D:=match a,b with
 |.str x,.str y=>.ok (.bl (if neg then !decide (x=y) else decide (x=y))) Y
 |_,_=>.bad
theorem GB{y:Str}:decide (V.str x=V.str y)=decide (x=y):=by
 by_cases e:x=y
 ·subst e;simp
 ·rw[Qr e,Qr];intro z;cases z;exact e rfl
theorem Ln:pK p (C5 true) OS:=by
 intro a b v y H J Y Q S ra rb P;unfold C5 at P;split at P
 ·rename_i x z;obtain rfl:=bC.mp ra;obtain rfl:=bC.mp rb;exact⟨rfl,by rw[GB];exact P.now S _ (aZ.mpr rfl)⟩
 ·exact P.elim
theorem Oj:lP X p .NotEq (C5 true):=⟨OS,Oh,Ln⟩
end
end L2
namespace L2
open PySem PySem.W PyProof.Rows RS
theorem Qb{J:Type}{P:List J->Prop}(h:∀a,P [a]):∀us:List J,us.length=1->P us
 |[a],_=>h a
theorem us2{J:Type}{P:List J->Prop}(h:∀a b,P [a,b]):∀us:List J,us.length=2->P us
 |[a,b],_=>h a b
theorem Qa{J:Type}{P:List J->Prop}(h:∀a b c,P [a,b,c]):∀us:List J,us.length=3->P us
 |[a,b,c],_=>h a b c
theorem ik.b1{ps:List Str}(F:ik K x qual st f fd)(hl:ps.length=1)(h:∀(kV doc pm:Value)(an:Option Addr)(cdv ct a:Value),bindArgs 2e2 ⟨[a],[]⟩=pure (ps.zip [a])):iU K fd ps []:=
 F.binds fun kV doc pm an cdv ct us e=>Qb (P:=fun us=>bindArgs 2e2 ⟨us,[]⟩=pure (ps.zip us)) (fun a=>h kV doc pm an cdv ct a) us (e.trans hl)
theorem ik.b2{ps:List Str}(F:ik K x qual st f fd)(hl:ps.length=2)(h:∀(kV doc pm:Value)(an:Option Addr)(cdv ct a b:Value),bindArgs 2e2 ⟨[a,b],[]⟩=pure (ps.zip [a,b])):iU K fd ps []:=
 F.binds fun kV doc pm an cdv ct us e=>us2 (P:=fun us=>bindArgs 2e2 ⟨us,[]⟩=pure (ps.zip us)) (fun a b=>h kV doc pm an cdv ct a b) us (e.trans hl)
theorem ik.b3{ps:List Str}(F:ik K x qual st f fd)(hl:ps.length=3)(h:∀(kV doc pm:Value)(an:Option Addr)(cdv ct a b c:Value),bindArgs 2e2 ⟨[a,b,c],[]⟩=pure (ps.zip [a,b,c])):iU K fd ps []:=
 F.binds fun kV doc pm an cdv ct us e=>Qa (P:=fun us=>bindArgs 2e2 ⟨us,[]⟩=pure (ps.zip us)) (fun a b c=>h kV doc pm an cdv ct a b c) us (e.trans hl)
end L2
namespace L2
open PySem PySem.Spec PyProof.Rows RS
section
variable{X:Cx}{d:Nat}
theorem HS {X:Cx}:OV X (newSet (.type "set")) (fun a=>.ext fun h=>cQ X.w h a []):=fun pins s B H Q I h=>by
 unfold newSet setsByText;dsimp[bind_assoc,pure_bind];refine QW (SF ?_)
 try dsimp only
 dsimp[newObj];refine QW (wpAny_alloc (Q3 ?_));have hS:cQ X.w (s.heap.push {cls:=.type "set",dict:=none,data:=.set #[] 0 (.fresh 0 0 (oC X.w))}) 0e3 []:=mj (Q7 _ rfl);refine h _ (I.laid (t':=s.toks) (fun b o e=>Q6 _ e) 8e0 ⟨hS,⟨_,Q7 _ rfl⟩,fun h1 h2 g k=>g.keeps k⟩) (fun b o e=>Q6 _ e) ?_;show s.heap.objs.size<(s.heap.push _).objs.size;rw[SB];exact Sy _
noncomputable def DG(K:W.Frag)(w:World)(te:TE)(acc:Addr):CU:=fun B H N=>te B H fun y H4=>∃(r:Addr)(k:List Int)(ps:List KP),y=.ref r/\H4 acc=some (.ext fun h=>cQ w h acc ps)/\k∈prs/\gh K H4 r (k.map V.int)/\(∀p∈ps,gh K H4 p.2 (p.1.map V.int)) /\
 N B (cV H4 acc (.ext fun h=>cQ w h acc (jA ps k r)))
theorem σ0(hg:gens[d]?=none)(hxe:X.xe=vc)(hu:X.A.units+64<cLine)(hel:PE X elt te):vb X (.SetComp elt gens scope pos) d acc (DG X.K X.w te acc):=by
 intro pins s B H N I h;unfold nu;show (match gens[d]? with|some g=>_|none=>_:Prop);rw[hg];show wpAny _ _ (do let v <- eval elt 2e1;standAt elt.pos;let _ <- call (.builtin "set.add") [.ref acc,v]) _ _ _;have z:=hel pins s B H _ I h;rw[hxe]at z;refine QW (dF z fun v10 s10 ⟨y,H10,I10,r10,r,k,ps,ey,hacc,hk,hr,hps,nn⟩=>?_);subst ey;cases r10;refine QW (QY (QW ?_));obtain⟨hS,_⟩:=(show fS X.prog X.w H10 s10.heap acc (.ext fun h=>cQ X.w h acc ps) from I10.hok acc _ hacc);obtain⟨o,es,ep,t,ρ,S0,k1,k2⟩:=id hS
 have hin:X.A.in1.units<cLine:=by
  have:X.A.in1.units<=X.A.units+1:=by first|exact Ss rfl|exact Ss (units_in1 _)|exact Nat.le_succ_of_le (Ss (units_in1 _))
  omega
 have tps:∀q∈ps,Tk X.prog X.w s10.heap q.1 q.2:=fun q hq=>uu I10 (hps q hq);have tr:Tk X.prog X.w s10.heap k r:=uu I10 hr;refine RQ F.slot_set_add ⟨o,S0.ho,S0.ex.1⟩ F.entry_set_add ?_ (F.args_set_add_2 _ _);unfold Builtin.«set.add» Builtin.Frozenset.oneOther;dsimp[List.isEmpty_nil,bind_assoc];unfold Builtin.Frozenset.addrOf setAdd;refine QW (Q3 ?_)
 try dsimp only
 refine QW (Q3 ?_)
 try dsimp only
 refine QW (QX ?_);refine QW (wpAny_pyHash_tuple hin (uu I10 hr) ?_);rw[D1];refine Dz (s:={s10 with toks:=s10.toks+(k.length+1)}) hS hk tr tps hin fun b h' hsb hS2=>?_;show wpAny _ _ (ret Value.none) _ _ _;refine Q3 ⟨_,rfl,Q3 ⟨_,_,?_,nn⟩⟩;refine I10.write (x:=acc) (e:=acc) (by rw[hacc];exact trivial) 11e7 (fun b' u hb hu=>(hsb.2 b' hb).trans hu) ?_ ⟨hS2,?_,fun h1 h2 g k=>g.keeps k⟩
 ·obtain⟨o',_,_,_,_,S',_⟩:=hS2;exact⟨o',S'.ho⟩
 ·obtain⟨o',_,_,_,_,S',_⟩:=hS2;exact⟨o',S'.ho⟩
variable{cl0:Comprehension}{rest:List Comprehension}{cap:List 4e7}{wi:TI}{g:TG}{tt:TT}{tb:Addr->CU}
theorem EW(hc:X.calm=true)(hz:∀g∈cl0::rest,g.is_async=0)(S:bZ X.N 2e1 scope Nc cap)(hi:PI X cl0.target cl0.iter wi)
  (hg:∀cl C s H fp,PG 0e7 cl0.target g) (ht:∀cl C s H fp,rZ 0e7 cl0.ifs tt) (hb:∀cl C s H fp acc,vb 0e7 (.SetComp elt (cl0::rest) scope pos) 1 acc (tb acc))
  (hs:∀x,foldedSetIterable cl0.iter 2e1 x=pure x):PE X (.SetComp elt (cl0::rest) scope pos) (nK (fun a=>.ext fun h=>cQ X.w h a []) wi cap g tt tb):=by
 intro pins s B H Q I h;have h0:=hz cl0 QG;obtain⟨tg0,it0,if0,as0⟩:=cl0;have h0':as0=0:=h0;subst h0';rw[arm_eval_SetComp];refine qk (e:=.SetComp elt (_::rest) scope pos) (Q:=Q) rfl hz rfl HS hc S hi hg ht hb I h (fun C acc s' H' I' hf hn q=>?_) hs;obtain⟨m,hn⟩:=hn;refine⟨m,hn,fun h' sb=>⟨.ref acc,H',?_,rfl,q⟩⟩;exact I'.turned (t':=s'.toks) (it:=C) (fun b o hb e=>(sb.2 b hb).trans e) hf.1 hf.2.1 hf.2.2.2.1 hf.2.2.2.2.1 hf.2.2.2.2.2
end
section
theorem yo{p:Addr}{o:HO}(h:H p=some (.ext φ)):lN K H (cV H p o) J J:=by
 refine⟨fun a xs q=>?_,fun a xs q=>?_,fun _ _ z=>z⟩
 ·rcases q with (q | ⟨x, q⟩) | q
  ·exact .inl (.inl (by rw[bE (ux q h (by intro z;cases z))];exact q))
  ·exact .inl (.inr 11e8)
  ·exact .inr q
 ·rcases q with ⟨x, q⟩ | q
  ·exact .inl 11e8
  ·exact .inr q
theorem u9(S:gv K w H J Y){ks':List 1e9}{ho:HO}(h1:Y[n]?=some (.set ks))(h2:J[n]?=some a)(h3:H a=some (.ext φ))(q:tZ K w (cV H a ho) J (.set ks') a):gv K w (cV H a ho) J (Y.set n (.set ks')):=by
 have e:=yo (K:=K) (J:=J) (o:=ho) h3;refine⟨by simp[S.len],S.nd,fun m o b g1 g2=>?_⟩;have hn:n<Y.length:=(QM.mp h1).1;by_cases hm:m=n
 ·subst hm;rw[QO hn]at g1;cases g1;rw[h2]at g2;cases g2;exact q
 ·rw[QP (fun z=>hm z.symm)]at g1;refine(S.ob m o b g1 g2).mono e (bE fun z=>hm ?_);subst z;obtain⟨l1,e1⟩:=QM.mp g2;obtain⟨l2,e2⟩:=QM.mp h2;exact(QN S.nd).mp (e1.trans e2.symm)
end
def Ga(n:Nat)(y:D)(Y:aB):ai Unit:=match Y[n]?,y with
 |some (.set ks),.tup [.int a,.int b]=>if [a,b]∈prs then .ok () (Y.set n (.set (nJ ks [a,b]))) else .bad
 |_,_=>.bad
theorem FN{ps:List KP}{r:Addr}:(jA ps k r).map 5e4=nJ (ps.map 5e4) k:=by
 unfold jA nJ;split <;> simp
theorem IG{R:Unit->aB->Hp->List Addr->Prop}(S:p.S H J Y)(ha:J[n]?=some acc)(rv:p.R H J y v)(P:aH p H J (Ga n y Y) R):
  ∃(r:Addr)(k:List Int)(ps:List KP),v=.ref r/\H acc=some (.ext fun h=>cQ p.w h acc ps)/\k∈prs/\gh p.K H r (k.map V.int)/\(∀q∈ps,gh p.K H q.2 (q.1.map V.int)) /\
   ∃Y',p.X H (cV H acc (.ext fun h=>cQ p.w h acc (jA ps k r))) J J/\p.S (cV H acc (.ext fun h=>cQ p.w h acc (jA ps k r))) J Y'/\R () Y' (cV H acc (.ext fun h=>cQ p.w h acc (jA ps k r))) J:=by
 unfold Ga at P;split at P
 ·rename_i ks a b hx;split at P
  ·rename_i hk;obtain⟨acc',ea,ps,e1,e2,e3,e4,e5⟩:=S.at hx;rw[ha]at ea;cases ea;obtain⟨r,vs,rfl,h1,rr⟩:=aN.mp rv;have hvs:vs=[a,b].map V.int:=Reps.ints (ns:=[a,b]) rr;subst hvs;have x1:p.X H (cV H acc (.ext fun h=>cQ p.w h acc (jA ps [a,b] r))) J J:=yo e2
   have q:tZ p.K p.w (cV H acc (.ext fun h=>cQ p.w h acc (jA ps [a,b] r))) J (.set (nJ ks [a,b])) acc:=by
    refine⟨jA ps [a,b] r,by rw[FN,e1],cz,fun q hq=>?_,tE e4,fun q hq=>?_⟩
    ·rcases sU hq with z | z
     ·exact e3 q z
     ·subst z;exact hk
    ·rcases sU hq with z | z
     ·exact x1.tup _ _ (e5 q z)
     ·subst z;exact x1.tup _ _ h1
   exact⟨r,[a,b],ps,rfl,e2,hk,h1,e5,_,x1,u9 S hx ha e2 q,P _ _ x1 (u9 S hx ha e2 q)⟩
  ·exact P.elim
 ·exact P.elim
def Aw(e:ME):MB:=fun n Z Y=>(e Z Y).nox.bind fun y Y1=>(Ga n y Y1).bind fun _ Y2=>.ok Z Y2
def vG(fi:MI)(cap:List 4e7)(g:MG)(t:MT)(fb:MB):ME:=fun Z Y=>(fi Z Y).bind fun src Y1=>(ji src 6e9 g t fb src.items (dr cap Z) (Y1++[.set []])).bind fun _ Y2=>.ok (.obj 6e9) Y2
section
theorem z8{e:ME}{N:St->Hp->Prop}(h:wR p (Aw e) acc B H N):DG p.K p.w (tD p.nx e) acc B H N:=by
 obtain⟨J,Z,Y,n,S,R,a,P⟩:=h;refine⟨J,Z,Y,S,R,(d7 P).imp fun y Y6 H6 J6 X6 S6 P6 v rv=>?_⟩;obtain⟨r,k,ps,e1,e2,e3,e4,e5,Y7,x7,s7,q7⟩:=IG (p:=p) S6 (X6.pre _ _ a) rv (aH.bind P6);exact⟨r,k,ps,e1,e2,e3,e4,e5,q7.now s7 B ((R.mono X6).mono x7)⟩
theorem Ac{cap:List 4e7}{g:MG}{t:MT}{fb:MB}{Q:VK}(h:tD p (vG fi cap g t fb) B H Q):nK (fun a=>.ext fun h=>cQ p.w h a []) (rY p fi) cap (pH p.nx g) (iw p.nx t) (fun acc=>wR p.nx fb acc) B H Q:=by
 obtain⟨J,Z,Y,S,R,P⟩:=h;refine⟨J,Z,Y,S,R,(aH.bind P).imp fun src Y1 H1 J1 X1 S1 P1 α hok hJ acc hacc=>?_⟩;have x1:p.X H1 (cV H1 acc (.ext fun h=>cQ p.w h acc [])) J1 (J1++[acc]):=(bW hacc).trans (kD [acc]);have s1:p.S (cV H1 acc (.ext fun h=>cQ p.w h acc [])) (J1++[acc]) (Y1++[.set []]):=S1.more hacc ⟨[],rfl,cz,nofun,Tx,nofun⟩;have hn:(J1++[acc])[6e9]?=some acc:=by rw[<- S1.len];simp
 refine nW (p:=p) x1 s1 (((R.mono X1).cap cap).mono x1) hn hJ ((aH.from x1 (aH.bind P1)).imp fun Z' Y' H' J' X' S' P' B' r'=>?_);exact P'.now S' _ (aY.mpr ⟨acc,rfl,X'.pre _ _ hn⟩)
variable{X:Cx}{ifs:List Expr}{rest:List Comprehension}{cap:List 4e7}{g:MG}{tt:MT}{te:ME}{mb:MB}{d:Nat}
theorem Ou(hg:gens[d]?=none)(hu:X.A.units+64<cLine)(hel:Bx (PE X elt (tD p.nx te)))(hxe:X.xe=vc:=by rfl)(hK:X.K=p.K:=by rfl)(hw:X.w=p.w:=by rfl):Bx (vb X (.SetComp elt gens scope pos) d acc (wR p.nx (Aw te) acc)):=
 ⟨fun pins s B H N I h=>σ0 hg hxe hu hel.h pins s B H N I (by rw[hK,hw];exact z8 (p:=p.nx) h)⟩
theorem Gs(S:bZ X.N 2e1 scope Nc cap)(hi:Bx (PI X tg iter (rY p fi)))(hg:∀cl C s H fp,Bx (PG 0e7 tg (pH p.nx g)))(ht:∀cl C s H fp,Bx (rZ 0e7 ifs (iw p.nx tt)))(hb:∀cl C s H fp acc,Bx (vb 0e7 (.SetComp elt (⟨tg,iter,ifs,0⟩::rest) scope pos) 1 acc (wR p.nx mb acc)))(hz:rT (⟨tg,iter,ifs,0⟩::rest)=true:=by rfl)(hc:X.calm=true:=by rfl)(hs:∀x,foldedSetIterable iter 2e1 x=pure x:=by intro _;rfl)(hw:X.w=p.w:=by rfl):Bx (PE X (.SetComp elt (⟨tg,iter,ifs,0⟩::rest) scope pos) (tD p (vG fi cap g tt mb))):=
 ⟨(EW (cl0:=⟨tg,iter,ifs,0⟩) hc (vM hz) S hi.h (fun cl C s H fp=>(hg cl C s H fp).h) (fun cl C s H fp=>(ht cl C s H fp).h) (fun cl C s H fp acc=>(hb cl C s H fp acc).h) hs).weak fun B H Q h=>by rw[hw];exact Ac h⟩
end
theorem BU(its:List Value):slicePick 2e7 none none (some (-1))=its.reverse.toArray:=by
 unfold slicePick
 have hb:sliceBounds none none (some (-1)) its.toArray.size=((its.toArray.size:Int)-1,-1,-1):=by
  simp[sliceBounds]
 rw[hb];dsimp only
 have hr:sliceRange ((its.toArray.size:Int)-1) (-1) (-1)=(List.range its.toArray.size).map fun m:Nat=>(((its.toArray.size:Int)-1)+(m:Int)*(-1)).toNat:=by
  unfold sliceRange
  have hc:(if (-1:Int)>0 then if (its.toArray.size:Int)-1 < -1 then (-1-((its.toArray.size:Int)-1)+-1-1) / -1 else 0 else if (its.toArray.size:Int)-1 > -1 then ((its.toArray.size:Int)-1 - -1 - -1-1) / - -1 else 0)=(its.toArray.size:Int):=by
   rw[Qv 0e4];split
   ·rw[show-(-1:Int)=1 from rfl,Int.ediv_one];omega
   ·omega
  dsimp[hc,RF];apply SY;intro m _;congr 1;omega
 rw[hr,RL];exact xR 2e7
def NJ(K:W.Frag)(te ts:TE):TE:=fun B H Q=>te B H fun x H1=>ts B H1 fun y H2=>y=.int (-1)/\∃a xs,x=.ref a /\
 ((gh K H2 a xs/\∀p,H2 p=none->Q (.ref p) (cV H2 p (.tup xs.reverse)))\/(gP K H2 a xs/\∀p,H2 p=none->Q (.ref p) (cV H2 p (.lst xs.reverse))))
theorem Hn{X:Cx}{st:Expr}{ts:TE}{p2:Pos}(he:PE X e te)(hs:PE X st ts):PE X (.Subscript e (.Slice none none (some st) p2) pos) (NJ X.K te ts):=by
 intro pins s B H Q I h;refine Subscript_ (dF (he pins s B H _ I h) fun v s1 ⟨x,H1,I1,r1,q1⟩=>?_);refine wpAny_Slice ?_;rw[evalPart_none];refine Q3 (Q3 ?_);rw[evalPart_some];refine dF (hs pins s1 B H1 _ I1 q1) fun vs s3 ⟨y,H3,I3,r3,q3⟩=>?_;obtain⟨rfl,a,xs,rfl,hq⟩:=q3;obtain⟨tk,rfl⟩:=r3;cases r1;have I4:bb X pins B H3 {s3 with heap:=s3.heap.push {cls:=.type "slice",data:=.fields #[.none,.none,.int (-1) tk]}}:=I3.kept (t':=s3.toks) fun b ob q=>Q6 _ q;show wpAny 1e1 X.A (subscriptTail e (.Slice none none (some st) p2) (.ref a) (.ref s3.heap.objs.size)) 10e6 X.xe {s3 with heap:=s3.heap.push {cls:=.type "slice",data:=.fields #[.none,.none,.int (-1) tk]}};have hsl:=R0 s3.heap .none .none (.int (-1) tk);rcases hq with⟨hx,q⟩|⟨hx,q⟩
 ·obtain⟨its,r,ht,hz⟩:=I4.tuple hx;refine tail_any (ops:=[.ref a,.ref s3.heap.objs.size]) ht.typeIs RP.lookup ?_ (by with_unfolding_all rfl);refine pG ht (R0 ..) ?_ (by rw[Rf,<- r.length];exact hz);generalize {s3 with heap:=s3.heap.push {cls:=.type "slice",data:=.fields #[.none,.none,.int (-1) tk]}}=s5 at I4 ht;refine⟨.ref s5.heap.objs.size,_,I4.laid (t':=s5.toks) (o:=.tup xs.reverse) (fun b ob q=>Q6 _ q) 8e0 ?_,rfl,q _ (I4.hok.fresh 8e0)⟩;exact⟨by rw[UU];exact hz,its.reverse,r.reverse,R6 _ _⟩
 ·obtain⟨its,r,ht,hz⟩:=I4.list hx;refine tail_any (ops:=[.ref a,.ref s3.heap.objs.size]) ht.isList.typeIs R7.lookup ?_ (by with_unfolding_all rfl);refine wpAny_getItem_list_slice ht.isList (R0 ..) .none .none (.int (-1) tk) 0e6 ?_ (by rw[Rf,<- r.length];exact hz);rw[BU];generalize {s3 with heap:=s3.heap.push {cls:=.type "slice",data:=.fields #[.none,.none,.int (-1) tk]}}=s5 at I4 ht;refine⟨.ref s5.heap.objs.size,_,I4.laid (t':=s5.toks) (o:=.lst xs.reverse) (fun b ob q=>Q6 _ q) 8e0 ?_,rfl,q _ (I4.hok.fresh 8e0)⟩;exact⟨by rw[UU];exact hz,its.reverse,0,r.reverse,Q7 _ rfl⟩
noncomputable def oD(a b:D)(Y:aB):ai D:=match a,b with
 |.tup xs,.int i=>if i=-1 then .ok (.tup xs.reverse) Y else .bad
 |.obj n,.int i=>match Y[n]? with
  |some 2e9=>if i=-1 then .ok 1e0 (Y++[.lst xs.reverse]) else .bad
  |_=>.bad
 |_,_=>.bad
theorem DA{X:Cx}{st:Expr}{fs:ME}{p2:Pos}(he:Bx (PE X e (tD p fa)))(hs:Bx (PE X st (tD p fs)))(hK:X.K=p.K:=by rfl):Bx (PE X (.Subscript e (.Slice none none (some st) p2) pos) (tD p (ay oD fa fs))):=
 ⟨(Hn he.h hs.h).weak fun B H Q ⟨J, Z, Y, S, R, P⟩ => ⟨J, Z, Y, S, R, (aH.bind P).imp fun x Y1 H1 J1 X1 S1 P1 v rv => ⟨J1, Z, Y1, S1, R.mono X1, (aH.bind P1).imp fun y Y2 H2 J2 X2 S2 P2 u ru => by
   rw[hK];unfold oD at P2;split at P2
   ·rename_i xs i;split at P2
    ·rename_i hi;subst hi;obtain⟨a,us,rfl,h1,r1⟩:=aN.mp (rv.mono X2);exact⟨ax.mp ru,a,us,rfl,.inl ⟨h1,fun q hq=>P2 _ _ (bW hq) (S2.tuple hq) _ (aN.mpr ⟨q,_,rfl,gh.of cz,r1.reverse.mono (bW hq)⟩)⟩⟩
    ·exact P2.elim
   ·rename_i n i;split at P2
    ·rename_i xs hx;split at P2
     ·rename_i hi;subst hi;obtain⟨a,rfl,h1⟩:=aY.mp (rv.mono X2);obtain⟨a',ea,vs,hH,rr⟩:=S2.at hx;have eaa:a=a':=Qp (h1.symm.trans ea);subst eaa;refine⟨ax.mp ru,a,vs,rfl,.inr ⟨.inl (.inl hH),fun q hq=>?_⟩⟩;obtain⟨x1,s1,r1⟩:=du S2 hq rr.reverse;exact P2 _ _ x1 s1 _ r1
     ·exact P2.elim
    ·exact P2.elim
   ·exact P2.elim⟩⟩⟩
abbrev Jr(K:W.Frag)(w:World)(E:XK):Pa:=⟨K,w,fun x _ H _=>∃C,W.nsIn K mainGlobals x.cls=some (some 10e4)/\∀ea,H ea=none->E 10e4 (some ea) H⟩
def PR(K:W.Frag)(w:World)(n:Nat)(F:List D->aB->ai D):Sp:=fun vs H Q E=>vs.length=n/\∃J ds Y,gv K w H J Y/\Reps K H J ds vs/\aH (Jr K w E) H J (F ds Y) (RV (Jr K w E) Q)
structure w9(P:Program)(w:World)(K:W.Frag)(mg:Str->Option Value)(base:Heap)(k:Nat)(x:Str)(n:Nat)(F:List D->aB->ai D):Prop where
 len:∀ds Y,ds.length≠n->F ds Y=.bad
 fn:∃f fd ps,mg x=some 4e4/\W.keepIn K 4e4=true/\iU K fd ps []/\sf P w K mg base (MC P w) k f fd ps (PR K w n F)
theorem zf{k:Nat}{ps:List Str}(F:ik K x qual st f fd)(S:aV N ps (av st))(hn:ps.length=n)(hm:mg x=some 4e4)(hb:iU K fd ps [])(body : ∀ (cdv : Value) (A : Around) (outer : List Env) (s : Shared) (H : Hp) (E : XK), ip k 7e0 ->
   Bx (kj (FR P w K mg base N qual (av st) f cdv A outer s H E) (cR st) (iQ (Jr K w E) fb))):w9 P w K mg base (k+1) x n (iR n N.length fb):=by
 refine⟨fun ds Y h=>by unfold iR;rw[Qv h],f,fd,ps,hm,F.kp,hb,?_⟩;obtain⟨oc,od,kV,doc,pm,an,cdv,ct,osl,rfl,lk,hcd⟩:=F.ex;refine Jl lk hcd S (fun vs H Q E h=>h.1.trans hn.symm) fun A outer s H vs Q E hr h=>?_;refine⟨_,(body cdv A outer s H E hr).h,?_⟩;obtain⟨hl,J,ds,Y,S1,R1,P1⟩:=h;unfold iR at P1;have hd:ds.length=n:=by rw[<- R1.length];exact hl
 rw[Qu hd]at P1;have P2:=rR S1 P1;unfold start;rw[hl];refine⟨J,_,Y,S1,lj R1 _,?_⟩;cases e:fb (ds.map some++List.replicate (N.length-n) none) Y with
 |ret d Y'=>rw[e]at P2;exact fun H' J' v x s r=>P2 H' J' x s v r
 |next Z Y'=>rw[e]at P2;exact fun H' J' B' x s r=>P2 H' J' x s .non (bS.mpr rfl)
 |exc x Y'=>rw[e]at P2;exact P2
 |brk Z Y'=>rw[e]at P2;exact P2.elim
 |cnt Z Y'=>rw[e]at P2;exact P2.elim
 |bad=>rw[e]at P2;exact P2.elim
section
variable{X:Cx}{E:XK}{k:Nat}{a:Expr}{es:List Expr}
theorem vI (h:w9 X.prog X.w X.K X.mg X.base k x n F) (hp:lY (MC X.prog X.w) X E) (hr:ip k X.A) (ha:Bx (PA X (a::es) (mX (Jr X.K X.w E) fr))) (hg:Gl X x:=by rfl) (hdb:(x == ("__debug__" : Str))=false:=by decide)
  (he:starEach (a::es) 2e1=(false,eval a 2e1)::starEach es 2e1:=by rfl) (hpl:(backTo pos 7e6).any 5e4=false:=by rfl):Bx (PE X 7e7 (tD (Jr X.K X.w E) (aE F fr))):=Bx.mk (by
 obtain⟨f,fd,ps,h1,h2,h3,h4⟩:=h.fn;refine(vP (dvs:=[]) (E:=E) h4 hr hg h1 h2 h3 .nil hp ha.h hdb he hpl).weak fun B H Q ⟨J,Z,Y,S,R,P⟩=>⟨J,Z,Y,S,R,(aH.bind P).imp fun ds Y1 H1 J1 X1 S1 P1 vs rv=>?_⟩;show PR X.K X.w n F (vs++[]) H1 Q E;rw[Rg];refine⟨?_,J1,ds,Y1,S1,rv,P1⟩;by_cases hl:ds.length=n
 ·rw[rv.length];exact hl
 ·rw[h.len ds Y1 hl]at P1;exact P1.elim)
theorem rL(h:dk X.prog X.w X.K X.mg X.base p.nx k x n F)(hr:ip k X.A)(ha:Bx (PA X (a::es) (mX p fr)))(hg:Gl X x:=by rfl)(hdb:(x == ("__debug__" : Str))=false:=by decide)(he:starEach (a::es) 2e1=(false,eval a 2e1)::starEach es 2e1:=by rfl)(hpl:(backTo pos 7e6).any 5e4=false:=by rfl):Bx (PE X 7e7 (tD p (aE (fun ds Y=>(F ds Y).nox) fr))):=Bx.mk (by
 obtain⟨f,fd,ps,h1,h2,h3,h4⟩:=h.fn;refine(vP (dvs:=[]) (E:=E0) h4 hr hg h1 h2 h3 .nil Dm ha.h hdb he hpl).weak fun B H Q ⟨J,Z,Y,S,R,P⟩=>⟨J,Z,Y,S,R,(aH.bind P).imp fun ds Y1 H1 J1 X1 S1 P1 vs rv=>?_⟩;show FO p.nx n F (vs++[]) H1 Q E0;rw[Rg]
 have P2:aH p.nx H1 J1 (F ds Y1) (RV p.nx Q):=by
  cases e:F ds Y1 with
  |ok d Y'=>rw[e]at P1;exact P1
  |exc y Y'=>rw[e]at P1;exact False.elim P1
  |bad=>rw[e]at P1;exact P1
 refine⟨?_,J1,ds,Y1,S1,rv,P2⟩;by_cases hl:ds.length=n
 ·rw[rv.length];exact hl
 ·rw[h.len ds Y1 hl]at P2;exact P2.elim)
end
def pU(c:Str):MS:=fun _ Y=>.exc ⟨c,[]⟩ Y
section
variable{s0:Shared}{E:XK}
theorem rK{c:Str}{C:Addr}{cpos:Pos}(hc:W.nsIn K mainGlobals c=some (some 10e4))(O:rh mg base c C)(hg:Gl 3e4 c:=by rfl)(hd:(c == ("__debug__" : Str))=false:=by decide):
  Bx (PS 3e4 (.Raise (some (.Call (.Name c np) [] [] cpos)) none pos) (iQ (Jr K w E) (pU c))):=Bx.mk (by
 refine(BR O hg hd).weak fun D B H ⟨J,Z,Y,S,R,P⟩=>?_;obtain⟨C',h1,h2⟩:=P H J lN.refl S;rw[hc]at h1;cases h1
 exact h2)
end
def SO.ro(o:SO):SO:=match o with
 |.ret d Y=>.ret d Y
 |_=>.bad
noncomputable def CZ(known:List Str)(i N:Nat)(fb fh:MS):MS:=fun Z Y=>match fb Z Y with
 |.exc x Y'=>if known.contains x.cls=true then (fh ((List.replicate N none).set i (some (.obj Y'.length))) (Y'++[.exc x.cls])).ro else .bad
 |o=>o
def xr(K:W.Frag)(r:Str)(R:Addr)(known:List Str):Prop:=∀c∈known,∃C,W.nsIn K mainGlobals c=some (some 10e4)/\W.exmOne K 10e4 (.ref R)=some true
theorem eT.ro{o:SO}{D:pS}(h:eT p H J o.ro D):eT p H J o {nx:=fun _ _=>False,rt:=D.rt}:=by
 cases o with
 |ret d Y=>exact h
 |next Z Y=>exact False.elim h
 |brk Z Y=>exact False.elim h
 |cnt Z Y=>exact False.elim h
 |exc x Y=>exact False.elim h
 |bad=>exact False.elim h
theorem Nl{X:Cx}{xw:DX->aB->Hp->List Addr->Prop}{r n:Str}{R:Addr}{hpos:Pos}{suite:List Stmt}{b0:Stmt}{fh:MS}(F:X.Fn)(hN:X.N.Nodup)(hk:xr X.K r R known)(hm:X.mg r=some (.ref R))(hb:∀pins E,Bx (kj (X.tri pins E) body (iQ (Jr X.K X.w E) fb)))(hs:∀ea,Bx (kj (X.hnd ea) (b0::suite) (iQ ⟨X.K,X.w,xw⟩ fh)))(hl:X.N.length=m:=by rfl)(hi:X.N[i]?=some n:=by rfl)(hx:Bi X.env.scope n:=by exact Or.inl rfl)(hlo:X.env.kindOf n=some .local:=by rfl)(hg:Gl X r:=by rfl)(hd:(r == ("__debug__" : Str))=false:=by decide):
  Bx (PS X (.Try body [.ExceptHandler (some (.Name r np)) (some n) (b0::suite) hpos] [] [] pos) (iQ ⟨X.K,X.w,xw⟩ (CZ known i m fb fh))):=Bx.mk (by
 refine(KG F hN hi hx hlo hg hm hd (fun pins E=>(hb pins E).h) fun ea=>(hs ea).h).weak fun D B H ⟨J,Z,Y,S,Rl,P⟩=>?_
 refine⟨fun cls ea' H'=>∃C ea,cls=.ref C/\ea'=some ea/\(W.exmOne X.K 10e4 (.ref R)=some true/\∀B':St,B'.length=X.N.length->iQ ⟨X.K,X.w,xw⟩ fh {nx:=fun _ _=>False,rt:=D.rt} (B'.set i (some (.ref ea))) (cV H' ea (w8 ea C))),
  fun C ea H' h _=>?_,J,Z,Y,S,Rl,?_⟩
 ·obtain⟨C',ea',h1,h2,h3⟩:=h;cases h1;cases h2;exact h3
 ·unfold CZ at P;cases e:fb Z Y with
  |ret d Y'=>rw[e]at P;exact P
  |next Z' Y'=>rw[e]at P;exact P
  |brk Z' Y'=>rw[e]at P;exact P
  |cnt Z' Y'=>rw[e]at P;exact P
  |bad=>rw[e]at P;exact P
  |exc x Y'=>
   rw[e]at P;dsimp only at P;by_cases hc:known.contains x.cls=true
   ·rw [Qu hc] at P;obtain⟨C,c1,c2⟩:=hk x.cls (List.contains_iff_mem.mp hc);intro H' J' X' S';refine⟨C,c1,fun ea hea=>⟨C,ea,rfl,rfl,c2,fun B' hσ=>?_⟩⟩;have X3:lN X.K H H' J J':=X';have X2:lN X.K H' (cV H' ea (w8 ea C)) J' (J'++[ea]):=(bW hea).trans (kD [ea]);have S2:gv X.K X.w (cV H' ea (w8 ea C)) (J'++[ea]) (Y'++[.exc x.cls]):=gv.more S' hea ⟨C,c1,cz⟩;refine⟨J'++[ea],_,_,S2,⟨by simp[hσ,hl],fun j d hj=>?_⟩,(eT.from (p:=⟨X.K,X.w,xw⟩) (X3.trans X2) P).ro⟩;by_cases hji:j=i
    ·subst hji
     have hlt:j<(List.replicate m (none:Option L2.D)).length:=by
      have:=(QM.mp hi).1;simp;omega
     rw[QO hlt]at hj;cases hj;refine⟨.ref ea,by rw[QO (by rw[hσ];simpa[hl] using hlt)],aY.mpr ⟨ea,rfl,?_⟩⟩;have hla:J'.length=Y'.length:=S'.len;rw[<- hla,Rq 8e0];simp
    ·rw[QP (QJ hji),Rt]at hj;split at hj <;> cases hj
   ·rw [Qv hc] at P
    exact False.elim P)
theorem zr{E:XK}:(sd CX P w K mg base N qual scope f cdv A outer s H E).nox.Fn:=⟨rfl,rfl,rfl⟩
theorem uZ{x:V}:∀{xs:List V}{us:List Value},bt xs us->xs.all lW=true->us.countP (Js x)=xs.countP fun y=>Ap y x
 |_,_,.nil,_=>rfl
 |y::xs,u::us,.cons r t,f=>by
  rw[Sa,RW]at f;rw[List.countP_cons,List.countP_cons,zw r f.1,uZ t f.2]
def DQ:V->List V->Hp->VK->Prop:=fun x vs H Q=>∃l xs y,x=.ref l/\vs=[y]/\H l=some 2e9/\lW y=true/\xs.all lW=true/\Q (.int (xs.countP fun z=>Ap z y:Nat)) H
def DP:V->List V->Hp->VK->Prop:=fun x vs H Q=>∃l xs y j,x=.ref l/\vs=[y]/\H l=some 2e9/\lW y=true/\xs.all lW=true/\(∃z,xs[j]?=some z/\Ap z y=true)/\(∀m z,m<j->xs[m]?=some z->Ap z y=false)/\xs.length<1000/\Q (.int (j:Nat)) H
section
variable{X:Cx}
theorem Fi:Ms X "list.count" DQ:=by
 intro pins s B H x vs v us Q I rx rv h;obtain⟨l,xs,y,rfl,rfl,hH,fy,fs,q⟩:=h;cases rx;obtain⟨u,rfl,ru⟩:=rv.one;obtain⟨z,its,n,r,hl,e⟩:=I.lstM hH;refine Sj F.slot_list_count ⟨_,e,rfl⟩ F.entry_list_count (F.args_list_count_2 _ _) (SeqAt.list_countAt l 2e7 n none #[] u (Js y)) ⟨e,fun w hw=>sL ru fy r fs w (by simpa using hw),?_⟩;refine⟨.int (xs.countP fun z=>Ap z y:Nat),H,I.tok _,⟨s.toks,?_⟩,q⟩;rw[<- uZ r fs]
theorem Fh:Ms X "list.index" DP:=by
 intro pins s B H x vs v us Q I rx rv h;obtain⟨l,xs,y,j,rfl,rfl,hH,fy,fs,⟨z0,hz,ht⟩,hno,hsz,q⟩:=h;cases rx;obtain⟨u,rfl,ru⟩:=rv.one;obtain⟨z,its,n,r,hl,e⟩:=I.lstM hH;have hlt:j<xs.length:=(QM.mp hz).1
 have hb:∀m w,its[m]?=some w->∃z,xs[m]?=some z/\Js y w=Ap z y:=fun m w hw=>by
  have hm:m<its.length:=(QM.mp hw).1;have hm':m<xs.length:=by rw[r.length];exact hm
  obtain⟨u',hu',ru'⟩:=r.get (Ux hm');rw[hw]at hu';cases hu';exact⟨_,Ux hm',zw ru' (TJ.mp fs _ (Uv hm'))⟩
 have hlen:=r.length;refine Sj F.slot_list_index ⟨_,e,rfl⟩ F.entry_list_index (F.args_list_index_2 _ _) (SeqAt.list_indexAt l 2e7 n none #[] u (Js y) j (by rw[Rf];omega) 0e0 ?_ ?_) ⟨e,fun w hw=>sL ru fy r fs w (by simpa using hw),?_⟩
 ·have hw:its[j]?=some its[j]:=Ux 0e0;obtain⟨z1,a1,a2⟩:=hb j _ hw;rw[hz]at a1;cases a1;show Js y 2e7[j]=true;rw[UV,a2];exact ht
 ·intro m hm hmj;have hm':m<its.length:=by rw[Rf]at hm;exact hm
  obtain⟨z1,a1,a2⟩:=hb m _ (Ux hm');rw[UV,a2];exact hno m z1 hmj a1
 ·exact⟨.int (j:Nat),H,I.tok _,⟨s.toks,rfl⟩,q⟩
end
def lV:List D->Bool
 |[]=>true
 |.bl _::r=>lV r
 |_::_=>false
def pR:D->Bool
 |.bl b=>b
 |_=>false
theorem yu:∀{vs:List V},Reps K H J xs vs->lV xs=true->vs=xs.map fun d=>V.bl (pR d):=by
 induction xs with
 |nil=>intro vs h _;dsimp[Reps]at h;exact h
 |cons d r ih=>
  intro vs h q;dsimp[Reps]at h;obtain⟨v,r',rfl,h1,h2⟩:=h;cases d with
  |bl b=>rw[aZ.mp h1,ih h2 (by simpa only[lV] using q)];rfl
  |non=>dsimp[lV]at q;cases q
  |int i=>dsimp[lV]at q;cases q
  |str i=>dsimp[lV]at q;cases q
  |tup i=>dsimp[lV]at q;cases q
  |frz i=>dsimp[lV]at q;cases q
  |obj i=>dsimp[lV]at q;cases q
theorem sQ:∀xs:List D,(xs.map fun d=>V.bl (pR d)).all lW=true
 |[]=>rfl
 |_::xs=>by rw[RZ,Sa,sQ xs];rfl
def mM(d:D)(ds:List D)(Y:aB):ai D:=match d,ds with
 |.obj n,[.bl true]=>match Y[n]? with
  |some 2e9=>if lV xs=true then .ok (.int (xs.countP pR:Nat)) Y else .bad
  |_=>.bad
 |_,_=>.bad
noncomputable def mL(d:D)(ds:List D)(Y:aB):ai D:=match d,ds with
 |.obj n,[.bl true]=>match Y[n]? with
  |some 2e9=>if lV xs=true/\xs.length<1000/\xs.any pR=true then .ok (.int (xs.findIdx pR:Nat)) Y else .bad
  |_=>.bad
 |_,_=>.bad
section
theorem Cc:Jw p mM DQ:=by
 intro d ds v vs H J Y Q S rd rs P;unfold mM at P;split at P
 ·split at P
  ·rename_i n xs hx;split at P
   ·rename_i hb;obtain⟨a,us,rfl,a1,h1,rr⟩:=df S rd hx;have hv:=yu rr hb;dsimp[Reps]at rs;obtain⟨y,r',rfl,h3,rfl⟩:=rs;rw[aZ.mp h3];refine⟨a,us,.bl true,rfl,rfl,h1,rfl,by rw[hv];exact sQ xs,?_⟩;have z:=P.now S (.int (xs.countP pR:Nat)) 11e3
    have e:(us.countP fun z=>Ap z 5e8)=xs.countP pR:=by
     rw[hv,UW];congr 1;funext d;cases h:pR d <;> simp[Ap,h]
    rw[e];exact z
   ·exact P.elim
  ·exact P.elim
 ·exact P.elim
theorem Ca:Jw p mL DP:=by
 intro d ds v vs H J Y Q S rd rs P;unfold mL at P;split at P
 ·split at P
  ·rename_i n xs hx;split at P
   ·rename_i hb;obtain⟨hb,hlen,hany⟩:=hb;obtain⟨a,us,rfl,a1,h1,rr⟩:=df S rd hx;have hv:=yu rr hb;dsimp[Reps]at rs;obtain⟨y,r',rfl,h3,rfl⟩:=rs;rw[aZ.mp h3];have hlt:xs.findIdx pR<xs.length:=UX (by simpa using hany);refine⟨a,us,.bl true,xs.findIdx pR,rfl,rfl,h1,rfl,by rw[hv];exact sQ xs,⟨.bl true,?_,rfl⟩,fun m z hm hz=>?_,by rw[hv,Rz];exact hlen,P.now S (.int (xs.findIdx pR:Nat)) 11e3⟩
    ·rw[hv,Rv,Ux hlt];have:=List.findIdx_getElem (w:=hlt);simp[this]
    ·rw [hv, Rv, Ux (by omega : m < xs.length)] at hz;cases hz;have hf:=List.not_of_lt_findIdx hm;show (pR _ == true)=false;rw[beq_true];cases z:pR xs[m] with
     |false=>rfl
     |true=>rw[z]at hf;exact absurd hf 0e4
   ·exact P.elim
  ·exact P.elim
 ·exact P.elim
end
def nI(subs known:List Str)(d:D)(Y:aB):ai D:=match d with
 |.obj n=>match Y[n]? with
  |some (.exc c)=>if known.contains c=true then .ok (.bl (subs.contains c)) Y else .bad
  |_=>.bad
 |_=>.bad
def cx(K:W.Frag)(u:Value)(subs known:List Str):Prop:=∀c∈known,∃C,W.nsIn K mainGlobals c=some (some 10e4)/\W.excCls K C=true/\W.kitOne K 10e4 u=some (subs.contains c)
theorem DY{x:V}{Q:VK}(hK:K=p.K)(hk:cx K u subs known)(ru:cB v u)(S:p.S H J Y)(r:p.R H J d x)(P:aH p H J (nI subs known d Y) (RV p Q)):MV K u [x,v] H Q:=by
 subst hK;unfold nI at P;split at P
 ·split at P
  ·rename_i n c hx;split at P
   ·rename_i hc;obtain⟨a,ea,C,h1,h2⟩:=S.at hx;obtain⟨a',rfl,ea'⟩:=aY.mp r;rw[ea]at ea';cases ea';obtain⟨C',k1,k2,k3⟩:=hk c (List.contains_iff_mem.mp hc);rw[h1]at k1;cases k1;exact⟨a,C,_,v,rfl,ru,h2,k2,k3,P.now S _ (aZ.mpr rfl)⟩
   ·exact P.elim
  ·exact P.elim
 ·exact P.elim
section
variable{X:Cx}{a:Expr}{fo:ME}{pt:Pos}{xT:Str}
theorem qE {C:Addr} (hk:cx X.K 10e4 subs known) (hm:X.mg "isinstance" = none) (hmT:X.mg xT=some 10e4) (ha:Bx 4e5) (hg:Gl X "isinstance" := by rfl) (hgT:Gl X xT:=by rfl) (hdT:(xT == ("__debug__" : Str))=false:=by decide)
  (hs1:starEach [a,.Name xT pt] 2e1=(false,eval a 2e1)::starEach [.Name xT pt] 2e1:=by rfl) (hK:X.K=p.K:=by rfl):Bx (PE X 12e1 (tD p (mY (nI subs known) fa))):=Bx.mk (by
 have hb:PE X (.Name xT pt) (tC 10e4):=AX hgT hmT rfl hdT;refine(oR (yt (u:=.ref C) fun v w h1 h2=>?_) hg hm UK (jU ha.h (jU hb sx rfl) hs1) 0e4 0e4 hs1 rfl).weak fun B H Q ⟨J,Z,Y,S,R,P⟩=>⟨J,Z,Y,S,R,(aH.bind P).imp fun d Y1 H1 J1 X1 S1 P1 v rv=>?_⟩
 ·cases v with
  |ref b=>cases (show Value.ref C=Value.ref b from h1);exact h2
  |non=>cases (show Value.ref C=Value.none from h1)
  |bl b=>cases (show Value.ref C=Value.bool b from h1)
  |int b=>obtain⟨t,z⟩:=(show ∃t,Value.ref C=Value.int b t from h1);cases z
  |str b=>obtain⟨t,z⟩:=(show ∃t,Value.ref C=Value.str b t from h1);cases z
  |byt b=>obtain⟨t,z⟩:=(show ∃t,Value.ref C=Value.bytes b t from h1);cases z
  |flt b=>obtain⟨t,z⟩:=(show ∃t,Value.ref C=Value.float b t from h1);cases z
  |ty b=>cases (show Value.ref C=Value.type b from h1)
 ·exact DY hK hk rfl S1 rv P1)
theorem JL {T:String} (hk:cx X.K (.type T) subs known) (hm:X.mg "isinstance" = none) (hmT:X.mg xT=none) (hbT:bootBuiltins xT=some (.type T)) (ha:Bx 4e5) (hg:Gl X "isinstance" := by rfl) (hgT:Gl X xT:=by rfl) (hnT:xT ≠ "__name__" := by decide) (hdT:(xT == ("__debug__" : Str))=false:=by decide)
  (hs1:starEach [a,.Name xT pt] 2e1=(false,eval a 2e1)::starEach [.Name xT pt] 2e1:=by rfl) (hK:X.K=p.K:=by rfl):Bx (PE X 12e1 (tD p (mY (nI subs known) fa))):=Bx.mk (by
 have hb:PE X (.Name xT pt) (tC (.ty T)):=AY hgT hmT hbT rfl hnT hdT;refine(oR (yt (u:=.type T) fun v w h1 h2=>?_) hg hm UK (jU ha.h (jU hb sx rfl) hs1) 0e4 0e4 hs1 rfl).weak fun B H Q ⟨J,Z,Y,S,R,P⟩=>⟨J,Z,Y,S,R,(aH.bind P).imp fun d Y1 H1 J1 X1 S1 P1 v rv=>?_⟩
 ·cases v with
  |ty b=>cases (show Value.type T=Value.type b from h1);exact h2
  |non=>cases (show Value.type T=Value.none from h1)
  |bl b=>cases (show Value.type T=Value.bool b from h1)
  |int b=>obtain⟨t,z⟩:=(show ∃t,Value.type T=Value.int b t from h1);cases z
  |str b=>obtain⟨t,z⟩:=(show ∃t,Value.type T=Value.str b t from h1);cases z
  |byt b=>obtain⟨t,z⟩:=(show ∃t,Value.type T=Value.bytes b t from h1);cases z
  |flt b=>obtain⟨t,z⟩:=(show ∃t,Value.type T=Value.float b t from h1);cases z
  |ref b=>cases (show Value.type T=Value.ref b from h1)
 ·exact DY hK hk rfl S1 rv P1)
theorem NA (ho:Bx (PE X ob (tD p fo))) (ha:Bx (PA X [e] (mX p fr))) (hbase:attributeBase ob "count" X.env (eval ob 2e1)=eval ob 2e1:=by rfl) (hfew:((backTo pos (starEach [e] 2e1)).all (fun x=>!x.1)&&(backToKw pos (keywordEach [] 2e1)).all (fun x=>x.1.isSome)
   && decide 2e8)=true:=by rfl) (hline:(apos.endLine == pos.line)=true:=by rfl) (hs:starEach [e] 2e1=(false,eval e 2e1)::starEach [] 2e1:=by rfl) (hpl:(backTo pos (starEach [] 2e1)).any 5e4=false:=by rfl) (hK:X.K=p.K:=by rfl):Bx (PE X (.Call (.Attribute ob "count" apos) [e] [] pos) (tD p (uq mM fo fr))):=
 ⟨uw hK PySem.F.slot_list_count PySem.F.type_list_count Fi Cc ho.h ha.h hbase hfew hline hs hpl⟩
theorem Nz (ho:Bx (PE X ob (tD p fo))) (ha:Bx (PA X [e] (mX p fr))) (hbase:attributeBase ob "index" X.env (eval ob 2e1)=eval ob 2e1:=by rfl) (hfew:((backTo pos (starEach [e] 2e1)).all (fun x=>!x.1)&&(backToKw pos (keywordEach [] 2e1)).all (fun x=>x.1.isSome)
   && decide 2e8)=true:=by rfl) (hline:(apos.endLine == pos.line)=true:=by rfl) (hs:starEach [e] 2e1=(false,eval e 2e1)::starEach [] 2e1:=by rfl) (hpl:(backTo pos (starEach [] 2e1)).any 5e4=false:=by rfl) (hK:X.K=p.K:=by rfl):Bx (PE X (.Call (.Attribute ob "index" apos) [e] [] pos) (tD p (uq mL fo fr))):=
 ⟨uw hK PySem.F.slot_list_index PySem.F.type_list_index Fh Ca ho.h ha.h hbase hfew hline hs hpl⟩
end
structure Gf(P:Program)(w:World)(K:W.Frag)(mg:Str->Option Value)(base:Heap)(p:Pa)(k:Nat)(x:Str)(n:Nat)(F:List D->aB->ai D):Prop where
 len:∀ds Y,ds.length≠n->F ds Y=.bad
 fn:∃f fd ps,mg x=some 4e4/\W.keepIn K 4e4=true/\iU K fd ps []/\xt P w K mg base y6 k f fd ps (FO p n F)
theorem JH{k:Nat}{ps:List Str}(F:ik K x qual st f fd)(S:aV N ps (av st))(hn:ps.length=n)(hm:mg x=some 4e4)(hb:iU K fd ps [])(body : ∀ (cdv : Value) (A : Around) (outer : List Env) (s : Shared) (H : Hp) (E : XK), fQ k 7e0 ->
   Bx (kj (so y6 P w K mg base N qual (av st) f cdv A outer s H E).nox (cR st) (iQ p fb))):Gf P w K mg base p (k+1) x n (iR n N.length fb):=by
 refine⟨fun ds Y h=>by unfold iR;rw[Qv h],f,fd,ps,hm,F.kp,hb,?_⟩;refine F.okH S (fun vs H Q E h=>h.1.trans hn.symm) fun cdv A outer s H vs Q E hr h=>?_;refine⟨_,(body cdv A outer s H E hr).h,?_⟩;obtain⟨hl,J,ds,Y,S1,R1,P1⟩:=h;unfold iR at P1;have hd:ds.length=n:=by rw[<- R1.length];exact hl
 rw[Qu hd]at P1;have P2:=rR S1 P1;unfold start;rw[hl];refine⟨J,_,Y,S1,lj R1 _,?_⟩;cases e:fb (ds.map some++List.replicate (N.length-n) none) Y with
 |ret d Y'=>rw[e]at P2;exact fun H' J' v x s r=>P2 H' J' x s v r
 |next Z Y'=>rw[e]at P2;exact fun H' J' B' x s r=>P2 H' J' x s .non (bS.mpr rfl)
 |exc x Y'=>rw[e]at P2;exact P2
 |brk Z Y'=>rw[e]at P2;exact P2.elim
 |cnt Z Y'=>rw[e]at P2;exact P2.elim
 |bad=>rw[e]at P2;exact P2.elim
theorem Gv{X:Cx}{k:Nat}{a:Expr}{es:List Expr}(h:Gf X.prog X.w X.K X.mg X.base p k x n F)(hr:fQ k X.A)(ha:Bx (PA X (a::es) (mX p fr)))(hg:Gl X x:=by rfl)(hdb:(x == ("__debug__" : Str))=false:=by decide)(he:starEach (a::es) 2e1=(false,eval a 2e1)::starEach es 2e1:=by rfl)(hpl:(backTo pos 7e6).any 5e4=false:=by rfl):Bx (PE X 7e7 (tD p (aE F fr))):=Bx.mk (by
 obtain⟨f,fd,ps,h1,h2,h3,h4⟩:=h.fn;refine(EY (dvs:=[]) (E:=E0) h4 hr hg h1 h2 h3 .nil Dm ha.h hdb he hpl).weak fun B H Q ⟨J,Z,Y,S,R,P⟩=>⟨J,Z,Y,S,R,(aH.bind P).imp fun ds Y1 H1 J1 X1 S1 P1 vs rv=>?_⟩;show FO p n F (vs++[]) H1 Q E0;rw[Rg];refine⟨?_,J1,ds,Y1,S1,rv,P1⟩;by_cases hl:ds.length=n
 ·rw[rv.length];exact hl
 ·rw[h.len ds Y1 hl]at P1;exact P1.elim)
theorem uo:bootBuiltins "ValueError" = some 8e4:=PyProof.Rows.Boot.«ValueError»
def Fl(K:W.Frag)(u:Value)(subs known:List Str):Bool:=known.all fun c=>match W.nsIn K mainGlobals c with
 |some (some 10e4)=>W.excCls K C&&W.kitOne K 10e4 u == some (subs.contains c)
 |_=>false
theorem cx.of(h:Fl K u subs known=true):cx K u subs known:=fun c hc=>by
 have q:=TJ.mp h c hc;split at q
 ·rename_i C e;rw[RW]at q;exact⟨C,e,q.1,UA.mp q.2⟩
 ·cases q
def LF(K:W.Frag)(R:Addr)(known:List Str):Bool:=known.all fun c=>match W.nsIn K mainGlobals c with
 |some (some 10e4)=>W.exmOne K 10e4 (.ref R) == some true
 |_=>false
theorem xr.of{r:Str}{R:Addr}(h:LF K R known=true):xr K r R known:=fun c hc=>by
 have q:=TJ.mp h c hc;split at q
 ·rename_i C e;exact⟨C,e,UA.mp q⟩
 ·cases q
theorem rh.of{nm q:Str}{C N:Addr}{bs bm:List Value}{hd:Bool}{sn:List Str}{sub:List Value}{ab:Bool}{col:Option Bool}{dd:Option Addr}{k0 k1 k2 k3 k5:Option Value}(X:K.In base)(G:base.Ns mainGlobals mg)(e:W.nsIn K mainGlobals x=some (some 10e4))(l:K.lookup C=some (excClassObj nm q C N bs bm hd sn sub ab col dd k0 k1 k2 k3 k5 "ValueError.__new__"))(h1:W.nsOkIn K N=true)(h2:W.nsIn K N "__init__" = some none)(h3:W.tailIn K [.type "ValueError",.type "Exception",.type "BaseException",.type "object"] bm=true):rh mg base x C:=
 ⟨_,_,_,_,⟨W.mg_of X G e,bm,N,nm,q,bs,hd,sn,sub,ab,col,dd,k0,k1,k2,k3,k5,_,X _ _ l,.of_isNs (W.isNs_of_in X h1),W.nsMap_none_of_in X h1 h2,W.tail_of_in X h3⟩,PySem.F.excBase_ValueError⟩
section
variable{X:Cx}{k:Nat}{a b d:Expr}{es:List Expr}
variable{ta tb tc td:TE}{fb fc fd:ME}{op' op'':CmpOp}{r r' r'':R2}{o1 o2 o3:D->D->aB->ai D}
theorem BY(ho:jQ X (compareOp op) r)(ho':jQ X (compareOp op') r')(ho'':jQ X (compareOp op'') r'')(ha:PE X a ta)(hb:PE X b tb)(hc:PE X c tc)(hd:PE X d td)
  (hm:lastMarks [op,op',op''] [b,c,d]=false):PE X (.Compare a [op,op',op''] [b,c,d] pos) (AF r r' r'' ta tb tc td):=by
 intro pins s B H Q I h
 refine Compare_chain (dF 9e2 fun v s1 ⟨x,H1,I1,r1,q1⟩=>chain_link (dF (hb pins s1 B H1 _ I1 q1) fun u s2 ⟨y,H2,I2,r2,q2⟩=>
  dF (ho pins s2 B H2 x y v u _ I2 r1 r2 q2) fun d s3 ⟨z,H3,I3,r3,k,e,q3⟩=>?_)) hm
 subst e;cases r3;refine QS ?_;cases k with
 |false=>exact ite_ff ⟨.bl false,H3,I3,rfl,q3⟩
 |true=>
  refine ite_tt (chain_link 12e3);subst e2;cases r5;refine QS ?_;cases k2 with
  |false=>exact ite_ff ⟨.bl false,H5,I5,rfl,q5⟩
  |true=>exact ite_tt (chain_last (dF (hd pins s5 B H5 _ I5 q5) fun w'' s6 ⟨z'',H6,I6,r6,q6⟩=>ho'' pins s6 B H6 z' z'' w' w'' Q I6 r4 r6 q6))
theorem yR(hd1:pK p o1 r)(hd2:pK p o2 r')(hd3:pK p o3 r''){Q:VK}(h:tD p (rS o1 o2 o3 fa fb fc fd) B H Q):AF r r' r'' (tD p fa) (tD p fb) (tD p fc) (tD p fd) B H Q:=by
 obtain⟨J,Z,Y,S,R,P⟩:=h;refine⟨J,Z,Y,S,R,(aH.bind P).imp fun x Y1 H1 J1 X1 S1 P1 v rv=>⟨J1,Z,Y1,S1,R.mono X1,(aH.bind P1).imp fun y Y2 H2 J2 X2 S2 P2 u ru=>?_⟩⟩;refine hd1 x y v u H2 J2 Y2 _ S2 (rv.mono X2) ru ((aH.bind P2).imp fun z Y3 H3 J3 X3 S3 P3 w rw'=>?_);obtain⟨k,_,e,q⟩:=nS (aH.bind P3) rw' S3;refine⟨k,e,?_⟩;cases k with
 |true=>
  rw[Qu rfl]at q⊢;refine⟨J3,Z,Y3,S3,((R.mono X1).mono X2).mono X3,(aH.bind q).imp fun c Y5 H5 J5 X5 S5 P5 t rt=>?_⟩;refine hd2 y c u t H5 J5 Y5 _ S5 ((ru.mono X3).mono X5) rt ((aH.bind P5).imp fun z2 Y6 H6 J6 X6 S6 P6 w2 rw2=>?_);obtain⟨k2,_,e2,q2⟩:=nS (aH.bind P6) rw2 S6;refine⟨k2,e2,?_⟩;cases k2 with
  |true=>
   rw[Qu rfl]at q2⊢;exact⟨J6,Z,Y6,S6,((((R.mono X1).mono X2).mono X3).mono X5).mono X6,(aH.bind q2).imp fun d Y7 H7 J7 X7 S7 P7 t7 rt7=>hd3 c d t t7 H7 J7 Y7 _ S7 ((rt.mono X6).mono X7) rt7 P7⟩
  |false=>rw[Qv Q0]at q2⊢;exact q2.now S6 _ (aZ.mpr rfl)
 |false=>rw[Qv Q0]at q⊢;exact q.now S3 _ (aZ.mpr rfl)
theorem JN(k:lP X p op o1)(k':lP X p op' o2)(k'':lP X p op'' o3)(ha:Bx 4e5)(hb:Bx 9e4)(hc:Bx (PE X c (tD p fc)))(hd:Bx (PE X d (tD p fd)))(hm:lastMarks [op,op',op''] [b,c,d]=false:=by rfl):Bx (PE X (.Compare a [op,op',op''] [b,c,d] pos) (tD p (rS o1 o2 o3 fa fb fc fd))):=
 Bx.mk (let ⟨_,h1,h2⟩:=k.ex;let ⟨_,h3,h4⟩:=k'.ex;let ⟨_,h5,h6⟩:=k''.ex;(BY h1 h3 h5 ha.h hb.h hc.h hd.h hm).weak fun B H Q h=>yR h2 h4 h6 h)
end
def AS(K:W.Frag):V->List V->Hp->VK->Prop:=fun x vs H Q=>∃l xs y qs q,x=.ref l/\vs=[y]/\H l=some 2e9/\RdPs K H qs xs/\om K H q y/\PyData.canLayAll0 qs=true/\dN q=true/\Q (.int (qs.countP fun z=>PyData.eqv z q:Nat)) H
section
variable{X:Cx}
theorem Cb (hu:X.A.units+64<cLine):Ms X "list.count" (AS X.K):=by
 intro pins s B H x vs v us Q I rx rv h;obtain⟨l,xs,y,qs,q,rfl,rfl,hH,rq,ry,hc,hf,hQ⟩:=h;cases rx;obtain⟨u,rfl,ru⟩:=rv.one;obtain⟨z,its,n,r,hl,e⟩:=I.lstM hH;obtain⟨as,r1⟩:=readsAll_of I qs xs its rq r;obtain⟨bs,r2⟩:=dQ I q y u ry ru;have hd:=lh hf;refine Sj F.slot_list_count ⟨_,e,rfl⟩ F.entry_list_count (F.args_list_count_2 _ _) (SeqAt.list_countAt l 2e7 n none #[] u fun y=>PyData.eqv (SeqAt.readOf 3e2 y) q) ⟨e,SeqAt.items_eqAt (vs:=2e7) r1 r2 hc (cJ hf) ?_,?_⟩
 ·have:=RG (PyData.depthAll qs) q.depth;show X.A.units+1+_<_;omega
 ·refine⟨.int (qs.countP fun z=>PyData.eqv z q:Nat),H,I.tok _,⟨s.toks,?_⟩,hQ⟩;rw[<- SeqAt.readsAll_map qs _ _ hc r1,UW];rfl
end
noncomputable def mO(d:D)(ds:List D)(Y:aB):ai D:=match d,ds with
 |.obj n,[x]=>match Y[n]?,nE Y x with
  |some 2e9,some q=>match fO Y xs with
   |some qs=>if PyData.canLayAll0 qs=true/\dN q=true then .ok (.int (qs.countP fun z=>PyData.eqv z q:Nat)) Y else .bad
   |none=>.bad
  |_,_=>.bad
 |_,_=>.bad
section
theorem zX:Jw p mO (AS p.K):=by
 intro d ds v vs H J Y Q S rd rs P;unfold mO at P;split at P
 ·split at P
  ·split at P
   ·split at P
    ·rename_i xs q hx hq _ qs hqs hc;obtain⟨a,us,rfl,a1,h1,rr⟩:=df S rd hx;dsimp[Reps]at rs;obtain⟨y,r',rfl,h3,rfl⟩:=rs;exact⟨a,us,y,qs,q,rfl,rfl,h1,lZ S hqs rr,lX S hq h3,hc.1,hc.2,P.now S _ 11e3⟩
    ·exact P.elim
   ·exact P.elim
  ·exact P.elim
 ·exact P.elim
end
section
variable{X:Cx}{fo:ME}
theorem JM (hu:X.A.units+64<cLine) (ho:Bx (PE X ob (tD p fo))) (ha:Bx (PA X [e] (mX p fr))) (hbase:attributeBase ob "count" X.env (eval ob 2e1)=eval ob 2e1:=by rfl) (hfew:((backTo pos (starEach [e] 2e1)).all (fun x=>!x.1)&&(backToKw pos (keywordEach [] 2e1)).all (fun x=>x.1.isSome)
   && decide 2e8)=true:=by rfl) (hline:(apos.endLine == pos.line)=true:=by rfl) (hs:starEach [e] 2e1=(false,eval e 2e1)::starEach [] 2e1:=by rfl) (hpl:(backTo pos (starEach [] 2e1)).any 5e4=false:=by rfl) (hK:X.K=p.K:=by rfl):Bx (PE X (.Call (.Attribute ob "count" apos) [e] [] pos) (tD p (uq mO fo fr))):=
 ⟨uw hK PySem.F.slot_list_count PySem.F.type_list_count (hK ▸ Cb hu) zX ho.h ha.h hbase hfew hline hs hpl⟩
end
section
variable(K:W.Frag)(H:Hp)
mutual
def tU:PyData->V->Prop
 |.none,v=>v=.non
 |.bool b,v=>v=.bl b
 |.int i,v=>v=.int i
 |.str x,v=>v=.str x
 |.tuple xs,v=>∃a vs,v=.ref a/\gh K H a vs/\RdGs xs vs
 |.list xs,v=>∃a vs,v=.ref a/\gP K H a vs/\RdGs xs vs
 |.dict kvs,v=>kvs=[]/\∃a,v=.ref a/\H a=some (.dK [])
def RdGs:List PyData->List V->Prop
 |[],vs=>vs=[]
 |x::xs,vs=>∃v r,vs=v::r/\tU x v/\RdGs xs r
end
end
mutual
def Mr:PyData->Bool
 |.list _=>false
 |.tuple xs=>noLs xs
 |_=>true
def noLs:List PyData->Bool
 |[]=>true
 |x::xs=>Mr x&&noLs xs
end
section
variable{X:Cx}
theorem Lu(h:(a == sysModules)=false):a≠sysModules:=by simpa using h
mutual
theorem uJ(I:bb X pins B H s):∀(d:PyData)(x:V)(v:Value),tU X.K H d x->cB x v->∃as,Reads 3e2 v d as/\(Mr d=true->sysModules∉as)
 |.none,_,_,h,r=>by dsimp[tU]at h;subst h;cases r;exact⟨_,.none,fun _ z=>by cases z⟩
 |.bool b,_,_,h,r=>by dsimp[tU]at h;subst h;cases r;exact⟨_,.bool b,fun _ z=>by cases z⟩
 |.int b,_,_,h,r=>by dsimp[tU]at h;subst h;obtain⟨t,rfl⟩:=r;exact⟨_,.int b t,fun _ z=>by cases z⟩
 |.str b,_,_,h,r=>by dsimp[tU]at h;subst h;obtain⟨t,rfl⟩:=r;exact⟨_,.str b t,fun _ z=>by cases z⟩
 |.tuple xs,_,_,h,r=>by
  dsimp[tU]at h;obtain⟨a,vs,rfl,h1,h2⟩:=h;cases r;obtain⟨its,rv,⟨o,e1,e2,n,e3⟩,_⟩:=I.tuple h1;obtain⟨as,q,hn⟩:=readsAllG_of I xs vs its h2 rv;exact⟨_,.tuple e1 e2 e3 (by simpa using q),fun z=>hn (by simpa only[Mr] using z)⟩
 |.list xs,_,_,h,r=>by
  dsimp[tU]at h;obtain⟨a,vs,rfl,h1,h2⟩:=h;cases r;obtain⟨its,rv,⟨o,n,e1,e2,_,e3⟩,_⟩:=I.list h1;obtain⟨as,q,_⟩:=readsAllG_of I xs vs its h2 rv;exact⟨_,.list e1 e2 e3 (by simpa using q),fun z=>by dsimp[Mr]at z;cases z⟩
 |.dict kvs,_,_,h,r=>by
  dsimp[tU]at h;obtain⟨rfl,a,rfl,h1⟩:=h;cases r;obtain⟨_,hS,vs,rv,o,es,n,e1,e2,e3,_,e4,_⟩:([]:List (tV×V)).length<=sizeLine/\(a == sysModules)=false/\∃vs,KV ([]:List (tV×V)) vs/\s.heap.DictOf (rO X.prog X.w) a vs:=I.hok a _ h1;cases rv
  have hes:es.toList=[]:=by
   generalize es.toList=l at e4;cases e4;rfl
  refine⟨[a]++[],Reads.dict (as:=[]) (bs:=[]) e1 e2.1 e3 ?_ ?_,fun _ z=>?_⟩
  ·rw[hes];exact .nil
  ·rw[hes];exact .nil
  ·simp at z;exact Lu hS z.symm
theorem readsAllG_of(I:bb X pins B H s):∀(ds:List PyData)(xs:List V)(vs:List Value),RdGs X.K H ds xs->bt xs vs->∃as,ReadsAll 3e2 vs ds as/\(noLs ds=true->sysModules∉as)
 |[],_,_,h,r=>by dsimp[RdGs]at h;subst h;cases r;exact⟨_,.nil,fun _ z=>by cases z⟩
 |d::ds,_,_,h,r=>by
  dsimp[RdGs]at h;obtain⟨v,q,rfl,h1,h2⟩:=h;cases r with
  |cons r rr=>
   obtain⟨as,g1,n1⟩:=uJ I d _ _ h1 r;obtain⟨bs,g2,n2⟩:=readsAllG_of I ds _ _ h2 rr;refine⟨_,.cons g1 g2,fun z=>?_⟩;dsimp[noLs,RW]at z;intro y;rcases QK.mp y with y|y
   ·exact n1 z.1 y
   ·exact n2 z.2 y
end
end
def DN(K:W.Frag):List V->Hp->VK->Prop:=fun xs H Q=>(∃a d,xs=[.ref a]/\tU K H d (.ref a)/\d.showable=true/\(d.hasDict=true->Mr d=true)/\d.depth<=60/\d.shown.length<=sizeLine/\Q (.str d.shown) H) \/
 (xs=[.non]/\Q (.str "None") H)\/(∃a:Int,xs=[.int a]/\a.natAbs.log2<1920/\Q (.str (toString a)) H)\/(∃b:Bool,xs=[.bl b]/\Q (.str (if b then "True" else "False")) H)\/∃x:Str,xs=[.str x]/\(reprText x).length<=sizeLine/\Q (.str (reprText x)) H
theorem Aj {X:Cx} (hu:X.A.units+64<cLine) (hg:X.A.guards=some []):dX X (.builtin "repr") (DN X.K):=by
 intro pins s B H xs us Q I r h;rcases h with⟨a,d,rfl,h1,hs,hd,hdp,hz,q⟩|⟨rfl,q⟩|⟨a,rfl,ha,q⟩|⟨b,rfl,q⟩|⟨x,rfl,hx,q⟩
 ·obtain⟨u,rfl,ru⟩:=gQ r;cases ru;obtain⟨as,r1,hn⟩:=uJ I d (.ref a) (.ref a) h1 rfl;exact PySem.repr_of_reads' (h₀:=3e2) r1 hs (fun z=>hn (hd z)) hg 0e0 (fun _ _ e=>e) (fun h' u tk hk=>⟨.str _,H,I.kept hk,⟨u,rfl⟩,q⟩) hz
 ·obtain⟨u,rfl,ru⟩:=gQ r;cases ru;exact PySem.P.repr_of_none ⟨.str _,H,I.kept (fun _ _ e=>e),⟨_,rfl⟩,q⟩
 ·obtain⟨u,rfl,t,rfl⟩:=gQ r;exact PySem.P.repr_of_int ha ⟨.str _,H,I.kept (fun _ _ e=>e),⟨_,rfl⟩,q⟩
 ·obtain⟨u,rfl,ru⟩:=gQ r;cases ru;refine PySem.P.repr_of_bool ⟨.str _,H,I.kept (fun _ _ e=>e),⟨_,rfl⟩,?_⟩;cases b <;> exact q
 ·obtain⟨u,rfl,t,rfl⟩:=gQ r;exact PySem.P.repr_of_str ⟨.str _,H,I.kept (fun _ _ e=>e),⟨_,rfl⟩,q⟩ hx
def Ds:D->Option PyData
 |.non=>some .none
 |.bl b=>some (.bool b)
 |.int i=>some (.int i)
 |.str x=>some (.str x)
 |_=>none
def pO(f:D->Option PyData):List D->Option (List PyData)
 |[]=>some []
 |x::xs=>(f x).bind fun a=>(pO f xs).map fun r=>a::r
noncomputable def CO(Y:aB):Nat->D->Option PyData
 |0,d=>Ds d
 |n+1,d=>match d with
  |.tup xs=>(pO (CO Y n) xs).map .tuple
  |.frz xs=>(pO (CO Y n) xs).map .list
  |.obj k=>match Y[k]? with
   |some 2e9=>(pO (CO Y n) xs).map .list
   |some .dic=>some (.dict [])
   |_=>none
  |d=>Ds d
section
theorem yk{q:PyData}(h:Ds d=some q)(r:aQ K H J d v):tU K H q v:=by
 cases d with
 |non=>cases h;dsimp[tU];exact bS.mp r
 |bl b=>cases h;dsimp[tU];exact aZ.mp r
 |int b=>cases h;dsimp[tU];exact ax.mp r
 |str b=>cases h;dsimp[tU];exact bC.mp r
 |tup _=>cases h
 |frz _=>cases h
 |obj _=>cases h
theorem vR{f:D->Option PyData}(hf:∀d q v,f d=some q->aQ K H J d v->tU K H q v):∀{ds:List D}{qs:List PyData}{vs:List V},pO f ds=some qs->Reps K H J ds vs->RdGs K H qs vs:=by
 intro ds
 induction ds with
 |nil=>intro qs vs h r;cases h;dsimp[Reps]at r;dsimp[RdGs];exact r
 |cons d ds ih=>
  intro qs vs h r;dsimp[pO]at h;cases e1:f d with
  |none=>rw[e1]at h;cases h
  |some a=>
   rw[e1]at h;cases e2:pO f ds with
   |none=>rw[e2]at h;cases h
   |some t=>
    rw[e2]at h;cases h;dsimp[Reps]at r;obtain⟨v,r',rfl,h1,h2⟩:=r;dsimp[RdGs];exact⟨v,r',rfl,hf d a v e1 h1,ih e2 h2⟩
theorem JT(S:gv K w H J Y):∀(n:Nat)(d:D)(q:PyData)(v:V),CO Y n d=some q->aQ K H J d v->tU K H q v:=by
 intro n
 induction n with
 |zero=>intro d q v h r;exact yk h r
 |succ n ih=>
  intro d q v h r;unfold CO at h;split at h
  ·rename_i xs;cases e:pO (CO Y n) xs with
   |none=>rw[e]at h;cases h
   |some qs=>
    rw[e]at h;cases h;obtain⟨a,us,rfl,h1,h2⟩:=aN.mp r;dsimp[tU];exact⟨a,us,rfl,h1,vR ih e h2⟩
  ·rename_i xs;cases e:pO (CO Y n) xs with
   |none=>rw[e]at h;cases h
   |some qs=>
    rw[e]at h;cases h;obtain⟨a,us,rfl,h1,h2⟩:=bI.mp r;dsimp[tU];exact⟨a,us,rfl,h1.sq,vR ih e h2⟩
  ·rename_i k;split at h
   ·rename_i xs hx;cases e:pO (CO Y n) xs with
    |none=>rw[e]at h;cases h
    |some qs=>
     rw[e]at h;cases h;obtain⟨a,ea,us,h1,h2⟩:=S.at hx;obtain⟨a',rfl,ea'⟩:=aY.mp r;rw[ea]at ea';cases ea';dsimp[tU];exact⟨a,us,rfl,.inl (.inl h1),vR ih e h2⟩
   ·rename_i hx;cases h;obtain⟨a,ea,h1⟩:=S.at hx;obtain⟨a',rfl,ea'⟩:=aY.mp r;rw[ea]at ea';cases ea';dsimp[tU];exact⟨trivial,a,rfl,h1⟩
   ·cases h
  ·exact yk h r
end
def rN(q:PyData):Bool:=q.showable&&(!q.hasDict || Mr q)&&decide (q.depth<=60)&&decide (q.shown.length<=sizeLine)
noncomputable def ko(ds:List D)(Y:aB):ai D:=match ds with
 |[.non]=>.ok (.str "None") Y
 |[.int a]=>if a.natAbs.log2<1920 then .ok (.str (toString a)) Y else .bad
 |[.bl b]=>.ok (.str (if b then "True" else "False")) Y
 |[.str x]=>if (reprText x).length<=sizeLine then .ok (.str (reprText x)) Y else .bad
 |[d]=>match CO Y 5 d with
  |some q=>if DZ d=true/\rN q=true then .ok (.str q.shown) Y else .bad
  |none=>.bad
 |_=>.bad
theorem E5:yW p ko (DN p.K):=by
 intro ds vs H J Y Q S r P;unfold ko at P;split at P
 ·obtain⟨v,rfl,r1⟩:=r.one;rw[bS.mp r1];exact .inr (.inl ⟨rfl,P.now S _ (bC.mpr rfl)⟩)
 ·obtain ⟨v, rfl, r1⟩ := r.one;rw[ax.mp r1];split at P
  ·rename_i ha;exact .inr (.inr (.inl ⟨_,rfl,ha,P.now S _ (bC.mpr rfl)⟩))
  ·exact P.elim
 ·obtain⟨v,rfl,r1⟩:=r.one;rw[aZ.mp r1];exact .inr (.inr (.inr (.inl ⟨_,rfl,P.now S _ (bC.mpr rfl)⟩)))
 ·obtain ⟨v, rfl, r1⟩ := r.one;rw[bC.mp r1];split at P
  ·rename_i ha;exact .inr (.inr (.inr (.inr ⟨_,rfl,ha,P.now S _ (bC.mpr rfl)⟩)))
  ·exact P.elim
 ·rename_i d _ _ _ _;split at P
  ·rename_i q hq;split at P
   ·rename_i hf;obtain⟨v,rfl,r1⟩:=r.one;obtain⟨a,rfl⟩:=zZ hf.1 r1;have h2:=hf.2;unfold rN at h2;dsimp[RW,UH]at h2;refine .inl ⟨a,q,rfl,JT S 5 d q _ hq r1,h2.1.1.1,fun z=>?_,h2.1.2,h2.2,P.now S _ (bC.mpr rfl)⟩;have h3:=h2.1.1.2;rw[z]at h3;simpa using h3
   ·exact P.elim
  ·exact P.elim
 ·exact P.elim
theorem Bf{X:Cx}{k:Nat}(hr:ip k X.A)(hK:X.K=p.K:=by rfl):rk X p "repr" ko:=⟨_,_,.inl ⟨_,rfl⟩,by decide +kernel,Aj 4e3 hr.gd,hK ▸ E5,by decide,by decide⟩
end L2
namespace HT
open PySem PyProof.Rows
open PySem.SeqAt
open PySem.AutoSeq1 (wpAny_loadPart')
open PySem.MeetsSeq PySem.MeetsSeq2 PySem.MeetsSeq3
theorem EI(l:Addr)(items:Array Value)(n:Nat)(x:Value)(e:Value->Bool)(j:Nat)(hj:j<items.size)(hit:e items[j]=true)(hs1:items.size<=sizeLine)(k:Nat) :
  ∀i:Nat,j-i=k->i<=j->(∀m (hm:m<items.size),i<=m->m<j->e items[m]=false)->Meets (Builtin.«list.remove.loop» ⟨[.ref l,x,rawInt i],[]⟩)
   (fun A R s=>s.heap.get? l=some {cls:=.type "list",dict:=none,data:=.seq items n,slots:=#[]}/\(∀y,y∈items->EqAt A.in1 s y x (e y))/\R (.ok (.ret .none)) {s with heap:=s.heap.update l (Obj.mapSeq fun xs=>xs.eraseIdxIfInBounds j)}):=by
 induction k with
 |zero=>
  intro i hk hij hno prog w A R s h;obtain⟨hp,g,d,tk,os⟩:=s;obtain⟨hl,he,h⟩:=h;have hij':i=j:=by omega
  subst hij'
  wp_walk using wpAny_loadPart' hl
  have hi:items[((i:Nat):Int).toNat]?=some items[i]:=by simp[hj]
  rw[hi];refine QW (he _ (Ud hj) prog w _ _ ?_);rw[hit];have hz':(items.eraseIdxIfInBounds i).size<=sizeLine+1:=QD (size_erased items _) (Nat.le_succ_of_le hs1)
  wp_walk using (wpAny_updateSeq hl rfl (hz:=hs1) (_hz':=hz')),wpAny_loadPart' hl
  simpa using h
 |succ k ih=>
  intro i hk hij hno prog w A R s h;obtain⟨hp,g,d,tk,os⟩:=s;obtain⟨hl,he,h⟩:=h;have hlt:i<items.size:=by omega
  wp_walk using wpAny_loadPart' hl
  have hi:items[((i:Nat):Int).toNat]?=some items[i]:=by simp[hlt]
  have hc:((i:Int)+1)=((i+1:Nat):Int):=by push_cast;rfl
  rw[hi];refine QW (he _ (Ud hlt) prog w _ _ ?_);rw[hno i hlt 8e0 0e0]
  wp_walk
  rw[hc]
  exact⟨T4 plain_remove_loop _,TZ entry_remove_loop (by
   rw[T1 plain_remove_loop _]
   exact ih (i+1) 0e0 0e0 (fun m hm h1 h2=>hno m hm 0e0 h2) prog w A R _ ⟨hl,he,h⟩)⟩
theorem rem_at(l:Addr)(items:Array Value)(n:Nat)(x:Value)(e:Value->Bool)(j:Nat)(hj:j<items.size)(hit:e items[j]=true)(hno:∀m (hm:m<items.size),m<j->e items[m]=false)(hs1:items.size<=sizeLine) :
  Meets (Builtin.«list.remove» ⟨[.ref l,x],[]⟩)
   (fun A R s=>s.heap.get? l=some {cls:=.type "list",dict:=none,data:=.seq items n,slots:=#[]}/\(∀y,y∈items->EqAt A.in1 s y x (e y))/\R (.ok (.ret .none)) {s with heap:=s.heap.update l (Obj.mapSeq fun xs=>xs.eraseIdxIfInBounds j)}):=by
 intro prog w A R s h;obtain⟨hp,g,d,tk,os⟩:=s;obtain⟨hl,he,h⟩:=h
 wp_walk using wpAny_loadPart' hl
 exact⟨T4 plain_remove_loop _,TZ entry_remove_loop (by
  rw[T1 plain_remove_loop _]
  exact EI l items n x e j hj hit hs1 _ 0 rfl (SI _) (fun m hm _ h2=>hno m hm h2) prog w A R _ ⟨hl,he,h⟩)⟩
end HT
namespace L2
open PySem PySem.Spec PyProof.Rows RS
def IX(K:W.Frag):V->List V->Hp->VK->Prop:=fun x vs H Q=>∃l xs y qs q,x=.ref l/\vs=[y]/\H l=some 2e9/\RdPs K H qs xs/\om K H q y/\PyData.canLayAll0 qs=true/\dN q=true/\(qs.any fun z=>PyData.eqv z q)=true/\Q .non (cV H l (.lst (xs.eraseIdx (qs.findIdx fun z=>PyData.eqv z q))))
section
variable{X:Cx}
theorem HP (hu:X.A.units+64<cLine):Ms X "list.remove" (IX X.K):=by
 intro pins s B H x vs v us Q I rx rv h;obtain⟨l,xs,y,qs,q,rfl,rfl,hH,rq,ry,hc,hf,hany,hQ⟩:=h;cases rx;obtain⟨u,rfl,ru⟩:=rv.one;obtain⟨z,its,n,r,hl,e⟩:=I.lstM hH;obtain⟨as,r1⟩:=readsAll_of I qs xs its rq r;obtain⟨bs,r2⟩:=dQ I q y u ry ru;have hd:=lh hf;have hm:=SeqAt.readsAll_map qs _ _ hc r1;have hlen:its.length=qs.length:=by rw[<- hm,Rz]
 have hlt:(qs.findIdx fun z=>PyData.eqv z q)<qs.length:=UX (by simpa using hany)
 have hb:∀m (h1:m<its.length) (h2:m<qs.length),SeqAt.readOf 3e2 its[m]=qs[m]:=fun m h1 h2=>by
  have:(its.map (SeqAt.readOf 3e2))[m]?=qs[m]?:=by rw[hm]
  rw[Rv,Ux h1,Ux h2]at this;exact Qp this
 refine Sj F.slot_list_remove ⟨_,e,rfl⟩ F.entry_list_remove (F.args_list_remove_2 _ _) (HT.rem_at l 2e7 n u (fun y=>PyData.eqv (SeqAt.readOf 3e2 y) q) (qs.findIdx fun z=>PyData.eqv z q) (by rw[Rf,hlen];exact hlt) ?_ ?_ (by rw[Rf];omega)) ⟨e,SeqAt.items_eqAt (vs:=2e7) r1 r2 hc (cJ hf) ?_,?_⟩
 ·rw[UV,hb _ (by rw[hlen];exact hlt) hlt];exact List.findIdx_getElem (w:=hlt)
 ·intro m hm' hmj;rw[UV,hb m (by rw[Rf]at hm';exact hm') 0e0];have hf:=List.not_of_lt_findIdx hmj;simpa using hf
 ·have:=RG (PyData.depthAll qs) q.depth;show X.A.units+1+_<_;omega
 ·refine ⟨.non, _, I.lset (its' := its.eraseIdx (qs.findIdx fun z => PyData.eqv z q)) hH e ?_ (r.eraseIdx _) ?_, rfl, hQ⟩
  ·show its.toArray.eraseIdxIfInBounds _=(its.eraseIdx _).toArray;rw[Sm]
  ·have:=qe xs (qs.findIdx fun z=>PyData.eqv z q);omega
end
noncomputable def jB(d:D)(ds:List D)(Y:aB):ai D:=match d,ds with
 |.obj n,[x]=>match Y[n]?,nE Y x with
  |some 2e9,some q=>match fO Y xs with
   |some qs=>if PyData.canLayAll0 qs=true/\dN q=true/\(qs.any fun z=>PyData.eqv z q)=true then .ok .non (Y.set n (.lst (xs.eraseIdx (qs.findIdx fun z=>PyData.eqv z q)))) else .bad
   |none=>.bad
  |_,_=>.bad
 |_,_=>.bad
section
variable{X:Cx}{fo:ME}
theorem Ff:Jw p jB (IX p.K):=by
 intro d ds v vs H J Y Q S rd rs P;unfold jB at P;split at P
 ·rename_i n x;split at P
  ·rename_i xs q hx hq;split at P
   ·rename_i qs hqs;split at P
    ·rename_i hc;obtain⟨a,us,rfl,a1,h1,rr⟩:=df S rd hx;obtain⟨w,rfl,rw'⟩:=rs.one;exact⟨a,us,w,qs,q,rfl,rfl,h1,lZ S hqs rr,lX S hq rw',hc.1,hc.2.1,hc.2.2,P _ _ (iG h1) (S.put hx a1 h1 (rr.eraseIdx _)) _ (bS.mpr rfl)⟩
    ·exact P.elim
   ·exact P.elim
  ·exact P.elim
 ·exact P.elim
theorem vq (hu:X.A.units+64<cLine) (ho:Bx (PE X ob (tD p fo))) (ha:Bx (PA X [e] (mX p fr))) (hbase:attributeBase ob "remove" X.env (eval ob 2e1)=eval ob 2e1:=by rfl) (hfew:((backTo pos (starEach [e] 2e1)).all (fun x=>!x.1)&&(backToKw pos (keywordEach [] 2e1)).all (fun x=>x.1.isSome)
   && decide 2e8)=true:=by rfl) (hline:(apos.endLine == pos.line)=true:=by rfl) (hs:starEach [e] 2e1=(false,eval e 2e1)::starEach [] 2e1:=by rfl) (hpl:(backTo pos (starEach [] 2e1)).any 5e4=false:=by rfl) (hK:X.K=p.K:=by rfl):Bx (PE X (.Call (.Attribute ob "remove" apos) [e] [] pos) (tD p (uq jB fo fr))):=
 ⟨uw hK PySem.F.slot_list_remove PySem.F.type_list_remove (hK ▸ HP hu) Ff ho.h ha.h hbase hfew hline hs hpl⟩
end
def N7(K:W.Frag):List V->Hp->VK->Prop:=fun xs H Q=>∃(l:Addr)(a b:Int),xs=[.ref l]/\gh K H l [.int a,.int b]/\(0<=a/\a<1000)/\(0<=b/\b<1000)/\Q (.int (a+b)) H
theorem CB {X:Cx} (hc:X.calm=true):dX X (.builtin "sum") (N7 X.K):=by
 intro pins s B H xs us Q I r h;obtain⟨l,a,b,rfl,ha,h1,h2,q⟩:=h;obtain⟨u,rfl,ru⟩:=gQ r;cases ru;obtain⟨its,rv,pl,hz⟩:=I.tuple ha;obtain⟨u1,u2,rfl,⟨t1,rfl⟩,⟨t2,rfl⟩⟩:=Au rv
 have hne:l≠s.heap.objs.size:=by
  obtain⟨o,e,_⟩:=pl;exact QA (Qw e)
 refine call_sum_walk (SR (show s.heap.IsTuple l [Value.int a t1,Value.int b t2].toArray from pl) ?_);refine⟨0e3,[0e3,l],[0e3],2,_,_,fun i=>if i=0 then a else b,rfl,Ub (A:=X.A.in1) 9e1 _ l hne [Value.int a t1,Value.int b t2].toArray,?_,?_,?_,?_,?_⟩
 ·refine⟨⟨_,Q7 _ rfl,rfl,rfl⟩,?_⟩;obtain⟨o,e,r⟩:=pl;exact⟨o,Q6 _ e,r⟩
 ·intro b' hb;obtain⟨o,e,_⟩:=pl;have hl:=Qw e;have hz:∀ob:Obj,(s.heap.push ob).objs.size=s.heap.objs.size+1:=fun ob=>by simp[Heap.push]
  show b'<(s.heap.push _).objs.size;rw[hz];rcases QI.mp hb with rfl|hb
  ·exact Sy _
  ·rw[SJ.mp hb];exact SA hl
 ·intro i v hv
  match i with
  |0=>cases hv;exact⟨t1,rfl⟩
  |1=>cases hv;exact⟨t2,rfl⟩
  |i+2=>simp at hv
 ·intro j hj;have h12:InLong a/\InLong b:=⟨7e9,7e9⟩
  match j with
  |0=>exact⟨h12.1,by show InLong (0+a);unfold InLong;omega⟩
  |1=>exact⟨h12.2,by show InLong (0+a+b);unfold InLong;omega⟩
  |j+2=>omega
 ·intro h' tk t' hk;refine⟨.int (a+b),H,I.fresh_it hk,⟨t',?_⟩,q⟩;show Value.int (0+a+b) t'=_;rw[Int.zero_add]
def Ax(ds:List D)(Y:aB):ai D:=match ds with
 |[.tup [.int a,.int b]]=>if (0<=a/\a<1000)/\(0<=b/\b<1000) then .ok (.int (a+b)) Y else .bad
 |_=>.bad
theorem Mg{X:Cx}(hc:X.calm=true:=by rfl)(hK:X.K=p.K:=by rfl):rk X p "sum" Ax:=⟨_,_,.inl ⟨_,rfl⟩,by decide +kernel,CB hc,by
 rw[hK];intro ds vs H J Y Q S r P;unfold Ax at P;split at P
 ·rename_i a b;split at P
  ·rename_i h;obtain⟨v,rfl,r1⟩:=r.one;obtain⟨l,us,rfl,h1,h2⟩:=aN.mp r1;obtain⟨u1,u2,rfl,q1,q2⟩:=h2.two;rw[ax.mp q1,ax.mp q2]at h1;exact⟨l,a,b,rfl,h1,h.1,h.2,P.now S _ 11e3⟩
  ·exact P.elim
 ·exact P.elim,by decide,by decide⟩
end L2
namespace HT
open PySem PyProof.Rows
open PySem.AutoSeq1 (wpAny_loadPart' idx_int)
theorem yH:fillsNumberSlot (.type "tuple") "mul" = pure false:=
 PySem.fillsNumberSlot_seq (id:="tuple.__mul__") (r:=some (.builtin "tuple.__rmul__")) UY.lookup 0e9 F.slot_tuple_rmul.lookup 0e9
theorem zN:seqRepeat? (.type "tuple")=pure (some (.builtin "tuple.__mul__")):=by
 unfold seqRepeat?;rw[US (T:="tuple") (name:="__mul__") (id:="tuple.__mul__") UY.lookup 0e9,US (T:="tuple") (name:="__rmul__") (id:="tuple.__rmul__") F.slot_tuple_rmul.lookup 0e9];rfl
theorem wI(a:Int)(t:Tok)(l:Addr)(items:Array Value)(n:Nat)(dd:Option Addr)(sl:Array (Option Value)) :
  Meets (Builtin.«int.__rmul__» ⟨[.int a t,.ref l],[]⟩) (fun _ R s=>s.heap.get? l=some {cls:=.type "tuple",dict:=dd,data:=.seq items n,slots:=sl}/\R (.ok (.ret Value.notImplemented)) s):=
 .of_wp fun prog w A R s h=>by
  obtain⟨hp,g,d,tk,os⟩:=s;obtain⟨hl,h⟩:=h
  wp_walk
  exact⟨_,rfl,h⟩
theorem NC(l:Addr)(items:Array Value)(n:Nat)(dd:Option Addr)(sl:Array (Option Value))(u:Tok) :
  Meets (Builtin.«tuple.__mul__» ⟨[.ref l,.int 1 u],[]⟩) (fun _ R s=>s.heap.get? l=some {cls:=.type "tuple",dict:=dd,data:=.seq items n,slots:=sl}/\R (.ok (.ret (.ref l))) s):=
 .of_wp fun prog w A R s h=>by
  obtain⟨hp,g,d,tk,os⟩:=s;obtain⟨hl,h⟩:=h;have f1:=idx_int
  wp_walk using wpAny_loadPart' hl
  exact⟨_,rfl,h⟩
theorem NB(l:Addr)(items:Array Value)(n:Nat)(dd:Option Addr)(sl:Array (Option Value))(k:Int)(u:Tok)(h1:¬ (decide (k < -(2^63)) || decide (k ≥ 2^63))=true)(h2:¬ (items.isEmpty || k == 1)=true)(h3:¬ (decide (k<=0) || items.isEmpty)=true)(h4:¬ items.size*k>(2^63-1) / 8)(h5:¬ Builtin.Tuple.tupleTooMany (items.size*k)=true)
  (h6:(List.foldl (fun x1 x2=>x1++x2) #[] (List.replicate k.toNat items)).size<=sizeLine) :
  Meets (Builtin.«tuple.__mul__» ⟨[.ref l,.int k u],[]⟩) (fun _ R s=>s.heap.get? l=some {cls:=.type "tuple",dict:=dd,data:=.seq items n,slots:=sl} /\
   R (.ok (.ret (.ref 0e3))) {s with heap:=s.heap.push {cls:=.type "tuple",data:=.seq (List.foldl (fun x1 x2=>x1++x2) #[] (List.replicate k.toNat items))},toks:=s.toks}):=
 .of_wp fun prog w A R s h=>by
  obtain⟨hp,g,d,tk,os⟩:=s;obtain⟨hl,h⟩:=h;have f1:=idx_int
  wp_walk using wpAny_loadPart' hl
  refine wpAny_ite_false (Qr h1) ?_
  wp_walk using wpAny_loadPart' hl
  refine wpAny_ite_false (Qr h4) ?_
  wp_walk
  exact⟨_,rfl,h⟩
end HT
namespace L2
open PySem PySem.Spec PyProof.Rows RS HT
section
variable{X:Cx}
noncomputable def Dj(K:W.Frag):R2:=fun x y H Q=>∃l k xs,x=.ref l/\y=.int k/\gh K H l xs/\xs≠[]/\1<=k/\k<2^40/\xs.length*k.toNat<=sizeLine /\
 (k=1->Q (.ref l) H)/\(k≠1->∀p,H p=none->Q (.ref p) (cV H p (.tup (List.replicate k.toNat xs).flatten)))
theorem Hu:jQ X (binaryOp .Mult) (Dj X.K):=by
 intro pins s B H x y v u Q I rx ry h;obtain⟨l,k,xs,rfl,rfl,hH,hne,h1,h2,hz,q1,q2⟩:=h;cases rx;obtain⟨t,rfl⟩:=ry;obtain⟨its,r,ht,hl⟩:=I.tuple hH;obtain⟨⟨cls,dd,data,sl⟩,e,hc,n,hd⟩:=id ht;simp only at hc hd;subst hc hd;have hlen:its.length*k.toNat<=sizeLine:=by rw[<- r.length];exact hz
 have hin:its≠[]:=fun z=>hne (r.nil_iff.mp z)
 have hnew:List.foldl (fun x1 x2=>x1++x2) #[] (List.replicate k.toNat 2e7)=(List.replicate k.toNat its).flatten.toArray:=by
  have:=qh its k.toNat [];rw[Sn]at this;exact this
 have hk:(its.length:Int)*k=((its.length*k.toNat:Nat):Int):=by
  rw[Int.natCast_mul,TK 0e0]
 refine wpAny_binaryOp_repeat_ref (T:="tuple") (U:="int") 0e4 ⟨_,e,rfl⟩ (fun s'=>Sb s' k t) yH F.fills_int_mul So zN F.slot_int_index.lookup
  (Sj So (Sb s k t) F.entry_int_rmul (F.args_int_rmul_2 _ _) (wI k t l 2e7 n dd sl) ⟨e,rfl,⟨_,e,rfl⟩,?_⟩)
 by_cases hk1:k=1
 ·subst hk1;exact Sj UY ⟨_,e,rfl⟩ F.entry_tuple_mul (F.args_tuple_mul_2 _ _) (NC l 2e7 n dd sl t) ⟨e,.ref l,H,I,rfl,q1 rfl⟩
 ·have hie:its.toArray.isEmpty=false:=by cases its with
   |nil=>exact absurd rfl hin
   |cons _ _=>rfl
  refine Sj UY ⟨_,e,rfl⟩ F.entry_tuple_mul (F.args_tuple_mul_2 _ _) (NB l 2e7 n dd sl k t ?_ ?_ ?_ ?_ ?_ ?_) ⟨e,?_⟩
  ·dsimp[UO,UH];omega
  ·rw[hie];simpa using hk1
  ·rw[hie];simp;omega
  ·rw [Rf, hk];have:(sizeLine:Nat)<=(2^63-1) / 8:=by decide
   omega
  ·rw[Rf,hk];show ¬ decide (((its.length*k.toNat:Nat):Int)>(sizeLine:Int))=true;dsimp[UH];omega
  ·rw[hnew,Rf,vS,Nat.mul_comm];exact hlen
  ·rw[hnew];refine⟨.ref 0e3,_,I.laid (t':=s.toks) (o:=.tup (List.replicate k.toNat xs).flatten) (fun b ob q=>Q6 _ q) 8e0 ?_,rfl,q2 hk1 _ (I.hok.fresh 8e0)⟩;exact⟨by rw[vS,Nat.mul_comm];exact hz,_,r.rep k.toNat,R6 _ _⟩
end
open Classical in
def uA(a b:D)(Y:aB):ai D:=match a,b with
 |.tup xs,.int k=>if xs≠[]/\1<=k/\k<2^40/\xs.length*k.toNat<=sizeLine then .ok (.tup (List.replicate k.toNat xs).flatten) Y else .bad
 |_,_=>.bad
section
variable{X:Cx}{a b:Expr}{fb:ME}
theorem HK:pK p uA (Dj p.K):=by
 intro a b v y H J Y Q S ra rb P;unfold uA at P;split at P
 ·rename_i xs k;split at P
  ·rename_i hc;obtain⟨c1,c2,c3,c4⟩:=hc;obtain⟨a,us,rfl,h1,r1⟩:=aN.mp ra;refine⟨a,k,us,rfl,ax.mp rb,h1,fun e=>c1 (r1.nil_iff'.mp e),c2,c3,by rw[r1.length];exact c4,fun e=>?_,fun _ q hq=>?_⟩
   ·subst e;exact P.now S _ (by simpa using ra)
   ·exact P _ _ (bW hq) (S.tuple hq) _ (aN.mpr ⟨q,_,rfl,gh.of cz,(r1.rep k.toNat).mono (bW hq)⟩)
  ·exact P.elim
 ·exact P.elim
theorem JK(ha:Bx 4e5)(hb:Bx 9e4)(hK:X.K=p.K:=by rfl):Bx (PE X (.BinOp a .Mult b pos) (tD p (ay uA fa fb))):=⟨nL (r:=Dj p.K) (hK ▸ Hu) HK ha.h hb.h⟩
end
end L2
namespace Lw
open PySem L2
section
structure Nm(mg:Str->Option Value):Prop where
 ValueError:mg "ValueError" = none
 all:mg "all" = none
 bool:mg "bool" = none
 enumerate:mg "enumerate" = none
 int:mg "int" = none
 isinstance:mg "isinstance" = none
 len:mg "len" = none
 list:mg "list" = none
 max:mg "max" = none
 min:mg "min" = none
 range:mg "range" = none
 repr:mg "repr" = none
 set:mg "set" = none
 sorted:mg "sorted" = none
 sum:mg "sum" = none
 tuple:mg "tuple" = none
theorem yB:aV ["thing"] ["thing"] (av jZ):=0e1
def lp:MS:=cH (gS (mY (eP "int") 2e3) (xn (mY (eP "bool") 2e3)))
def d8:List D->aB->ai D:=iR 1 1 lp
theorem qy:aV ["thing", "least", "most"] ["thing", "least", "most"] (av fE):=0e1
def gu:MS:=cH (gS (aE d8 5e2) (kY (dC .LtE) (dC .LtE) 3e0 2e3 (aj 2)))
def bq:List D->aB->ai D:=iR 3 3 gu
theorem yC:aV ["many", "thing"] ["many", "thing"] (av j6):=0e1
def og:MS:=cH (aE bq (ag 3e0 (ag 1e4 (ag (ay dG 2e3 0e8) (az)))))
def gC:List D->aB->ai D:=iR 2 2 og
theorem wj:aV ["many", "thing"] ["many", "thing"] (av hV):=0e1
theorem tO:(["place", "many"]:List Str).Nodup:=by decide +kernel
def iL:ME:=aE gC (ag 3e0 5e2)
def mw:MS:=cH (gS (mY (eP "tuple") 3e0) (aE tY (ag (bY (fL 3e0) [none,some 0] (ak 0) (bp) (iL)) (az))))
def cO:List D->aB->ai D:=iR 2 2 mw
theorem wg:aV ["things"] ["things"] (av hG):=0e1
theorem tM:(["at", "things"]:List Str).Nodup:=by decide +kernel
def ku:ME:=ay (dC .Lt) 12e6 (ay cj 3e0 2e3)
def mv:MS:=cH (aE tY (ag (bY (fM pM (ag 0e8 (ag (aE jy 5e2) (az)))) [none,some 0] (ak 0) (bp) (ku)) (az)))
def dY:List D->aB->ai D:=iR 1 1 mv
theorem zK:aV ["thing"] ["thing"] (av lb):=0e1
def qv:MS:=cH (aE bq (ag 2e3 (ag 0e8 (ag (cC (.int 6)) (az)))))
def fA:List D->aB->ai D:=iR 1 1 qv
theorem zJ:aV ["many", "thing"] ["many", "thing"] (av la):=0e1
def qu:MS:=cH (gS (aE cO (ag 2e3 8e8)) (gS (ay (f9 false) (aE jy 8e8) 9e6) (ay (f9 true) (ay cj 3e0 1e4) (ay cj 3e0 0e8))))
def eN:List D->aB->ai D:=iR 2 2 qu
theorem BO:aV ["many", "thing"] ["many", "thing"] (av mQ):=0e1
def sV:MS:=cH (gS (aE eN (ag 2e3 8e8)) (ay (dC .Lt) (ay cj 3e0 1e4) (ay cj 3e0 0e8)))
def jI:List D->aB->ai D:=iR 2 2 sV
theorem zI:aV ["many", "thing"] ["many", "thing"] (av jK):=0e1
theorem wH:(["tie", "many"]:List Str).Nodup:=by decide +kernel
def kh:ME:=aE jI (ag 3e0 5e2)
def qt:MS:=cH (gS (mY (eP "tuple") 3e0) (gS (aE tY (ag (bY (fL 3e0) [none,some 0] (ak 0) (bp) (kh)) (az))) (aE dY 8e8)))
def iy:List D->aB->ai D:=iR 2 2 qt
theorem ml:aV ["thing", "many", "ties"] ["thing"] (av jY):=0e1
noncomputable def oa:MS:=bj (lL (pQ (gR (i8 (mY (eP "tuple") 2e3))) (gb (ay (f9 true) (aE jy 5e2) 9e6))) (cH (cC 4e2)) (dO))
 (bj (bx 2e3 (dc 2 (aW (ak 1) (aW (ak 2) (de)))))
 (cH (gS (aE fA 8e8) (aE iy (ag 3e0 9e5)))))
def gB:List D->aB->ai D:=iR 1 3 oa
theorem p9:aV ["many", "things", "at", "thing"] ["many", "things"] (av kE):=0e1
theorem yI:(["pair"]:List Str).Nodup:=by decide +kernel
def n9:MS:=lL (gR (i8 (aE eN (ag 2e3 (ag (aj 3) (az)))))) (F6) (dO)
def tG:ME:=bV (ag (aE rf 5e2) (ag (aE wW 5e2) (az)))
def ll:MB:=Aw (tG)
noncomputable def yy:MS:=bj (lL (gR (i8 (aE fA 5e2))) (F6) (dO))
 (bj (lM (fM qI 8e8) (dc 2 (aW (ak 2) (aW (ak 3) (de)))) n9)
 (cH (bV (ag 2e3 (ag (aE eR (ag (aE di (ag (vG (fL 3e0) [none] (ak 0) (bp) (ll)) (az))) (az))) (az))))))
def mi:List D->aB->ai D:=iR 2 4 yy
theorem tI:aV ["ties", "front"] ["ties", "front"] (av dR):=0e1
theorem kM:(["a", "b", "front"]:List Str).Nodup:=by decide +kernel
theorem kK:(["a", "b", "front"]:List Str).Nodup:=by decide +kernel
def lJ:ME:=aj 1
def jf:MT:=gb (ay (va false) 2e3 (aj 2))
def lI:ME:=aj 0
def je:MT:=gb (ay (va false) 3e0 (aj 2))
def nC:MS:=cH (ay bF (bY (fL 2e3) [none,none,some 1] (dc 2 6e4) (jf) (lJ)) (bY (fL 2e3) [none,none,some 1] (dc 2 6e4) (je) (lI)))
def fZ:List D->aB->ai D:=iR 2 2 nC
theorem c8:aV ["web", "start", "many", "ties", "fars", "far", "front", "place"] ["web", "start"] (av hX):=0e1
theorem tP:(["place", "fars"]:List Str).Nodup:=by decide +kernel
def nB:ME:=aj 0
def kr:MT:=gb (ay (wX false) (ay cj 3e0 2e3) (cC .non))
def fY:MS:=bx (aj 5) (nt (aj 4) (aj 7))
def fX:MS:=bj (C0 5 xl 0e8)
 (bj (bx (bY (fL (aE fZ (ag (aj 3) (ag (aj 6) (az))))) [none,some 4] (ak 0) (kr) (nB)) (ak 6))
 (lM (fL (aj 6)) (ak 7) fY))
noncomputable def qS:MS:=bj (bx 2e3 (dc 2 (aW (ak 2) (aW (ak 3) (de)))))
 (bj (bx (ay mZ (fq (ag (cC .non) (az))) (aj 2)) (ak 4))
 (bj (bx 1e4 (nt (aj 4) 3e0))
 (bj (bx 1e4 (ak 5))
 (bj (bx (fq 8e8) (ak 6))
 (bj (pT 100 (i8 (aj 6)) fX)
 (cH (aj 4)))))))
def i6:List D->aB->ai D:=iR 2 8 qS
theorem we:aV ["thing"] ["thing"] (av jk):=0e1
def mr:MS:=cH (gS (aE gB 5e2) (gS (ay (f9 false) (aE jy (ag (ay cj 2e3 0e8) (az))) (ay dG 10e9 0e8)) (ay (va true) (cC .non) (aE i6 (ag 2e3 (ag 1e4 (az)))))))
def bJ:List D->aB->ai D:=iR 1 1 mr
theorem ud:aV ["thing"] ["thing"] (av iH):=0e1
def lu:MS:=lL (gR (i8 (aE (fun ds Y=>(bJ ds Y).nox) 5e2))) (pU "NoTree") (dO)
def d9:List D->aB->ai D:=iR 1 1 lu
theorem iA:aV ["web", "ties", "word", "ends", "least", "last"] ["web"] (av gy):=0e1
theorem pk:(["tie", "place"]:List Str).Nodup:=by decide +kernel
theorem wF:(["place", "ends"]:List Str).Nodup:=by decide +kernel
theorem wD:(["tie", "least"]:List Str).Nodup:=by decide +kernel
def qR:ME:=aj 1
def ka:MB:=vA (fL 2e3) (ak 1) (bp) (sm (qR))
def kf:ME:=aj 0
def iZ:MT:=gb (ay (f9 false) (uq mO 3e0 5e2) 0e8)
def ke:ME:=aj 0
def iY:MT:=gb (ay (va false) 3e0 2e3)
noncomputable def kb:MS:=bj (bx (nP (fL 3e0) [none,none] (ak 0) (bp) (ka)) (ak 3))
 (bj (bx (aE rf (ag (bY (fL (aj 3)) [none,some 3] (ak 0) (iZ) (kf)) (az))) (ak 4))
 (bj (bx (ay cj (bY (fL 3e0) [none,some 4] (ak 0) (iY) (ke)) 1e4) (ak 5))
 (bj (lz (uq dJ (aj 2) (ag (ay dG (aE Ax (ag (aj 5) (az))) (aj 4)) (az))))
 (lz (uq jB 3e0 (ag (aj 5) (az)))))))
noncomputable def mV:MS:=bj (lz (aE d9 5e2))
 (bj (lL (gb (ay (dC .Lt) 10e9 (cC (.int 3)))) (pU "NoTree") (dO))
 (bj (bx (aE lE (ag (ay cj 2e3 0e8) (az))) (ak 1))
 (bj (bx (fq (az)) (ak 2))
 (bj (pT 100 (gb (ay (dC .Gt) (aE jy 8e8) 0e8)) kb)
 (cH (aE eR 9e5))))))
def eK:List D->aB->ai D:=iR 1 6 mV
theorem iB:aV ["many", "word", "left", "ties", "at", "place", "least"] ["many", "word"] (av jJ):=0e1
theorem wG:(["other", "word", "at"]:List Str).Nodup:=by decide +kernel
def kg:ME:=aj 0
def i4:MT:=gb (ay (va true) 2e3 (wU 3e0 (iq (aj 2)) (yU)))
noncomputable def kc:MS:=bj (bx (aE rf (ag (bY (fL (aj 2)) [none,some 1,some 4] (ak 0) (i4) (kg)) (az))) (ak 6))
 (bj (lz (uq dJ (aj 3) (ag (bV (ag (aj 6) (ag (aj 5) (az)))) (az))))
 (lz (uq jB (aj 2) (ag (aj 6) (az)))))
noncomputable def mW:MS:=bj (lL (gR (i8 (aE (fun ds Y=>(bq ds Y).nox) (ag 2e3 (ag (cC (.int 3)) (ag (cC (.int 6)) (az))))))) (pU "NoNumber") (dO))
 (bj (lL (pQ (gR (i8 (aE (fun ds Y=>(cO ds Y).nox) (ag 2e3 8e8)))) (gb (ay (f9 true) (aE jy 8e8) (ay dG 2e3 9e6)))) (pU "NoTree") (dO))
 (bj (bx (aE kX 5e2) (ak 2))
 (bj (bx (fq (az)) (ak 3))
 (bj (lM (fM qI 8e8) (dc 2 (aW (ak 4) (aW (ak 5) (de)))) kc)
 (cH (aE (fun ds Y=>(mi ds Y).nox) (ag 2e3 (ag (ay bF (aj 3) (fq (ag (aE eR 9e5) (az)))) (az)))))))))
def eM:List D->aB->ai D:=iR 2 7 mW
theorem rm:aV ["_law_script", "_law_k"] ["_law_script", "_law_k"] (av gq):=0e1
def jO:MS:=bj (lL (gb (ay (dC .Lt) 3e0 (aE jy 5e2))) (cH (ay cj 2e3 3e0)) (dO))
 (cH 1e4)
def fk:List D->aB->ai D:=iR 2 2 jO
theorem ph:aV ["_law_seed"] ["_law_seed"] (av jm):=0e1
noncomputable def qU:MS:=bj (bx (ay tX (ay bF 2e3 (cC (.int 7919))) (cC (.int 2147483647))) (ak 0))
 (cH (ay tX (ay bF (ay bF (ay mZ 2e3 2e3) (ay mZ (cC (.int 48271)) 2e3)) (cC (.int 12345))) (cC (.int 2147483629))))
def gN:List D->aB->ai D:=iR 1 1 qU
theorem mz:aV ["_law_cell", "_law_left"] ["_law_cell"] (av ia):=0e1
noncomputable def nD:MS:=bj (bx (aE wW (ag 2e3 (ag (ay dG 1e4 2e3) (az)))) (ak 1))
 (cH (fq (ag 3e0 (ag (aE qJ (ag (ay (dC .GtE) 3e0 (ay C4 (cC (.int 10)) (cC (.int 18)))) (az))) (ag (ay tX 3e0 (cC (.int 1000003))) (az))))))
def f7:List D->aB->ai D:=iR 1 2 nD
theorem pj:aV ["_law_pen", "_law_many", "_law_found"] ["_law_pen", "_law_many"] (av jn):=0e1
noncomputable def my:MS:=bj (lL (gb (ay (f9 false) (ay cj 2e3 0e8) 0e8)) (bj (bx (ay tX 10e9 3e0) (ak 2))
 (bj (bx (ay xm 10e9 3e0) (nt 2e3 1e4))
 (cH (aj 2)))) (dO))
 (bj (bx (aE gN (ag (ay bF (aE gN (ag (ay cj 2e3 9e6) (az))) (cC (.int 7))) (az))) (nt 2e3 9e6))
 (cH (ay tX (ay xm (ay cj 2e3 9e6) (cC (.int 64))) 3e0)))
def aM:List D->aB->ai D:=iR 2 3 my
theorem ue:aV ["_law_found"] ["_law_found"] (av iI):=0e1
def wL:MS:=cH (gS (mY (eP "int") 2e3) (xn (mY (eP "bool") 2e3)))
def fD:List D->aB->ai D:=iR 1 1 wL
theorem jd:aV ["_law_e", "_law_marks"] ["_law_e"] (av gp):=0e1
noncomputable def mF:MS:=bj (bx (fq (ag 10e1 (ag (mY (nI ["NoNumber"] ["NoNumber", "NoTree"]) 2e3) (ag 10e1 (ag 10e1 (az)))))) (ak 1))
 (bj (bx (ay bF 3e0 (fq (ag (mY (nI ["NoTree"] ["NoNumber", "NoTree"]) 2e3) (ag 10e1 (ag 10e1 (ag 10e1 (az))))))) (ak 1))
 (bj (lL (pQ (gR (i8 (mY (nI ["NoNumber", "NoTree"] ["NoNumber", "NoTree"]) 2e3))) (gb (ay (f9 true) (uq mM 3e0 (ag (cC 5e8) (az))) 0e8))) (cH (cC (.str "other"))) (dO))
 (cH (ay cj (fq (ag (cC (.str "place")) (ag (cC (.str "number")) (ag (cC (.str "line")) (ag (cC (.str "root")) (ag (cC (.str "tree")) (ag (cC (.str "web")) (ag (cC (.str "text")) (ag (cC (.str "great")) (az)))))))))) (uq mL 3e0 (ag (cC 5e8) (az)))))))
def cP:List D->aB->ai D:=iR 1 2 mF
theorem nv:aV ["_law_web", "_law_names", "_law_ties"] ["_law_web", "_law_names"] (av eO):=0e1
theorem lG:(["_law_one", "_law_other", "_law_names"]:List Str).Nodup:=by decide +kernel
theorem rG:(["_law_tie"]:List Str).Nodup:=by decide +kernel
def ij:ME:=bV (ag (ay cj (aj 2) 2e3) (ag (ay cj (aj 2) 3e0) (az)))
def ig:ME:=bV (ag (aE rf 5e2) (ag (aE wW 5e2) (az)))
noncomputable def pB:MS:=bj (bx (bY (fL (ay cj 2e3 0e8)) [none,none,some 1] (dc 2 6e4) (bp) (ij)) (ak 2))
 (cH (bV (ag 10e9 (ag (aE eR (ag (aE di (ag (aE qZ (ag (bY (fL (aj 2)) [none] (ak 0) (bp) (ig)) (az))) (az))) (az))) (az)))))
def dA:List D->aB->ai D:=iR 2 3 pB
theorem kJ:aV ["_law_pen", "_law_many", "_law_left"] ["_law_pen", "_law_many"] (av dS):=0e1
theorem oi:(["_law_place", "_law_left", "_law_pen"]:List Str).Nodup:=by decide +kernel
def eW:ME:=uq sC 3e0 (ag (aE aM (ag (aj 2) (ag (aE jy 8e8) (az)))) (az))
def lK:MS:=bj (bx (aE kX 8e8) (ak 2))
 (cH (aE eR (ag (bY (fM km 8e8) [none,some 2,some 0] (ak 0) (bp) (eW)) (az))))
def cU:List D->aB->ai D:=iR 2 3 lK
theorem dv:aV ["_law_web", "_law_many", "_law_far_here", "_law_place", "_law_size", "_law_one", "_law_other", "_law_a", "_law_b"] ["_law_web"] (av iW):=0e1
theorem uj:(["_law_place", "_law_many"]:List Str).Nodup:=by decide +kernel
def hZ:ME:=ay mZ (fq (ag (cC .non) (az))) 3e0
noncomputable def lq:MS:=lL (lF (gb (ay (f9 false) (ay cj (ay cj (aj 2) (aj 3)) (aj 7)) (ay dG (aj 4) 0e8))) (gb (ay (wX false) (ay cj (ay cj (aj 2) (aj 3)) (aj 8)) (cC .non)))) (bx (aj 4) (nt (ay cj (aj 2) (aj 3)) (aj 8))) (dO)
def jt:MS:=lM (fL (fq (ag (bV (ag (aj 5) (ag (aj 6) (az)))) (ag (bV (ag (aj 6) (ag (aj 5) (az)))) (az))))) (dc 2 (aW (ak 7) (aW (ak 8) (de)))) lq
def js:MS:=lM (fL (ay cj 2e3 0e8)) (dc 2 (aW (ak 5) (aW (ak 6) (de)))) jt
def jr:MS:=bj (bx 1e4 (nt (ay cj (aj 2) (aj 3)) (aj 3)))
 (lM (fM pM (ag 0e8 8e8)) (ak 4) js)
def tH:MS:=bj (bx 10e9 (ak 1))
 (bj (bx (bY (fM km 8e8) [none,some 1] (ak 0) (bp) (hZ)) (ak 2))
 (bj (lM (fM km 8e8) (ak 3) jr)
 (cH (aj 2))))
def fe:List D->aB->ai D:=iR 1 9 tH
theorem fV:aV ["_law_web", "_law_k", "_law_far_here", "_law_ties", "_law_one"] ["_law_web", "_law_k"] (av fU):=0e1
theorem rF:(["_law_b", "_law_one", "_law_k", "_law_far_here"]:List Str).Nodup:=by decide +kernel
def ie:ME:=bV (ag 3e0 5e2)
def ff:MT:=lF (gb (ay (wX true) (ay cj (ay cj (aj 3) 3e0) 2e3) (cC .non))) (gb (ay (dC .LtE) (ay cj (ay cj (aj 3) 3e0) 2e3) (aj 2)))
def ic:MS:=bx (ay bF (aj 3) (bY (fM pM (ag (ay bF (aj 4) 0e8) (ag 10e9 (az)))) [none,some 4,some 1,some 2] (ak 0) (ff) (ie))) (ak 3)
def pA:MS:=bj (bx (aE fe 5e2) (ak 2))
 (bj (bx (fq (az)) (ak 3))
 (bj (lM (fM km (ag 10e9 (az))) (ak 4) ic)
 (cH (bV (ag 10e9 (ag (aE eR (ag (aj 3) (az))) (az)))))))
def eA:List D->aB->ai D:=iR 2 5 pA
theorem br:aV ["_law_pen", "_law_way", "_law_many", "_law_every", "_law_other", "_law_ties"] ["_law_pen"] (av bz):=0e1
theorem nq:(["_law_one", "_law_other"]:List Str).Nodup:=by decide +kernel
theorem nk:(["_law_pair", "_law_pen"]:List Str).Nodup:=by decide +kernel
theorem nj:(["_law_pair", "_law_pen"]:List Str).Nodup:=by decide +kernel
theorem ni:(["_law_place"]:List Str).Nodup:=by decide +kernel
theorem nh:(["_law_place"]:List Str).Nodup:=by decide +kernel
theorem ng:(["_law_place"]:List Str).Nodup:=by decide +kernel
theorem nc:(["_law_place", "_law_pen"]:List Str).Nodup:=by decide +kernel
def jP:ME:=bV (ag 2e3 8e8)
def eB:MS:=bx (ay bF (aj 3) (bY (fM km (ag (aj 4) (az))) [none,some 4] (ak 0) (bp) (jP))) (ak 3)
def gI:ME:=aj 0
def gE:MT:=gb (ay (f9 false) (aE aM (ag 3e0 (ag 9e6 (az)))) 1e4)
def gH:ME:=aj 0
def gD:MT:=gb (ay (f9 false) (aE aM (ag 3e0 (ag (cC (.int 3)) (az)))) 1e4)
def eD:ME:=bV (ag 2e3 (ag (ay bF 2e3 0e8) (az)))
def gG:ME:=bV (ag 2e3 (ag (ay bF 2e3 0e8) (az)))
def eC:ME:=bV (ag 1e4 5e2)
def cX:ME:=bV (ag (aE aM (ag 3e0 5e2)) 5e2)
noncomputable def kO:MS:=bj (bx (aE aM (ag 2e3 (ag (cC (.int 7)) (az)))) (ak 1))
 (bj (bx (ay bF 0e8 (aE aM (ag 2e3 (ag (cC (.int 6)) (az))))) (ak 2))
 (bj (bx (fq (az)) (ak 3))
 (bj (lM (fM km 9e5) (ak 4) eB)
 (bj 2e0
 (cH (aE dA (ag (bV (ag (aj 2) (ag (aE eR (ag (aj 5) (az))) (az)))) (ag (aE cU (ag 2e3 9e5)) (az)))))))))
def dW:List D->aB->ai D:=iR 1 6 kO
theorem dh:aV ["_law_pen", "_law_web", "_law_way", "_law_spot", "_law_one", "_law_pair"] ["_law_pen"] (av h7):=0e1
noncomputable def iP:MS:=bj (bx (aE dW 5e2) (ak 1))
 (bj (bx (aE aM (ag 2e3 (ag (cC (.int 6)) (az)))) (ak 2))
 (bj (lL (gb (ay (dC .Lt) (aj 2) (cC (.int 3)))) (bx (aE eA (ag 3e0 (ag 9e6 (az)))) (ak 1)) (dO))
 (bj (lL (lF (gb (ay (f9 false) (aj 2) 1e4)) (gb (ay (f9 true) (ay cj 3e0 0e8) (bV (az))))) (bj (bx (aE aM (ag 2e3 (ag (aE jy (ag (ay cj 3e0 0e8) (az))) (az)))) (ak 3))
 (cH (bV (ag (ay cj 3e0 1e4) (ag (ay bF (wU (ay cj 3e0 0e8) (yU) (iq (aj 3))) (wU (ay cj 3e0 0e8) (iq (ay bF (aj 3) 0e8)) (yU))) (az)))))) (dO))
 (bj (lL (lF (gb (ay (f9 false) (aj 2) 0e8)) (gb (ay (dC .Gt) (ay cj 3e0 1e4) 0e8))) (bj (bx (aE aM (ag 2e3 (ag (ay cj 3e0 1e4) (az)))) (ak 4))
 (bj (bx (aE eR (ag (aE di (ag (bV (ag (aj 4) (ag (ay tX (ay bF (ay bF (aj 4) 0e8) (aE aM (ag 2e3 (ag (ay dG (ay cj 3e0 1e4) 0e8) (az))))) (ay cj 3e0 1e4)) (az)))) (az))) (az))) (ak 5))
 (cH (bV (ag (ay cj 3e0 1e4) (ag (aE eR (ag (aE di (ag (aE qZ (ag (ay bF (ay cj 3e0 0e8) (bV (ag (aj 5) (az)))) (az))) (az))) (az))) (az))))))) (dO))
 (cH 3e0)))))
def f6:List D->aB->ai D:=iR 1 6 iP
theorem jc:aV ["_law_pen", "_law_many", "_law_ties"] ["_law_pen"] (av eG):=0e1
theorem pF:(["_law_place", "_law_pen"]:List Str).Nodup:=by decide +kernel
def fF:ME:=bV (ag (aE aM (ag 3e0 5e2)) 5e2)
noncomputable def mD:MS:=bj (bx (ay bF 0e8 (aE aM (ag 2e3 (ag (cC (.int 6)) (az))))) (ak 1))
 (bj (bx (bY (fM pM (ag 0e8 8e8)) [none,some 0] (ak 0) (bp) (fF)) (ak 2))
 (cH (aE dA (ag (bV (ag 3e0 (ag (aE eR 9e5) (az)))) (ag (aE cU (ag 2e3 8e8)) (az))))))
def fg:List D->aB->ai D:=iR 1 3 mD
theorem dq:aV ["_law_pen", "_law_web", "_law_many", "_law_ties", "_law_spot", "_law_some"] ["_law_pen", "_law_web"] (av gn):=0e1
noncomputable def mE:MS:=bj (bx 3e0 (dc 2 (aW (ak 2) (aW (ak 3) (de)))))
 (bj (bx (aE aM (ag 2e3 (ag (ay bF (aE jy (ag (aj 3) (az))) 0e8) (az)))) (ak 4))
 (bj (bx (fq 4e6) (ak 5))
 (bj (bx (ay bF (aj 5) 4e9) (ak 5))
 (bj (lz (uq dJ (aj 5) (ag (bV (ag (cC (.int 4)) (ag (bV (ag (bV (ag 1e4 (ag 0e8 (az)))) (ag (bV (ag 1e4 (ag 9e6 (az)))) (ag (bV (ag 0e8 (ag 9e6 (az)))) (az))))) (az)))) (az))))
 (cH (ay cj (aj 5) (aE aM (ag 2e3 (ag (cC (.int 12)) (az))))))))))
def fj:List D->aB->ai D:=iR 2 6 mE
theorem rl:aV ["_law_thing"] ["_law_thing"] (av eH):=0e1
theorem ki:(["_law_one", "_law_other", "_law_thing"]:List Str).Nodup:=by decide +kernel
def fG:ME:=rS (dC .LtE) (dC .Lt) (dC .Lt) 1e4 2e3 3e0 (ay cj (aj 2) 1e4)
noncomputable def fm:MS:=bj (lL (pQ (gR (i8 (mY (eP "tuple") 2e3))) (pQ (gb (ay (f9 true) (aE jy 5e2) 9e6)) (pQ (gR (i8 (aE fD (ag 10e9 (az))))) (gR (gb (kY (dC .LtE) (dC .LtE) 0e8 10e9 (cC (.int 6)))))))) (cH (cC 4e2)) (dO))
 (bj (lL (pQ (gR (i8 (mY (eP "tuple") (ay cj 2e3 0e8)))) (pQ (gb (ay (f9 true) (aE jy (ag (ay cj 2e3 0e8) (az))) (ay dG 10e9 0e8))) (gb (ay (f9 true) (aE lE (ag (ay cj 2e3 0e8) (az))) (aE di (ag (aE qZ (ag (ay cj 2e3 0e8) (az))) (az))))))) (cH (cC 4e2)) (dO))
 (bj (lL (gR (i8 (aE tY (ag (bY (fL (ay cj 2e3 0e8)) [none,none,some 0] (dc 2 6e4) (bp) (fG)) (az))))) (cH (cC 4e2)) (dO))
 (cH (ay (va true) (cC .non) (ay cj (aE fe 5e2) 1e4)))))
def bh:List D->aB->ai D:=iR 1 1 fm
theorem fC:aV ["_law_web", "_law_near", "_law_found", "_law_turn", "_law_least", "_law_other"] ["_law_web"] (av fB):=0e1
theorem tR:(["_law_place", "_law_web"]:List Str).Nodup:=by decide +kernel
theorem mB:(["_law_one", "_law_other", "_law_place"]:List Str).Nodup:=by decide +kernel
theorem tQ:(["_law_place", "_law_near"]:List Str).Nodup:=by decide +kernel
def iO:ME:=ay dG (ay bF 2e3 3e0) (aj 2)
def iJ:MT:=gb (ay (va false) (aj 2) (bV (ag 2e3 8e8)))
def iN:ME:=bY (fL (ay cj 3e0 0e8)) [none,none,some 0] (dc 2 6e4) (iJ) (iO)
def iM:ME:=aj 0
def fW:MT:=gb (ay (f9 false) (aE jy (ag (ay cj 3e0 2e3) (az))) 0e8)
noncomputable def iK:MS:=bj (bx (ay cj (bY (fM km (ag 10e9 (az))) [none,some 1] (ak 0) (fW) (iM)) 1e4) (ak 4))
 (bj (bx (ay cj (ay cj 3e0 (aj 4)) 1e4) (ak 5))
 (bj (lz (uq dJ (aj 2) (ag (aj 5) (az))))
 (bj (lz (uq jB (ay cj 3e0 (aj 4)) (ag (aj 5) (az))))
 (lz (uq jB (ay cj 3e0 (aj 5)) (ag (aj 4) (az)))))))
def qT:MS:=bj (bx (bY (fM km (ag 10e9 (az))) [none,some 0] (ak 0) (bp) (iN)) (ak 1))
 (bj (bx (fq (az)) (ak 2))
 (bj (lM (fM km (ag (ay dG 10e9 9e6) (az))) (ak 3) iK)
 (cH (aE eR 9e5))))
def dz:List D->aB->ai D:=iR 1 6 qT
theorem pf:aV ["_law_way", "_law_one", "_law_other", "_law_e"] ["_law_way", "_law_one", "_law_other"] (av jl):=0e1
def dE:MS:=cH (Ju (gb (ay (f9 false) 2e3 1e4)) (aE eK 8e8) (aE eM (ag 3e0 9e5)))
def nA:MS:=cH (aE cP (ag (aj 3) (az)))
def mx:MS:=CZ ["NoNumber", "NoTree"] 3 4 dE nA
def bU:List D->aB->ai D:=iR 3 4 mx
theorem pC:aV ["_law_many", "_law_thing"] ["_law_many", "_law_thing"] (av dB):=0e1
theorem m8:(["_law_one", "_law_many"]:List Str).Nodup:=by decide +kernel
def gF:ME:=gS (aE fD 5e2) (kY (dC .LtE) (dC .Lt) 1e4 2e3 3e0)
def kN:MS:=bj (lL (pQ (gR (i8 (mY (eP "tuple") 3e0))) (gb (ay (f9 true) (aE jy 8e8) (ay dG 2e3 9e6)))) (cH (cC 4e2)) (dO))
 (cH (aE tY (ag (bY (fL 3e0) [none,some 0] (ak 0) (bp) (gF)) (az))))
def dU:List D->aB->ai D:=iR 2 2 kN
theorem jj:aV ["_law_many", "_law_thing", "_law_found"] ["_law_many", "_law_thing"] (av dM):=0e1
noncomputable def gJ:MS:=bj (bx (aE bU (ag 0e8 (ag 2e3 8e8))) (ak 2))
 (bj (lL (gR (i8 (aE dU (ag 2e3 8e8)))) (cH (ay (f9 false) (aj 2) (cC (.str "tree")))) (dO))
 (cH (gS (mY (eP "tuple") (aj 2)) (gS (ay (f9 false) (ay cj (aj 2) 1e4) 2e3) (gS (aE bh 9e5) (ay (f9 false) (aE dz 9e5) 3e0))))))
def cM:List D->aB->ai D:=iR 2 3 gJ
theorem jq:aV ["_law_word_here", "_law_many", "_law_pen", "_law_spot", "_law_odd", "_law_some"] ["_law_word_here", "_law_many", "_law_pen"] (av jo):=0e1
noncomputable def qV:MS:=bj (bx (aE aM (ag (aj 2) (ag (ay bF (aE jy 5e2) 0e8) (az)))) (ak 3))
 (bj (bx (ay cj (fq (ag 3e0 (ag (mY vm 0e8) (ag (cC 5e8) (ag (cC .non) (ag (cC (.str "0")) (ag (bV (ag 1e4 (az))) (ag (aE aM (ag (aj 2) 8e8)) (az))))))))) (aE aM (ag (aj 2) (ag (cC (.int 7)) (az))))) (ak 4))
 (bj (bx (fq (ag (ay bF (ay bF (wU 2e3 (yU) (iq (aj 3))) (bV (ag (aj 4) (az)))) (wU 2e3 (iq (ay bF (aj 3) 0e8)) (yU))) (ag (ay bF (ay bF (wU 2e3 (yU) (iq (aj 3))) (bV (ag (aj 4) (az)))) (wU 2e3 (iq (aj 3)) (yU))) (ag (ay bF (wU 2e3 (yU) (iq (aj 3))) (wU 2e3 (iq (ay bF (aj 3) 0e8)) (yU))) (az))))) (ak 5))
 (cH (ay cj (ay bF (aj 5) (fq (ag (aE lE 5e2) (ag (cC .non) (ag 1e4 (ag (bV 5e2) (ag (ay oD 2e3 (mY vm 0e8)) (az)))))))) (aE aM (ag (aj 2) (ag (cC (.int 8)) (az))))))))
def dZ:List D->aB->ai D:=iR 3 6 qV
theorem ja:aV ["_law_script", "_law_cell", "_law_pen", "_law_web", "_law_thing", "_law_found", "_law_due", "_law_word_here", "_law_many", "_law_bad"] ["_law_script"] (av kT):=0e1
theorem Fd:(["_law_turn", "_law_pen", "_law_web"]:List Str).Nodup:=by decide +kernel
theorem Fc:(["_law_turn", "_law_pen", "_law_many"]:List Str).Nodup:=by decide +kernel
def oN:ME:=aE fj (ag 3e0 9e5)
noncomputable def mP:MS:=bj (bx (aE bJ (ag (aj 4) (az))) (ak 5))
 (bj (bx (aE bh (ag (aj 4) (az))) (ak 6))
 (bj (lL (pQ (gR (i8 (mY (eP "bool") (aj 5)))) (gb (ay (f9 true) (aj 5) (aj 6)))) (cH (cC 4e2)) (dO))
 (bj (bx (Ju (lF (i8 (aj 6)) (gb (ay (dC .Gt) (ay cj (aj 4) 1e4) 9e6))) (aE dz (ag (aj 4) (az))) (cC (.str "tree"))) (ak 7))
 (lL (gb (ay (C5 true) (aE ko (ag (aE bU (ag 1e4 (ag (aj 4) (ag (cC .non) (az))))) (az))) (aE ko (ag (aj 7) (az))))) (cH (cC 4e2)) (dO)))))
def oM:ME:=aE aM (ag 3e0 9e5)
def oK:MS:=lL (gR (i8 (aE cM (ag (aj 8) (ag (aj 4) (az)))))) (cH (cC 4e2)) (dO)
def rX:MS:=lL (gb (ay (f9 true) (aE bU (ag 0e8 (ag (aj 9) (ag (cC .non) (az))))) (cC (.str "number")))) (cH (cC 4e2)) (dO)
noncomputable def rW:MS:=bj (bx (aE f7 8e8) (ak 2))
 (bj (bx (aE fg 9e5) (ak 3))
 (bj (lM (fL (ay bF (fq (ag (aj 3) (ag (aE f6 9e5) (az)))) (bY (fM km (ag (cC (.int 4)) (az))) [none,some 2,some 3] (ak 0) (bp) (oN)))) (ak 4) mP)
 (bj (bx (ay bF (cC (.int 3)) (aE aM (ag (aj 2) (ag (cC (.int 4)) (az))))) (ak 8))
 (bj (bx (aE eR (ag (bY (fM km (ag (ay dG (aj 8) 9e6) (az))) [none,some 2,some 8] (ak 0) (bp) (oM)) (az))) (ak 7))
 (bj (lM (fL (fq (ag (aj 7) (ag (aE dZ (ag (aj 7) (ag (aj 8) 9e5))) (ag (aE dZ (ag (aj 7) (ag (aj 8) 9e5))) (ag (ay uA (bV (ag 1e4 (az))) (ay dG (aj 8) 9e6)) (az))))))) (ak 4) oK)
 (lM (fL (fq (ag 9e6 (ag (cC (.int 7)) (ag (mY vm 0e8) (ag (cC 5e8) (ag (cC .non) (ag (cC (.str "3")) (ag (bV (ag (cC (.int 3)) (az))) (ag (ay C4 (cC (.int 10)) (cC (.int 20))) (az))))))))))) (ak 9) rX))))))
def Jp:MS:=bj (lM (fL (ay bF (fq (ag (aE fk (ag 2e3 (ag 1e4 (az)))) (az))) (wU 2e3 (iq 0e8) (iq (cC (.int 5)))))) (ak 1) rW)
 (cH (cC 5e8))
def xu:List D->aB->ai D:=iR 1 10 Jp
theorem yE(nm:Nm mg)(F:ik K "is_whole" "is_whole" jZ f fd)(hm:mg "is_whole" = some 4e4):dk P w K mg base 2e5 1 "is_whole" 1 d8:=
 cW F yB rfl hm 1e8 fun cdv A outer s H E hr=>
 aR (bG (jh (lx (T:="int") 0e4 D4 0e4 0e4 nm.isinstance nm.int 2e6) (lR (IL (lx (T:="bool") 0e4 vX 0e4 0e4 nm.isinstance nm.bool 2e6)))))
theorem qA(nm:Nm mg)(F:ik K "is_whole_from" "is_whole_from" fE f fd)(hm:mg "is_whole_from" = some 4e4)(d_is_whole:dk P w K mg base 2e5 1 "is_whole" 1 d8):dk P w K mg base 2e5 2 "is_whole_from" 3 bq:=
 cW F qy rfl hm (F.b3 (by rfl) fun _ _ _ _ _ _ _ _ _=>by rfl) fun cdv A outer s H E hr=>
 aR (bG (jh (aU d_is_whole 1e5 5e3) (lR (IP (gL (op:=.LtE) 4e3) (gL (op:=.LtE) 4e3) 8e9 2e6 (aF 2)))))
theorem yF(nm:Nm mg)(F:ik K "is_place" "is_place" j6 f fd)(hm:mg "is_place" = some 4e4)(d_is_whole_from:dk P w K mg base 2e5 2 "is_whole_from" 3 bq):dk P w K mg base 2e5 3 "is_place" 2 gC:=
 cW F yC rfl hm 1e6 fun cdv A outer s H E hr=>
 aR (bG (aU d_is_whole_from 1e5 (aI 8e9 (aI (bA) (aI (iT 2e6 (bA)) (aX))))))
theorem wt(nm:Nm mg)(F:ik K "is_places" "is_places" hV f fd)(hm:mg "is_places" = some 4e4)(d_is_place:dk P w K mg base 2e5 3 "is_place" 2 gC):dk P w K mg base 2e5 4 "is_places" 2 cO:=
 cW F wj rfl hm 1e6 fun cdv A outer s H E hr=>
 aR (bG (jh (lx (T:="tuple") 0e4 jH 0e4 0e4 nm.isinstance nm.tuple 8e9) (lR (bB xo nm.all (aI (dP (bM (N:=["many", "thing"]) (sc:=av hV) (Nc:=["place", "many"]) (cap:=[none,some 0]) rfl rfl 0e9) (qW 8e9) (fun _ _ _ _ _=>gO 0 tO) 5e0 (fun _ _ _ _ _=>aU d_is_place 1e5 (aI 8e9 5e3))) (aX))))))
theorem wq(nm:Nm mg)(F:ik K "is_rising" "is_rising" hG f fd)(hm:mg "is_rising" = some 4e4):dk P w K mg base 2e5 1 "is_rising" 1 dY:=
 cW F wg rfl hm 1e8 fun cdv A outer s H E hr=>
 aR (bG (bB xo nm.all (aI (dP (bM (N:=["things"]) (sc:=av hG) (Nc:=["at", "things"]) (cap:=[none,some 0]) rfl rfl 0e9) (Bm nm.range (aI (bA) (aI (bB jC nm.len 5e3) (aX)))) (fun _ _ _ _ _=>gO 0 tM) 5e0 (fun _ _ _ _ _=>ly (gL (op:=.Lt) 4e3) (bO 8e9 (iT 2e6 (bA))) (bO 8e9 2e6))) (aX))))
theorem zW(nm:Nm mg)(F:ik K "is_many" "is_many" lb f fd)(hm:mg "is_many" = some 4e4)(c_MOST_PLACES:∃t,mg "MOST_PLACES" = some (.int 6 t))(d_is_whole_from:dk P w K mg base 2e5 2 "is_whole_from" 3 bq):dk P w K mg base 2e5 3 "is_many" 1 fA:=
 cW F zK rfl hm 1e8 fun cdv A outer s H E hr=>
 aR (bG (aU d_is_whole_from 1e5 (aI 2e6 (aI (bA) (aI (F4 c_MOST_PLACES) (aX))))))
theorem zV(nm:Nm mg)(F:ik K "is_pair" "is_pair" la f fd)(hm:mg "is_pair" = some 4e4)(d_is_places:dk P w K mg base 2e5 4 "is_places" 2 cO):dk P w K mg base 2e5 5 "is_pair" 2 eN:=
 cW F zJ rfl hm 1e6 fun cdv A outer s H E hr=>
 aR (bG (jh (aU d_is_places 1e5 (aI 2e6 3e7)) (jh (ly (kQ 4e3) (bB jC nm.len 3e7) (bA)) (lR (ly (r9 4e3) (bO 8e9 (bA)) (bO 8e9 (bA)))))))
theorem σ7(nm:Nm mg)(F:ik K "is_tie" "is_tie" mQ f fd)(hm:mg "is_tie" = some 4e4)(d_is_pair:dk P w K mg base 2e5 5 "is_pair" 2 eN):dk P w K mg base 2e5 6 "is_tie" 2 jI:=
 cW F BO rfl hm 1e6 fun cdv A outer s H E hr=>
 aR (bG (jh (aU d_is_pair 1e5 (aI 2e6 3e7)) (lR (ly (gL (op:=.Lt) 4e3) (bO 8e9 (bA)) (bO 8e9 (bA))))))
theorem zU(nm:Nm mg)(F:ik K "is_ties" "is_ties" jK f fd)(hm:mg "is_ties" = some 4e4)(d_is_tie:dk P w K mg base 2e5 6 "is_tie" 2 jI)(d_is_rising:dk P w K mg base 2e5 1 "is_rising" 1 dY):dk P w K mg base 2e5 7 "is_ties" 2 iy:=
 cW F zI rfl hm 1e6 fun cdv A outer s H E hr=>
 aR (bG (jh (lx (T:="tuple") 0e4 jH 0e4 0e4 nm.isinstance nm.tuple 8e9) (jh (bB xo nm.all (aI (dP (bM (N:=["many", "thing"]) (sc:=av jK) (Nc:=["tie", "many"]) (cap:=[none,some 0]) rfl rfl 0e9) (qW 8e9) (fun _ _ _ _ _=>gO 0 wH) 5e0 (fun _ _ _ _ _=>aU d_is_tie 1e5 (aI 8e9 5e3))) (aX))) (lR (aU d_is_rising 1e5 3e7)))))
theorem yD(nm:Nm mg)(F:ik K "web_good" "web_good" jY f fd)(hm:mg "web_good" = some 4e4)(d_is_many:dk P w K mg base 2e5 3 "is_many" 1 fA)(d_is_ties:dk P w K mg base 2e5 7 "is_ties" 2 iy):dk P w K mg base 2e5 8 "web_good" 1 gB:=
 cW F ml rfl hm 1e8 fun cdv A outer s H E hr=>
 aJ (il (qX (tW (jg (wQ (lx (T:="tuple") 0e4 jH 0e4 0e4 nm.isinstance nm.tuple 2e6))) (sg (cc (r9 4e3) (bB jC nm.len 5e3) (bA))))) (aR (bG (An))) (eX))
 (aJ (oA 2e6 (lB (cY (gO 1 ml.nd) (cY (gO 2 ml.nd) (lC)))))
 (aR (bG (jh (aU d_is_many 1e5 3e7) (lR (aU d_is_ties 1e5 (aI 8e9 7e1)))))))
theorem σ6(nm:Nm mg)(F:ik K "web_of" "web_of" kE f fd)(hm:mg "web_of" = some 4e4)(d_is_many:dk P w K mg base 2e5 3 "is_many" 1 fA)(d_is_pair:dk P w K mg base 2e5 5 "is_pair" 2 eN):dk P w K mg base 2e5 6 "web_of" 2 mi:=
 cW F p9 rfl hm 1e6 fun cdv A outer s H E hr=>
 aJ (il (jg (wQ (aU d_is_many 1e5 5e3))) (aR (AB)) (eX))
 (aJ (jT UZ (Nh nm.enumerate 3e7) (lB (cY (gO 2 p9.nd) (cY (gO 3 p9.nd) (lC)))) (aR (il (jg (wQ (aU d_is_pair 1e5 (aI 2e6 (aI (aF 3) (aX)))))) (aR (AB)) (eX))))
 (aR (bG (bQ (aI 2e6 (aI (bB gm nm.tuple (aI (bB mh nm.sorted (aI (Gs (bM (N:=["many", "things", "at", "thing"]) (sc:=av kE) (Nc:=["pair"]) (cap:=[none]) rfl rfl 0e9) (qW 8e9) (fun _ _ _ _ _=>gO 0 yI) 5e0 (fun _ _ _ _ _ _=>Ou rfl 4e3 (bQ (aI (bB AA nm.min 5e3) (aI (bB Dw nm.max 5e3) (aX)))))) (aX))) (aX))) (aX)))))))
theorem tJ(nm:Nm mg)(F:ik K "next_places" "next_places" dR f fd)(hm:mg "next_places" = some 4e4):dk P w K mg base 2e5 1 "next_places" 2 fZ:=
 cW F tI rfl hm 1e6 fun cdv A outer s H E hr=>
 aR (bG (cn (dP (bM (N:=["ties", "front"]) (sc:=av dR) (Nc:=["a", "b", "front"]) (cap:=[none,none,some 1]) rfl rfl 0e9) (qW 2e6) (fun _ _ _ _ _=>lB (cY (gO 0 kM) (cY (gO 1 kM) (lC)))) (fun _ _ _ _ _=>lQ (cc (F7 4e3) 2e6 (aF 2))) (fun _ _ _ _ _=>aF 1)) (dP (bM (N:=["ties", "front"]) (sc:=av dR) (Nc:=["a", "b", "front"]) (cap:=[none,none,some 1]) rfl rfl 0e9) (qW 2e6) (fun _ _ _ _ _=>lB (cY (gO 0 kK) (cY (gO 1 kK) (lC)))) (fun _ _ _ _ _=>lQ (cc (F7 4e3) 8e9 (aF 2))) (fun _ _ _ _ _=>aF 0))))
theorem wu(nm:Nm mg)(F:ik K "fars_from" "fars_from" hX f fd)(hm:mg "fars_from" = some 4e4)(d_next_places:dk P w K mg base 2e5 1 "next_places" 2 fZ):dk P w K mg base 2e5 2 "fars_from" 2 i6:=
 cW F c8 rfl hm 1e6 fun cdv A outer s H E hr=>
 aJ (oA 2e6 (lB (cY (gO 2 c8.nd) (cY (gO 3 c8.nd) (lC)))))
 (aJ (bK 4 c8.nd (xb (eE (aI (Bh) (aX))) (aF 2)))
 (aJ (oA (bA) (uz (aF 4) 8e9))
 (aJ (bK 5 c8.nd (bA))
 (aJ (bK 6 c8.nd (eE 3e7))
 (aJ (AQ 100 UZ (wQ (aF 6)) (aJ (NZ 5 c8.nd (bA))
 (aJ (kU 6 c8.nd (bM (N:=["web", "start", "many", "ties", "fars", "far", "front", "place"]) (sc:=av hX) (Nc:=["place", "fars"]) (cap:=[none,some 4]) rfl rfl 0e9) (qW (aU d_next_places 1e5 (aI (aF 3) (aI (aF 6) (aX))))) (fun _ _ _ _ _=>gO 0 tP) (fun _ _ _ _ _=>lQ (cc (Jk) (bO 8e9 2e6) (Bh))) (fun _ _ _ _ _=>aF 0))
 (aR (jT UZ (qW (aF 6)) (gO 7 c8.nd) (aR (oA (aF 5) (uz (aF 4) (aF 7)))))))))
 (aR (bG (aF 4))))))))
theorem wm(nm:Nm mg)(F:ik K "tree_good" "tree_good" jk f fd)(hm:mg "tree_good" = some 4e4)(d_web_good:dk P w K mg base 2e5 8 "web_good" 1 gB)(d_fars_from:dk P w K mg base 2e5 2 "fars_from" 2 i6):dk P w K mg base 2e5 9 "tree_good" 1 bJ:=
 cW F we rfl hm 1e8 fun cdv A outer s H E hr=>
 aR (bG (jh (aU d_web_good 1e5 5e3) (jh (ly (kQ 4e3) (bB jC nm.len (aI 6e2 (aX))) (iT 6e2 (bA))) (lR (ly (Dp 4e3) (Bh) (aU d_fars_from 1e5 (aI 2e6 6e7)))))))
theorem uf(nm:Nm mg)(F:ik K "check_tree" "check_tree" iH f fd)(hm:mg "check_tree" = some 4e4)(k_NoTree:W.nsIn K mainGlobals "NoTree" = some (some (.ref a_NoTree)))(o_NoTree:rh mg base "NoTree" a_NoTree)(d_tree_good:dk P w K mg base 2e5 9 "tree_good" 1 bJ):w9 P w K mg base 10 "check_tree" 1 d9:=
 zf F ud rfl hm 1e8 fun cdv A outer s H E hr=>
 aR (il (jg (wQ (rL d_tree_good 1e5 5e3))) (aR (rK k_NoTree o_NoTree)) (eX))
theorem zS(nm:Nm mg)(F:ik K "word_of" "word_of" gy f fd)(hm:mg "word_of" = some 4e4)(c_LEAST_WORDED:∃t,mg "LEAST_WORDED" = some (.int 3 t))(k_NoTree:W.nsIn K mainGlobals "NoTree" = some (some (.ref a_NoTree)))(o_NoTree:rh mg base "NoTree" a_NoTree)(d_check_tree:w9 P w K mg base 10 "check_tree" 1 d9):w9 P w K mg base 11 "word_of" 1 eK:=
 zf F iA rfl hm 1e8 fun cdv A outer s H E hr=>
 aJ (kW (vI d_check_tree Og 1e5 5e3))
 (aJ (il (cc (gL (op:=.Lt) 4e3) 6e2 (F4 c_LEAST_WORDED)) (aR (rK k_NoTree o_NoTree)) (eX))
 (aJ (bK 1 iA.nd (bB vH nm.list (aI 6e2 (aX))))
 (aJ (bK 2 iA.nd (eE (aX)))
 (aJ (AQ 100 PassesOwn.leaving (cc (gL (op:=.Gt) 4e3) (bB jC nm.len 3e7) (bA)) (aJ (bK 3 iA.nd (Gu (bM (N:=["web", "ties", "word", "ends", "least", "last"]) (sc:=av gy) (Nc:=["tie", "place"]) (cap:=[none,none]) rfl rfl 0e9) (qW 8e9) (fun _ _ _ _ _=>gO 0 pk) 5e0 (fun _ _ _ _ _ _=>Pw rfl (qW 2e6) (gO 1 pk) (fN) (Px rfl 8e9))))
 (aJ (bK 4 iA.nd (bB AA nm.min (aI (dP (bM (N:=["web", "ties", "word", "ends", "least", "last"]) (sc:=av gy) (Nc:=["place", "ends"]) (cap:=[none,some 3]) rfl rfl 0e9) (qW (aF 3)) (fun _ _ _ _ _=>gO 0 wF) (fun _ _ _ _ _=>lQ (cc (kQ 4e3) (JM 4e3 8e9 5e3) (bA))) (fun _ _ _ _ _=>aF 0)) (aX))))
 (aJ (bK 5 iA.nd (bO (dP (bM (N:=["web", "ties", "word", "ends", "least", "last"]) (sc:=av gy) (Nc:=["tie", "least"]) (cap:=[none,some 4]) rfl rfl 0e9) (qW 8e9) (fun _ _ _ _ _=>gO 0 wD) (fun _ _ _ _ _=>lQ (cc (F7 4e3) 8e9 2e6)) (fun _ _ _ _ _=>aF 0)) (bA)))
 (aJ (kW (As (aF 2) (aI (iT (bB Mg nm.sum (aI (aF 5) (aX))) (aF 4)) (aX))))
 (aR (kW (vq 4e3 8e9 (aI (aF 5) (aX))))))))))
 (aR (bG (bB gm nm.tuple 7e1)))))))
theorem zT(nm:Nm mg)(F:ik K "tree_by" "tree_by" jJ f fd)(hm:mg "tree_by" = some 4e4)(c_LEAST_WORDED:∃t,mg "LEAST_WORDED" = some (.int 3 t))(c_MOST_PLACES:∃t,mg "MOST_PLACES" = some (.int 6 t))(k_NoNumber:W.nsIn K mainGlobals "NoNumber" = some (some (.ref a_NoNumber)))(o_NoNumber:rh mg base "NoNumber" a_NoNumber)(k_NoTree:W.nsIn K mainGlobals "NoTree" = some (some (.ref a_NoTree)))(o_NoTree:rh mg base "NoTree" a_NoTree)(d_is_whole_from:dk P w K mg base 2e5 2 "is_whole_from" 3 bq)(d_is_places:dk P w K mg base 2e5 4 "is_places" 2 cO)(d_web_of:dk P w K mg base 2e5 6 "web_of" 2 mi):w9 P w K mg base 7 "tree_by" 2 eM:=
 zf F iB rfl hm 1e6 fun cdv A outer s H E hr=>
 aJ (il (jg (wQ (rL d_is_whole_from 1e5 (aI 2e6 (aI (F4 c_LEAST_WORDED) (aI (F4 c_MOST_PLACES) (aX))))))) (aR (rK k_NoNumber o_NoNumber)) (eX))
 (aJ (il (qX (tW (jg (wQ (rL d_is_places 1e5 (aI 2e6 3e7)))) (sg (cc (r9 4e3) (bB jC nm.len 3e7) (iT 2e6 (bA)))))) (aR (rK k_NoTree o_NoTree)) (eX))
 (aJ (bK 2 iB.nd (DB nm.range nm.list 5e3))
 (aJ (bK 3 iB.nd (eE (aX)))
 (aJ (jT PassesOwn.leaving (Nh nm.enumerate 3e7) (lB (cY (gO 4 iB.nd) (cY (gO 5 iB.nd) (lC)))) (aJ (bK 6 iB.nd (bB AA nm.min (aI (dP (bM (N:=["many", "word", "left", "ties", "at", "place", "least"]) (sc:=av jJ) (Nc:=["other", "word", "at"]) (cap:=[none,some 1,some 4]) rfl rfl 0e9) (qW (aF 2)) (fun _ _ _ _ _=>gO 0 wG) (fun _ _ _ _ _=>lQ (cc (Dp 4e3) 2e6 (qY 8e9 (fu (aF 2)) (gX)))) (fun _ _ _ _ _=>aF 0)) (aX))))
 (aJ (kW (As (aF 3) (aI (bQ (aI (aF 6) (aI (aF 5) (aX)))) (aX))))
 (aR (kW (vq 4e3 (aF 2) (aI (aF 6) (aX))))))))
 (aR (bG (rL d_web_of 1e5 (aI 2e6 (aI (cn (aF 3) (eE (aI (bB gm nm.tuple 7e1) (aX)))) (aX))))))))))
theorem rE(nm:Nm mg)(F:ik K "_law_cell_at" "_law_cell_at" gq f fd)(hm:mg "_law_cell_at" = some 4e4):dk P w K mg base 2e5 1 "_law_cell_at" 2 fk:=
 cW F rm rfl hm 1e6 fun cdv A outer s H E hr=>
 aJ (il (cc (gL (op:=.Lt) 4e3) 8e9 (bB jC nm.len 5e3)) (aR (bG (bO 2e6 8e9))) (eX))
 (aR (bG (bA)))
theorem wz(nm:Nm mg)(F:ik K "_law_next" "_law_next" jm f fd)(hm:mg "_law_next" = some 4e4):dk P w K mg base 2e5 1 "_law_next" 1 gN:=
 cW F ph rfl hm 1e8 fun cdv A outer s H E hr=>
 aJ (bK 0 ph.nd (ur (cn 2e6 (bA)) (bA)))
 (aR (bG (ur (cn (cn (xb 2e6 2e6) (xb (bA) 2e6)) (bA)) (bA))))
theorem tL(nm:Nm mg)(F:ik K "_law_pen_of" "_law_pen_of" ia f fd)(hm:mg "_law_pen_of" = some 4e4):dk P w K mg base 2e5 1 "_law_pen_of" 1 f7:=
 cW F mz rfl hm 1e8 fun cdv A outer s H E hr=>
 aJ (bK 1 mz.nd (bB Dw nm.max (aI 2e6 (aI (iT (bA) 2e6) (aX)))))
 (aR (bG (eE (aI 8e9 (aI (bB Jn nm.int (aI (ly (gL (op:=.GtE) 4e3) 8e9 (IM (bA) (bA))) (aX))) (aI (ur 8e9 (bA)) (aX)))))))
theorem wA(nm:Nm mg)(F:ik K "_law_draw" "_law_draw" jn f fd)(hm:mg "_law_draw" = some 4e4)(d__law_next:dk P w K mg base 2e5 1 "_law_next" 1 gN):dk P w K mg base 2e5 2 "_law_draw" 2 aM:=
 cW F pj rfl hm 1e6 fun cdv A outer s H E hr=>
 aJ (il (cc (kQ 4e3) 6e2 (bA)) (aJ (bK 2 pj.nd (ur 6e2 8e9))
 (aJ (oA (DC 6e2 8e9) (uz 2e6 (bA)))
 (aR (bG (aF 2))))) (eX))
 (aJ (oA (aU d__law_next 1e5 (aI (cn (aU d__law_next 1e5 (aI 6e2 (aX))) (bA)) (aX))) (uz 2e6 (bA)))
 (aR (bG (ur (DC 6e2 (bA)) 8e9))))
theorem ug(nm:Nm mg)(F:ik K "_law_whole" "_law_whole" iI f fd)(hm:mg "_law_whole" = some 4e4):dk P w K mg base 2e5 1 "_law_whole" 1 fD:=
 cW F ue rfl hm 1e8 fun cdv A outer s H E hr=>
 aR (bG (jh (lx (T:="int") 0e4 D4 0e4 0e4 nm.isinstance nm.int 2e6) (lR (IL (lx (T:="bool") 0e4 vX 0e4 0e4 nm.isinstance nm.bool 2e6)))))
theorem rC(nm:Nm mg)(F:ik K "_law_kind_of" "_law_kind_of" gp f fd)(hm:mg "_law_kind_of" = some 4e4){a_NoLine a_NoPlace a_NoRoot a_NoText a_NoWeb a_TooGreat:Addr}(q_NoLine:cx K (.ref a_NoLine) [] ["NoNumber", "NoTree"])(q_NoNumber:cx K (.ref a_NoNumber) ["NoNumber"] ["NoNumber", "NoTree"])(q_NoPlace:cx K (.ref a_NoPlace) [] ["NoNumber", "NoTree"])(q_NoRoot:cx K (.ref a_NoRoot) [] ["NoNumber", "NoTree"])(q_NoText:cx K (.ref a_NoText) [] ["NoNumber", "NoTree"])(q_NoTree:cx K (.ref a_NoTree) ["NoTree"] ["NoNumber", "NoTree"])(q_NoWeb:cx K (.ref a_NoWeb) [] ["NoNumber", "NoTree"])(q_TooGreat:cx K (.ref a_TooGreat) [] ["NoNumber", "NoTree"])(q_ValueError:cx K 8e4 ["NoNumber", "NoTree"] ["NoNumber", "NoTree"])(m_NoLine:mg "NoLine" = some (.ref a_NoLine))(m_NoNumber:mg "NoNumber" = some (.ref a_NoNumber))(m_NoPlace:mg "NoPlace" = some (.ref a_NoPlace))(m_NoRoot:mg "NoRoot" = some (.ref a_NoRoot))(m_NoText:mg "NoText" = some (.ref a_NoText))(m_NoTree:mg "NoTree" = some (.ref a_NoTree))(m_NoWeb:mg "NoWeb" = some (.ref a_NoWeb))(m_TooGreat:mg "TooGreat" = some (.ref a_TooGreat)):Gf P w K mg base 2e5 1 "_law_kind_of" 1 cP:=
 JH F jd rfl hm 1e8 fun cdv A outer s H E hr=>
 aJ (bK 1 jd.nd (eE (aI (qE q_NoPlace nm.isinstance m_NoPlace 2e6) (aI (qE q_NoNumber nm.isinstance m_NoNumber 2e6) (aI (qE q_NoLine nm.isinstance m_NoLine 2e6) (aI (qE q_NoRoot nm.isinstance m_NoRoot 2e6) (aX)))))))
 (aJ (bK 1 jd.nd (cn 8e9 (eE (aI (qE q_NoTree nm.isinstance m_NoTree 2e6) (aI (qE q_NoWeb nm.isinstance m_NoWeb 2e6) (aI (qE q_NoText nm.isinstance m_NoText 2e6) (aI (qE q_TooGreat nm.isinstance m_TooGreat 2e6) (aX))))))))
 (aJ (il (qX (tW (jg (wQ (JL q_ValueError nm.isinstance nm.ValueError uo 2e6))) (sg (cc (r9 4e3) (NA 8e9 (aI (An) (aX))) (bA))))) (aR (bG (yX))) (eX))
 (aR (bG (bO (eE (aI (yX) (aI (yX) (aI (yX) (aI (yX) (aI (yX) (aI (yX) (aI (yX) (aI (yX) (aX)))))))))) (Nz 8e9 (aI (An) (aX))))))))
theorem ui(nm:Nm mg)(F:ik K "_law_named" "_law_named" eO f fd)(hm:mg "_law_named" = some 4e4):dk P w K mg base 2e5 1 "_law_named" 2 dA:=
 cW F nv rfl hm 1e6 fun cdv A outer s H E hr=>
 aJ (kU 2 nv.nd (bM (N:=["_law_web", "_law_names", "_law_ties"]) (sc:=av eO) (Nc:=["_law_one", "_law_other", "_law_names"]) (cap:=[none,none,some 1]) rfl rfl 0e9) (qW 6e2) (fun _ _ _ _ _=>lB (cY (gO 0 lG) (cY (gO 1 lG) (lC)))) 5e0 (fun _ _ _ _ _=>bQ (aI (bO (aF 2) 2e6) (aI (bO (aF 2) 8e9) (aX)))))
 (aR (bG (bQ (aI 6e2 (aI (bB gm nm.tuple (aI (bB mh nm.sorted (aI (bB (Dv 4e3) nm.set (aI (dP (bM (N:=["_law_web", "_law_names", "_law_ties"]) (sc:=av eO) (Nc:=["_law_tie"]) (cap:=[none]) rfl rfl 0e9) (qW (aF 2)) (fun _ _ _ _ _=>gO 0 rG) 5e0 (fun _ _ _ _ _=>bQ (aI (bB AA nm.min 5e3) (aI (bB Dw nm.max 5e3) (aX))))) (aX))) (aX))) (aX))) (aX))))))
theorem qB(nm:Nm mg)(F:ik K "_law_names_by" "_law_names_by" dS f fd)(hm:mg "_law_names_by" = some 4e4)(d__law_draw:dk P w K mg base 2e5 2 "_law_draw" 2 aM):dk P w K mg base 2e5 3 "_law_names_by" 2 cU:=
 cW F kJ rfl hm 1e6 fun cdv A outer s H E hr=>
 aJ (bK 2 kJ.nd (DB nm.range nm.list 3e7))
 (aR (bG (bB gm nm.tuple (aI (dP (bM (N:=["_law_pen", "_law_many", "_law_left"]) (sc:=av dS) (Nc:=["_law_place", "_law_left", "_law_pen"]) (cap:=[none,some 2,some 0]) rfl rfl 0e9) (pP nm.range 3e7) (fun _ _ _ _ _=>gO 0 oi) 5e0 (fun _ _ _ _ _=>Ny 8e9 (aI (aU d__law_draw 1e5 (aI (aF 2) (aI (bB jC nm.len 3e7) (aX)))) (aX)))) (aX)))))
theorem yG(nm:Nm mg)(F:ik K "_law_far" "_law_far" iW f fd)(hm:mg "_law_far" = some 4e4):dk P w K mg base 2e5 1 "_law_far" 1 fe:=
 cW F dv rfl hm 1e8 fun cdv A outer s H E hr=>
 aJ (bK 1 dv.nd 6e2)
 (aJ (kU 2 dv.nd (bM (N:=["_law_web", "_law_many", "_law_far_here", "_law_place", "_law_size", "_law_one", "_law_other", "_law_a", "_law_b"]) (sc:=av iW) (Nc:=["_law_place", "_law_many"]) (cap:=[none,some 1]) rfl rfl 0e9) (pP nm.range 3e7) (fun _ _ _ _ _=>gO 0 uj) 5e0 (fun _ _ _ _ _=>xb (eE (aI (Bh) (aX))) 8e9))
 (aJ (jT UZ (pP nm.range 3e7) (gO 3 dv.nd) (aJ (oA (bA) (uz (bO (aF 2) (aF 3)) (aF 3)))
 (aR (jT UZ (Bm nm.range (aI (bA) 3e7)) (gO 4 dv.nd) (aR (jT UZ (qW 6e2) (lB (cY (gO 5 dv.nd) (cY (gO 6 dv.nd) (lC)))) (aR (jT UZ (qW (eE (aI (bQ (aI (aF 5) (aI (aF 6) (aX)))) (aI (bQ (aI (aF 6) (aI (aF 5) (aX)))) (aX))))) (lB (cY (gO 7 dv.nd) (cY (gO 8 dv.nd) (lC)))) (aR (il (qX (xc (cc (kQ 4e3) (bO (bO (aF 2) (aF 3)) (aF 7)) (iT (aF 4) (bA))) (su (cc (Jk) (bO (bO (aF 2) (aF 3)) (aF 8)) (Bh))))) (aR (oA (aF 4) (uz (bO (aF 2) (aF 3)) (aF 8)))) (eX)))))))))))
 (aR (bG (aF 2)))))
theorem uh(nm:Nm mg)(F:ik K "_law_steps" "_law_steps" fU f fd)(hm:mg "_law_steps" = some 4e4)(d__law_far:dk P w K mg base 2e5 1 "_law_far" 1 fe):dk P w K mg base 2e5 2 "_law_steps" 2 eA:=
 cW F fV rfl hm 1e6 fun cdv A outer s H E hr=>
 aJ (bK 2 fV.nd (aU d__law_far 1e5 5e3))
 (aJ (bK 3 fV.nd (eE (aX)))
 (aJ (jT UZ (pP nm.range (aI 6e2 (aX))) (gO 4 fV.nd) (aR (bK 3 fV.nd (cn (aF 3) (dP (bM (N:=["_law_web", "_law_k", "_law_far_here", "_law_ties", "_law_one"]) (sc:=av fU) (Nc:=["_law_b", "_law_one", "_law_k", "_law_far_here"]) (cap:=[none,some 4,some 1,some 2]) rfl rfl 0e9) (Bm nm.range (aI (cn (aF 4) (bA)) (aI 6e2 (aX)))) (fun _ _ _ _ _=>gO 0 rF) (fun _ _ _ _ _=>lQ (qX (xc (cc (LM) (bO (bO (aF 3) 8e9) 2e6) (Bh)) (su (cc (gL (op:=.LtE) 4e3) (bO (bO (aF 3) 8e9) 2e6) (aF 2)))))) (fun _ _ _ _ _=>bQ (aI 8e9 5e3)))))))
 (aR (bG (bQ (aI 6e2 (aI (bB gm nm.tuple (aI (aF 3) (aX))) (aX))))))))
theorem pE(nm:Nm mg)(F:ik K "_law_sparse_by" "_law_sparse_by" bz f fd)(hm:mg "_law_sparse_by" = some 4e4)(d__law_draw:dk P w K mg base 2e5 2 "_law_draw" 2 aM)(d__law_named:dk P w K mg base 2e5 1 "_law_named" 2 dA)(d__law_names_by:dk P w K mg base 2e5 3 "_law_names_by" 2 cU):dk P w K mg base 2e5 4 "_law_sparse_by" 1 dW:=
 cW F br rfl hm 1e8 fun cdv A outer s H E hr=>
 aJ (bK 1 br.nd (aU d__law_draw 1e5 (aI 2e6 6e7)))
 (aJ (bK 2 br.nd (cn (bA) (aU d__law_draw 1e5 (aI 2e6 6e7))))
 (aJ (bK 3 br.nd (eE (aX)))
 (aJ (jT UZ (pP nm.range 7e1) (gO 4 br.nd) (aR (bK 3 br.nd (cn (aF 3) (dP (bM (N:=["_law_pen", "_law_way", "_law_many", "_law_every", "_law_other", "_law_ties"]) (sc:=av bz) (Nc:=["_law_one", "_law_other"]) (cap:=[none,some 4]) rfl rfl 0e9) (pP nm.range (aI (aF 4) (aX))) (fun _ _ _ _ _=>gO 0 nq) 5e0 (fun _ _ _ _ _=>bQ (aI 2e6 3e7)))))))
 (aJ (il (cc (kQ 4e3) 8e9 (bA)) (aR (kU 5 br.nd 11e4 (qW (aF 3)) (fun _ _ _ _ _=>gO 0 nk) (fun _ _ _ _ _=>lQ (cc (kQ 4e3) (aU d__law_draw 1e5 (aI 8e9 6e7)) (bA))) (fun _ _ _ _ _=>aF 0))) (aR (il (cc (kQ 4e3) 8e9 (bA)) (aR (kU 5 br.nd 11e4 (qW (aF 3)) (fun _ _ _ _ _=>gO 0 nj) (fun _ _ _ _ _=>lQ (cc (kQ 4e3) (aU d__law_draw 1e5 (aI 8e9 6e7)) (bA))) (fun _ _ _ _ _=>aF 0))) (aR (il (cc (kQ 4e3) 8e9 (bA)) (aR (bK 5 br.nd (cn (dP 5e5 (pP nm.range (aI (iT (aF 2) (bA)) (aX))) (fun _ _ _ _ _=>gO 0 ni) 5e0 (fun _ _ _ _ _=>bQ (aI 2e6 (aI (cn 2e6 (bA)) (aX))))) (xb (eE (aI (bQ (aI (bA) (aI (iT (aF 2) (bA)) (aX)))) (aX))) (bB Jn nm.int (aI (ly (gL (op:=.Gt) 4e3) (aF 2) (bA)) (aX))))))) (aR (il (cc (kQ 4e3) 8e9 (bA)) (aR (kU 5 br.nd 5e5 (pP nm.range (aI (iT (aF 2) (bA)) (aX))) (fun _ _ _ _ _=>gO 0 nh) 5e0 (fun _ _ _ _ _=>bQ (aI 2e6 (aI (cn 2e6 (bA)) (aX)))))) (aR (il (cc (kQ 4e3) 8e9 (bA)) (aR (kU 5 br.nd 5e5 (Bm nm.range (aI (bA) 7e1)) (fun _ _ _ _ _=>gO 0 ng) 5e0 (fun _ _ _ _ _=>bQ (aI (bA) 5e3)))) (aR (kU 5 br.nd (bM (N:=["_law_pen", "_law_way", "_law_many", "_law_every", "_law_other", "_law_ties"]) (sc:=av bz) (Nc:=["_law_place", "_law_pen"]) (cap:=[none,some 0]) rfl rfl 0e9) (Bm nm.range (aI (bA) 7e1)) (fun _ _ _ _ _=>gO 0 nc) 5e0 (fun _ _ _ _ _=>bQ (aI (aU d__law_draw 1e5 (aI 8e9 5e3)) 5e3)))))))))))))
 (aR (bG (aU d__law_named 1e5 (aI (bQ (aI (aF 2) (aI (bB gm nm.tuple (aI (aF 5) (aX))) (aX)))) (aI (aU d__law_names_by 1e5 (aI 2e6 7e1)) (aX))))))))))
theorem tK(nm:Nm mg)(F:ik K "_law_web_by" "_law_web_by" h7 f fd)(hm:mg "_law_web_by" = some 4e4)(d__law_sparse_by:dk P w K mg base 2e5 4 "_law_sparse_by" 1 dW)(d__law_draw:dk P w K mg base 2e5 2 "_law_draw" 2 aM)(d__law_steps:dk P w K mg base 2e5 2 "_law_steps" 2 eA):dk P w K mg base 2e5 5 "_law_web_by" 1 f6:=
 cW F dh rfl hm 1e8 fun cdv A outer s H E hr=>
 aJ (bK 1 dh.nd (aU d__law_sparse_by 1e5 5e3))
 (aJ (bK 2 dh.nd (aU d__law_draw 1e5 (aI 2e6 6e7)))
 (aJ (il (cc (gL (op:=.Lt) 4e3) (aF 2) (bA)) (aR (bK 1 dh.nd (aU d__law_steps 1e5 (aI 8e9 6e7)))) (eX))
 (aJ (il (qX (xc (cc (kQ 4e3) (aF 2) (bA)) (su (cc (r9 4e3) (bO 8e9 (bA)) (bQ (aX)))))) (aJ (bK 3 dh.nd (aU d__law_draw 1e5 (aI 2e6 (aI (bB jC nm.len (aI (bO 8e9 (bA)) (aX))) (aX)))))
 (aR (bG (bQ (aI (bO 8e9 (bA)) (aI (cn (qY (bO 8e9 (bA)) (gX) (fu (aF 3))) (qY (bO 8e9 (bA)) (fu (cn (aF 3) (bA))) (gX))) (aX))))))) (eX))
 (aJ (il (qX (xc (cc (kQ 4e3) (aF 2) (bA)) (su (cc (gL (op:=.Gt) 4e3) (bO 8e9 (bA)) (bA))))) (aJ (bK 4 dh.nd (aU d__law_draw 1e5 (aI 2e6 (aI (bO 8e9 (bA)) (aX)))))
 (aJ (bK 5 dh.nd (bB gm nm.tuple (aI (bB mh nm.sorted (aI (bQ (aI (aF 4) (aI (ur (cn (cn (aF 4) (bA)) (aU d__law_draw 1e5 (aI 2e6 (aI (iT (bO 8e9 (bA)) (bA)) (aX))))) (bO 8e9 (bA))) (aX)))) (aX))) (aX))))
 (aR (bG (bQ (aI (bO 8e9 (bA)) (aI (bB gm nm.tuple (aI (bB mh nm.sorted (aI (bB (Dv 4e3) nm.set (aI (cn (bO 8e9 (bA)) (bQ (aI (aF 5) (aX)))) (aX))) (aX))) (aX))) (aX)))))))) (eX))
 (aR (bG 8e9))))))
theorem rA(nm:Nm mg)(F:ik K "_law_tree_by" "_law_tree_by" eG f fd)(hm:mg "_law_tree_by" = some 4e4)(d__law_draw:dk P w K mg base 2e5 2 "_law_draw" 2 aM)(d__law_named:dk P w K mg base 2e5 1 "_law_named" 2 dA)(d__law_names_by:dk P w K mg base 2e5 3 "_law_names_by" 2 cU):dk P w K mg base 2e5 4 "_law_tree_by" 1 fg:=
 cW F jc rfl hm 1e8 fun cdv A outer s H E hr=>
 aJ (bK 1 jc.nd (cn (bA) (aU d__law_draw 1e5 (aI 2e6 6e7))))
 (aJ (kU 2 jc.nd (bM (N:=["_law_pen", "_law_many", "_law_ties"]) (sc:=av eG) (Nc:=["_law_place", "_law_pen"]) (cap:=[none,some 0]) rfl rfl 0e9) (Bm nm.range (aI (bA) 3e7)) (fun _ _ _ _ _=>gO 0 pF) 5e0 (fun _ _ _ _ _=>bQ (aI (aU d__law_draw 1e5 (aI 8e9 5e3)) 5e3)))
 (aR (bG (aU d__law_named 1e5 (aI (bQ (aI 8e9 (aI (bB gm nm.tuple 7e1) (aX)))) (aI (aU d__law_names_by 1e5 (aI 2e6 3e7)) (aX)))))))
theorem rB(nm:Nm mg)(F:ik K "_law_no_tree" "_law_no_tree" gn f fd)(hm:mg "_law_no_tree" = some 4e4)(d__law_draw:dk P w K mg base 2e5 2 "_law_draw" 2 aM):dk P w K mg base 2e5 3 "_law_no_tree" 2 fj:=
 cW F dq rfl hm 1e6 fun cdv A outer s H E hr=>
 aJ (oA 8e9 (lB (cY (gO 2 dq.nd) (cY (gO 3 dq.nd) (lC)))))
 (aJ (bK 4 dq.nd (aU d__law_draw 1e5 (aI 2e6 (aI (cn (bB jC nm.len (aI (aF 3) (aX))) (bA)) (aX)))))
 (aJ (bK 5 dq.nd (eE (aI (bQ (aI (aF 2) (aI (cn (qY (aF 3) (gX) (fu (aF 4))) (qY (aF 3) (fu (cn (aF 4) (bA))) (gX))) (aX)))) (aI (bQ (aI (aF 2) (aI (cn (DA (aF 3) (Ar (bA))) (bQ (aI (bQ (aI (bA) 7e1)) (aX)))) (aX)))) (aI (bQ (aI (cn (aF 2) (bA)) (aI (aF 3) (aX)))) (aI (eE (aI (aF 2) (aI (aF 3) (aX)))) (aX)))))))
 (aJ (bK 5 dq.nd (cn (aF 5) (eE (aI (bQ (aI (aF 2) (aI (bB vH nm.list (aI (aF 3) (aX))) (aX)))) (aI (Bh) (aI (bA) (aI (bQ (aX)) (aI (Np) (aI (yX) (aI (bQ (aI (bA) (aI (bQ (aI (bQ (aI (bA) 6e7)) (aI (bQ (aI (bA) 6e7)) (aI (bQ (aI (bA) 6e7)) (aX))))) (aX)))) (aX)))))))))))
 (aJ (kW (As (aF 5) (aI (bQ (aI (bA) (aI (bQ (aI (bQ (aI (bA) 6e7)) (aI (bQ (aI (bA) 6e7)) (aI (bQ (aI (bA) 6e7)) (aX))))) (aX)))) (aX))))
 (aR (bG (bO (aF 5) (aU d__law_draw 1e5 (aI 2e6 6e7)))))))))
theorem rD(nm:Nm mg)(F:ik K "_law_is_tree" "_law_is_tree" eH f fd)(hm:mg "_law_is_tree" = some 4e4)(d__law_whole:dk P w K mg base 2e5 1 "_law_whole" 1 fD)(d__law_far:dk P w K mg base 2e5 1 "_law_far" 1 fe):dk P w K mg base 2e5 2 "_law_is_tree" 1 bh:=
 cW F rl rfl hm 1e8 fun cdv A outer s H E hr=>
 aJ (il (qX (tW (jg (wQ (lx (T:="tuple") 0e4 jH 0e4 0e4 nm.isinstance nm.tuple 2e6))) (tW (cc (r9 4e3) (bB jC nm.len 5e3) (bA)) (tW (jg (wQ (aU d__law_whole 1e5 (aI 6e2 (aX))))) (sg (jg (NG (gL (op:=.LtE) 4e3) (gL (op:=.LtE) 4e3) (bA) 6e2 (bA)))))))) (aR (bG (An))) (eX))
 (aJ (il (qX (tW (jg (wQ (lx (T:="tuple") 0e4 jH 0e4 0e4 nm.isinstance nm.tuple 6e2))) (tW (cc (r9 4e3) (bB jC nm.len (aI 6e2 (aX))) (iT 6e2 (bA))) (sg (cc (r9 4e3) (bB vH nm.list (aI 6e2 (aX))) (bB mh nm.sorted (aI (bB (Dv 4e3) nm.set (aI 6e2 (aX))) (aX)))))))) (aR (bG (An))) (eX))
 (aJ (il (jg (wQ (bB xo nm.all (aI (dP (bM (N:=["_law_thing"]) (sc:=av eH) (Nc:=["_law_one", "_law_other", "_law_thing"]) (cap:=[none,none,some 0]) rfl rfl 0e9) (qW 6e2) (fun _ _ _ _ _=>lB (cY (gO 0 ki) (cY (gO 1 ki) (lC)))) 5e0 (fun _ _ _ _ _=>JN (gL (op:=.LtE) 4e3) (gL (op:=.Lt) 4e3) (gL (op:=.Lt) 4e3) (bA) 2e6 8e9 (bO (aF 2) (bA)))) (aX))))) (aR (bG (An))) (eX))
 (aR (bG (ly (Dp 4e3) (Bh) (bO (aU d__law_far 1e5 5e3) (bA)))))))
theorem wx(nm:Nm mg)(F:ik K "_law_word" "_law_word" fB f fd)(hm:mg "_law_word" = some 4e4):dk P w K mg base 2e5 1 "_law_word" 1 dz:=
 cW F fC rfl hm 1e8 fun cdv A outer s H E hr=>
 aJ (bK 1 fC.nd (dP (bM (N:=["_law_web", "_law_near", "_law_found", "_law_turn", "_law_least", "_law_other"]) (sc:=av fB) (Nc:=["_law_place", "_law_web"]) (cap:=[none,some 0]) rfl rfl 0e9) (pP nm.range (aI 6e2 (aX))) (fun _ _ _ _ _=>gO 0 tR) 5e0 (fun _ _ _ _ _=>dP (IE (N:=["_law_place", "_law_web"]) (Nc:=["_law_one", "_law_other", "_law_place"]) (cap:=[none,none,some 0]) rfl rfl 0e9) (qW (bO 8e9 (bA))) (fun _ _ _ _ _=>lB (cY (gO 0 mB) (cY (gO 1 mB) (lC)))) (fun _ _ _ _ _=>lQ (cc (F7 4e3) (aF 2) (bQ (aI 2e6 3e7)))) (fun _ _ _ _ _=>iT (cn 2e6 8e9) (aF 2)))))
 (aJ (bK 2 fC.nd (eE (aX)))
 (aJ (jT UZ (pP nm.range (aI (iT 6e2 (bA)) (aX))) (gO 3 fC.nd) (aJ (bK 4 fC.nd (bO (dP (bM (N:=["_law_web", "_law_near", "_law_found", "_law_turn", "_law_least", "_law_other"]) (sc:=av fB) (Nc:=["_law_place", "_law_near"]) (cap:=[none,some 1]) rfl rfl 0e9) (pP nm.range (aI 6e2 (aX))) (fun _ _ _ _ _=>gO 0 tQ) (fun _ _ _ _ _=>lQ (cc (kQ 4e3) (bB jC nm.len (aI (bO 8e9 2e6) (aX))) (bA))) (fun _ _ _ _ _=>aF 0)) (bA)))
 (aJ (bK 5 fC.nd (bO (bO 8e9 (aF 4)) (bA)))
 (aJ (kW (As (aF 2) (aI (aF 5) (aX))))
 (aJ (kW (vq 4e3 (bO 8e9 (aF 4)) (aI (aF 5) (aX))))
 (aR (kW (vq 4e3 (bO 8e9 (aF 5)) (aI (aF 4) (aX))))))))))
 (aR (bG (bB gm nm.tuple 7e1)))))
theorem wy(nm:Nm mg)(F:ik K "_law_told" "_law_told" jl f fd)(hm:mg "_law_told" = some 4e4){a_RootError:Addr}(m_RootError:mg "RootError" = some (.ref a_RootError))(kn_RootError:xr K "RootError" a_RootError ["NoNumber", "NoTree"])(d_word_of:w9 P w K mg base 11 "word_of" 1 eK)(d_tree_by:w9 P w K mg base 7 "tree_by" 2 eM)(d__law_kind_of:Gf P w K mg base 2e5 1 "_law_kind_of" 1 cP):dk P w K mg base 2e5 12 "_law_told" 3 bU:=
 cW F pf rfl hm (F.b3 (by rfl) fun _ _ _ _ _ _ _ _ _=>by rfl) fun cdv A outer s H E hr=>
 aR (Nl zr pf.nd kn_RootError m_RootError (fun pins E=>aR (bG (MD (cc (kQ 4e3) 2e6 (bA)) (vI d_word_of (Jc zr) 1e5 3e7) (vI d_tree_by (Jc zr) 1e5 (aI 8e9 7e1))))) (fun ea=>aR (bG (Gv d__law_kind_of ((hr.h.mark _).mono 0e4) (aI (aF 3) (aX))))))
theorem pD(nm:Nm mg)(F:ik K "_law_word_good" "_law_word_good" dB f fd)(hm:mg "_law_word_good" = some 4e4)(d__law_whole:dk P w K mg base 2e5 1 "_law_whole" 1 fD):dk P w K mg base 2e5 2 "_law_word_good" 2 dU:=
 cW F pC rfl hm 1e6 fun cdv A outer s H E hr=>
 aJ (il (qX (tW (jg (wQ (lx (T:="tuple") 0e4 jH 0e4 0e4 nm.isinstance nm.tuple 8e9))) (sg (cc (r9 4e3) (bB jC nm.len 3e7) (iT 2e6 (bA)))))) (aR (bG (An))) (eX))
 (aR (bG (bB xo nm.all (aI (dP (bM (N:=["_law_many", "_law_thing"]) (sc:=av dB) (Nc:=["_law_one", "_law_many"]) (cap:=[none,some 0]) rfl rfl 0e9) (qW 8e9) (fun _ _ _ _ _=>gO 0 m8) 5e0 (fun _ _ _ _ _=>jh (aU d__law_whole 1e5 5e3) (lR (IP (gL (op:=.LtE) 4e3) (gL (op:=.Lt) 4e3) (bA) 2e6 8e9)))) (aX)))))
theorem m7(nm:Nm mg)(F:ik K "_law_treed_right" "_law_treed_right" dM f fd)(hm:mg "_law_treed_right" = some 4e4)(d__law_told:dk P w K mg base 2e5 12 "_law_told" 3 bU)(d__law_word_good:dk P w K mg base 2e5 2 "_law_word_good" 2 dU)(d__law_is_tree:dk P w K mg base 2e5 2 "_law_is_tree" 1 bh)(d__law_word:dk P w K mg base 2e5 1 "_law_word" 1 dz):dk P w K mg base 2e5 13 "_law_treed_right" 2 cM:=
 cW F jj rfl hm 1e6 fun cdv A outer s H E hr=>
 aJ (bK 2 jj.nd (aU d__law_told 1e5 (aI (bA) (aI 2e6 3e7))))
 (aJ (il (jg (wQ (aU d__law_word_good 1e5 (aI 2e6 3e7)))) (aR (bG (ly (kQ 4e3) (aF 2) (yX)))) (eX))
 (aR (bG (jh (lx (T:="tuple") 0e4 jH 0e4 0e4 nm.isinstance nm.tuple (aF 2)) (jh (ly (kQ 4e3) (bO (aF 2) (bA)) 2e6) (jh (aU d__law_is_tree 1e5 7e1) (lR (ly (kQ 4e3) (aU d__law_word 1e5 7e1) 8e9))))))))
theorem wB(nm:Nm mg)(F:ik K "_law_bent" "_law_bent" jo f fd)(hm:mg "_law_bent" = some 4e4)(d__law_draw:dk P w K mg base 2e5 2 "_law_draw" 2 aM):dk P w K mg base 2e5 3 "_law_bent" 3 dZ:=
 cW F jq rfl hm (F.b3 (by rfl) fun _ _ _ _ _ _ _ _ _=>by rfl) fun cdv A outer s H E hr=>
 aJ (bK 3 jq.nd (aU d__law_draw 1e5 (aI (aF 2) (aI (cn (bB jC nm.len 5e3) (bA)) (aX)))))
 (aJ (bK 4 jq.nd (bO (eE (aI 8e9 (aI (Ar (bA)) (aI (An) (aI (Bh) (aI (yX) (aI (bQ 6e7) (aI (aU d__law_draw 1e5 (aI (aF 2) 3e7)) (aX))))))))) (aU d__law_draw 1e5 (aI (aF 2) 6e7))))
 (aJ (bK 5 jq.nd (eE (aI (cn (cn (qY 2e6 (gX) (fu (aF 3))) (bQ (aI (aF 4) (aX)))) (qY 2e6 (fu (cn (aF 3) (bA))) (gX))) (aI (cn (cn (qY 2e6 (gX) (fu (aF 3))) (bQ (aI (aF 4) (aX)))) (qY 2e6 (fu (aF 3)) (gX))) (aI (cn (qY 2e6 (gX) (fu (aF 3))) (qY 2e6 (fu (cn (aF 3) (bA))) (gX))) (aX))))))
 (aR (bG (bO (cn (aF 5) (eE (aI (bB vH nm.list 5e3) (aI (Bh) (aI (bA) (aI (bQ 5e3) (aI (DA 2e6 (Ar (bA))) (aX)))))))) (aU d__law_draw 1e5 (aI (aF 2) 6e7)))))))
theorem L5(nm:Nm mg)(F:ik K "law" "law" kT f fd)(d__law_cell_at:dk P w K mg base 2e5 1 "_law_cell_at" 2 fk)(d__law_pen_of:dk P w K mg base 2e5 1 "_law_pen_of" 1 f7)(d__law_tree_by:dk P w K mg base 2e5 4 "_law_tree_by" 1 fg)(d__law_web_by:dk P w K mg base 2e5 5 "_law_web_by" 1 f6)(d__law_no_tree:dk P w K mg base 2e5 3 "_law_no_tree" 2 fj)(d_tree_good:dk P w K mg base 2e5 9 "tree_good" 1 bJ)(d__law_is_tree:dk P w K mg base 2e5 2 "_law_is_tree" 1 bh)(d__law_word:dk P w K mg base 2e5 1 "_law_word" 1 dz)(d__law_told:dk P w K mg base 2e5 12 "_law_told" 3 bU)(d__law_draw:dk P w K mg base 2e5 2 "_law_draw" 2 aM)(d__law_bent:dk P w K mg base 2e5 3 "_law_bent" 3 dZ)(d__law_treed_right:dk P w K mg base 2e5 13 "_law_treed_right" 2 cM):sf P w K mg base y6 14 f fd ["_law_script"] (FO 2e5 1 xu):=
 Os F ja rfl fun cdv A outer s H E hr=>
 aJ (jT UZ (qW (cn (eE (aI (aU d__law_cell_at 1e5 (aI 2e6 6e7)) (aX))) (qY 2e6 (fu (bA)) (fu (bA))))) (gO 1 ja.nd) (aJ (bK 2 ja.nd (aU d__law_pen_of 1e5 3e7))
 (aJ (bK 3 ja.nd (aU d__law_tree_by 1e5 7e1))
 (aJ (jT UZ (qW (cn (eE (aI (aF 3) (aI (aU d__law_web_by 1e5 7e1) (aX)))) (dP (bM (N:=["_law_script", "_law_cell", "_law_pen", "_law_web", "_law_thing", "_law_found", "_law_due", "_law_word_here", "_law_many", "_law_bad"]) (sc:=av kT) (Nc:=["_law_turn", "_law_pen", "_law_web"]) (cap:=[none,some 2,some 3]) rfl rfl 0e9) (pP nm.range 6e7) (fun _ _ _ _ _=>gO 0 Fd) 5e0 (fun _ _ _ _ _=>aU d__law_no_tree 1e5 (aI 8e9 7e1))))) (gO 4 ja.nd) (aJ (bK 5 ja.nd (aU d_tree_good 1e5 (aI (aF 4) (aX))))
 (aJ (bK 6 ja.nd (aU d__law_is_tree 1e5 (aI (aF 4) (aX))))
 (aJ (il (qX (tW (jg (wQ (lx (T:="bool") 0e4 vX 0e4 0e4 nm.isinstance nm.bool (aF 5)))) (sg (cc (r9 4e3) (aF 5) (aF 6))))) (aR (bG (An))) (eX))
 (aJ (bK 7 ja.nd (MD (qX (xc (wQ (aF 6)) (su (cc (gL (op:=.Gt) 4e3) (bO (aF 4) (bA)) (bA))))) (aU d__law_word 1e5 (aI (aF 4) (aX))) (yX)))
 (aR (il (cc (Oj) (bB (Bf hr) nm.repr (aI (aU d__law_told 1e5 (aI (bA) (aI (aF 4) (aI (Bh) (aX))))) (aX))) (bB (Bf hr) nm.repr (aI (aF 7) (aX)))) (aR (bG (An))) (eX))))))))
 (aJ (bK 8 ja.nd (cn (bA) (aU d__law_draw 1e5 (aI (aF 2) 6e7))))
 (aJ (bK 7 ja.nd (bB gm nm.tuple (aI (dP (bM (N:=["_law_script", "_law_cell", "_law_pen", "_law_web", "_law_thing", "_law_found", "_law_due", "_law_word_here", "_law_many", "_law_bad"]) (sc:=av kT) (Nc:=["_law_turn", "_law_pen", "_law_many"]) (cap:=[none,some 2,some 8]) rfl rfl 0e9) (pP nm.range (aI (iT (aF 8) (bA)) (aX))) (fun _ _ _ _ _=>gO 0 Fc) 5e0 (fun _ _ _ _ _=>aU d__law_draw 1e5 (aI 8e9 7e1))) (aX))))
 (aJ (jT UZ (qW (eE (aI (aF 7) (aI (aU d__law_bent 1e5 (aI (aF 7) (aI (aF 8) 7e1))) (aI (aU d__law_bent 1e5 (aI (aF 7) (aI (aF 8) 7e1))) (aI (JK (bQ 6e7) (iT (aF 8) (bA))) (aX))))))) (gO 4 ja.nd) (aR (il (jg (wQ (aU d__law_treed_right 1e5 (aI (aF 8) (aI (aF 4) (aX)))))) (aR (bG (An))) (eX))))
 (aR (jT UZ (qW (eE (aI (bA) (aI (bA) (aI (Ar (bA)) (aI (An) (aI (Bh) (aI (yX) (aI (bQ 6e7) (aI (IM (bA) (bA)) (aX))))))))))) (gO 9 ja.nd) (aR (il (cc (r9 4e3) (aU d__law_told 1e5 (aI (bA) (aI (aF 9) (aI (Bh) (aX))))) (yX)) (aR (bG (An))) (eX))))))))))))
 (aR (bG (An)))
end
end Lw
namespace Lv
variable{adj:Int->Int->Prop}{p:Int}
def R(adj:Int->Int->Prop)(p:Int):Nat->Int->Prop
 |0,q=>q=p
 |n+1,q=>R adj p n q\/∃r,adj r q/\R adj p n r
def vd(adj:Int->Int->Prop)(p:Int):Nat->Int->Prop
 |0,q=>q=p
 |n+1,q=>R adj p (n+1) q/\¬ R adj p n q
theorem R.up(h:R adj p n q):R adj p (n+1) q:=.inl h
theorem R.mono(h:R adj p n q)(hm:n<=m):R adj p m q:=by
 induction hm with
 |refl=>exact h
 |step _ ih=>exact ih.up
theorem vd.r(h:vd adj p n q):R adj p n q:=by
 cases n with
 |zero=>exact h
 |succ n=>exact h.1
theorem R.lev(h:R adj p n q):∃j,j<=n/\vd adj p j q:=by
 induction n with
 |zero=>exact⟨0,Q8 _,h⟩
 |succ n ih=>
  by_cases hr:R adj p n q
  ·obtain⟨j,hj,hl⟩:=ih hr;exact⟨j,by omega,hl⟩
  ·exact⟨n+1,Q8 _,h,hr⟩
theorem vd.low(h:vd adj p n q)(hj:j<n):¬ R adj p j q:=by
 cases n with
 |zero=>omega
 |succ n=>exact fun hr=>h.2 (hr.mono 0e0)
theorem vd.one(h:vd adj p n q)(h':vd adj p m q):n=m:=by
 rcases Nat.lt_trichotomy n m with z|z|z
 ·exact absurd h.r (h'.low z)
 ·exact z
 ·exact absurd h'.r (h.low z)
theorem kx:vd adj p (n+1) q↔¬ R adj p n q/\∃r,adj r q/\vd adj p n r:=by
 constructor
 ·rintro ⟨h1, h2⟩
  refine⟨h2,?_⟩;rcases h1 with h1|⟨r,ha,hr⟩
  ·exact absurd h1 h2
  ·refine ⟨r, ha, ?_⟩;cases n with
   |zero=>exact hr
   |succ n=>exact⟨hr,fun z=>h2 (.inr ⟨r,ha,z⟩)⟩
 ·rintro ⟨h1, r, ha, hr⟩
  exact⟨.inr ⟨r,ha,hr.r⟩,h1⟩
def Up(adj:Int->Int->Prop)(p:Int)(D:Int->Prop)(n:Nat)(f:Int->Option Nat):Prop:=∀q,D q->∀j,f q=some j↔(j<=n/\vd adj p j q)
theorem Up.none{D:Int->Prop}{f:Int->Option Nat}(h:Up adj p D n f)(hq:D q):f q=none↔¬ R adj p n q:=by
 constructor
 ·intro e hr;obtain⟨j,hj,hl⟩:=hr.lev;have:=(h q hq j).mpr ⟨hj,hl⟩;rw[e]at this;cases this
 ·intro hr;cases e:f q with
  |none=>rfl
  |some j=>
   obtain⟨hj,hl⟩:=(h q hq j).mp e;exact absurd (hl.r.mono hj) hr
theorem Bg{D:Int->Prop}{f:Int->Option Nat}(h:∀q,D q->f q=if q=p then some 0 else Option.none):Up adj p D 0 f:=fun q hq j=>by
 rw[h q hq];by_cases e:q=p
 ·rw [Qu e];constructor
  ·intro z;cases z;exact⟨Q8 _,e⟩
  ·rintro ⟨h1, _⟩
   have:j=0:=by omega
   rw[this]
 ·rw [Qv e];constructor
  ·intro z;cases z
  ·rintro ⟨h1, h2⟩
   have:j=0:=by omega
   subst this;exact absurd h2 e
theorem Up.next{D:Int->Prop}{f f':Int->Option Nat}(h:Up adj p D n f)(hD:∀a b,adj a b->D a)(e:∀q,D q->∀j,f' q=some j↔(f q=some j\/(f q=Option.none/\j=n+1/\∃r,adj r q/\f r=some n))):Up adj p D (n+1) f':=fun q hq j=>by
 rw[e q hq j];constructor
 ·rintro (z | ⟨z1, z2, r, z3, z4⟩)
  ·obtain⟨hj,hl⟩:=(h q hq j).mp z;exact⟨by omega,hl⟩
  ·subst z2;refine⟨Q8 _,kx.mpr ⟨(h.none hq).mp z1,r,z3,?_⟩⟩;exact((h r (hD r q z3) n).mp z4).2
 ·rintro ⟨hj, hl⟩
  by_cases hn:j<=n
  ·exact .inl ((h q hq j).mpr ⟨hn,hl⟩)
  ·have : j = n + 1 := by omega
   subst this;obtain⟨h1,r,ha,hr⟩:=kx.mp hl;exact .inr ⟨(h.none hq).mpr h1,rfl,r,ha,(h r (hD r q ha) n).mpr ⟨Q8 _,hr⟩⟩
def w6(adj:Int->Int->Prop)(p:Int)(D:Int->Prop)(f:Int->Option Nat):Prop:=∀q,D q->∀j,f q=some j↔vd adj p j q
theorem vd.below:∀{q:Int},vd adj p n q->∀j,j<=n->∃r,vd adj p j r:=by
 induction n with
 | zero => intro q h j hj; exact ⟨q, by have : j = 0 := by omega
                                        subst this;exact h⟩
 |succ n ih=>
  intro q h j hj;by_cases e:j=n+1
  ·subst e;exact⟨q,h⟩
  ·obtain⟨_,r,_,hr⟩:=kx.mp h;exact ih hr j 0e0
theorem Up.full{D:Int->Prop}{f:Int->Option Nat}(h:Up adj p D n f)(hD:∀a b,adj a b->D b)(e:∀q,D q->¬ vd adj p (n+1) q):w6 adj p D f:=fun q hq j=>by
 rw[h q hq j];constructor
 ·exact fun z=>z.2
 ·intro hl;refine⟨?_,hl⟩;apply Nat.le_of_not_lt;intro hj;obtain⟨r,hr⟩:=hl.below (n+1) 0e0;obtain⟨_,s,hs,_⟩:=kx.mp hr;exact e r (hD s r hs) hr
theorem DU(hp:0<=p/\p<m)(hD:∀a b,adj a b->0<=b/\b<m)(h:vd adj p n q):n<m:=by
 have hr:∀j,∃r,j<=n->vd adj p j r:=fun j=>by
  by_cases hj:j<=n
  ·obtain⟨r,hr⟩:=h.below j hj;exact⟨r,fun _=>hr⟩
  ·exact⟨0,fun z=>absurd z hj⟩
 let r:Nat->Int:=fun j=>(hr j).choose
 have hr':∀j,j<=n->vd adj p j (r j):=fun j hj=>(hr j).choose_spec hj
 have rng:∀j,j<=n->0<=r j/\r j<m:=fun j hj=>by
  have:=hr' j hj;cases j with
  |zero=>rw[show r 0=p from this];exact hp
  |succ j=>
   obtain⟨_,s,hs,_⟩:=kx.mp this;exact hD s _ hs
 have nd:((List.range (n+1)).map fun j=>(r j).toNat).Nodup:=by
  rw[List.Nodup,Ul];refine U0 (R:=(·<·)) ?_ TC;intro a b ha hb hab e;rw[QC]at ha hb;have r1:=rng a 0e0;have r2:=rng b 0e0;have e':r a=r b:=by omega
  have h1:=hr' a 0e0;have h2:=hr' b 0e0;rw[e']at h1;have:=h1.one h2;omega
 have sub:((List.range (n+1)).map fun j=>(r j).toNat) ⊆ List.range m:=fun x hx=>by
  obtain⟨j,hj,rfl⟩:=Te.mp hx;rw[QC]at hj⊢;have:=rng j 0e0;omega
 have:=nd.length_le_of_subset sub;rw[Rz,SZ,SZ]at this;omega
end Lv
namespace Lv
def nG(f:Int->Option Nat)(r:Int)(v:Nat):Int->Option Nat:=fun q=>if q=r then some v else f q
def CT(n:Nat)(f:Int->Option Nat)(qr:Int×Int):Int->Option Nat:=if f qr.1=some n/\f qr.2=none then nG f qr.2 (n+1) else f
theorem GC{f0 f:Int->Option Nat}{done:List (Int×Int)}{qr:Int×Int}(h:∀q j,f q=some j↔(f0 q=some j\/(f0 q=none/\j=n+1/\∃r,(r,q)∈done/\f0 r=some n))):
  ∀q j,CT n f qr q=some j↔(f0 q=some j\/(f0 q=none/\j=n+1/\∃r,(r,q)∈done++[qr]/\f0 r=some n)):=by
 intro q j
 have hn:∀r,f r=some n↔f0 r=some n:=fun r=>by
  rw[h r n];constructor
  ·rintro (z | ⟨_, z, _⟩)
   ·exact z
   ·omega
  ·exact .inl
 have h0:∀r,f r=none->f0 r=none:=fun r e=>by
  cases e0:f0 r with
  |none=>rfl
  |some i=>
   have:=(h r i).mpr (.inl e0);rw[e]at this;cases this
 obtain⟨a,b⟩:=qr;unfold CT;dsimp only;by_cases c:f a=some n/\f b=none
 ·rw [Qu c];unfold nG;by_cases e:q=b
  ·subst e;rw[Qu rfl];have z:=h0 q c.2;constructor
   ·intro e;cases e;exact .inr ⟨z,rfl,a,by simp,(hn a).mp c.1⟩
   ·rintro (y | ⟨_, y, _⟩)
    ·rw[z]at y;cases y
    ·rw[y]
  ·rw [Qv e, h q j];constructor
   ·rintro (y | ⟨y1, y2, r, y3, y4⟩)
    ·exact .inl y
    ·exact .inr ⟨y1,y2,r,QL _ y3,y4⟩
   ·rintro (y | ⟨y1, y2, r, y3, y4⟩)
    ·exact .inl y
    ·rcases QK.mp y3 with y3 | y3
     ·exact .inr ⟨y1,y2,r,y3,y4⟩
     ·simp at y3;exact absurd y3.2 e
 ·rw [Qv c, h q j];constructor
  ·rintro (y | ⟨y1, y2, r, y3, y4⟩)
   ·exact .inl y
   ·exact .inr ⟨y1,y2,r,QL _ y3,y4⟩
  ·rintro (y | ⟨y1, y2, r, y3, y4⟩)
   ·exact .inl y
   ·rcases QK.mp y3 with y3 | y3
    ·exact .inr ⟨y1,y2,r,y3,y4⟩
    ·simp at y3;obtain⟨rfl,rfl⟩:=y3;have c2:f q≠none:=fun z=>c ⟨(hn r).mpr y4,z⟩;cases e:f q with
     |none=>exact absurd e c2
     |some i=>
      have:=(h q i).mp e;rcases this with w|⟨w1,w2,w3⟩
      ·rw[y1]at w;cases w
      ·exact .inr ⟨y1,y2,w3⟩
theorem yj{n:Nat}{f0:Int->Option Nat}:∀(qs done:List (Int×Int))(f:Int->Option Nat),
  (∀q j,f q=some j↔(f0 q=some j\/(f0 q=none/\j=n+1/\∃r,(r,q)∈done/\f0 r=some n))) ->
  ∀q j,qs.foldl (CT n) f q=some j↔(f0 q=some j\/(f0 q=none/\j=n+1/\∃r,(r,q)∈done++qs/\f0 r=some n))
 |[],done,f,h=>by simpa using h
 |qr::qs,done,f,h=>by
  have:=yj qs (done++[qr]) (CT n f qr) (GC h);simpa[Sh] using this
theorem EE{adj:Int->Int->Prop}{p:Int}{D:Int->Prop}{f:Int->Option Nat}{qs:List (Int×Int)}(h:Up adj p D n f)(hD:∀a b,adj a b->D a)(ha:∀a b,adj a b↔(a,b)∈qs):Up adj p D (n+1) (qs.foldl (CT n) f):=by
 refine h.next hD fun q hq j=>?_;have:=yj (n:=n) (f0:=f) qs [] f (fun q j=>by simp) q j;rw[this];dsimp[Sn,ha]
end Lv
namespace Lw
open PySem L2 RS
theorem bf:1000<=sizeLine:=by decide
theorem oQ:bu lo n=(List.range n).map fun(i:Nat)=>D.int (lo+(i:Int)):=rfl
theorem AJ(s:Int):∃r:Int,gN [.int s] Y=.ok (.int r) Y:=by
 have h0:0<=(s+7919)%2147483647:=U1 _ 0e4;have h1:(s+7919)%2147483647<2147483647:=U2 _ 0e4;generalize ht:(s+7919)%2147483647=t at h0 h1;refine⟨(t*t+48271*t+12345)%2147483629,?_⟩;have c1:xa t t:=.inl 7e9;have c2:xa 48271 t:=.inl 7e9;unfold gN;rw[cu];simp[qU,ht,c1,c2];exact aL 0e6
def bD(a b c:Int):O:=.lst [.int a,.int b,.int c]
theorem rP{a b c:Int}:(bD a b c).low n:=by simp[bD,O.low]
theorem Kd(x:Int):∃a b c:Int,f7 [.int x] Y=.ok 1e0 (Y++[bD a b c]):=by
 have e:∀i j:Int,wW [.int i,.int j] Y=.ok (.int (if j>i then j else i)) Y:=fun _ _=>rfl;have p1:Gg 10 18:=⟨by decide,by decide,by decide⟩;have ib:∀k:Bool,∀Y,qJ [.bl k] Y=.ok (.int (if k then 1 else 0)) Y:=fun _ _=>rfl;refine⟨(if 0-x>x then 0-x else x),(if cA .GtE (if 0-x>x then 0-x else x) (10^(18:Int).toNat) then 1 else 0),(if 0-x>x then 0-x else x)%1000003,?_⟩;unfold f7;rw[cu];have l3:(3:Nat)<=sizeLine:=by decide
 dsimp[nD,aG,aS,aA,ar,au,ah,ao,aC,aT,aa,ae,af,xk,e,bH,aD,bc,cZ,List.set,List.replicate,U3,U4];have pw:C4 (.int 10) (.int 18) Y=.ok (.int (10^(18:Int).toNat)) Y:=nO p1;have md:∀x,tX (.int x) (.int 1000003) Y=.ok (.int (x%1000003)) Y:=fun x=>nO (show (0:Int)<1000003 by decide);dsimp[pw,md,aa,ae,cG,ib,Sx,S8,Qu l3,af,aP];rw[Av 0e6];rfl
theorem AM{a b c m:Int}(hp:Y[i]?=some 7e4)(h0:0<m)(h1:m<1000):
  ∃r a' b' c':Int,0<=r/\r<m/\aM [.obj i,.int m] Y=.ok (.int r) (Y.set i (bD a' b' c')):=by
 have hi:i<Y.length:=(QM.mp hp).1;have hp':Y[i]?=some (.lst [.int a,.int b,.int c]):=hp;have md:∀{x:Int}{Y:aB},tX (.int x) 6e1 Y=.ok (.int (x%m)) Y:=fun {x Y}=>nO (show (fun _ j=>(0:Int)<j) x m from h0);have fd:∀{x:Int}{Y:aB},xm (.int x) 6e1 Y=.ok (.int (x / m)) Y:=fun {x Y}=>nO (show Gh x m from⟨h0,by omega⟩);have f64:∀{x:Int}{Y:aB},xm (.int x) (.int 64) Y=.ok (.int (x / 64)) Y:=fun {x Y}=>nO (show Gh x 64 from⟨by decide,by decide⟩);unfold aM;rw[cS];by_cases hb:b=1
 ·subst hb;refine⟨a%m,a / m,1,c,U1 _ 0e0,U2 _ h0,?_⟩;dsimp[my,aG,bw,bR,aC,ah,ao,aT,aa,ae];rw[eQ hp' xp];dsimp[aa,ae,cE,Sv,RI,aO,af,aG,aS,aC,ah,ao,aT];dsimp[Sw,RH,RI,aG,aS,aC,ah,ao,aT,aa,ae];rw[eQ hp' uB];dsimp[aa,ae,md,af,bH,aD,List.replicate,U3,U4,ah,ao,aT,aC,aS,aG];rw[eQ hp' uB];dsimp[aa,ae,fd,af,mK,ah,ao,aT];rw[oJ hp' (kn 0e4 0e6)];dsimp[aa,ae,af,aD,bc,ah,ao,gT,aP];exact A6 (by dsimp[Ic]) (rP (a:=a / m) (b:=1) (c:=c))
 ·obtain ⟨s1, e1⟩ := AJ (Y := Y) c;obtain⟨s2,e2⟩:=AJ (Y:=Y) (s1+7);refine⟨s2 / 64%m,a,b,s2,U1 _ 0e0,U2 _ h0,?_⟩;have hb':(b == 1)=false:=by simpa using hb
  dsimp[my,aG,bw,bR,aC,ah,ao,aT,aa,ae];rw[eQ hp' xp];dsimp[aa,ae,cE,hb',aO,af,Sw,RH,bT,aD,aG,aS,aA,ar,au,aC,ah,ao,aT];rw[eQ hp' Jo];dsimp[aa,ae,e1,eV,e2,af,mK,ah,ao,aT];rw[oJ hp' (kn 0e4 0e6)];have hg:(Y.set i (.lst ([D.int a,D.int b,D.int c].set (2:Int).toNat (.int s2))))[i]?=some (.lst [D.int a,D.int b,D.int s2]):=by rw[QO hi];rfl
  dsimp[aa,ae,af,aD,bc,aC,ah,ao,aT];rw[eQ hg Jo];dsimp[aa,ae,f64,md,af,aP];exact A6 0e6 (rP (a:=a) (b:=b) (c:=s2))
theorem aK{g:aB}{o:O}(h:Y[i]?=some o):(Y++g)[i]?=some o:=by
 rw[Ru (QM.mp h).1];exact h
theorem mI{g:aB}{o:O}(h:i<Y.length):(Y++g).set i o=Y.set i o++g:=by
 rw[List.set_append_left _ _ h]
theorem eU{o:O}(h:i<Y.length):(Y.set i o)[i]?=some o:=QO h
theorem uW{β γ:Type}{f:β->γ}:∀{l:List β}{i:Nat},(l.map f).eraseIdx i=(l.eraseIdx i).map f
 |[],_=>rfl
 |_::_,0=>rfl
 |x::r,i+1=>by simp[uW (l:=r) (i:=i)]
theorem HN{a b c:Int}{L:List Int}{x:D}(hi:i<Y.length)(hL:0<L.length)(hL2:L.length<1000):
  ∃(r:Nat)(y:Int)(a' b' c':Int),L[r]?=some y/\eW [some x,some 1e0,some 10e2] ((Y.set i 7e4++[.lst (L.map D.int)])++.lst ys::[]) =
   .ok (.int y) ((Y.set i (bD a' b' c')++[.lst ((L.eraseIdx r).map D.int)])++.lst ys::[]):=by
 have hn:((Y.set i 7e4++[.lst (L.map D.int)])++.lst ys::[])[8e6]?=some (.lst (L.map D.int)):=by
  have e:Y.length=(Y.set i 7e4).length:=by simp
  rw[Sh,e];exact aw
 have hp:((Y.set i 7e4++[.lst (L.map D.int)])++.lst ys::[])[i]?=some 7e4:=aK (aK (eU hi));obtain⟨r,a',b',c',h0,h1,e⟩:=AM (m:=(L.length:Int)) hp 0e0 0e0;have hr:r.toNat<L.length:=by omega
 refine⟨r.toNat,L[r.toNat],a',b',c',Ux hr,?_⟩
 have hset:((Y.set i 7e4++[O.lst (L.map D.int)])++O.lst ys::[]).set i (bD a' b' c')=(Y.set i (bD a' b' c')++[O.lst (L.map D.int)])++O.lst ys::[]:=by
  rw[mI 10e7,mI 6e3,List.set_set]
 have hn':((Y.set i (bD a' b' c')++[.lst (L.map D.int)])++.lst ys::[])[8e6]?=some (.lst (L.map D.int)):=by
  have e:Y.length=(Y.set i (bD a' b' c')).length:=by simp
  rw[Sh,e];exact aw
 have hl:oj 1e0 ((Y.set i 7e4++[.lst (L.map D.int)])++.lst ys::[])=true:=by
  unfold oj;dsimp[hn]
 unfold eW;dsimp[lD,ao,ah,aa,ae,hl,RI,ar,au,aA];rw[vV hn];dsimp[aa,ae,Rz];rw[e];dsimp[aa,ae,hset];unfold sC;dsimp only;rw[hn'];dsimp only;rw[kn h0 (by simpa using h1)];dsimp only;rw[Rv,Ux hr];dsimp only[Option.map_some];rw[Qu 0e0];congr 1;have e2:Y.length=(Y.set i (bD a' b' c')).length:=by simp
 rw[Sh,e2];show (Y.set i (bD a' b' c')++O.lst (L.map D.int)::[O.lst ys]).set _ _=_;rw[l5,Sh];congr 2;congr 1;exact uW
theorem zQ{L:List Int}{r:Nat}{y:Int}(h:L[r]?=some y):L.Perm (y::L.eraseIdx r):=by
 induction L generalizing r with
 |nil=>simp at h
 |cons x l ih=>
  cases r with
  |zero=>simp at h;subst h;exact List.Perm.refl _
  |succ r=>
   simp at h;exact((ih h).cons x).trans (List.Perm.swap y x _)
theorem xE{a b c m:Int}(hp:Y[i]?=some 7e4)(h0:1<=m)(h1:m<=6):
  ∃(ns:List Int)(a' b' c':Int),ns.Nodup/\(ns.length:Int)=m/\(∀n∈ns,0<=n/\n<m)/\cU [.obj i,.int m] Y=.ok (.tup 6e6) (Y.set i (bD a' b' c')):=by
 have hi:i<Y.length:=(QM.mp hp).1
 have h00:Y=Y.set i 7e4:=by
  apply Ui;intro j;by_cases hj:i=j
  ·subst hj;rw[eU hi];exact hp
  ·rw[QP hj]
 let N0:List Int:=(List.range m.toNat).map fun(k:Nat)=>(k:Int)
 have hN0:bu 0 m.toNat=N0.map D.int:=by
  dsimp[bu,N0,SX];apply SY;intro k _;simp
 have run:=iV (src:=.fix (bu 0 m.toNat)) (g:=ak 0) (t:=bp) (e:=eW) (n:=Y.length+1)
  (fun xs ys Z Y1 s=>s=[]/\∃(o:Option D)(L ns:List Int)(a b c:Int),Z=[o,some 1e0,some 10e2]/\Y1=Y.set i 7e4++[.lst (L.map D.int)]/\ys=ns.map D.int/\(ns++L).Perm N0/\L.length=xs.length/\xs.length<=6)
  (fun ys Z Y1 s ⟨_,o,L,ns,a,b,c,_,e,_⟩=>⟨by rw[e];simp,trivial⟩)
  (fun x r ys Z Y1 s hJJ => by
   obtain⟨es,o,L,ns,a,b,c,e1,e2,e3,e4,e5,e6⟩:=hJJ;subst es;refine⟨by rw[e2];simp,trivial,[some x,some 1e0,some 10e2],Y1,[],true,Y1,[],by rw[e1];rfl,rfl,fun _=>?_,fun z=>by cases z⟩;dsimp[Sx]at e5 e6;obtain⟨j,y,a',b',c',hj,e⟩:=HN (a:=a) (b:=b) (c:=c) (L:=L) (ys:=ys) (x:=x) hi 0e0 0e0;rw[e2];refine⟨.int y,_,[],e,?_,by simp,rfl,some x,L.eraseIdx j,ns++[y],a',b',c',rfl,rfl,by rw[e3];simp,?_,?_,by omega⟩
   ·rw [e3, Rz];have:=e4.length_eq;have hN:N0.length=m.toNat:=by simp[N0]
    rw[Ry,hN]at this;exact Qx (show ns.length<1000 by omega) bf
   ·rw[Sh];exact(List.Perm.append_left ns (zQ hj).symm).trans e4
   ·have hlt := (QM.mp hj).1
    rw[List.length_eraseIdx,Qu hlt];omega)
  (xs:=bu 0 m.toNat) (ys:=[]) (Z:=[none,some 1e0,some 10e2]) (Y1:=Y++[.lst (bu 0 m.toNat)]) (s:=[])
  ⟨rfl,none,N0,[],a,b,c,rfl,by rw[<- h00,hN0],rfl,by simp,by simp[N0,bu],by simp[bu];omega⟩
 obtain⟨ys',Z',Y1',s',⟨es,o,L,ns,a',b',c',f1,f2,f3,f4,f5,_⟩,run⟩:=run;have hLn:L=[]:=UJ (by simpa using f5);subst hLn es;rw[Rg]at f4;refine⟨ns,a',b',c',?_,?_,fun n hn=>?_,?_⟩
 ·rw[f4.nodup_iff];dsimp[N0];rw[List.nodup_iff_pairwise_ne,Ul];exact(Tg (n:=m.toNat)).imp fun h e=>h 0e0
 ·have:=f4.length_eq;rw[this];simp[N0];omega
 ·have:=f4.mem_iff.mp hn;dsimp[N0,Te,QC]at this;obtain⟨k,hk,rfl⟩:=this;omega
 ·unfold cU;rw[cS]
  have lr:kX [.int m] Y=.ok 1e0 (Y++[.lst (bu 0 m.toNat)]):=by
   unfold kX;dsimp only;rw[Qu 0e0]
  dsimp[lK,aG,aS,aA,ar,au,ao,ah,aa,ae,lr,af,bH,aD,bc,bP,cF];dsimp[List.replicate,U3,U4,ao,ah,aa,ae];rw[gY 0e0 0e0];dsimp[aa,ae,bg,Ry,Sx,S8];rw[show dr [none,some 2,some 0] [some (D.obj i),some (D.int m),some (D.obj 8e6)]=[none,some 1e0,some 10e2] from rfl];rw[run];dsimp[aa,ae]
  have hl:(Y1'++[O.lst ys'])[Y.length+1]?=some (.lst ys'):=by
   have:Y1'.length=Y.length+1:=by rw[f2];simp
   rw[<- this];exact aw
  rw[gk hl];dsimp[af,ae,aP];rw[f2,f3,Sh];exact zq (jG.mpr 0e6) rP
def oq(m:Int)(k:List Int):Prop:=∃a b:Int,k=[a,b]/\0<=a/\a<b/\b<m
theorem oq.prs{m:Int}(h:oq m k)(hm:m<=6):k∈prs:=by
 obtain⟨a,b,rfl,h1,h2,h3⟩:=h;exact AV h1 h2 0e0
def fJ(d:D)(m:Int)(ks:List 1e9):Prop:=d=.tup [.int m,.tup 0e5]/\1<=m/\m<=6/\(ks.Pairwise fun a b=>pI a<pI b)/\∀k∈ks,oq m k
theorem iX{m:Int}(h0:1<=m)(h1:m<=6)(hk:∀k∈ks,oq m k):fJ (.tup [.int m,.tup ((cI ks).map aq)]) m (cI ks):=by
 refine⟨rfl,h0,h1,sZ.filter _,fun k h=>?_⟩;unfold cI at h;rw[QB,UH]at h;exact hk k h.2
theorem g9{m:Int}(h:fJ d m ks):ks.length<=15:=by
 obtain⟨_,_,hm,hp,hk⟩:=h;have hn:ks.Nodup:=hp.imp fun h e=>by subst e;omega
 have hs:ks ⊆ prs:=fun k h=>(hk k h).prs hm;have:=hn.length_le_of_subset hs;rw[AW]at this;exact this
def cg(p:Int×Int):D:=.tup [.int p.1,.int p.2]
theorem l2:(2:Nat)<=sizeLine:=by decide
theorem Na{u v:Int}:rf [.tup [.int u,.int v]] Y=.ok (.int (min u v)) Y:=rfl
theorem Nd{u v:Int}:wW [.tup [.int u,.int v]] Y=.ok (.int (max u v)) Y:=rfl
theorem IT{m:Int}(h0:1<=m)(h1:m<=6)(hps:∀p∈ps,0<=p.1/\p.1<m/\0<=p.2/\p.2<m/\p.1≠p.2)(hl:ps.length<1000)(hn:ns.Nodup)(hnl:(ns.length:Int)=m)(hnr:∀n∈ns,0<=n/\n<m):
  fJ (.tup [.int m,.tup ((cI 5e7).map aq)]) m (cI 5e7)/\dA [.tup [.int m,.tup 11e0],.tup 6e6] Y=.ok (.tup [.int m,.tup ((cI 5e7).map aq)]) Y:=by
 let nm:Int->Int:=fun k=>ns.getD k.toNat 0
 have nmD:∀k,0<=k->k<m->atI 6e6 k=some (.int (nm k)):=fun k k0 k1=>by
  have hk:k.toNat<ns.length:=by omega
  refine nR k0 ?_;rw[Rv,Ux hk];simp[nm,Uh,Ux hk]
 have nmR:∀k,0<=k->k<m->0<=nm k/\nm k<m:=fun k k0 k1=>by
  have hk:k.toNat<ns.length:=by omega
  have:nm k=ns[k.toNat]:=by simp[nm,Uh,Ux hk]
  rw[this];exact hnr _ (Uv hk)
 have nmI:∀j k,0<=j->j<m->0<=k->k<m->j≠k->nm j≠nm k:=fun j k j0 j1 k0 k1 hjk e=>by
  have hj:j.toNat<ns.length:=by omega
  have hk:k.toNat<ns.length:=by omega
  have e1:nm j=ns[j.toNat]:=by simp[nm,Uh,Ux hj]
  have e2:nm k=ns[k.toNat]:=by simp[nm,Uh,Ux hk]
  rw[e1,e2]at e;have:=(QN hn).mp e;omega
 let qs:List (Int×Int):=ps.map fun p=>(nm p.1,nm p.2)
 let ks:List 1e9:=qs.map fun p=>[min p.1 p.2,max p.1 p.2]
 have hks:∀k∈ks,oq m k:=fun k hk=>by
  dsimp[ks,qs,SX,Te,Function.comp_apply]at hk;obtain⟨p,hp,rfl⟩:=hk;obtain⟨a1,a2,a3,a4,a5⟩:=hps p hp;have b1:=nmR p.1 a1 a2;have b2:=nmR p.2 a3 a4;have b3:=nmI p.1 p.2 a1 a2 a3 a4 a5;exact⟨_,_,rfl,by omega,by omega,by omega⟩
 refine⟨iX h0 h1 hks,?_⟩;show _=ai.ok (D.tup [.int m,.tup ((cI ks).map aq)]) Y
 have c1:compLoop (.fix 11e0) 8e6 (dc 2 (aW (ak 0) (aW (ak 1) de))) bp ij 11e0 [none,none,some (.tup 6e6)] (Y++[.lst []])=.ok 1e0 (Y++[.lst 7e3]):=by
  have:=dn (src:=.fix 11e0) (g:=dc 2 (aW (ak 0) (aW (ak 1) de))) (t:=bp) (e:=ij) (Y1:=Y) (q:=fun _=>true)
   (h:=fun d=>match d with | .tup [.int a,.int b]=>cg (nm a,nm b)|_=>.non) (fun Z=>∃o1 o2,Z=[o1,o2,some (.tup 6e6)]) 10e5 (xs:=ps.map cg) (acc:=[]) (Z:=[none,none,some (.tup 6e6)]) ⟨none,none,rfl⟩
   (by rw[Rz,S8];exact QD 0e0 bf)
   (fun x hx a Z hJJ => by
    obtain⟨o1,o2,ho⟩:=hJJ;obtain⟨p,hp,rfl⟩:=Te.mp hx;obtain⟨a1,a2,a3,a4,a5⟩:=hps p hp;refine⟨[some (.int p.1),some (.int p.2),some (.tup 6e6)],⟨_,_,rfl⟩,by subst ho;rfl,rfl,fun _=>?_⟩;unfold ij;dsimp[cb,ar,au,aC,ao,ah,aa,ae];rw[jb (nmD p.1 a1 a2)];dsimp[aa,ae];rw[jb (nmD p.2 a3 a4)];dsimp[aa,ae,Sx,S8,Qu l2]
    rfl)
  rw[this,U5.mpr (fun _ _=>rfl)];dsimp[Sn,SX,qs];rfl
 have c2:compLoop (.own 8e6 7e3) (Y++[O.lst 7e3]).length (ak 0) bp ig 7e3 [none] ((Y++[O.lst 7e3])++[.lst []])=.ok (.obj (Y++[O.lst 7e3]).length) ((Y++[O.lst 7e3])++[.lst 0e5]):=by
  have:=dn (src:=.own 8e6 7e3) (g:=ak 0) (t:=bp) (e:=ig) (Y1:=Y++[O.lst 7e3]) (q:=fun _=>true)
   (h:=fun d=>match d with | .tup [.int a,.int b]=>aq [min a b,max a b]|_=>.non) (fun Z=>∃o1,Z=[o1]) (fun a=>aK aw) (xs:=qs.map cg) (acc:=[]) (Z:=[none]) ⟨none,rfl⟩
   (by rw[Rz,S8];dsimp[qs,Rz];exact QD 0e0 bf)
   (fun x hx a Z hJJ => by
    obtain⟨o1,ho⟩:=hJJ;obtain⟨p,hp,rfl⟩:=Te.mp hx;refine⟨[some (cg p)],⟨_,rfl⟩,by subst ho;rfl,rfl,fun _=>?_⟩;unfold ig cg;dsimp[cb,ar,au,aA,ah,aa,ae,Na,Nd,Sx,S8,Qu l2]
    rfl)
  rw[this,U5.mpr (fun _ _=>rfl)];dsimp[Sn,SX,ks];rfl
 have kd:qH 0e5=some ks:=oW fun k hk=>(hks k hk).prs h1;unfold dA;rw[cS];dsimp[pB,aG,aS,bP,cw,aC,ah,ao,aT,aa,ae,gZ,jV,bg];rw[show dr [none,none,some 1] (some (D.tup [D.int m,D.tup (List.map cg ps)])::some (D.tup (List.map D.int ns))::List.replicate (3-2) none)=[none,none,some (.tup 6e6)] from rfl,c1];dsimp[af,bH,aD,bc,cb,ar,au,aA,aC,ah,ao,aT,aa,ae,List.replicate,U3,U4,cv,bP,cw];rw[d6 aw];dsimp[aa,ae,cK];rw[show dr [none] _=[none] from rfl,c2];dsimp[aa,ae]
 have s1:qZ [.obj (Y++[O.lst 7e3]).length] (Y++[O.lst 7e3]++[O.lst 0e5])=.ok (.obj (Y++[O.lst 7e3]++[O.lst 0e5]).length) ((Y++[O.lst 7e3]++[O.lst 0e5])++[.set (cT ks)]):=by
  unfold qZ;dsimp only;rw[aw];dsimp only;unfold si;rw[kd]
 rw[s1];dsimp[aa,ae]
 have s2:∀M:aB,di [.obj 3e8] (M++[.set (cT ks)])=.ok (.obj (M++[O.set (cT ks)]).length) ((M++[.set (cT ks)])++[.lst ((cI ks).map aq)]):=fun M=>by
  unfold di;dsimp only;rw[aw];dsimp only;rw[j7]
 rw[s2];dsimp[aa,ae];rw[gk aw];dsimp[aa,ae,Sx,S8,Qu l2,af,aP];rw[Sh,Sh,Sh];exact d5 (by simp;exact jG.mpr (fun x hx=>by obtain⟨k,_,rfl⟩:=Te.mp hx;simp[aq];exact jG.mpr 0e6))
theorem kC{m:Int}(h:fJ d m ks):d.low n:=by
 obtain⟨rfl,_⟩:=h;simp
 exact jG.mpr fun x hx=>by
  obtain⟨k,_,rfl⟩:=Te.mp hx;simp[aq];exact jG.mpr 0e6
theorem ix:bu lo (n+1)=.int lo::bu (lo+1) n:=by
 unfold bu;rw[SW,RZ,SX];congr 1
 ·simp
 ·apply SY;intro i _;dsimp[Function.comp_apply];congr 1;omega
theorem ju:bu lo 0=[]:=rfl
theorem l6(h:bu lo n=[]):n=0:=by
 cases n with
 |zero=>rfl
 |succ n=>rw[ix]at h;cases h
theorem sM{x:D}:∀k:Nat,(List.replicate k [x]).flatten=List.replicate k x
 |0=>rfl
 |k+1=>by rw[Se,Sf,sM k];rfl
theorem l1:(1:Nat)<=sizeLine:=by decide
theorem Pt{x:D}(hm:m<=6):hZ [some x,some 6e1] M=.ok (.obj (M.length+1)) (M++[.lst [.non],.lst (List.replicate m .non)]):=by
 unfold hZ;dsimp[aC,cZ,ar,au,aT,aa,ae,Sx,S8,Qu l1,ao,ah];unfold mZ;dsimp only;rw[aw];dsimp only;have hz:(6:Nat)<=sizeLine:=by decide
 rw[Qu (by refine⟨by omega,by omega,?_⟩;dsimp[Sx,S8];omega)];dsimp[RF,sM,Ry,Sx,S8,Sh,Ta,Sn]
end Lw
namespace Lw
open PySem L2 RS Lv
def pN:Option Nat->D
 |none=>.non
 |some n=>.int n
theorem σ3(o:Option Nat):pN o=.non\/∃i,pN o=.int i:=by
 cases o with
 |none=>exact .inl rfl
 |some n=>exact .inr ⟨n,rfl⟩
def fK(m:Nat)(f:Int->Option Nat):List D:=(List.range m).map fun q:Nat=>pN (f q)
theorem xM{f:Int->Option Nat}(q0:0<=q)(q1:q<m):atI (fK m f) q=some (pN (f q)):=by
 refine nR q0 ?_;unfold fK;rw[Rv,Uj 0e0];dsimp[Option.map_some,TK q0]
theorem sG{f:Int->Option Nat}{v:Nat}(q0:0<=q)(q1:q<m):(fK m f).set q.toNat (.int v)=fK m (nG f q v):=by
 unfold fK;apply Ui;intro i;rw[List.getElem?_set,Rz,SZ,Rv,Rv];by_cases e:q.toNat=i
 ·rw[Qu e,Qu 0e0,Uj 0e0,<- e];dsimp[Option.map_some,TK q0,nG,Qu rfl];rfl
 ·rw [Qv e];by_cases hi:i<m
  ·rw[Uj hi];dsimp[Option.map_some,nG];rw[Qv 0e0]
  ·rw[Uk (by rw[SZ];omega)];rfl
def kl(T:Int->Int->Option Nat)(p:Int)(f:Int->Option Nat):Int->Int->Option Nat:=fun p'=>if p'=p then f else T p'
theorem p8{p:Int}{f:Int->Option Nat}:kl T p f p=f:=Qu rfl
theorem xJ{p:Int}{f g:Int->Option Nat}:kl (kl T p f) p g=kl T p g:=by
 funext p';unfold kl;by_cases e:p'=p
 ·rw[Qu e,Qu e]
 ·rw[Qv e,Qv e,Qv e]
def FT(Y0:aB)(m a:Nat)(T:Int->Int->Option Nat)(Y:aB):Prop:=Y0.length<=a/\(∀i,i<Y0.length->Y[i]?=Y0[i]?)/\∃bs:List Nat,bs.Nodup/\Y[a]?=some (.lst (bs.map D.obj))/\bs.length=m /\
 ∀(p b:Nat),bs[p]?=some b->Y0.length<=b/\b≠a/\Y[b]?=some (.lst (fK m (T p)))
theorem FT.app{g:aB}{a:Nat}(h:FT Y0 m a T Y):FT Y0 m a T (Y++g):=by
 obtain⟨h1,h2,bs,h0,h3,h4,h5⟩:=h;have hl:Y0.length<=Y.length:=QD h1 (QE (QM.mp h3).1);refine⟨h1,fun i hi=>?_,bs,h0,aK h3,h4,fun p b hb=>?_⟩
 ·rw[Ru 0e0];exact h2 i hi
 ·obtain⟨g1,g2,g3⟩:=h5 p b hb;exact⟨g1,g2,aK g3⟩
theorem FT.pre{a:Nat}(h:FT Y0 m a T Y):∃g,Y=Y0++g:=by
 obtain⟨h1,h2,bs,h0,h3,h4,h5⟩:=h;refine⟨Y.drop Y0.length,?_⟩;apply Ui;intro i;by_cases hi:i<Y0.length
 ·rw[Ru hi,h2 i hi]
 ·rw[Rq 0e0,Tt];congr 1;omega
theorem FT.get{a:Nat}{p:Int}(h:FT Y0 m a T Y)(p0:0<=p)(p1:p<m):∃b,cj 11e6 4e8 Y=.ok (.obj b) Y/\(∀q:Int,0<=q->q<m->cj (.obj b) (.int q) Y=.ok (pN (T p q)) Y) /\
  ∀(q:Int)(v:Nat),0<=q->q<m->∃Y',zc (.obj b) (.int q) (.int v) Y=.ok () Y'/\(∀(n:Nat) xs t,Y[n]?=some 2e9->D.tup t∈xs->Y'[n]?=some 2e9)/\FT Y0 m a (kl T p (nG (T p) q v)) Y':=by
 obtain⟨h1,h2,bs,h0,h3,h4,h5⟩:=h;have hp:p.toNat<bs.length:=by omega
 have hpe:((p.toNat:Nat):Int)=p:=TK p0;obtain⟨g1,g2,g3⟩:=h5 p.toNat bs[p.toNat] (Ux hp);rw[hpe]at g3;refine⟨bs[p.toNat],eQ h3 (nR p0 (by rw[Rv,Ux hp];rfl)),fun q q0 q1=>eQ g3 (xM q0 q1),fun q v q0 q1=>?_⟩;have hlen:(fK m (T p)).length=m:=by unfold fK;rw[Rz,SZ]
 refine⟨_,oJ g3 (kn q0 (by rw[hlen];exact q1)),fun n xs t hn ht=>?_,h1,fun i hi=>?_,bs,h0,?_,h4,fun p' b hb=>?_⟩
 ·by_cases e : bs[p.toNat] = n
  ·subst e;rw[g3]at hn;cases hn;unfold fK at ht;obtain⟨j,_,hj⟩:=Te.mp ht;rcases σ3 (T p j) with z|⟨i,z⟩ <;> (rw[z]at hj;cases hj)
  ·rw[QP e];exact hn
 ·rw[QP 0e0];exact h2 i hi
 ·rw[QP 0e0];exact h3
 ·obtain ⟨k1, k2, k3⟩ := h5 p' b hb;obtain⟨hp',hbe⟩:=QM.mp hb;refine⟨k1,k2,?_⟩;by_cases e:p'=p.toNat
  ·subst e;rw[hbe,eU (QM.mp (hbe ▸ g3)).1,sG q0 q1,hpe,p8]
  ·have hne:bs[p.toNat]≠b:=fun z=>e ((QN h0).mp (hbe.trans z.symm));rw[QP hne,k3];unfold kl;rw[Qv 0e0]
def vk(ks:List 1e9):List (Int×Int):=ks.flatMap fun k=>match k with
 |[u,v]=>[(u,v),(v,u)]
 |_=>[]
def mG(ks:List 1e9)(a b:Int):Prop:=(a,b)∈vk ks
theorem L8{o:Option Nat}:f9 false (pN o) (.int ((n:Int)+1-1)) Y=.ok (.bl (decide (o=some n))) Y:=by
 cases o with
 |none=>rfl
 |some k=>
  show f9 false (.int k) (.int ((n:Int)+1-1)) Y=_;rw[cE];dsimp[Sw,RH];congr 2;by_cases e:k=n
  ·subst e;simp
  ·have : ¬ (k : Int) = (n : Int) + 1 - 1 := by omega
   rw[Qr (show ¬ some k=some n by simp[e])];exact Qs.mpr this
theorem qg{o:Option Nat}:(pN o).isNon=decide (o=none):=by
 cases o <;> rfl
section
variable{a:Nat}{web:D}{M p u v r:Int}{f:Int->Option Nat}
theorem PX(h:FT Y0 m a (kl T p f) Y)(p0:0<=p)(p1:p<m)(q0:0<=q)(q1:q<m)(r0:0<=r)(r1:r<m) :
  ∃Y',lq [some web,some (.int M),some 11e6,some 4e8,some 11e1,some (.int u),some (.int v),some (.int q),some (.int r)] Y=.next [some web,some (.int M),some 11e6,some 4e8,some 11e1,some (.int u),some (.int v),some (.int q),some (.int r)] Y' /\
   (∀(n:Nat) xs t,Y[n]?=some 2e9->D.tup t∈xs->Y'[n]?=some 2e9)/\FT Y0 m a (kl T p (CT n f (q,r))) Y':=by
 obtain⟨b,e1,e2,k⟩:=h.get p0 p1;rw[p8]at k e2;have sub1:∀x:Int,dG (.int x) (.int 1) Y=.ok (.int (x-1)) Y:=fun _=>rfl;unfold lq;dsimp[bw,g7,bR,aC,ao,ah,aT,aa,ae,e1,e2 q q0 q1,sub1,L8,aO];unfold CT;dsimp only;by_cases c1:f q=some n
 ·dsimp[Sr c1, RI, e1, e2 r r0 r1, aa, ae, zu, qg, Sw, RH, aO, af];by_cases c2:f r=none
  ·obtain⟨Y',g1,g2,g3⟩:=k r (n+1) r0 r1;rw[xJ]at g3;rw[show ((n+1:Nat):Int)=(n:Int)+1 by push_cast;rfl]at g1;dsimp[Sr c2,RI,aS,ao,ah,af,mK,aC,aa,ae,e1,g1];rw[Qu ⟨c1,c2⟩];exact⟨Y',rfl,g2,g3⟩
  ·dsimp[Qr c2,Sw,RH,bT];rw[Qv fun z=>c2 z.2];exact⟨Y,rfl,fun _ _ _ h _=>h,h⟩
 ·dsimp[Qr c1,Sw,RH,af,ae,bT];rw[Qv fun z=>c1 z.1];exact⟨Y,rfl,fun _ _ _ h _=>h,h⟩
theorem fr3(h:FT Y0 m a (kl T p f) Y)(p0:0<=p)(p1:p<m)(u0:0<=u)(u1:u<m)(v0:0<=v)(v1:v<m){o8:Option D}:
  ∃o7' o8' Y',jt [some web,some (.int M),some 11e6,some 4e8,some 11e1,some (.int u),some (.int v),o7,o8] Y=.next [some web,some (.int M),some 11e6,some 4e8,some 11e1,some (.int u),some (.int v),o7',o8'] Y'/\FT Y0 m a (kl T p (CT n (CT n f (u,v)) (v,u))) Y':=by
 unfold jt;dsimp[gW,cw,cZ,ar,au,cb,ao,ah,aa,ae,Sx,S8,Qu l2];rw[d6 aw];dsimp[af,ae,cK];have hn:(Y++[O.lst [.tup [.int u,.int v],.tup [.int v,.int u]]])[8e6]?=some (.lst [.tup [.int u,.int v],.tup [.int v,.int u]]):=aw;obtain⟨Y1,e1,e2,e3⟩:=PX (web:=web) (M:=M) (n:=n) (u:=u) (v:=v) (h.app (g:=[O.lst [.tup [.int u,.int v],.tup [.int v,.int u]]])) p0 p1 u0 u1 v0 v1;have hn1:=e2 _ _ _ hn QG;obtain⟨Y2,f1,f2,f3⟩:=PX (web:=web) (M:=M) (n:=n) (u:=u) (v:=v) e3 p0 p1 v0 v1 u0 u1;have hn2:=f2 _ _ _ hn1 QG;refine⟨some (.int v),some (.int u),Y2,?_,f3⟩;have g1:dc 2 (aW (ak 7) (aW (ak 8) de)) (.tup [.int u,.int v]) [some web,some (.int M),some 11e6,some 4e8,some 11e1,some (.int u),some (.int v),o7,o8] (Y++[O.lst [.tup [.int u,.int v],.tup [.int v,.int u]]])=.ok [some web,some (.int M),some 11e6,some 4e8,some 11e1,some (.int u),some (.int v),some (.int u),some (.int v)] (Y++[O.lst [.tup [.int u,.int v],.tup [.int v,.int u]]]):=rfl;have g2:dc 2 (aW (ak 7) (aW (ak 8) de)) (.tup [.int v,.int u]) [some web,some (.int M),some 11e6,some 4e8,some 11e1,some (.int u),some (.int v),some (.int u),some (.int v)] Y1=.ok [some web,some (.int M),some 11e6,some 4e8,some 11e1,some (.int u),some (.int v),some (.int v),some (.int u)] Y1:=rfl;unfold iS;rw[Qu (show cN (.own 8e6 _) _ from hn),g1,af,e1,oG];unfold iS;rw[Qu (show cN (.own 8e6 _) _ from hn1),g2,af,f1,oG];unfold iS;rw[Qu (show cN (.own 8e6 _) _ from hn2)]
theorem Qj(hk:∀k∈ks,oq m k)(h:FT Y0 m a (kl T p f) Y)(p0:0<=p)(p1:p<m){o5 o6 o8:Option D}:
  ∃o5' o6' o7' o8' Y',js [some (.tup [.int M,.tup 0e5]),some (.int M),some 11e6,some 4e8,some 11e1,o5,o6,o7,o8] Y=.next [some (.tup [.int M,.tup 0e5]),some (.int M),some 11e6,some 4e8,some 11e1,o5',o6',o7',o8'] Y'/\FT Y0 m a (kl T p ((vk ks).foldl (CT n) f)) Y':=by
 unfold js;dsimp[gW,cw,aC,ah,aT,aa,ae,gZ,jV,af,bg]
 have run:=iF (src:=.fix 0e5) (g:=dc 2 (aW (ak 5) (aW (ak 6) de))) (fb:=jt)
  (fun xs Z Y1=>∃ys zs:List 1e9,xs=zs.map aq/\ks=ys++zs/\FT Y0 m a (kl T p ((vk ys).foldl (CT n) f)) Y1/\∃o5 o6 o7 o8,Z=[some (.tup [.int M,.tup 0e5]),some (.int M),some 11e6,some 4e8,some 11e1,o5,o6,o7,o8])
  (fun _ _ _=>trivial)
  (fun x xs Z Y1 hJJ => by
   obtain⟨ys,zs,hx,hks,hF,o5,o6,o7,o8,e⟩:=hJJ;subst e;cases zs with
   |nil=>cases hx
   |cons k zs=>
    injection hx with hx1 hx2
    subst hx1 hx2;obtain⟨u,v,rfl,u0,uv,v1⟩:=hk k (by rw[hks];simp);obtain⟨o7',o8',Y3,e1,e3⟩:=fr3 (web:=.tup [.int M,.tup 0e5]) (M:=M) (n:=n) (u:=u) (v:=v) (o7:=o7) (o8:=o8) hF p0 p1 u0 0e0 0e0 v1;refine⟨trivial,_,Y1,_,Y3,rfl,e1,ys++[[u,v]],zs,rfl,by rw[hks];simp,?_,_,_,_,_,rfl⟩;have:vk (ys++[[u,v]])=vk ys++[(u,v),(v,u)]:=by simp[vk]
    rw[this,TY]
    exact e3)
  (xs:=ks.map aq) (Z:=[some (.tup [.int M,.tup 0e5]),some (.int M),some 11e6,some 4e8,some 11e1,o5,o6,o7,o8]) (Y:=Y)
  ⟨[],ks,rfl,rfl,h,o5,o6,o7,o8,rfl⟩
 obtain⟨Z',Y',⟨ys,zs,hx,hks,hF,o5',o6',o7',o8',e⟩,run⟩:=run;subst e
 have hz:zs=[]:=by cases zs with
  |nil=>rfl
  |cons=>cases hx
 subst hz;rw[Rg]at hks;subst hks;exact⟨o5',o6',o7',o8',Y',run,hF⟩
theorem g8(hk:∀k∈ks,oq m k){x y:Int}(h:mG ks x y):(0<=x/\x<m)/\(0<=y/\y<m):=by
 unfold mG vk at h;obtain⟨k,hk',hm⟩:=U6.mp h;obtain⟨u,v,rfl,u0,uv,v1⟩:=hk k hk';simp at hm;omega
theorem fr5(hk:∀k∈ks,oq m k)(h:FT Y0 m a (kl T p fun _=>none) Y)(p0:0<=p)(p1:p<m)(hm:m<=6){o5 o6 o8:Option D}:
  ∃o4' o5' o6' o7' o8' Y' f,jr [some 2e4,some 6e1,some 11e6,some 4e8,o4,o5,o6,o7,o8] Y=.next [some 2e4,some 6e1,some 11e6,some 4e8,o4',o5',o6',o7',o8'] Y'/\FT Y0 m a (kl T p f) Y'/\w6 (mG ks) p (fun q=>0<=q/\q<m) f:=by
 obtain⟨b,e1,_,k⟩:=h.get p0 p1;obtain⟨Y1,e3,_,h1⟩:=k p 0 p0 p1;rw[xJ,p8]at h1;unfold jr;dsimp[aG,aS,aT,af,mK,aC,ao,ah,aa,ae,e1];rw[show (D.int 0)=.int ((0:Nat):Int) from rfl,e3];dsimp[aa,ae,af,aD,gW,cF,ar,au,aT,ao,ah];rw[kZ 0e0 0e0 0e0 0e0];dsimp[af,ae,bg]
 have run:=iF (src:=.fix (bu 1 ((m:Int)-1).toNat)) (g:=ak 4) (fb:=js)
  (fun xs Z Y1=>∃(n c:Nat)(f:Int->Option Nat),xs=bu ((n:Int)+1) c/\n+1+c=m/\FT Y0 m a (kl T p f) Y1/\Up (mG ks) p (fun q=>0<=q/\q<m) n f/\∃o4 o5 o6 o7 o8,Z=[some 2e4,some 6e1,some 11e6,some 4e8,o4,o5,o6,o7,o8])
  (fun _ _ _=>trivial)
  (fun x xs Z Y1 hJJ => by
   obtain⟨n,c,f,hx,hc,hF,hU,o4,o5,o6,o7,o8,e⟩:=hJJ;subst e;cases c with
   |zero=>rw[ju]at hx;cases hx
   |succ c=>
    rw[ix]at hx;injection hx with hx1 hx2
    subst hx1 hx2;obtain⟨o5',o6',o7',o8',Y3,e1,e3⟩:=Qj (M:=m) (n:=n) (o5:=o5) (o6:=o6) (o7:=o7) (o8:=o8) hk hF p0 p1
    exact⟨trivial,_,Y1,_,Y3,rfl,e1,n+1,c,_,by push_cast;rfl,by omega,e3,EE hU (fun a b h=>(g8 hk h).1) (fun a b=>Iff.rfl),_,_,_,_,_,rfl⟩)
  (xs:=bu 1 ((m:Int)-1).toNat) (Z:=[some 2e4,some 6e1,some 11e6,some 4e8,o4,o5,o6,o7,o8]) (Y:=Y1)
  ⟨0,m-1,_,by rw[show ((m:Int)-1).toNat=m-1 by omega];rfl,by omega,h1,Bg (fun q _=>by unfold nG;rfl),o4,o5,o6,o7,o8,rfl⟩
 obtain⟨Z',Y',⟨n,c,f,hx,hc,hF,hU,o4',o5',o6',o7',o8',e⟩,run⟩:=run;subst e;have hz:=l6 hx.symm;subst hz;refine⟨o4',o5',o6',o7',o8',Y',f,run,hF,hU.full (fun a b h=>(g8 hk h).2) fun q hq hl=>?_⟩;have:=DU (m:=m) ⟨p0,p1⟩ (fun a b h=>(g8 hk h).2) hl;omega
end
theorem uH:fK m (fun _=>none)=List.replicate m .non:=by
 unfold fK pN;rw[List.map_const',SZ]
theorem Iq(hm:m<=6):∃(bs:List Nat)(s:aB),compLoop (.fix (bu 0 m)) 8e6 (ak 0) bp hZ (bu 0 m) [none,some 6e1] (Y++[.lst []])=.ok 1e0 (Y++.lst (bs.map D.obj)::s)/\bs.length=m/\bs.Nodup/\∀b∈bs,∃j,b=Y.length+1+j/\s[j]?=some (.lst (List.replicate m .non)):=by
 have run:=iV (src:=.fix (bu 0 m)) (g:=ak 0) (t:=bp) (e:=hZ) (n:=8e6)
  (fun xs ys Z Y1 s=>Y1=Y/\(∃o,Z=[o,some 6e1])/\∃bs:List Nat,ys=bs.map D.obj/\bs.length+xs.length=m/\bs.Nodup/\∀b∈bs,∃j,b=Y.length+1+j/\s[j]?=some (.lst (List.replicate m .non)))
  (fun ys Z Y1 s ⟨e,_⟩=>⟨by rw[e],trivial⟩)
  (fun x r ys Z Y1 s hJJ => by
   obtain⟨e1,⟨o,e2⟩,bs,e3,e4,e6,e5⟩:=hJJ;subst e1 e2;refine⟨rfl,trivial,[some x,some 6e1],_,s,true,_,s,rfl,rfl,fun _=>?_,fun z=>by cases z⟩;have e:=Pt (M:=Y1++.lst ys::s) (x:=x) hm;dsimp[Sx]at e4;refine⟨.obj ((Y1++O.lst ys::s).length+1),Y1,s++[.lst [.non],.lst (List.replicate m .non)],by rw[e];simp,?_,rfl,rfl,⟨_,rfl⟩,bs++[(Y1++O.lst ys::s).length+1],by rw[e3];simp,by simp;omega,?_,fun b hb=>?_⟩
   ·rw[e3,Rz];exact Qx (show bs.length<1000 by omega) bf
   ·rw[TU];refine⟨e6,by simp,fun b hb c hc=>?_⟩;obtain⟨j,f1,f2⟩:=e5 b hb;have:=(QM.mp f2).1;dsimp[SJ,Ry,Sx]at hc;omega
   ·rcases QK.mp hb with z | z
    ·obtain⟨j,f1,f2⟩:=e5 b z;exact⟨j,f1,aK f2⟩
    ·refine ⟨s.length + 1, ?_, ?_⟩
     ·dsimp[SJ,Ry,Sx]at z;omega
     ·rw[Rq 0e0];simp)
  (xs:=bu 0 m) (ys:=[]) (Z:=[none,some 6e1]) (Y1:=Y) (s:=[])
  ⟨rfl,⟨_,rfl⟩,[],rfl,by simp[bu],by simp,by simp⟩
 obtain⟨ys',Z',Y1',s',⟨e1,_,bs,e3,e4,e6,e5⟩,run⟩:=run;subst e1 e3;exact⟨bs,s',run,by simpa using e4,e6,e5⟩
theorem AL{k:Nat}(h:fJ (.tup [.int k,.tup 0e5]) k ks):∃a Y' T,fe [.tup [.int k,.tup 0e5]] Y=.ok 11e6 Y'/\FT Y k a T Y'/\∀p:Int,0<=p->p<k->w6 (mG ks) p (fun q=>0<=q/\q<k) (T p):=by
 obtain⟨_,h0,h1,hp,hk⟩:=h;have hk6:k<=6:=by omega
 obtain⟨bs,s,e1,e2,e4,e3⟩:=Iq (Y:=Y) hk6
 have F0:FT Y k 8e6 (fun _ _=>none) (Y++.lst (bs.map D.obj)::s):=by
  refine⟨Q8 _,fun i hi=>by rw[Ru hi],bs,e4,aw,e2,fun p b hb=>?_⟩;obtain⟨j,rfl,f⟩:=e3 b (Rx hb);refine⟨by omega,by omega,?_⟩;rw[Rq 0e0,show Y.length+1+j-Y.length=j+1 by omega,uH];exact f
 have run:=iF (src:=.fix (bu 0 k)) (g:=ak 3) (fb:=jr)
  (fun xs Z Y1=>∃(n c:Nat)(T:Int->Int->Option Nat),xs=bu n c/\n+c=k/\FT Y k 8e6 T Y1/\(∀p:Int,(n:Int)<=p->T p=fun _=>none)/\(∀p:Int,0<=p->p<n->w6 (mG ks) p (fun q=>0<=q/\q<k) (T p))/\∃o3 o4 o5 o6 o7 o8,Z=[some (.tup [.int k,.tup 0e5]),some (.int k),some 1e0,o3,o4,o5,o6,o7,o8])
  (fun _ _ _=>trivial)
  (fun x xs Z Y1 hJJ => by
   obtain⟨n,c,T,hx,hc,hF,hN,hU,o3,o4,o5,o6,o7,o8,e⟩:=hJJ;subst e;cases c with
   |zero=>rw[ju]at hx;cases hx
   |succ c=>
    rw[ix]at hx;injection hx with hx1 hx2
    subst hx1 hx2
    have hT:kl T n (fun _=>none)=T:=by
     funext p';unfold kl;by_cases e:p'=(n:Int)
     ·rw[Qu e,e,hN n (Int.le_refl _)]
     ·rw[Qv e]
    obtain⟨o4',o5',o6',o7',o8',Y3,f,g1,g3,g4⟩:=fr5 (T:=T) (p:=(n:Int)) (o4:=o4) (o5:=o5) (o6:=o6) (o7:=o7) (o8:=o8) hk (by rw[hT];exact hF) 0e0 0e0 hk6;refine⟨trivial,_,Y1,_,Y3,rfl,g1,n+1,c,_,by push_cast;rfl,by omega,g3,fun p hp=>?_,fun p p0 p1=>?_,_,_,_,_,_,_,rfl⟩
    ·unfold kl;rw[Qv 0e0];exact hN p 0e0
    ·unfold kl;by_cases e:p=(n:Int)
     ·rw[Qu e,e];exact g4
     ·rw[Qv e];exact hU p p0 0e0)
  (xs:=bu 0 k) (Z:=[some (.tup [.int k,.tup 0e5]),some (.int k),some 1e0,none,none,none,none,none,none]) (Y:=Y++.lst (bs.map D.obj)::s)
  ⟨0,k,_,rfl,by omega,F0,fun _ _=>rfl,fun p p0 p1=>by omega,_,_,_,_,_,_,rfl⟩
 obtain⟨Z',Y',⟨n,c,T,hx,hc,hF,hN,hU,o3,o4,o5,o6,o7,o8,e⟩,run⟩:=run;subst e;have hz:=l6 hx.symm;subst hz;have hnk:n=k:=by omega
 subst hnk;refine⟨8e6,Y',T,?_,hF,hU⟩;unfold fe;rw[cu];dsimp[tH,aG,aS,aC,ah,aT,aa,ae,cv,af,bH,aD,bP,cF,ar,au];dsimp[List.replicate,U3,U4,ao,ah,aa,ae];rw[gY 0e0 0e0];dsimp[aa,ae,bg,RF];rw[show dr [none,some 1] [some (D.tup [D.int n,D.tup (List.map aq ks)]),some (D.int n),none,none,none,none,none,none,none]=[none,some (.int n)] from rfl,e1];dsimp[af,bH,aD,aG,gW,cF,ar,au,U3,U4,ao,ah,aa,ae];rw[gY 0e0 0e0];dsimp[af,ae,bg,RF];rw[run];dsimp[aD,bc,ao,ah,af,ae,aP];exact Av 0e6
def OF(k:Int):Option Nat->Bool
 |some j=>decide ((j:Int)<=k)
 |none=>false
def nH(T:Int->Int->Option Nat)(k p lo:Int)(c:Nat):List 1e9:=(((List.range c).map fun i:Nat=>lo+(i:Int)).filter fun q=>OF k (T p q)).map fun q=>[p,q]
def Jq(m:Nat)(T:Int->Int->Option Nat)(k:Int):List 1e9:=(List.range m).flatMap fun p:Nat=>nH T k p ((p:Int)+1) (m-(p+1))
theorem xK{k p:Int}{c:Nat}:(nH T k p lo c).length<=c:=by
 unfold nH;rw[Rz];refine QD (List.length_filter_le _ _) ?_;rw[Rz,SZ];exact Q8 _
theorem sF{k p:Int}{c:Nat}{x:List Int}(h:x∈nH T k p lo c):∃q:Int,x=[p,q]/\lo<=q/\q<lo+c:=by
 unfold nH at h;obtain⟨q,hq,rfl⟩:=Te.mp h;obtain⟨hq,_⟩:=QB.mp hq;obtain⟨i,hi,rfl⟩:=Te.mp hq;rw[QC]at hi;exact⟨_,rfl,by omega,by omega⟩
theorem G4{k p:Int}{c:Nat}:(nH T k p lo c).Pairwise fun a b=>pI a<pI b:=by
 unfold nH;rw[Ul];apply List.Pairwise.filter;rw[Ul];exact TC.imp fun {a b} h=>by show p*6+(lo+(a:Int))<p*6+(lo+(b:Int));omega
theorem xC{k:Int}(h0:1<=m)(h1:m<=6):fJ (.tup [.int m,.tup ((Jq m T k).map aq)]) m (Jq m T k):=by
 refine⟨rfl,by omega,by omega,?_,fun x hx=>?_⟩
 ·unfold Jq;rw[List.pairwise_flatMap];refine⟨fun p _=>G4,?_⟩;refine U0 (R:=(·<·)) ?_ TC;intro a b ha hb hab x hx y hy;rw[QC]at ha hb;obtain⟨q,rfl,q0,q1⟩:=sF hx;obtain⟨r,rfl,r0,r1⟩:=sF hy;show (a:Int)*6+q<(b:Int)*6+r;omega
 ·unfold Jq at hx;obtain⟨p,hp,hx⟩:=U6.mp hx;rw[QC]at hp;obtain⟨q,rfl,q0,q1⟩:=sF hx;exact⟨_,_,rfl,by omega,by omega,by omega⟩
theorem ED{k p:Int}{c:Nat}:((bu lo c).filter fun d=>match d with | .int q=>OF k (T p q)|_=>false).map (fun d=>match d with | .int q=>aq [p,q]|_=>.non)=(nH T k p lo c).map aq:=by
 unfold bu nH;rw[U7,SX,U7,SX,SX];rfl
section
variable{a:Nat}{p:Int}{k:Int}
theorem Ed(h:FT Y0 m a T Y)(p0:0<=p)(p1:p<m)(q0:0<=q)(q1:q<m):ff [some (.int q),some 4e8,some (.int k),some 11e6] Y=.ok (OF k (T p q)) Y:=by
 obtain⟨b,e1,e2,_⟩:=h.get p0 p1;unfold ff;dsimp[g7,bR,aC,ao,ah,aT,aa,ae,e1,e2 q q0 q1,zu,qg,aO];cases e:T p q with
 |none=>rfl
 |some j=>
  dsimp[Qr (show ¬ some j=none by simp),TV,RI,cG,aa,ae,aO,pN];rfl
theorem Ee(h:FT Y0 m a T Y)(hm:m<=6)(p0:0<=p)(p1:p<m) :
  compLoop (.fix (bu (p+1) ((m:Int)-(p+1)).toNat)) 8e6 (ak 0) ff ie (bu (p+1) ((m:Int)-(p+1)).toNat) [none,some 4e8,some (.int k),some 11e6] (Y++[.lst []])=.ok 1e0 (Y++[.lst ((nH T k p (p+1) ((m:Int)-(p+1)).toNat).map aq)]):=by
 have:=dn (src:=.fix (bu (p+1) ((m:Int)-(p+1)).toNat)) (g:=ak 0) (t:=ff) (e:=ie) (Y1:=Y) (q:=fun d=>match d with | .int q=>OF k (T p q)|_=>false)
  (h:=fun d=>match d with | .int q=>aq [p,q]|_=>.non) (fun Z=>∃o,Z=[o,some 4e8,some (.int k),some 11e6]) 10e5 (xs:=bu (p+1) ((m:Int)-(p+1)).toNat) (acc:=[]) (Z:=[none,some 4e8,some (.int k),some 11e6]) ⟨none,rfl⟩
  (by unfold bu;rw[Rz,S8,SZ];exact QD 0e0 bf)
  (fun x hx acc Z hJJ => by
   obtain⟨o,ho⟩:=hJJ;unfold bu at hx;obtain⟨i,hi,rfl⟩:=Te.mp hx;rw[QC]at hi;subst ho;refine⟨[some (.int (p+1+(i:Int))),some 4e8,some (.int k),some 11e6],⟨_,rfl⟩,rfl,Ed (h.app) p0 p1 0e0 0e0,fun _=>?_⟩;unfold ie;dsimp[cb,ar,au,ao,ah,aa,ae,Sx,S8,Qu l2]
   rfl)
 rw[this,ED];rfl
end
theorem oY{m:Nat}{T:Int->Int->Option Nat}{k:Int}(h:m<=6):∀n,((List.range n).flatMap fun p:Nat=>nH T k p ((p:Int)+1) (m-(p+1))).length<=6*n
 |0=>by simp
 |n+1=>by
  rw[U8,List.flatMap_append,Ry];have:=oY (T:=T) (k:=k) h n;have h2:=xK (T:=T) (k:=k) (p:=n) (lo:=(n:Int)+1) (c:=m-(n+1));dsimp[U9,List.flatMap_nil,Rg];omega
theorem BB{k:Int}(h:fJ 2e4 m ks):∃T,(∀p:Int,0<=p->p<m->w6 (mG ks) p (fun q=>0<=q/\q<m) (T p)) /\
  eA [.tup [.int m,.tup 0e5],.int k] Y=.ok (.tup [.int m,.tup ((Jq m T k).map aq)]) Y:=by
 obtain⟨a,μf,T,ef,hF,hT⟩:=AL (Y:=Y) h;obtain⟨_,h0,h1,hp,hk⟩:=h;have hm6:m<=6:=by omega
 refine⟨T,hT,?_⟩
 have run:=iF (src:=.fix (bu 0 m)) (g:=ak 4) (fb:=ic)
  (fun xs Z Y1=>∃(n c t:Nat)(o4:Option D),xs=bu n c/\n+c=m/\Z=[some 2e4,some (.int k),some 11e6,some (.obj t),o4]/\FT Y m a T Y1/\Y1[t]?=some (.lst (((List.range n).flatMap fun p:Nat=>nH T k p ((p:Int)+1) (m-(p+1))).map aq)))
  (fun _ _ _=>trivial)
  (fun x r Z Y1 hJJ => by
   obtain⟨n,c,t,o4,e1,e3,e4,e5,e6⟩:=hJJ;subst e4;cases c with
   |zero=>rw[ju]at e1;cases e1
   |succ c=>
    rw[ix]at e1;injection e1 with ex er
    subst ex er;have q3:=Ee (k:=k) (p:=(n:Int)) e5 hm6 0e0 0e0;rw[show ((m:Int)-((n:Int)+1)).toNat=m-(n+1) by omega]at q3;have hlen:=oY (T:=T) (k:=k) hm6 n;have hrow:=xK (T:=T) (k:=k) (p:=n) (lo:=(n:Int)+1) (c:=m-(n+1));refine⟨trivial,_,Y1,[some 2e4,some (.int k),some 11e6,some (.obj (Y1.length+1)),some (.int n)],(Y1++[O.lst ((nH T k n ((n:Int)+1) (m-(n+1))).map aq)])++[O.lst (((List.range (n+1)).flatMap fun p:Nat=>nH T k p ((p:Int)+1) (m-(p+1))).map aq)],rfl,?_,n+1,c,Y1.length+1,some (.int n),by push_cast;rfl,by omega,rfl,(e5.app).app,?_⟩
    ·show ic [some (.tup [.int m, .tup 0e5]), some (.int k), some 11e6, some (.obj t), some (.int n)] Y1 = _;unfold ic;dsimp[aS,aC,ao,ah,aa,ae,bP,cF,ar,au,aT,eV,cv];rw[kZ 0e0 0e0 0e0 0e0];dsimp[aa,ae,bg];rw[show ((m:Int)-((n:Int)+1)).toNat=m-(n+1) by omega];rw[show dr [none,some 4,some 1,some 2] [some (D.tup [D.int ↑m,D.tup (List.map aq ks)]),some (D.int k),some (D.obj a),some (D.obj t),some (D.int n)]=[none,some (.int n),some (.int k),some 11e6] from rfl,q3];dsimp[aa,ae];unfold bF;dsimp only;rw[aK e6,aw];dsimp only
     rw[Qu (by
      rw[Rz,Rz]
      exact QD (show _<=1000 by omega) bf)]
     dsimp[af,ae,bH];dsimp[Ry,Sx,S8,U3,U4,U8,List.flatMap_append,To,U9,List.flatMap_nil,Rg]
    ·have : Y1.length + 1 = (Y1 ++ [O.lst ((nH T k n ((n : Int) + 1) (m - (n + 1))).map aq)]).length := by simp
     rw[this];exact aw)
  (xs:=bu 0 m) (Z:=[some 2e4,some (.int k),some 11e6,some (.obj μf.length),none]) (Y:=μf++[.lst []])
  ⟨0,m,μf.length,none,rfl,by omega,rfl,hF.app,aw⟩
 obtain⟨Z',Y',⟨n,c,t,o4,e1,e3,e4,e5,e6⟩,run⟩:=run;subst e4;have hz:=l6 e1.symm;subst hz;have hnm:n=m:=by omega
 subst hnm;have hg:fJ (.tup [.int n,.tup ((Jq n T k).map aq)]) n (Jq n T k):=xC 0e0 hm6;obtain⟨g,hpre⟩:=e5.pre;unfold eA;rw[cS];dsimp[pA,aG,aS,aA,ar,au,ah,aa,ae,ef,af,bH,aD,cZ];have l0:(0:Nat)<=sizeLine:=SI _;dsimp[S8,Qu l0,af,aD,List.replicate,U3,U4,aG,gW,cF,ar,au,aC,ah,aT,aa,ae,cv];rw[gY 0e0 0e0];dsimp[af,ae,bg,RF];rw[run];dsimp[aD,bc,cb,ar,au,aC,aA,ao,ah,aT,aa,ae,cv];rw[gk e6];dsimp[aa,ae,Sx,S8,Qu l2,af,aP];rw[hpre];exact d5 (kC hg)
theorem kz{Y:aB}:∀fs:List Int,fO Y (fs.map D.int)=some (fs.map PyData.int)
 |[]=>rfl
 |x::fs=>by dsimp[RZ,fO,kz fs];rfl
theorem oX:∀fs:List Int,PyData.canLayAll0 (fs.map PyData.int)=true/\PyData.depthAll (fs.map PyData.int)=0
 |[]=>by simp[PyData.canLayAll0,PyData.depthAll]
 |x::fs=>by
  have:=oX fs;dsimp[RZ,PyData.canLayAll0,PyData.depthAll,PyData.canLay0,PyData.depth,this.1,this.2];exact⟨rfl,rfl⟩
theorem A4{F:Nat}{fs:List Int}{a:Int}(h:Y[F]?=some (.lst (fs.map D.int))):va false (.int a) (.obj F) Y=.ok (.bl (decide (a∈fs))) Y:=by
 have e1:nE Y (.int a)=some (.int a):=rfl
 have e2:nE Y (.obj F)=some (.list (fs.map PyData.int)):=by
  unfold nE;dsimp only;rw[h];dsimp only;rw[kz];rfl
 have f1:dN (.int a)=true:=rfl
 have f2:dN (.list (fs.map PyData.int))=true:=by
  have:=oX fs;dsimp[dN,PyData.canLay0,this.1,PyData.depth,this.2,Va];rfl
 unfold va;rw[e1,e2];dsimp only[vz];rw[Qu ⟨f1,f2⟩];dsimp[Sw,RH];congr 2;rw[Vb];apply Rc.mpr;rw[Vc,UH];constructor
 ·rintro ⟨x, hx, e⟩
  have:x=a:=by simpa[PyData.eqv] using e
  subst this;exact hx
 ·intro hx;exact⟨a,hx,by simp[PyData.eqv]⟩
theorem jX{m:Int}(hk:∀k∈ks,oq m k){a b:Int}:mG ks a b↔([a,b]∈ks\/[b,a]∈ks):=by
 unfold mG vk;rw[U6];constructor
 ·rintro ⟨k, hk', hm⟩
  obtain⟨u,v,rfl,_⟩:=hk k hk';simp at hm;rcases hm with⟨rfl,rfl⟩|⟨rfl,rfl⟩
  ·exact .inl hk'
  ·exact .inr hk'
 ·rintro (h | h)
  ·exact⟨_,h,by simp⟩
  ·exact⟨_,h,by simp⟩
theorem qj{m:Int}{t e:List Int->Int}:∀{ks:List 1e9},(∀k∈ks,oq m k)->∀(P:Int->Bool),∃l:List Int,
  ((ks.map aq).filter (fun d=>match d with | .tup [.int a,.int b]=>P (t [a,b])|_=>false)).map (fun d=>match d with | .tup [.int a,.int b]=>.int (e [a,b])|_=>.non)=l.map D.int/\l.length<=ks.length/\∀x,x∈l↔∃k∈ks,P (t k)=true/\x=e k
 |[],_,P=>⟨[],rfl,Q8 _,by simp⟩
 |k::ks,h,P=>by
  obtain⟨l,e1,e2,e3⟩:=qj (t:=t) (e:=e) (ks:=ks) (fun x hx=>h x (QH _ hx)) P;obtain⟨a,b,rfl,_⟩:=h k QG;rw[RZ,UR];show ∃l:List Int,List.map _ (if P (t [a,b])=true then _ else _)=_/\_;by_cases c:P (t [a,b])=true
  ·rw [Qu c, RZ, e1];refine⟨e [a,b]::l,rfl,by simp;omega,fun x=>?_⟩;dsimp[QI,e3];constructor
   ·rintro (rfl | ⟨k, hk, z⟩)
    ·exact⟨[a,b],.inl rfl,c,rfl⟩
    ·exact⟨k,.inr hk,z⟩
   ·rintro ⟨k, rfl | hk, z1, z2⟩
    ·exact .inl z2
    ·exact .inr ⟨k,hk,z1,z2⟩
  ·rw [Qv c, e1];refine⟨l,rfl,by simp;omega,fun x=>?_⟩;dsimp[QI,e3];constructor
   ·rintro⟨k,hk,z⟩;exact⟨k,.inr hk,z⟩
   ·rintro ⟨k, rfl | hk, z1, z2⟩
    ·exact absurd z1 c
    ·exact⟨k,hk,z1,z2⟩
def F9:List Int->Int
 |[a,_]=>a
 |_=>0
def F5:List Int->Int
 |[_,b]=>b
 |_=>0
theorem Eo{m:Int}{F:Nat}{fs:List Int}(hk:∀k∈ks,oq m k)(hl:ks.length<=15)(h:Y[F]?=some (.lst (fs.map D.int))):
  ∃(t:Nat)(g:aB)(ns:List Int),fZ [.tup 0e5,.obj F] Y=.ok (.obj t) (Y++g)/\(Y++g)[t]?=some (.lst 6e6)/\ns.length<=30/\Y.length<=t/\∀q,q∈ns↔∃r∈fs,mG ks r q:=by
 obtain⟨l1,a1,a2,a3⟩:=qj (t:=F9) (e:=F5) hk fun x=>decide (x∈fs);obtain⟨l2',b1,b2,b3⟩:=qj (t:=F5) (e:=F9) hk fun x=>decide (x∈fs)
 have c1:=dn (src:=.fix 0e5) (g:=dc 2 6e4) (t:=jf) (e:=lJ) (Y1:=Y)
  (q:=fun d=>match d with | .tup [.int a,.int b]=>decide (F9 [a,b]∈fs)|_=>false) (h:=fun d=>match d with | .tup [.int a,.int b]=>.int (F5 [a,b])|_=>.non)
  (fun Z=>∃o1 o2,Z=[o1,o2,some (.obj F)]) 10e5 (xs:=ks.map aq) (acc:=[]) (Z:=[none,none,some (.obj F)]) ⟨_,_,rfl⟩
  (by rw[Rz,S8];exact QD 0e0 bf)
  (fun x hx a Z hJJ => by
   obtain⟨o1,o2,ho⟩:=hJJ;obtain⟨k,hk',rfl⟩:=Te.mp hx;obtain⟨u,v,rfl,_⟩:=hk k hk';subst ho;refine⟨[some (.int u),some (.int v),some (.obj F)],⟨_,_,rfl⟩,rfl,?_,fun _=>rfl⟩;unfold jf;dsimp[bR,aC,ao,ah,aa,ae];rw[A4 (aK h)]
   rfl)
 have c2:=fun M:aB=>fun hM:M[F]?=some (.lst (fs.map D.int))=>dn (src:=.fix 0e5) (g:=dc 2 6e4) (t:=je) (e:=lI) (Y1:=M)
  (q:=fun d=>match d with | .tup [.int a,.int b]=>decide (F5 [a,b]∈fs)|_=>false) (h:=fun d=>match d with | .tup [.int a,.int b]=>.int (F9 [a,b])|_=>.non)
  (fun Z=>∃o1 o2,Z=[o1,o2,some (.obj F)]) 10e5 (xs:=ks.map aq) (acc:=[]) (Z:=[none,none,some (.obj F)]) ⟨_,_,rfl⟩
  (by rw[Rz,S8];exact QD 0e0 bf)
  (fun x hx a Z hJJ => by
   obtain⟨o1,o2,ho⟩:=hJJ;obtain⟨k,hk',rfl⟩:=Te.mp hx;obtain⟨u,v,rfl,_⟩:=hk k hk';subst ho;refine⟨[some (.int u),some (.int v),some (.obj F)],⟨_,_,rfl⟩,rfl,?_,fun _=>rfl⟩;unfold je;dsimp[bR,aC,ao,ah,aa,ae];rw[A4 (aK hM)]
   rfl)
 rw[Sn,a1]at c1;have c2':=c2 (Y++[O.lst (l1.map D.int)]) (aK h);rw[Sn,b1]at c2';refine⟨((Y++[O.lst (l1.map D.int)])++[O.lst (l2'.map D.int)]).length,([O.lst (l1.map D.int)]++[O.lst (l2'.map D.int)])++[O.lst ((l1++l2').map D.int)],l1++l2',?_,?_,by rw[Ry];omega,by simp,fun q=>?_⟩
 ·unfold fZ;rw[cS];dsimp[nC,bc,aC,bP,cw,ah,aa,ae,jV,bg,List.replicate];rw[show dr [none,none,some 1] (some (D.tup (List.map aq ks))::some (D.obj F)::List.replicate (2-2) none)=[none,none,some (.obj F)] from rfl,c1];dsimp[aa,ae];rw[c2'];dsimp[aa,ae]
  have ad:bF 1e0 (.obj (Y++[O.lst (l1.map D.int)]).length) ((Y++[O.lst (l1.map D.int)])++[O.lst (l2'.map D.int)])=.ok (.obj ((Y++[O.lst (l1.map D.int)])++[O.lst (l2'.map D.int)]).length) (((Y++[O.lst (l1.map D.int)])++[O.lst (l2'.map D.int)])++[O.lst ((l1++l2').map D.int)]):=by
   unfold bF;dsimp only;rw[aw,aK aw];dsimp only;rw[Qu,To];rw[Rz,Rz];exact QD (show _<=1000 by omega) bf
  rw[ad,af,aP,Av 0e6];dsimp[Sh]
 ·rw[<- Sh,<- Sh];exact aw
 ·rw [QK, a3, b3];constructor
  ·rintro (⟨k, hk', z1, z2⟩ | ⟨k, hk', z1, z2⟩)
   ·obtain⟨u,v,rfl,_⟩:=hk k hk';subst z2;exact⟨u,Vd z1,(jX hk).mpr (.inl hk')⟩
   ·obtain⟨u,v,rfl,_⟩:=hk k hk';subst z2;exact⟨v,Vd z1,(jX hk).mpr (.inr hk')⟩
  ·rintro ⟨r, hr, ha⟩
   rcases (jX hk).mp ha with z|z
   ·exact .inl ⟨_,z,Sr hr,rfl⟩
   ·exact .inr ⟨_,z,Sr hr,rfl⟩
theorem l9{o o':O}(h:Y[j]?=some o')(ne:i≠j):(Y.set i o)[j]?=some o':=by rw[QP ne];exact h
def eY(k:List Int):PyData:=.tuple (k.map PyData.int)
theorem qc{Y:aB}{m:Int}:∀{ks:List 1e9},(∀k∈ks,oq m k)->fO Y 0e5=some (ks.map eY)
 |[],_=>rfl
 |k::ks,h=>by
  obtain⟨a,b,rfl,_⟩:=h k QG;have ih:=qc (Y:=Y) fun x hx=>h x (QH _ hx);dsimp[RZ,fO,ih];rfl
theorem qd{m:Int}:∀{ks:List 1e9},(∀k∈ks,oq m k)->PyData.canLayAll0 (ks.map eY)=true/\PyData.depthAll (ks.map eY)<=1
 |[],_=>by simp[PyData.canLayAll0,PyData.depthAll]
 |k::ks,h=>by
  obtain⟨a,b,rfl,_⟩:=h k QG;have ih:=qd fun x hx=>h x (QH _ hx);dsimp[RZ,PyData.canLayAll0,PyData.depthAll,ih.1,eY,RY,PyData.canLay0,PyData.depth];refine⟨rfl,?_⟩;have:=ih.2;omega
end Lw
namespace Lw
open PySem L2 RS
def Pn(Y0:aB)(i:Nat)(Y:aB):Prop:=∃a b c g,Y=Y0.set i 7e4++g
theorem Pn.app{g:aB}(h:Pn Y0 i Y):Pn Y0 i (Y++g):=by
 obtain⟨a,b,c,g',rfl⟩:=h;exact⟨a,b,c,g'++g,by rw[Sh]⟩
theorem Pn.get(h:Pn Y0 i Y)(hi:i<Y0.length):∃a b c,Y[i]?=some 7e4:=by
 obtain⟨a,b,c,g',rfl⟩:=h;exact⟨a,b,c,aK (eU hi)⟩
theorem Pn.set{a b c:Int}(h:Pn Y0 i Y)(hi:i<Y0.length):Pn Y0 i (Y.set i 7e4):=by
 obtain⟨a',b',c',g',rfl⟩:=h;exact⟨a,b,c,g',by rw[mI 6e3,List.set_set]⟩
theorem Pn.len(h:Pn Y0 i Y):Y0.length<=Y.length:=by
 obtain⟨a',b',c',g',rfl⟩:=h;simp
theorem Pn.self{a b c:Int}(h:Y0[i]?=some 7e4):Pn Y0 i Y0:=by
 refine⟨a,b,c,[],?_⟩;rw[Rg];apply Ui;intro j;by_cases e:i=j
 ·subst e;rw[eU (QM.mp h).1,h]
 ·rw[QP e]
theorem Pn.draw{m:Int}(h:Pn Y0 i Y)(hi:i<Y0.length)(h0:0<m)(h1:m<1000):
  ∃r a b c:Int,0<=r/\r<m/\aM [.obj i,.int m] Y=.ok (.int r) (Y.set i 7e4)/\Pn Y0 i (Y.set i 7e4):=by
 obtain⟨a,b,c,hp⟩:=h.get hi;obtain⟨r,a',b',c',r0,r1,e⟩:=AM hp h0 h1;exact⟨r,a',b',c',r0,r1,e,h.set hi⟩
theorem Pn.gc(h:Pn Y0 i Y)(hd:d.low Y0.length):∃a b c,tT Y0 (.ok d Y)=.ok d (Y0.set i 7e4):=by
 obtain⟨a,b,c,g',rfl⟩:=h;exact⟨a,b,c,zq hd rP⟩
theorem pb{e:ME}{rest:Ro}{f:Int->Int×Int}(hn:n<1000)(he:∀v a,e (some (.int v)::rest) 4e1=.ok (cg (f v)) 4e1):
  compLoop (.fix (bu lo n)) 6e9 (ak 0) bp e (bu lo n) (none::rest) (Y1++[.lst []])=.ok (.obj 6e9) (Y1++[.lst (((List.range n).map fun k:Nat=>f (lo+(k:Int))).map cg)]):=by
 have:=dn (src:=.fix (bu lo n)) (g:=ak 0) (t:=bp) (e:=e) (Y1:=Y1) (q:=fun _=>true)
  (h:=fun d=>match d with | .int a=>cg (f a)|_=>.non) (fun Z=>∃o,Z=o::rest) 10e5 (xs:=bu lo n) (acc:=[]) (Z:=none::rest) ⟨none,rfl⟩
  (by unfold bu;rw[Rz,S8,SZ];exact QD 0e0 bf)
  (fun x hx a Z hJJ => by
   obtain⟨o,ho⟩:=hJJ;unfold bu at hx;obtain⟨k,hk,rfl⟩:=Te.mp hx
   exact⟨_,⟨_,rfl⟩,by subst ho;rfl,rfl,fun _=>he _ _⟩)
 rw[this,U5.mpr (fun _ _=>rfl)];unfold bu;dsimp[Sn,SX];rfl
def My(m:Int)(ps:List (Int×Int)):Prop:=ps.length<=40/\∀p∈ps,0<=p.1/\p.1<m/\0<=p.2/\p.2<m/\p.1≠p.2
theorem tm{t:Nat}{m:Int}{k:Int}(hi:i<Y0.length)(ht:Y0.length<=t)(h:Pn Y0 i Y1)(hl:Y1[t]?=some (.lst 11e0))(hps:My m ps)(k0:0<k)(k1:k<1000):
  ∃qs Y2,My m qs/\Pn Y0 i Y2/\Y2.length=Y1.length/\compLoop (.own t 11e0) 6e9 (ak 0) (gb (ay (f9 false) (aE aM (ag 3e0 (ag (cC (.int k)) (az)))) 1e4)) 2e3 11e0 [none,some 10e2] (Y1++[.lst []])=.ok (.obj 6e9) (Y2++[.lst 7e3]):=by
 have run:=iV (src:=.own t 11e0) (g:=ak 0) (t:=(gb (ay (f9 false) (aE aM (ag 3e0 (ag (cC (.int k)) (az)))) 1e4))) (e:=aj 0) (n:=6e9)
  (fun xs ys Z Y2 s=>s=[]/\Y2.length=Y1.length/\Pn Y0 i Y2/\Y2[t]?=some (.lst 11e0)/\(∃o,Z=[o,some 10e2])/\∃rs qs:List (Int×Int),xs=rs.map cg/\ys=qs.map cg/\qs.length+rs.length<=40/\(∀p∈rs,0<=p.1/\p.1<m/\0<=p.2/\p.2<m/\p.1≠p.2)/\(∀p∈qs,0<=p.1/\p.1<m/\0<=p.2/\p.2<m/\p.1≠p.2))
  (fun ys Z Y2 s ⟨_,e1,_,e2,_⟩=>⟨e1,aK e2⟩)
  (fun x r ys Z Y2 s hJJ => by
   obtain⟨es,e1,e2,e3,⟨o,e4⟩,rs,qs,e5,e6,e7,e8,e9⟩:=hJJ;subst es e4 e6;cases rs with
   |nil=>cases e5
   |cons p rs=>
    injection e5 with ex er
    subst ex er;obtain⟨v,a,b,c,v0,v1,ed,hp⟩:=(e2.app (g:=[.lst 7e3])).draw hi k0 k1;have i2:i<Y2.length:=Qx hi e2.len;rw[mI i2]at ed;refine⟨e1,aK e3,[some (cg p),some 10e2],Y2,[],v == 0,Y2.set i 7e4,[],rfl,?_,fun hc=>?_,fun hc=>?_⟩
    ·dsimp[bR,aC,aA,ar,au,ao,ah,aT,aa,ae,ed,cE,Sw,RH,aO]
    ·refine ⟨cg p, Y2.set i 7e4, [], by rw [ah], ?_, by simpa using e1, rfl, by simpa using e1, e2.set hi, l9 e3 0e0, ⟨_, rfl⟩, rs, qs ++ [p], rfl, by simp, by simp at e7 ⊢; omega, fun q hq => e8 q (QH _ hq), fun q hq => ?_⟩
     ·rw[Rz];dsimp[Sx]at e7;exact Qx (show qs.length<1000 by omega) bf
     ·rcases QK.mp hq with z | z
      ·exact e9 q z
      ·simp at z;subst z;exact e8 _ QG
    ·exact⟨rfl,by simpa using e1,e2.set hi,l9 e3 0e0,⟨_,rfl⟩,rs,qs,rfl,rfl,by simp at e7⊢;omega,fun q hq=>e8 q (QH _ hq),e9⟩)
  (xs:=ps.map cg) (ys:=[]) (Z:=[none,some 10e2]) (Y1:=Y1) (s:=[])
  ⟨rfl,rfl,h,hl,⟨_,rfl⟩,ps,[],rfl,rfl,by have:=hps.1;simpa using this,hps.2,by simp⟩
 obtain⟨ys',Z',Y2,s',⟨es,e1,e2,e3,⟨o,e4⟩,rs,qs,e5,e6,e7,e8,e9⟩,run⟩:=run;subst es e6;exact⟨qs,Y2,⟨by omega,e9⟩,e2,e1,run⟩
theorem Ab{m:Int}(hi:i<Y0.length)(h:Pn Y0 i Y1)(m0:1<=m)(m1:m<=6):
  ∃qs Y2,My m qs/\Pn Y0 i Y2/\Y2.length=Y1.length/\compLoop (.fix (bu 1 (m-1).toNat)) 6e9 (ak 0) bp cX (bu 1 (m-1).toNat) [none,some 10e2] (Y1++[.lst []])=.ok (.obj 6e9) (Y2++[.lst 7e3]):=by
 have run:=iV (src:=.fix (bu 1 (m-1).toNat)) (g:=ak 0) (t:=bp) (e:=cX) (n:=6e9)
  (fun xs ys Z Y2 s=>s=[]/\Y2.length=Y1.length/\Pn Y0 i Y2/\(∃o,Z=[o,some 10e2])/\∃(lo:Int)(n:Nat)(qs:List (Int×Int)),xs=bu lo n/\1<=lo/\lo+n=m/\ys=qs.map cg/\qs.length+n<=40/\(∀p∈qs,0<=p.1/\p.1<m/\0<=p.2/\p.2<m/\p.1≠p.2))
  (fun ys Z Y2 s ⟨_,e1,_⟩=>⟨e1,trivial⟩)
  (fun x r ys Z Y2 s hJJ => by
   obtain⟨es,e1,e2,⟨o,e4⟩,lo,n,qs,e5,e6,e7,e8,e9,e10⟩:=hJJ;subst es e4 e8;cases n with
   |zero=>rw[ju]at e5;cases e5
   |succ n=>
    rw[ix]at e5;injection e5 with ex er
    subst ex er;obtain⟨v,a,b,c,v0,v1,ed,hp⟩:=(e2.app (g:=[.lst 7e3])).draw (m:=lo) hi 0e0 0e0;have i2:i<Y2.length:=Qx hi e2.len;rw[mI i2]at ed;refine⟨e1,trivial,[some (.int lo),some 10e2],Y2,[],true,Y2,[],rfl,rfl,fun hc=>?_,fun hc=>nomatch hc⟩;refine⟨cg (v,lo),Y2.set i 7e4,[],?_,?_,by simpa using e1,rfl,by simpa using e1,e2.set hi,⟨_,rfl⟩,lo+1,n,qs++[(v,lo)],rfl,by omega,by omega,by simp,by simp;omega,fun q hq=>?_⟩
    ·unfold cX;dsimp[cb,aA,ar,au,ao,ah,aT,aa,ae,ed,Sx,S8,Qu l2];rfl
    ·rw[Rz];exact Qx (show qs.length<1000 by omega) bf
    ·rcases QK.mp hq with z | z
     ·exact e10 q z
     ·simp at z;subst z;exact⟨v0,by omega,by omega,by omega,by dsimp only;omega⟩)
  (xs:=bu 1 (m-1).toNat) (ys:=[]) (Z:=[none,some 10e2]) (Y1:=Y1) (s:=[])
  ⟨rfl,rfl,h,⟨_,rfl⟩,1,_,[],rfl,by omega,by omega,rfl,by simp;omega,by simp⟩
 obtain⟨ys',Z',Y2,s',⟨es,e1,e2,⟨o,e4⟩,lo,n,qs,e5,e6,e7,e8,e9,e10⟩,run⟩:=run;subst es e8;exact⟨qs,Y2,⟨by omega,e10⟩,e2,e1,run⟩
def iC:MS:=2e0
theorem GX{t:Nat}{m w:Int}(hi:i<Y0.length)(ht:Y0.length<=t)(h:Pn Y0 i Y1)(hl:Y1[t]?=some (.lst 11e0))(hps:My m ps)(m0:1<=m)(m1:m<=6):
  ∃(o:Nat)(qs:List (Int×Int))(Y2:aB),My m qs/\Pn Y0 i Y2/\Y2[o]?=some (.lst 7e3)/\iC [some 10e2,some (.int w),some 6e1,some (.obj t),o4,none] Y1=.next [some 10e2,some (.int w),some 6e1,some (.obj t),o4,some (.obj o)] Y2:=by
 unfold iC
 have r1:∀n a,eD (some (.int n)::[]) 4e1=.ok (cg (n,n+1)) 4e1:=fun n a=>by
  unfold eD;dsimp[cb,ar,au,aC,ah,aT,aa,ae,eV,Sx,S8,Qu l2];rfl
 have r2:∀n a,gG (some (.int n)::[]) 4e1=.ok (cg (n,n+1)) 4e1:=r1
 have r3:∀n a,eC (some (.int n)::[]) 4e1=.ok (cg (0,n)) 4e1:=fun n a=>by
  unfold eC;dsimp[cb,ar,au,aC,ah,aT,aa,ae,eV,Sx,S8,Qu l2];rfl
 have sb:dG 6e1 (.int 1) Y1=.ok (.int (m-1)) Y1:=rfl;have rn:(List.range (m-1).toNat).length<=5:=by rw[SZ];omega
 have pth:∀p∈(List.range (m-1).toNat).map (fun k:Nat=>(((0:Int)+(k:Int)),(0:Int)+(k:Int)+1)),0<=p.1/\p.1<m/\0<=p.2/\p.2<m/\p.1≠p.2:=fun p hp=>by
  obtain⟨k,hk,rfl⟩:=Te.mp hp;rw[QC]at hk;dsimp only;omega
 by_cases w0:w=0
 ·subst w0;obtain⟨qs,Y2,q1,q2,q3,q4⟩:=tm (k:=2) hi ht h hl hps 0e4 0e4;refine⟨6e9,qs,Y2++[.lst 7e3],q1,q2.app,by rw[<- q3];exact aw,?_⟩;dsimp[bw,bR,aC,ao,ah,aT,aa,ae,cE,Sv,aO,af,Sw,RH,RI,aS,bP,cw];rw[d6 hl];dsimp[aa,ae,cK];rw[show dr [none,some 0] [some (D.obj i),some (.int 0),some 6e1,some (.obj t),o4,none]=[none,some 10e2] from rfl];unfold gE gI;rw[q4];rfl
 have w0':(w == 0)=false:=by simpa using w0
 by_cases w1:w=1
 ·subst w1;obtain⟨qs,Y2,q1,q2,q3,q4⟩:=tm (k:=3) hi ht h hl hps 0e4 0e4;refine⟨6e9,qs,Y2++[.lst 7e3],q1,q2.app,by rw[<- q3];exact aw,?_⟩;dsimp[bw,bR,aC,ao,ah,aT,aa,ae,cE,w0',Sv,aO,af,Sw,RH,RI,aS,bP,cw];rw[d6 hl];dsimp[aa,ae,cK];rw[show dr [none,some 0] [some (D.obj i),some (.int 1),some 6e1,some (.obj t),o4,none]=[none,some 10e2] from rfl];unfold gD gH;rw[q4];rfl
 have w1':(w == 1)=false:=by simpa using w1
 by_cases w2:w=2
 ·subst w2;let ps1:List (Int×Int):=(List.range (m-1).toNat).map (fun k:Nat=>(((0:Int)+(k:Int)),(0:Int)+(k:Int)+1))
  let ps2:List (Int×Int):=(List.replicate (if cA .Gt m 2 then (1:Int) else 0).toNat [((0:Int),m-1)]).flatten
  have hb:ps2=if cA .Gt m 2 then [((0:Int),m-1)] else []:=by
   dsimp[ps2];cases cA .Gt m 2 <;> rfl
  have hb2:ps2.length<=1/\∀p∈ps2,p=(0,m-1)/\2<m:=by
   rw[hb];by_cases z:cA .Gt m 2=true
   ·rw [Qu z];have:2<m:=by simpa[cA] using z
    simp[this]
   ·rw[Qv z];simp
  refine⟨_,ps1++ps2,((Y1++[O.lst (ps1.map cg)]++[O.lst [cg (0,m-1)]])++[O.lst (ps2.map cg)])++[O.lst ((ps1++ps2).map cg)],⟨?_,fun p hp=>?_⟩,((h.app).app.app).app,aw,?_⟩
  ·rw [Ry];have:ps1.length<=5:=by dsimp[ps1,Rz];exact rn
   omega
  ·rcases QK.mp hp with z | z
   ·exact pth p z
   ·obtain⟨rfl,z2⟩:=hb2.2 p z;dsimp only;omega
  ·dsimp[bw, bR, aC, ao, ah, aT, aa, ae, cE, w0', w1', Sv, aO, af, Sw, RH, RI, aS, bP, cF, ar, au, sb];rw[gY 0e0 0e0];dsimp[aa,ae,bg];rw[show dr [none] _=[none] from rfl,pb (f:=fun v=>(v,v+1)) 0e0 r1];have l1:(1:Nat)<=sizeLine:=by decide
   have sb':∀Y,dG 6e1 (.int 1) Y=.ok (.int (m-1)) Y:=fun _=>rfl;have ib:∀k:Bool,∀Y,qJ [.bl k] Y=.ok (.int (if k then 1 else 0)) Y:=fun _ _=>rfl;dsimp[aa,ae,cZ,cb,ar,au,aC,ao,ah,aT,sb',Sx,S8,Qu l2,Qu l1,aA,cG,ib]
   have mu:∀M:aB,mZ 9e8 (.int (if cA .Gt m 2=true then 1 else 0)) (M++[O.lst [cg (0,m-1)]])=.ok (.obj (M++[O.lst [cg (0,m-1)]]).length) ((M++[O.lst [cg (0,m-1)]])++[O.lst (ps2.map cg)]):=fun M=>by
    unfold mZ;dsimp only;rw[aw];dsimp only
    have:(List.replicate (if cA .Gt m 2=true then (1:Int) else 0).toNat [cg (0,m-1)]).flatten=ps2.map cg:=by
     dsimp[ps2];cases cA .Gt m 2 <;> rfl
    rw[this,Qu];have l1':(1:Nat)<=sizeLine:=by decide
    cases cA .Gt m 2
    ·exact⟨by decide,by decide,SI _⟩
    ·exact⟨by decide,by decide,l1'⟩
   rw[show (D.tup [D.int 0,D.int (m-1)])=cg (0,m-1) from rfl,mu];dsimp[aa,ae]
   have ad:bF (.obj 6e9) (.obj (Y1++[O.lst (ps1.map cg)]++[O.lst [cg (0,m-1)]]).length) ((Y1++[O.lst (ps1.map cg)]++[O.lst [cg (0,m-1)]])++[O.lst (ps2.map cg)])=.ok (.obj ((Y1++[O.lst (ps1.map cg)]++[O.lst [cg (0,m-1)]])++[O.lst (ps2.map cg)]).length) (((Y1++[O.lst (ps1.map cg)]++[O.lst [cg (0,m-1)]])++[O.lst (ps2.map cg)])++[O.lst ((ps1++ps2).map cg)]):=by
    unfold bF;dsimp only;rw[aw,aK (aK aw)];dsimp only;rw[Qu,To];have e1:((List.range (m-1).toNat).map (fun k:Nat=>(((0:Int)+(k:Int)),(0:Int)+(k:Int)+1))).length<=5:=by rw[Rz];exact rn
    have e2:((ps1.map cg).length:Nat)<=5:=by rw[Rz];exact e1
    have e3:((ps2.map cg).length:Nat)<=1:=by rw[Rz];exact hb2.1
    exact QD (show _<=1000 by omega) bf
   rw[ad];rfl
 have w2':(w == 2)=false:=by simpa using w2
 by_cases w3:w=3
 ·subst w3;refine⟨6e9,(List.range (m-1).toNat).map (fun k:Nat=>(((0:Int)+(k:Int)),(0:Int)+(k:Int)+1)),Y1++[.lst _],⟨by rw[Rz];omega,pth⟩,h.app,aw,?_⟩;dsimp[bw,bR,aC,ao,ah,aT,aa,ae,cE,w0',w1',w2',Sv,aO,af,Sw,RH,RI,aS,bP,cF,ar,au,sb];rw[gY 0e0 0e0];dsimp[aa,ae,bg];rw[show dr [none] _=[none] from rfl,pb (f:=fun v=>(v,v+1)) 0e0 r2];rfl
 have w3':(w == 3)=false:=by simpa using w3
 by_cases w4:w=4
 ·subst w4;refine⟨6e9,(List.range (m-1).toNat).map (fun k:Nat=>((0:Int),(1:Int)+(k:Int))),Y1++[.lst _],⟨by rw[Rz];omega,fun p hp=>?_⟩,h.app,aw,?_⟩
  ·obtain⟨k,hk,rfl⟩:=Te.mp hp;rw[QC]at hk;dsimp only;omega
  dsimp[bw,bR,aC,ao,ah,aT,aa,ae,cE,w0',w1',w2',w3',Sv,aO,af,Sw,RH,RI,aS,bP,cF,ar,au,sb];rw[kZ 0e0 0e0 0e0 0e0];dsimp[aa,ae,bg];rw[show dr [none] _=[none] from rfl,pb (f:=fun v=>(0,v)) 0e0 r3];rfl
 have w4':(w == 4)=false:=by simpa using w4
 obtain⟨qs,Y2,q1,q2,q3,q4⟩:=Ab hi h m0 m1;refine⟨6e9,qs,Y2++[.lst 7e3],q1,q2.app,by rw[<- q3];exact aw,?_⟩;dsimp[bw,bR,aC,ao,ah,aT,aa,ae,cE,w0',w1',w2',w3',w4',aO,af,Sw,RH,aS,bP,cF,ar,au];rw[kZ 0e0 0e0 0e0 0e0];dsimp[aa,ae,bg];rw[show dr [none,some 0] [some (D.obj i),some (.int w),some 6e1,some (.obj t),o4,none]=[none,some 10e2] from rfl,q4];rfl
theorem kH{m:Int}(h:fJ d m ks):d.low n:=kC h
theorem BC{a b c:Int}(hp:Y[i]?=some 7e4):∃d m ks a' b' c',fJ d m ks/\dW [.obj i] Y=.ok d (Y.set i (bD a' b' c')):=by
 have hi:i<Y.length:=(QM.mp hp).1;have P0:Pn Y i Y:=Pn.self hp;obtain⟨w,a1,b1,c1,w0,w1,ew,P1⟩:=P0.draw (m:=7) hi 0e4 0e4;generalize hM1:Y.set i (bD a1 b1 c1)=M1 at ew P1;obtain⟨m',a2,b2,c2,m0,m1,em,P2⟩:=P1.draw (m:=6) hi 0e4 0e4;generalize hM2:M1.set i (bD a2 b2 c2)=M2 at em P2
 have run:=iF (src:=.fix (bu 0 (1+m').toNat)) (g:=ak 4) (fb:=eB)
  (fun xs Z Y1 => ∃ (lo : Int) (n : Nat) (t : Nat) (ps : List (Int × Int)) (o4 : Option D), xs = bu lo n /\ 0 <= lo /\ lo + n = 1 + m' /\ Z = [some 10e2, some (.int w), some (.int (1 + m')), some (.obj t), o4, none] /\ Pn Y i Y1 /\ Y.length <= t /\ Y1[t]? = some (.lst 11e0) /\
   (ps.length:Int)<=6*lo/\(∀p∈ps,0<=p.1/\p.1<p.2/\p.2<lo))
  (fun _ _ _=>trivial)
  (fun x r Z Y1 hJJ => by
   obtain⟨lo,n,t,ps,o4,e1,e2,e3,e4,e5,e6,e7,e8,e9⟩:=hJJ;subst e4;cases n with
   |zero=>rw[ju]at e1;cases e1
   |succ n=>
    rw[ix]at e1;injection e1 with ex er
    subst ex er;let qs:List (Int×Int):=(List.range lo.toNat).map fun k:Nat=>((0:Int)+(k:Int),lo)
    have hq:(qs.length:Int)=lo:=by dsimp[qs,Rz,SZ];omega
    refine⟨trivial,_,Y1,[some 10e2,some (.int w),some (.int (1+m')),some (.obj (Y1.length+1)),some (.int lo),none],(Y1++[O.lst 7e3])++[O.lst ((ps++qs).map cg)],rfl,?_,lo+1,n,Y1.length+1,ps++qs,some (.int lo),rfl,by omega,by omega,rfl,e5.app.app,?_,?_,?_,fun p hp=>?_⟩
    ·show eB [some 10e2, some (.int w), some (.int (1 + m')), some (.obj t), some (.int lo), none] Y1 = _;unfold eB;dsimp[aS,aC,ao,ah,aa,ae,bP,cF,ar,au];rw[gY 0e0 0e0];dsimp[aa,ae,bg]
     rw[show dr [none,some 4] [some (D.obj i),some (.int w),some (.int (1+m')),some (.obj t),some (.int lo),none]=[none,some (.int lo)] from rfl,
      pb (f:=fun v=>(v,lo)) 0e0 (fun v a=>by
       unfold jP;dsimp[cb,ar,au,ao,ah,aa,ae,Sx,S8,Qu l2]
       rfl)]
     dsimp[aa,ae];unfold bF;dsimp only;rw[aK e7,aw];dsimp only
     rw[Qu (by
      rw[Rz,Rz];have:qs.length=((List.range lo.toNat).map fun k:Nat=>((0:Int)+(k:Int),lo)).length:=rfl;rw[<- this]
      exact QD (show _<=1000 by omega) bf)]
     dsimp[af,ae,bH];dsimp[Ry,Sx,S8,U3,U4,To];rfl
    ·have:=e5.len;omega
    ·have : Y1.length + 1 = (Y1 ++ [O.lst 7e3]).length := by simp
     rw[this];exact aw
    ·rw[Ry];push_cast;omega
    ·rcases QK.mp hp with z | z
     ·have:=e9 p z;omega
     ·dsimp[qs] at z;obtain⟨k,hk,rfl⟩:=Te.mp z;rw[QC]at hk;dsimp only
      omega)
  (xs:=bu 0 (1+m').toNat) (Z:=[some 10e2,some (.int w),some (.int (1+m')),some (.obj M2.length),none,none]) (Y:=M2++[.lst []])
  ⟨0,(1+m').toNat,M2.length,[],none,rfl,by omega,by omega,rfl,P2.app,P2.len,aw,by simp,by simp⟩
 obtain⟨Z',M3,⟨lo,n,t,ps,o4,e1,e2,e3,e4,e5,e6,e7,e8,e9⟩,run⟩:=run;subst e4;have hn:=l6 e1.symm;subst hn;obtain⟨o,qs,M4,q1,q2,q3,q4⟩:=GX (m:=1+m') (w:=w) (o4:=o4) hi e6 e5 e7 ⟨by omega,fun p hp=>by have:=e9 p hp;omega⟩ 0e0 0e0;obtain⟨a5,b5,c5,hp4⟩:=q2.get hi;obtain⟨ns,a6,b6,c6,n1,n2,n3,n4⟩:=xE hp4 (m:=1+m') 0e0 0e0;obtain⟨d,ks,g1,g2⟩:∃d ks,fJ d (1+m') ks/\dA _ (M4.set i (bD a6 b6 c6))=.ok d _:=⟨_,_,IT 0e0 0e0 q1.2 (by have:=q1.1;omega) n1 n2 n3⟩;obtain⟨a7,b7,c7,hg⟩:=(q2.set (a:=a6) (b:=b6) (c:=c6) hi).gc (kH g1);refine⟨d,1+m',ks,a7,b7,c7,g1,?_⟩;unfold dW;rw[cu];dsimp[kO,aG,aS,aA,ar,au,ah,aT,aa,ae,ew,af,bH,aD,List.replicate,U3,U4,aC,hM1,em,hM2,eV,cZ,S8,Qu (SI sizeLine),gW,cF,ao];rw[gY 0e0 0e0];dsimp[af,ae,bg];rw[run];dsimp[aD,aG];have hW:=q4;unfold iC at hW;rw[hW];dsimp[aD,bc,aA,ar,au,ao,ah,cb,aa,ae];rw[gk q3];dsimp[aa,ae,Sx,S8,Qu l2,n4,g2,af,aP];exact hg
theorem El{m k:Int}(h:fJ d m ks):∃d' ks',fJ d' m ks'/\eA [d,.int k] Y=.ok d' Y:=by
 have hd:=h.1;have hm:1<=m/\m<=6:=⟨h.2.1,h.2.2.1⟩;subst hd;obtain⟨n,rfl⟩:∃n:Nat,m=(n:Int):=⟨m.toNat,by omega⟩;obtain⟨T,_,e⟩:=BB (Y:=Y) (k:=k) h;exact⟨_,_,xC 0e0 0e0,e⟩
theorem σ2{m:Int}(h:∀k∈ks,oq m k):dN (.tuple (ks.map eY))=true:=by
 have:=qd h;dsimp[dN,PyData.canLay0,this.1,PyData.depth,Va];exact Sr 0e0
theorem AZ{m:Int}(h:∀k∈ks,oq m k):f9 true 5e9 (.tup []) Y=.ok (.bl (!ks.isEmpty)) Y:=by
 have e1:nE Y 5e9=some (.tuple (ks.map eY)):=by
  dsimp[nE,qc h,Option.map_some]
 have e2:nE Y (.tup [])=some (.tuple []):=rfl;unfold f9;rw[e1,e2];dsimp only;rw[Qu ⟨σ2 h,by decide⟩];congr 2;cases ks with
 |nil=>rfl
 |cons k ks=>simp[PyData.eqv,PyData.eqvAll]
theorem yf{m:Int}{ks':List 1e9}(h:fJ d m ks)(hs:ks'.Sublist ks):fJ (.tup [.int m,.tup (ks'.map aq)]) m ks':=by
 obtain⟨_,h0,h1,hp,hk⟩:=h;exact⟨rfl,h0,h1,hp.sublist hs,fun k hk'=>hk k (hs.subset hk')⟩
theorem zx{xs:List β}{r:Nat}(h:r<=xs.length):jz xs none (some (r:Int))=xs.take r:=by
 unfold jz;rw[HT.sIx_none,HT.sIx_nat];simp[Ve h]
theorem FF{xs:List β}{r:Nat}(h:r<=xs.length):jz xs (some (r:Int)) none=xs.drop r:=by
 unfold jz;rw[HT.sIx_none,HT.sIx_nat,Ve h];exact Td (by rw[RM];exact Q8 _)
theorem NU{a b:Int}:di [.tup [.int a,.int b]] Y=.ok 1e0 (Y++[.lst [.int (min a b),.int (max a b)]]):=by
 have e:[min a b,max a b]=sh [a,b]:=by
  refine xG ?_ 10e7;by_cases h:a<=b
  ·rw[Vf h,Vg h]
  ·rw[Vh 0e0,Vi 0e0];exact List.Perm.swap a b []
 have e2:lA [.int a,.int b]=some [a,b]:=rfl;unfold di;dsimp only;rw[e2];dsimp only;rw[Qu (show [a,b].length<64 from (by decide:2<64)),<- e];rfl
theorem Ej{a b c:Int}(hp:Y[i]?=some 7e4):∃d m ks a' b' c',fJ d m ks/\f6 [.obj i] Y=.ok d (Y.set i (bD a' b' c')):=by
 have hi:i<Y.length:=(QM.mp hp).1;obtain⟨d0,m,ks0,a0,b0,c0,g0,e0⟩:=BC hp;have P0:Pn Y i (Y.set i (bD a0 b0 c0)):=⟨a0,b0,c0,[],by simp⟩;generalize hM0:Y.set i (bD a0 b0 c0)=M0 at e0 P0;obtain⟨w,a1,b1,c1,w0,w1,ew,P1⟩:=P0.draw (m:=6) hi 0e4 0e4;generalize hM1:M0.set i (bD a1 b1 c1)=M1 at ew P1;have cmpw:cA .Lt w 3=decide (w<3):=rfl
 have st:∃d ks,fJ d m ks/\lL (gb (ay (dC .Lt) (aj 2) (cC (.int 3)))) (bx (aE eA (ag 3e0 (ag 9e6 (az)))) (ak 1)) (dO) [some 10e2,some d0,some (.int w),none,none,none] M1=.next [some 10e2,some d,some (.int w),none,none,none] M1:=by
  obtain⟨d',ks',g',e'⟩:=El (Y:=M1) (k:=2) g0;by_cases hw:w<3
  ·refine⟨d',ks',g',?_⟩;dsimp[bw,bR,aC,ao,ah,aT,aa,ae,cG,cmpw,Sr hw,aO,af,RI,aS,aA,ar,au,e',bH,U3,U4]
  ·refine⟨d0,ks0,g0,?_⟩;dsimp[bw,bR,aC,ao,ah,aT,aa,ae,cG,cmpw,Qr hw,aO,af,Sw,RH,bT]
 obtain⟨d,ks,g,es⟩:=st;have hlow:=fun n=>kH (n:=n) g;have hg:=g;obtain⟨rfl,h0,h1,hpw,hk⟩:=hg;unfold f6;rw[cu];have sub1:∀x y:Int,∀Y,dG (.int x) (.int y) Y=.ok (.int (x-y)) Y:=fun _ _ _=>rfl;by_cases z0:w=0/\ks≠[]
 ·obtain ⟨rfl, hne⟩ := z0;have hlen:=g9 g;have hpos:0<ks.length:=UN.mpr hne;have hem:ks.isEmpty=false:=by simpa using hne
  obtain⟨r,a2,b2,c2,r0,r1,er,P2⟩:=P1.draw (m:=(ks.length:Int)) hi 0e0 0e0;generalize hM2:M1.set i (bD a2 b2 c2)=M2 at er P2;obtain⟨rn,rfl⟩:∃rn:Nat,r=(rn:Int):=⟨r.toNat,by omega⟩
  have gs:fJ (.tup [.int m,.tup ((ks.take rn++ks.drop (rn+1)).map aq)]) m (ks.take rn++ks.drop (rn+1)):=by
   refine yf g ?_;have:=List.Sublist.append (List.Sublist.refl (ks.take rn)) (List.drop_sublist 1 (ks.drop rn))
   rwa [Tj,List.drop_drop]at this
  obtain⟨a7,b7,c7,hgc⟩:=P2.gc (kH gs);refine⟨_,m,_,a7,b7,c7,gs,?_⟩;dsimp[iP,aG,aS,aA,ar,au,ah,ao,aT,aa,ae,e0,hM0,af,bH,aD,List.replicate,U3,U4,ew,hM1];rw[es];dsimp[aD,aG,bw,g7,bR,aC,ao,ah,aT,aa,ae,cE,Sv,Sw,RH,RI,aO,gZ,cb,au,S8,Qu (SI sizeLine),AZ hk,hem,TV,af,aS,aA,ar,dH,Rz,er,hM2,bH,U3,U4,bc,cv,xi,vC,me,sA,eV]
  have s1:∀Y,yV 5e9 none (some (rn:Int)) Y=.ok (.tup ((ks.map aq).take rn)) Y:=fun Y=>by
   unfold yV;dsimp only;rw[zx (by rw[Rz];omega)]
  have s2:∀Y,yV 5e9 (some ((rn:Int)+1)) none Y=.ok (.tup ((ks.map aq).drop (rn+1))) Y:=fun Y=>by
   unfold yV;dsimp only;rw[show ((rn:Int)+1)=((rn+1:Nat):Int) by push_cast;rfl,FF (by rw[Rz];omega)]
  dsimp[s1,s2,aa,ae]
  have s3:∀Y,bF (.tup ((ks.map aq).take rn)) (.tup ((ks.map aq).drop (rn+1))) Y=.ok (.tup ((ks.take rn++ks.drop (rn+1)).map aq)) Y:=fun Y=>by
   unfold bF;dsimp only;rw[Qu,To,Tp,Tq];rw[Rn,RM,Rz];exact QD (show _<=1000 by omega) bf
  dsimp[s3,aa,ae,Sx,S8,Qu l2,af,gT,aP];exact hgc
 ·
  have t0:lF (gb (ay (f9 false) (aj 2) 1e4)) (gb (ay (f9 true) (ay cj 3e0 0e8) (bV (az)))) [some 10e2,some 2e4,some (.int w),none,none,none] M1=.ok false M1:=by
   by_cases hw:w=0
   ·subst hw
    have hem:ks.isEmpty=true:=by
     cases ks with
     |nil=>rfl
     |cons x y=>exact absurd ⟨rfl,by simp⟩ z0
    dsimp[g7,bR,aC,ao,ah,aT,aa,ae,cE,Sv,Sw,RH,RI,aO,gZ,cb,au,S8,Qu (SI sizeLine),AZ hk,hem,TL]
   ·have hw' : (w == 0) = false := by simpa using hw
    dsimp[g7,bR,aC,ao,ah,aT,aa,ae,cE,hw',Sw,RH,aO]
  by_cases z1:w=1/\1<m
  ·obtain ⟨rfl, hm⟩ := z1;obtain⟨u,a2,b2,c2,u0,u1,eu,P2⟩:=P1.draw (m:=m) hi 0e0 0e0;generalize hM2:M1.set i (bD a2 b2 c2)=M2 at eu P2;obtain⟨v,a3,b3,c3,v0,v1,ev,P3⟩:=P2.draw (m:=m-1) hi 0e0 0e0;generalize hM3:M2.set i (bD a3 b3 c3)=M3 at ev P3;have hx0:0<=(u+1+v)%m:=U1 _ 0e0;have hx1:(u+1+v)%m<m:=U2 _ 0e0
   have hxne:(u+1+v)%m≠u:=by
    by_cases hh:u+1+v<m
    ·rw[Int.emod_eq_of_lt 0e0 hh];omega
    ·rw[show u+1+v=(u+1+v-m)+m by omega,Int.add_emod_right,Int.emod_eq_of_lt 0e0 0e0];omega
   have md:∀x Y,tX (.int x) 6e1 Y=.ok (.int (x%m)) Y:=fun x Y=>nO (show (fun _ j=>(0:Int)<j) x m by show 0<m;omega);generalize hx:(u+1+v)%m=x at hx0 hx1 hxne
   have hks:∀k∈ks++[[min u x,max u x]],oq m k:=fun k hk'=>by
    rcases QK.mp hk' with z|z
    ·exact hk k z
    ·simp at z;subst z;exact⟨_,_,rfl,by omega,by omega,by omega⟩
   have gs:=iX h0 h1 hks;have kd:qH ((ks++[[min u x,max u x]]).map aq)=some 12e0:=oW fun k hk=>(hks k hk).prs h1;obtain⟨a7,b7,c7,hgc⟩:=(((P3.app (g:=[.lst [.int (min u x),.int (max u x)]])).app (g:=[.set (cT 12e0)])).app (g:=[.lst ((cI 12e0).map aq)])).gc (kH gs);refine⟨_,m,_,a7,b7,c7,gs,?_⟩;have cm:cA .Gt m 1=true:=by simpa[cA] using hm
   have l1:(1:Nat)<=sizeLine:=by decide
   have s3:∀Y,bF 5e9 (.tup [.tup [.int (min u x),.int (max u x)]]) Y=.ok (.tup ((ks++[[min u x,max u x]]).map aq)) Y:=fun Y=>by
    unfold bF;dsimp only;rw[Qu,To]
    ·rfl
    ·have:=g9 g;rw[Rz];dsimp[Sx,S8];exact QD (show _<=1000 by omega) bf
   have s4:∀Y,qZ [.tup ((ks++[[min u x,max u x]]).map aq)] Y=.ok 1e0 (Y++[.set (cT 12e0)]):=fun Y=>by
    unfold qZ;dsimp only;unfold si;rw[kd]
   have s5:∀M:aB,di [.obj 3e8] (M++[.set (cT 12e0)])=.ok (.obj (M++[O.set (cT 12e0)]).length) ((M++[.set (cT 12e0)])++[.lst ((cI 12e0).map aq)]):=fun M=>by
    unfold di;dsimp only;rw[aw];dsimp only;rw[j7]
   dsimp[iP,aG,aS,aA,ar,au,ah,ao,aT,aa,ae,e0,hM0,af,bH,aD,List.replicate,U3,U4,ew,hM1];rw[es];dsimp[aD];rw[aG,bw,t0];dsimp[af,Sw,RH,bT,aD,aG,bw,g7,bR,aC,ao,ah,aT,aa,ae,cE,Sv,RI,aO,cv,cG,cm,aS,aA,ar,au,eu,hM2,bH,U3,U4,cb,sub1,ev,hM3,eV,md,hx,Sx,S8,Qu l2,Qu l1,NU];rw[gk aw];dsimp[aa,ae,af,bH,U3,U4,aD,bc,cb,ar,au,aC,aA,ao,ah,aT,cv,gZ,Sx,S8,Qu l2,Qu l1,s3,s4,s5];rw[gk aw];dsimp[aa,ae,af,Sx,S8,Qu l2,gT,aP];exact hgc
  ·have t1:lF (gb (ay (f9 false) (aj 2) 0e8)) (gb (ay (dC .Gt) (ay cj 3e0 1e4) 0e8)) [some 10e2,some 2e4,some (.int w),none,none,none] M1=.ok false M1:=by
    by_cases hw:w=1
    ·subst hw
     have cm:cA .Gt m 1=false:=by
      have:¬ 1<m:=fun h=>z1 ⟨rfl,h⟩;simpa[cA] using this
     dsimp[g7,bR,aC,ao,ah,aT,aa,ae,cE,Sv,Sw,RH,RI,aO,cv,cG,cm]
    ·have hw' : (w == 1) = false := by simpa using hw
     dsimp[g7,bR,aC,ao,ah,aT,aa,ae,cE,hw',Sw,RH,aO]
   obtain⟨a7,b7,c7,hgc⟩:=P1.gc (kH g);refine⟨_,m,_,a7,b7,c7,g,?_⟩;dsimp[iP,aG,aS,aA,ar,au,ah,ao,aT,aa,ae,e0,hM0,af,bH,aD,List.replicate,U3,U4,ew,hM1];rw[es];dsimp[aD];rw[aG,bw,t0];dsimp[af,ae,Sw,RH,bT,aD];rw[aG,bw,t1];dsimp[af,ae,Sw,RH,bT,aD,bc,ao,ah,aP];exact hgc
end Lw
namespace Lv
def rg(m:Nat):List Int:=(List.range m).map Int.ofNat
theorem sy{p:Int}:p∈rg m↔0<=p/\p<m:=by
 unfold rg;rw[Te];constructor
 ·rintro ⟨i, hi, rfl⟩
  have:=QC.mp hi;exact⟨Int.natCast_nonneg _,by simpa using this⟩
 ·rintro ⟨h0, h1⟩
  exact⟨p.toNat,QC.mpr 0e0,by simp;omega⟩
theorem Ky:(rg m).length=m:=by simp[rg]
structure Qn(m k:Nat)(w:List Int):Prop where
 len:w.length=k+1
 nd:w.Nodup
 rng:∀p∈w,0<=p/\p<(m:Int)
theorem oY{m:Nat}{f:List Int->List 1e9}(h:∀w,(f w).length<=m):∀l:List 1e9,(l.flatMap f).length<=l.length*m
 |[]=>by simp
 |w::l=>by
  rw[U9,Ry,Sx,Nat.succ_mul];have:=h w;have:=oY h l;omega
end Lv
namespace Lw
open PySem L2 RS Lv
theorem fT{U:Type}{en:U->D}{src:pJ}{g:MG}{t:MT}{e:ME}{Y1:aB}{q:U->Bool}{h:U->D}(R:Ro->Prop)(ho:∀a,cN src 4e1) :
  ∀{us:List U}{acc:List D}{Z:Ro},R Z->acc.length+us.length<=sizeLine->(∀x∈us,∀a Z,R Z->∃Z1,R Z1/\g (en x) Z 4e1=.ok Z1 4e1/\t Z1 4e1=.ok (q x) 4e1/\(q x=true->e Z1 4e1=.ok (h x) 4e1)) ->
   compLoop src 6e9 g t e (us.map en) Z (Y1++[.lst acc])=.ok (.obj 6e9) (Y1++[.lst (acc++(us.filter q).map h)])
 |[],acc,Z,hr,hl,he=>by
  rw[RY];unfold compLoop;rw[Qu (ho acc)];simp
 |x::xs,acc,Z,hr,hl,he=>by
  obtain⟨Z1,r1,e1,e2,e3⟩:=he x QG acc Z hr;rw[RZ];unfold compLoop;rw[Qu (ho acc),e1];dsimp[ae,aa];rw[e2];dsimp[ae,aa];have he':=fun y hy=>he y (QH _ hy);dsimp[Sx]at hl;cases hq:q x with
  |false=>
   rw[Qv Q0,fT R ho r1 0e0 he',UR,hq];rfl
  |true=>
   rw[Qu rfl,e3 hq];dsimp[ae,aa];rw[mT 0e0];dsimp[aa,ae];rw[fT R ho r1 10e7 he',UR,hq];simp
theorem oV{U:Type}{en:U->D}{src:pJ}{g:MG}{t:MT}{fb:MB}{Y1:aB}{q:U->Bool}{k:U->List D}(R:Ro->Prop)(ho:∀a,cN src 4e1) :
  ∀{us:List U}{acc:List D}{Z:Ro},R Z->acc.length+((us.filter q).flatMap k).length<=sizeLine->(∀x∈us,∀a Z,R Z->∃Z1,g (en x) Z 4e1=.ok Z1 4e1/\t Z1 4e1=.ok (q x) 4e1/\(q x=false->R Z1)/\(q x=true->a.length+(k x).length<=sizeLine->∃Z2,R Z2/\fb 6e9 Z1 4e1=.ok Z2 (Y1++[.lst (a++k x)]))) ->
   ∃Z',R Z'/\ji src 6e9 g t fb (us.map en) Z (Y1++[.lst acc])=.ok Z' (Y1++[.lst (acc++(us.filter q).flatMap k)])
 |[],acc,Z,hr,hl,he=>by
  refine⟨Z,hr,?_⟩;rw[RY];unfold ji;rw[Qu (ho acc)];simp
 |x::xs,acc,Z,hr,hl,he=>by
  obtain⟨Z1,e1,e2,e4,e3⟩:=he x QG acc Z hr;rw[RZ];unfold ji;rw[Qu (ho acc),e1];dsimp[ae,aa];rw[e2];dsimp[ae,aa];have he':=fun y hy=>he y (QH _ hy);cases hq:q x with
  |false=>
   rw[UR,hq]at hl;rw[Qv Q0,UR,hq];exact oV R ho (e4 hq) hl he'
  |true=>
   rw[UR,hq,Qu rfl,U9,Ry]at hl;obtain⟨Z2,r2,e5⟩:=e3 hq 0e0;rw[Qu rfl,e5];dsimp[ae,aa];obtain⟨Z',r',e6⟩:=oV R ho r2 (acc:=acc++k x) (by rw[Ry];omega) he';refine⟨Z',r',?_⟩;rw[e6,UR,hq,Qu rfl,U9,Sh]
theorem oZ{U:Type}:∀{us:List U},us.filter (fun _=>true)=us
 |[]=>rfl
 |_::us=>by rw[UR,Qu rfl,oZ]
theorem FE{e:ME}{a:List D}(h:e Z 4e1=.ok y 4e1)(hl:a.length+1<=sizeLine):sm e 6e9 Z 4e1=.ok Z (Y1++[.lst (a++[y])]):=by
 unfold sm;rw[h];dsimp[ae,aa];rw[mT 0e0];rfl
def Mw:D->Bool
 |.int _=>true
 |_=>false
def FQ(m:Nat):D->Bool
 |.int i=>decide (0<=i/\i<(m:Int))
 |_=>false
def Ao(Y:aB)(d:D):Prop:=kP Y d≠none
theorem vQ(h:Ao Y (.obj n)):(∃xs,Y[n]?=some 2e9)\/Y[n]?=some .dic:=by
 unfold Ao kP at h;dsimp only at h;split at h
 ·rename_i xs e;exact .inl ⟨xs,e⟩
 ·rename_i e;exact .inr e
 ·exact absurd rfl h
theorem Il(h:Ao Y d):∃b,eP "int" d Y=.ok (.bl b) Y/\(b=true->∃c,eP "bool" d Y=.ok (.bl c) Y/\(!c)=Mw d)/\(b=false->Mw d=false):=by
 cases d with
 |non=>exact⟨false,rfl,nofun,fun _=>rfl⟩
 |bl b=>exact⟨true,rfl,fun _=>⟨true,rfl,rfl⟩,nofun⟩
 |int i=>exact⟨true,rfl,fun _=>⟨false,rfl,rfl⟩,nofun⟩
 |str x=>exact⟨false,rfl,nofun,fun _=>rfl⟩
 |tup xs=>exact⟨false,rfl,nofun,fun _=>rfl⟩
 |frz xs=>exact⟨false,rfl,nofun,fun _=>rfl⟩
 |obj n=>
  refine⟨false,?_,nofun,fun _=>rfl⟩;unfold eP kP;rcases vQ h with⟨xs,e⟩|e <;> dsimp[e] <;> rfl
theorem Eh(h:Ao Y d):d8 [d] Y=.ok (.bl (Mw d)) Y:=by
 obtain⟨b,h1,h2,h3⟩:=Il h;unfold d8;rw[cu];dsimp[lp,List.replicate,bc,fv,A9,fI,ah,aa,ae,h1,aO];cases b with
 |false=>
  rw[Qv Q0,af,aP,h3 rfl];exact aL 0e6
 |true=>
  obtain⟨c,c1,c2⟩:=h2 rfl;rw[Qu rfl,c1];dsimp[aa,ae,aO,af,aP,c2];exact aL 0e6
theorem En(h:Ao Y d):gC [.int m,d] Y=.ok (.bl (FQ m d)) Y:=by
 have hw:bq [d,.int 0,.int ((m:Int)-1)] Y=.ok (.bl (FQ m d)) Y:=by
  unfold bq;rw[pY];dsimp[gu,List.replicate,bc,fv,aA,ar,au,ah,ao,aa,ae,Eh h,aO,mf];cases d with
  |int i=>
   rw[show Mw (.int i)=true from rfl,Qu rfl];dsimp[cG,aa,ae,aO];by_cases c:cA .LtE 0 i=true
   ·rw [Qu c, af, aP]
    rw[show cA .LtE i ((m:Int)-1)=FQ m (.int i) from by
     have c':(0:Int)<=i:=Vd c;show decide (i<=(m:Int)-1)=decide (0<=i/\i<(m:Int))
     exact Ug.mpr ⟨fun z=>⟨c',by omega⟩,fun z=>by omega⟩]
    exact aL 0e6
   ·rw [Qv c, af, aP]
    rw[show FQ m (.int i)=false from by
     have c':¬ (0:Int)<=i:=fun z=>c (Sr z)
     exact Qr (fun z=>c' z.1)]
    exact aL 0e6
  |_=>
   rw[show Mw _=false from rfl,Qv Q0,af,aP];exact aL 0e6
 unfold gC;rw[cS];dsimp[og,List.replicate,bc,aA,ar,au,ah,ao,aT,aC,aa,ae];rw[show dG 6e1 (.int 1) Y=.ok (.int ((m:Int)-1)) Y from rfl];dsimp[aa,ae,hw,af,aP];exact aL 0e6
theorem E6{g:aB}(h:Ao Y d):Ao (Y++g) d:=by
 cases d with
 |obj n=>
  unfold Ao kP;rcases vQ h with⟨xs,e⟩|e <;> dsimp[aK e] <;> exact nofun
 |_=>exact h
theorem zF(h:∀x∈xs,Ao Y x)(hl:xs.length<=1000):cO [.int m,.tup xs] Y=.ok (.bl (xs.all (FQ m))) Y:=by
 have c:=fT (U:=D) (en:=fun x=>x) (src:=.fix xs) (g:=ak 0) (t:=bp) (e:=iL) (Y1:=Y) (q:=fun _=>true) (h:=fun x=>.bl (FQ m x)) (fun Z=>∃o,Z=[o,some 6e1]) 10e5 (us:=xs) (acc:=[]) (Z:=[none,some 6e1]) ⟨_,rfl⟩
  (by rw[S8];exact QD 0e0 bf)
  (fun x hx a Z hJJ => by
   obtain⟨o,e⟩:=hJJ;subst e;refine⟨[some x,some 6e1],⟨_,rfl⟩,rfl,rfl,fun _=>?_⟩;unfold iL
   dsimp[aA,ar,au,ao,ah,aa,ae,En (E6 (h x hx))])
 rw[List.map_id',Sn,oZ]at c;unfold cO;rw[cS];dsimp[mw,List.replicate,bc,fv,fI,ao,ah,aa,ae];rw[show eP "tuple" (.tup xs) Y=.ok 5e8 Y from rfl];dsimp[aa,ae,aO,RI,aA,ar,au,bP,cw,ao,ah,jV,bg];rw[show dr [none,some 0] _=[none,some 6e1] from rfl,c];dsimp[aa,ae];rw[jW (bs:=xs.map (FQ m)) (by rw[aw,SX];rfl)];dsimp[af,ae,aP];rw[show (xs.map (FQ m)).all id=xs.all (FQ m) from by rw[UL];rfl];exact d5 0e6
def OG:D->Bool
 |.tup _=>true
 |_=>false
theorem A2(h:Ao Y d):eP "tuple" d Y=.ok (.bl (OG d)) Y:=by
 cases d with
 |obj n=>
  unfold eP kP;rcases vQ h with⟨xs,e⟩|e <;> dsimp[e] <;> rfl
 |_=>rfl
abbrev iD(w:List Int):D:=.tup (w.map D.int)
theorem ye:∀{ns:List Int},lA 6e6=some ns
 |[]=>rfl
 |n::ns=>by simp[lA,ye (ns:=ns)]
theorem zl{w:List Int}:(iD w).low n:=by dsimp[HZ];exact jG.mpr fun x hx=>by obtain⟨k,_,rfl⟩:=Te.mp hx;simp
theorem Dq{w:List Int}{a:Int}:va neg (.int a) (iD w) Y=.ok (.bl (if neg then !decide (a∈w) else decide (a∈w))) Y:=by
 have e2:nE Y (iD w)=some (.tuple (w.map PyData.int)):=by
  dsimp[nE,kz,Option.map_some]
 have f2:dN (.tuple (w.map PyData.int))=true:=by
  have:=oX w;dsimp[dN,PyData.canLay0,this.1,PyData.depth,this.2,Va];rfl
 unfold va;rw[show nE Y (.int a)=some (.int a) from rfl,e2];dsimp only[vz];rw[Qu ⟨rfl,f2⟩]
 have:(w.map PyData.int).any (fun y=>PyData.eqv y (.int a))=decide (a∈w):=by
  rw[Vb];apply Rc.mpr;rw[Vc,UH];constructor
  ·rintro ⟨x, hx, e⟩
   have:x=a:=by simpa[PyData.eqv] using e
   subst this;exact hx
  ·intro hx;exact⟨a,hx,by simp[PyData.eqv]⟩
 rw[this]
theorem Kx:bu 0 ((m:Int)).toNat=(rg m).map D.int:=by
 unfold bu rg;rw[SX];simp
theorem gA{f g:MS}{Z':Ro}{Y':aB}(h:f Z Y=.next Z' Y'):bj f g Z Y=g Z' Y':=by rw[aG,h,aD]
def vn(v:Nat)(f:Int->Option Nat)(qs:List Int):Int->Option Nat:=qs.foldl (fun f q=>nG f q v) f
theorem sS{v:Nat}:∀(qs:List Int)(f:Int->Option Nat)(q:Int),vn v f qs q=if q∈qs then some v else f q
 |[],f,q=>by simp[vn]
 |x::qs,f,q=>by
  have:=sS (v:=v) qs (nG f x v) q;unfold vn at this⊢;rw[Si,this];by_cases h:q∈qs
  ·rw[Qu h,Qu (QH _ h)]
  ·rw [Qv h];unfold nG;by_cases e:q=x
   ·rw[Qu e,Qu (by simp[e])]
   ·rw[Qv e,Qv (by simp[e,h])]
section
variable{A:Nat}{p:Int}{w:D}
theorem Iv{A t:Nat}{f:Int->Option Nat}{fs:List Int}{o1 o2 o3:Option D}(hA:M[A]?=some (.lst (fK m f)))(ht:M[t]?=some (.lst (fs.map D.int)))(hne:A≠t)(hfs:∀q∈fs,0<=q/\q<(m:Int)):
  ∃o7',lM (fL (aj 6)) (ak 7) fY [o0,o1,o2,o3,some (.obj A),some (.int n),some (.obj t),o7] M=.next [o0,o1,o2,o3,some (.obj A),some (.int n),some (.obj t),o7'] (M.set A (.lst (fK m (vn n f fs)))):=by
 have hAl:A<M.length:=(QM.mp hA).1
 have run:=iF (src:=.own t (fs.map D.int)) (g:=ak 7) (fb:=fY)
  (fun xs Z Y1=>∃ys zs:List Int,xs=zs.map D.int/\fs=ys++zs/\Y1=M.set A (.lst (fK m (vn n f ys)))/\∃o7,Z=[o0,o1,o2,o3,some (.obj A),some (.int n),some (.obj t),o7])
  (fun Z Y1 ⟨ys,zs,_,_,e,_⟩=>by subst e;exact l9 ht hne)
  (fun x xs Z Y1 hJJ => by
   obtain⟨ys,zs,hx,hf,e,o7,eρ⟩:=hJJ;subst e eρ;cases zs with
   |nil=>cases hx
   |cons z zs=>
    injection hx with h1 h2
    subst h1 h2;have hz:=hfs z (by rw[hf];simp);have hlen:(fK m (vn n f ys)).length=m:=by unfold fK;rw[Rz,SZ]
    refine⟨l9 ht hne,_,_,[o0,o1,o2,o3,some (.obj A),some (.int n),some (.obj t),some (.int z)],M.set A (.lst (fK m (vn n f (ys++[z])))),rfl,?_,ys++[z],zs,rfl,by rw[hf];simp,rfl,_,rfl⟩;show fY [o0,o1,o2,o3,some (.obj A),some (.int n),some (.obj t),some (.int z)] _=_;unfold fY;dsimp[aS,ao,ah,af,mK,aa,ae];rw[oJ (eU hAl) (kn hz.1 (by rw[hlen];exact hz.2)),sG hz.1 hz.2];dsimp[aa,ae,af,List.set_set];unfold vn;rw[TY]
    rfl)
  (xs:=fs.map D.int) (Z:=[o0,o1,o2,o3,some (.obj A),some (.int n),some (.obj t),o7]) (Y:=M)
  ⟨[], fs, rfl, rfl, by
   apply Ui;intro j;by_cases e:A=j
   ·subst e;rw[eU hAl,hA];rfl
   ·rw[QP e],_,rfl⟩
 obtain⟨Z',Y',⟨ys,zs,hx,hf,e,o7',eρ⟩,run⟩:=run;subst e eρ
 have hz:zs=[]:=by cases zs with
  |nil=>rfl
  |cons=>cases hx
 subst hz;rw[Rg]at hf;subst hf;refine⟨o7',?_⟩;dsimp[gW,cw,ao,ah,aa,ae];rw[d6 ht];dsimp[af,ae,cK];exact run
theorem Iu{A t:Nat}{f:Int->Option Nat}{fs:List Int}{o1 o2:Option D}(hk:∀k∈ks,oq m k)(hl:ks.length<=15)(hA:M[A]?=some (.lst (fK m f)))(ht:M[t]?=some (.lst (fs.map D.int)))(hne:A≠t)(hU:Up (mG ks) p (fun q=>0<=q/\q<m) n f)(hfs:∀q,q∈fs↔((0<=q/\q<(m:Int))/\f q=some n)):
  ∃(t':Nat)(fs':List Int)(f':Int->Option Nat)(g:aB)(o7':Option D),fX [o0,o1,o2,some 5e9,some (.obj A),some (.int n),some (.obj t),o7] M=.next [o0,o1,o2,some 5e9,some (.obj A),some (.int ((n+1:Nat):Int)),some (.obj t'),o7'] ((M++g).set A (.lst (fK m f'))) /\
   (M++g)[t']?=some (.lst (fs'.map D.int))/\A≠t'/\Up (mG ks) p (fun q=>0<=q/\q<m) (n+1) f'/\∀q,q∈fs'↔((0<=q/\q<(m:Int))/\f' q=some (n+1)):=by
 obtain⟨s,g,ns,e1,e2,e3,e4,e5⟩:=Eo hk hl ht;have hA':=aK (g:=g) hA;have hAl:A<M.length:=(QM.mp hA).1
 have hnsD:∀q∈ns,0<=q/\q<(m:Int):=fun q hq=>by
  obtain⟨r,_,ha⟩:=(e5 q).mp hq;exact(g8 hk ha).2
 have c:=dn (src:=.own s 6e6) (g:=ak 0) (t:=kr) (e:=nB) (Y1:=M++g) (q:=fun d=>match d with | .int q=>decide (f q=none)|_=>false) (h:=fun d=>d)
  (fun Z=>∃o,Z=[o,some (.obj A)]) (fun a=>aK e2) (xs:=ns.map D.int) (acc:=[]) (Z:=[none,some (.obj A)]) ⟨_,rfl⟩
  (by rw[Rz,S8];exact QD 0e0 bf)
  (fun x hx a Z hJJ => by
   obtain⟨o,ho⟩:=hJJ;obtain⟨q,hq,rfl⟩:=Te.mp hx;subst ho;refine⟨[some (.int q),some (.obj A)],⟨_,rfl⟩,rfl,?_,fun _=>rfl⟩;unfold kr;dsimp[bR,aC,ao,ah,aT,aa,ae];rw[eQ (aK hA') (xM (hnsD q hq).1 (hnsD q hq).2)]
   dsimp[aa,ae,zu,qg,Sw,RH,aO])
 have hfl:((ns.map D.int).filter fun d=>match d with | .int q=>decide (f q=none)|_=>false).map (fun d=>d)=(ns.filter fun q=>decide (f q=none)).map D.int:=by
  rw[List.map_id',U7];rfl
 rw[Sn,hfl]at c
 have hmem:∀q,q∈(ns.filter fun q=>decide (f q=none))↔(f q=none/\∃r,mG ks r q/\f r=some n):=fun q=>by
  rw[QB,UH,e5];constructor
  ·rintro ⟨⟨r, hr, ha⟩, hn⟩
   exact⟨hn,r,ha,((hfs r).mp hr).2⟩
  ·rintro ⟨hn, r, ha, hr⟩
   exact⟨⟨r,(hfs r).mpr ⟨(g8 hk ha).1,hr⟩,ha⟩,hn⟩
 have hD':∀q,q∈(ns.filter fun q=>decide (f q=none))->0<=q/\q<(m:Int):=fun q hq=>hnsD q (QB.mp hq).1;have hne':A≠(M++g).length:=by rw[Ry];omega
 obtain⟨o7',er⟩:=Iv (m:=m) (n:=n+1) (f:=f) (fs:=ns.filter fun q=>decide (f q=none)) (o0:=o0) (o1:=o1) (o2:=o2) (o3:=some 5e9) (o7:=o7) (M:=(M++g)++[O.lst ((ns.filter fun q=>decide (f q=none)).map D.int)]) (aK hA') aw hne' hD';refine⟨(M++g).length,ns.filter fun q=>decide (f q=none),vn (n+1) f (ns.filter fun q=>decide (f q=none)),g++[O.lst ((ns.filter fun q=>decide (f q=none)).map D.int)],o7',?_,by rw[<- Sh];exact aw,hne',?_,fun q=>?_⟩
 ·unfold fX
  have s1:C0 5 xl 0e8 [o0,o1,o2,some 5e9,some (.obj A),some (.int n),some (.obj t),o7] M=.next [o0,o1,o2,some 5e9,some (.obj A),some (.int ((n+1:Nat):Int)),some (.obj t),o7] M:=by
   push_cast;rfl
  rw[gA s1,aG,aS,bP,cw,aA];dsimp[ar,au,ao,ah,aa,ae,e1];rw[d6 e2];dsimp[aa,ae,cK];rw[show dr [none,some 4] [o0,o1,o2,some 5e9,some (.obj A),some (.int ((n+1:Nat):Int)),some (.obj t),o7]=[none,some (.obj A)] from rfl,c];dsimp[af,ae,bH,U3,U4,aD];rw[er,<- Sh]
 ·refine hU.next (fun a b h => (g8 hk h).1) fun q hq j => ?_;rw[sS];by_cases hm:q∈ns.filter fun q=>decide (f q=none)
  ·rw [Qu hm];have:=(hmem q).mp hm;constructor
   ·intro e;cases e;exact .inr ⟨this.1,rfl,this.2⟩
   ·rintro (z | ⟨_, z, _⟩)
    ·rw[this.1]at z;cases z
    ·rw[z]
  ·rw [Qv hm];constructor
   ·exact .inl
   ·rintro (z | ⟨z1, z2, z3⟩)
    ·exact z
    ·exact absurd ((hmem q).mpr ⟨z1,z3⟩) hm
 ·rw [sS];constructor
  ·intro hm;exact⟨hD' q hm,by rw[Qu hm]⟩
  ·rintro ⟨hq, z⟩
   by_cases hm:q∈ns.filter fun q=>decide (f q=none)
   ·exact hm
   ·rw[Qv hm]at z;have:=((hU q hq (n+1)).mp z).1;omega
end
theorem yn{Y0:aB}{m A:Nat}{p:Int}{ks:List 1e9}{o0 o1 o2:Option D}(hk:∀k∈ks,oq m k)(hl:ks.length<=15)(hp:0<=p/\p<(m:Int))(hA0:Y0.length<=A) :
  ∀(c n:Nat)(f:Int->Option Nat)(fs:List Int)(M:aB)(t:Nat)(o7:Option D),M[A]?=some (.lst (fK m f))->M[t]?=some (.lst (fs.map D.int))->A≠t->Up (mG ks) p (fun q=>0<=q/\q<m) n f ->
   (∀q,q∈fs↔((0<=q/\q<(m:Int))/\f q=some n))->(∀i,i<Y0.length->M[i]?=Y0[i]?)->n<=m->m<n+c ->
   ∃Z' M' f',jD (i8 (aj 6)) fX c [o0,o1,o2,some 5e9,some (.obj A),some (.int n),some (.obj t),o7] M=.next Z' M'/\(∃o5 o6 o7,Z'=[o0,o1,o2,some 5e9,some (.obj A),o5,o6,o7]) /\
    M'[A]?=some (.lst (fK m f'))/\(∀i,i<Y0.length->M'[i]?=Y0[i]?)/\w6 (mG ks) p (fun q=>0<=q/\q<m) f'
 |0,n,f,fs,M,t,o7,hA,ht,hne,hU,hfs,hpre,h1,h2=>by omega
 |c+1,n,f,fs,M,t,o7,hA,ht,hne,hU,hfs,hpre,h1,h2=>by
  have tr:i8 (aj 6) [o0,o1,o2,some 5e9,some (.obj A),some (.int n),some (.obj t),o7] M=.ok (!(fs.map D.int).isEmpty) M:=by
   dsimp[cq,ao,ah,aa,ae];unfold Bj;dsimp only;rw[ht]
  unfold jD;rw[tr,af];cases fs with
  |nil=>
   refine⟨_,M,f,rfl,⟨_,_,_,rfl⟩,hA,hpre,hU.full (fun a b h=>(g8 hk h).2) fun q hq hl=>?_⟩;obtain⟨_,r,ha,hr⟩:=kx.mp hl;have:=(hfs r).mpr ⟨(g8 hk ha).1,(hU r (g8 hk ha).1 n).mpr ⟨Q8 _,hr⟩⟩;cases this
  |cons x fs=>
   have hx:=(hfs x).mp QG;have hnm:n<m:=DU (m:=m) hp (fun a b h=>(g8 hk h).2) ((hU x hx.1 n).mp hx.2).2;obtain⟨t',fs',f',g,o7',e,ht',hne',hU',hfs'⟩:=Iu (o0:=o0) (o1:=o1) (o2:=o2) (o7:=o7) hk hl hA ht hne hU hfs;have hAl:A<(M++g).length:=by rw[Ry];have:=(QM.mp hA).1;omega
   rw[Qu (show (!(List.map D.int (x::fs)).isEmpty)=true from rfl),e,oG]
   exact yn hk hl hp hA0 c (n+1) f' fs' ((M++g).set A (.lst (fK m f'))) t' o7' (eU hAl) (l9 ht' hne') hne' hU' hfs' (fun i hi=>by
    rw[QP 0e0,Ru (by have:=(QM.mp hA).1;omega)];exact hpre i hi) 0e0 0e0
theorem GI{p:Int}(h:fJ 2e4 m ks)(p0:0<=p)(p1:p<(m:Int)):
  ∃A Y' f,i6 [.tup [.int m,.tup 0e5],.int p] Y=.ok (.obj A) (Y++Y')/\(Y++Y')[A]?=some (.lst (fK m f))/\Y.length<=A/\w6 (mG ks) p (fun q=>0<=q/\q<m) f:=by
 have hlen:=g9 h;obtain⟨_,h0,h1,hpw,hk⟩:=h;have hm6:m<=6:=by omega
 let M0:aB:=(Y++[.lst [.non]])++[.lst (fK m fun _=>none)]
 have hM0:M0[(Y++[O.lst [.non]]).length]?=some (.lst (fK m fun _=>none)):=aw;have hlen0:(fK m fun _=>none).length=m:=by unfold fK;rw[Rz,SZ]
 let A:Nat:=(Y++[O.lst [.non]]).length
 have hAl:A<M0.length:=(QM.mp hM0).1;let M1:aB:=M0.set A (.lst (fK m (nG (fun _=>none) p 0)))
 have hM1:M1[A]?=some (.lst (fK m (nG (fun _=>none) p 0))):=eU hAl
 have hpreM:∀i,i<Y.length->(M1++[O.lst [.int p]])[i]?=Y[i]?:=fun i hi=>by
  have:i<M1.length:=by dsimp[M1,M0,R9,Ry];omega
  rw[Ru this];dsimp[M1];rw[QP (by dsimp[A,Ry];omega)];dsimp[M0];rw[Sh,Ru hi]
 obtain⟨Z',M',f',ew,⟨o5,o6,o7,eρ⟩,hA',hpre,hF⟩:=yn (Y0:=Y) (o0:=some 2e4) (o1:=some 4e8) (o2:=some 6e1) hk hlen ⟨p0,p1⟩ (show Y.length<=A by dsimp[A,Ry];omega) 100 0 (nG (fun _=>none) p 0) [p] (M1++[O.lst [.int p]]) M1.length none
  (aK hM1) aw (by dsimp[M1, R9]; omega) (Bg fun q _ => by unfold nG; rfl) (fun q => by
   unfold nG;rw[SJ];constructor
   ·rintro rfl;exact⟨⟨p0,p1⟩,by rw[Qu rfl]⟩
   ·rintro ⟨_, z⟩
    by_cases e:q=p
    ·exact e
    ·rw[Qv e]at z;cases z) hpreM 0e0 0e0
 subst eρ
 obtain⟨g,hg⟩:∃g,M'=Y++g:=by
  refine⟨M'.drop 8e6,?_⟩;apply Ui;intro i;by_cases hi:i<Y.length
  ·rw[Ru hi,hpre i hi]
  ·rw[Rq 0e0,Tt];congr 1;omega
 refine⟨A,g,f',?_,by rw[<- hg];exact hA',by dsimp[A,Ry];omega,hF⟩;unfold i6;rw[cS];have l2':[D.int m,D.tup 0e5].length=2:=rfl
 have s1:bx 2e3 (dc 2 (aW (ak 2) (aW (ak 3) (de)))) [some 2e4,some 4e8,none,none,none,none,none,none] Y=.next [some 2e4,some 4e8,some 6e1,some 5e9,none,none,none,none] Y:=by
  dsimp[aS,ah,af,Iw,Qu l2',Fy,Iy,bH,aa,ae,U3,U4]
 have s2:bx (ay mZ (fq (ag (cC .non) (az))) (aj 2)) (ak 4) [some 2e4,some 4e8,some 6e1,some 5e9,none,none,none,none] Y=.next [some 2e4,some 4e8,some 6e1,some 5e9,some (.obj A),none,none,none] M0:=by
  dsimp[aS,aC,cZ,ar,au,aT,aa,ae,Sx,S8,Qu l1,ao,ah];unfold mZ;dsimp only;rw[aw];dsimp only;have hz:(6:Nat)<=sizeLine:=by decide
  rw[Qu (by refine⟨by omega,by omega,?_⟩;dsimp[Sx,S8];omega)];dsimp[RF,sM,af,ae,bH,U3,U4,M0,A,uH]
 have s3:bx 1e4 (nt (aj 4) 3e0) [some 2e4,some 4e8,some 6e1,some 5e9,some (.obj A),none,none,none] M0=.next [some 2e4,some 4e8,some 6e1,some 5e9,some (.obj A),none,none,none] M1:=by
  dsimp[aS,aT,af,mK,ao,ah,aa,ae];rw[oJ hM0 (kn p0 (by rw[hlen0];exact p1)),show (D.int 0)=.int ((0:Nat):Int) from rfl,sG p0 p1];rfl
 have s4:bx 1e4 (ak 5) [some 2e4,some 4e8,some 6e1,some 5e9,some (.obj A),none,none,none] M1=.next [some 2e4,some 4e8,some 6e1,some 5e9,some (.obj A),some (.int ((0:Nat):Int)),none,none] M1:=rfl
 have s5:bx (fq 8e8) (ak 6) [some 2e4,some 4e8,some 6e1,some 5e9,some (.obj A),some (.int ((0:Nat):Int)),none,none] M1=.next [some 2e4,some 4e8,some 6e1,some 5e9,some (.obj A),some (.int ((0:Nat):Int)),some (.obj M1.length),none] (M1++[O.lst [.int p]]):=by
  dsimp[aS,cZ,ar,au,ao,ah,aa,ae,Sx,S8,Qu l1,af,bH,U3,U4]
 unfold qS;dsimp[List.replicate];rw[gA s1,gA s2,gA s3,gA s4,gA s5,gA (show pT 100 (i8 (aj 6)) fX _ _=_ from ew)];dsimp[bc,ao,ah,af,ae,aP];rw[Av (by dsimp[Ib,A,Ry];omega),hg]
theorem Bs{k:Int}(h0:1<=k)(h1:k<=6):bq [.int k,.int 1,.int 6] Y=.ok 5e8 Y:=by
 have w:d8 [.int k] Y=.ok 5e8 Y:=by
  unfold d8;rw[cu];have e1:eP "int" (.int k) Y=.ok 5e8 Y:=rfl;have e2:eP "bool" (.int k) Y=.ok 4e2 Y:=rfl;dsimp[lp,bc,fv,fI,A9,ah,aa,ae,e1,e2,aO,RI,TV,af,aP];exact aL 0e6
 unfold bq;rw[pY];dsimp[gu,bc,fv,aA,ar,au,ao,ah,aa,ae,w,aO,RI,mf,cG];rw[show cA .LtE 1 k=true from Sr h0,show cA .LtE k 6=true from Sr h1];dsimp[aO,aa,ae,RI,af,aP];exact aL 0e6
end Lw
namespace Lv
section
variable{adj adj':Int->Int->Prop}{D:Int->Prop}{p:Int}
theorem R.add{q:Int}{n:Nat}(h:R adj p n q):∀{k:Nat}{r:Int},R adj q k r->R adj p (n+k) r
 |0,r,e=>by have:r=q:=e;subst this;exact h
 |k+1,r,e=>by
  rcases e with e|⟨t,e1,e2⟩
  ·exact .inl (R.add h e)
  ·exact .inr ⟨t,e1,R.add h e2⟩
theorem R.one{a b:Int}(h:adj a b):R adj a 1 b:=.inr ⟨a,h,rfl⟩
theorem R.rev(hs:∀a b,adj a b->adj b a):∀{n:Nat}{q:Int},R adj p n q->R adj q n p
 |0,q,h=>by have:q=p:=h;exact this.symm
 |n+1,q,h=>by
  rcases h with h|⟨r,h1,h2⟩
  ·exact .inl (R.rev hs h)
  ·have:=R.add (R.one (hs _ _ h1)) (R.rev hs h2);rw[Nat.add_comm]at this;exact this
theorem xq{f:Int->Int}(hD:∀a b,adj a b->D a)(hD':∀a b,adj' a b->D a)(hf:∀a,D a->D (f a))(hs:∀b,D b->∃a,D a/\f a=b)(hi:∀a b,D a->D b->f a=f b->a=b)
  (ha:∀a b,D a->D b->(adj a b↔adj' (f a) (f b))) (hp:D p):∀{n:Nat}{q:Int},D q->(R adj p n q↔R adj' (f p) n (f q))
 |0,q,hq=>⟨fun h=>by have:q=p:=h;subst this;exact rfl,fun h=>hi _ _ hq hp h⟩
 |n+1,q,hq=>by
  constructor
  ·rintro (h | ⟨r, h1, h2⟩)
   ·exact .inl ((xq hD hD' hf hs hi ha hp hq).mp h)
   ·exact .inr ⟨f r,(ha _ _ (hD _ _ h1) hq).mp h1,(xq hD hD' hf hs hi ha hp (hD _ _ h1)).mp h2⟩
  ·rintro (h | ⟨r, h1, h2⟩)
   ·exact .inl ((xq hD hD' hf hs hi ha hp hq).mpr h)
   ·obtain⟨a,da,rfl⟩:=hs r (hD' _ _ h1);exact .inr ⟨a,(ha _ _ da hq).mpr h1,(xq hD hD' hf hs hi ha hp da).mpr h2⟩
end
end Lv
namespace Lw
open PySem L2 RS Lv
theorem DD:∀{xs ys:List 1e9},xs.Pairwise (fun a b=>pI a<pI b)->ys.Pairwise (fun a b=>pI a<pI b)->(∀k,k∈xs↔k∈ys)->xs=ys
 |[],ys,_,_,h=>by
  cases ys with
  |nil=>rfl
  |cons y ys=>exact absurd ((h y).mpr QG) SS
 |x::xs,[],_,_,h=>absurd ((h x).mp QG) SS
 |x::xs,y::ys,hx,hy,h=>by
  obtain⟨x1,x2⟩:=Tn.mp hx;obtain⟨y1,y2⟩:=Tn.mp hy
  have e:x=y:=by
   rcases QI.mp ((h x).mp QG) with z|z
   ·exact z
   ·rcases QI.mp ((h y).mpr QG) with u | u
    ·exact u.symm
    ·have:=y1 x z;have:=x1 y u;omega
  subst e;congr 1;refine DD x2 y2 fun k=>?_;constructor
  ·intro hk;rcases QI.mp ((h k).mp (QH _ hk)) with z|z
   ·subst z;have:=x1 k hk;omega
   ·exact z
  ·intro hk;rcases QI.mp ((h k).mpr (QH _ hk)) with z|z
   ·subst z;have:=y1 k hk;omega
   ·exact z
theorem yg{d':D}{m m':Int}{ks':List 1e9}(h:fJ d m ks)(h':fJ d' m' ks')(e:∀a b:Int,[a,b]∈ks↔[a,b]∈ks'):ks=ks':=by
 refine DD h.2.2.2.1 h'.2.2.2.1 fun k=>?_;constructor
 ·intro hk;obtain⟨a,b,rfl,_⟩:=h.2.2.2.2 k hk;exact(e a b).mp hk
 ·intro hk;obtain⟨a,b,rfl,_⟩:=h'.2.2.2.2 k hk;exact(e a b).mpr hk
abbrev bN(m:Nat)(ks:List 1e9):D:=.tup [.int m,.tup 0e5]
abbrev GW(m:Nat)(ks:List 1e9):Prop:=fJ 6e5 m ks
section
theorem GW.m0(h:GW m ks):1<=m:=by have:=h.2.1;omega
theorem GW.m6(h:GW m ks):m<=6:=by have:=h.2.2.1;omega
theorem PF(h:GW m ks){a b:Int}(e:mG ks a b):mG ks b a:=(jX h.2.2.2.2).mpr ((jX h.2.2.2.2).mp e).symm
theorem Ni(h:GW m ks){a b:Int}(e:mG ks a b):(0<=a/\a<(m:Int))/\(0<=b/\b<(m:Int)):=g8 h.2.2.2.2 e
end
def FW(k k':List Int):Bool:=match k,k' with
 |[a,b],[c,d]=>decide (a<c) || (decide (a=c)&&decide (b<d))
 |_,_=>false
theorem Cz{a b c d:Int}:dC .Lt (aq [a,b]) (aq [c,d]) Y=.ok (.bl (FW [a,b] [c,d])) Y:=by
 have e:dC .Lt (aq [a,b]) (aq [c,d]) Y=(match cmpPs .Lt [.int a,.int b] [.int c,.int d] with|some k=>.ok (.bl k) Y|none=>.bad):=rfl;rw[e];dsimp[cmpPs,i7,PyData.eqv,FW];by_cases h1:a=c
 ·subst h1;by_cases h2:b=d
  ·subst h2;simp[cA]
  ·simp[h2,cA]
 ·simp[h1,cA]
def OY(k:List Int):Prop:=∃a b,k=[a,b]
def MJ(ks:List 1e9):Bool:=(List.range (ks.length-1)).all fun i=>FW (ks.getD i []) (ks.getD (i+1) [])
theorem Ow:ku=ay (dC .Lt) 12e6 (ay cj 3e0 2e3):=rfl
theorem G5(hk:∀k∈ks,OY k)(a:List D)(i:Nat)(hi:i<ks.length-1):
  (ay (dC .Lt) 12e6 (ay cj 3e0 2e3)) [some (.int (1+(i:Int))),some 5e9] (Y++[.lst a])=.ok (.bl (FW (ks.getD i []) (ks.getD (i+1) []))) (Y++[.lst a]):=by
 have h1:i<ks.length:=by omega
 have h2:i+1<ks.length:=by omega
 obtain⟨x,y,e1⟩:=hk ks[i] (Uv h1);obtain⟨u,v,e2⟩:=hk ks[i+1] (Uv h2)
 have g1:atI 0e5 (1+(i:Int)-1)=some (aq [x,y]):=by
  rw[show (1+(i:Int)-1)=((i:Nat):Int) by omega];exact k9 (by rw[Rv,Ux h1,e1];rfl)
 have g2:atI 0e5 (1+(i:Int))=some (aq [u,v]):=by
  rw[show (1+(i:Int))=((i+1:Nat):Int) by omega];exact k9 (by rw[Rv,Ux h2,e2];rfl)
 have k1:ks.getD i []=[x,y]:=by rw[Uh,Ux h1,e1];rfl
 have k2:ks.getD (i+1) []=[u,v]:=by rw[Uh,Ux h2,e2];rfl
 rw[k1,k2];dsimp[aC,ao,ah,aT,aa,ae,xk];rw[jb g1];dsimp[aa,ae];rw[jb g2];dsimp[aa,ae];exact Cz
theorem EF(hk:∀k∈ks,OY k)(hl:ks.length<1000):
  compLoop (pJ.fix (bu 1 (ks.length-1))) 8e6 (ak 0) bp (ay (dC CmpOp.Lt) (ay cj 3e0 (ay dG 2e3 (cC (D.int 1)))) (ay cj 3e0 2e3)) (bu 1 (ks.length-1)) [none,some (D.tup (List.map aq ks))] (Y++[O.lst []]) =
   .ok 1e0 (Y++[.lst (((List.range (ks.length-1)).map fun i=>FW (ks.getD i []) (ks.getD (i+1) [])).map D.bl)]):=by
 have:=dn (src:=.fix (bu 1 (ks.length-1))) (g:=ak 0) (t:=bp) (e:=ay (dC .Lt) 12e6 (ay cj 3e0 2e3)) (Y1:=Y) (q:=fun _=>true)
  (h:=fun d=>match d with | .int j=>.bl (FW (ks.getD (j-1).toNat []) (ks.getD ((j-1).toNat+1) []))|_=>.non) (fun Z=>∃o,Z=[o,some 5e9]) 10e5 (xs:=bu 1 (ks.length-1)) (acc:=[]) (Z:=[none,some 5e9]) ⟨none,rfl⟩
  (by rw[oQ,Rz,SZ,S8];exact QD 0e0 bf)
  (fun x hx a Z ⟨o, ho⟩ => by
   rw[oQ]at hx;obtain⟨i,hi,rfl⟩:=Te.mp hx;refine⟨[some (.int (1+(i:Int))),some 5e9],⟨_,rfl⟩,by subst ho;rfl,rfl,fun _=>?_⟩;rw[G5 hk a i 6e3];dsimp only
   rw[show (1+(i:Int)-1).toNat=i by omega])
 rw[this,U5.mpr (fun _ _=>rfl),oQ,SX,Sn,SX];congr 4;apply SY;intro i _;show D.bl (FW (ks.getD (1+(i:Int)-1).toNat []) (ks.getD ((1+(i:Int)-1).toNat+1) []))=_;rw[show (1+(i:Int)-1).toNat=i by omega];rfl
theorem BD(hk:∀k∈ks,OY k)(hl:ks.length<1000):dY [.tup 0e5] Y=.ok (.bl (MJ ks)) Y:=by
 unfold dY;rw[cu];dsimp[mv,bc,aA,ar,bP,cF,aT,au,aa,ae,ah,dH,Rz];rw[kZ 0e0 0e0 0e0 0e0];have hn:((ks.length:Int)-1).toNat=ks.length-1:=by omega
 dsimp[aa,ae,bg,hn];rw[show dr [none,some 0] (some (D.tup (List.map aq ks))::List.replicate (1-1) none)=[none,some (D.tup (List.map aq ks))] from rfl];rw[Ow,EF hk hl];dsimp[aa,ae];rw[jW aw];dsimp[af,ae,aP];rw[d5 0e6];simp[MJ,UL,Vj]
theorem AK(h0:1<=m)(h1:m<=6):fA [.int m] Y=.ok 5e8 Y:=by
 unfold fA;rw[cu];dsimp[qv,List.replicate,bc,aA,ar,au,ah,aT,aa,ae,Bs (show (1:Int)<=(m:Int) by omega) (show (m:Int)<=6 by omega),af,aP];exact aL 0e6
theorem AI{a b:Int}(ha:0<=a/\a<(m:Int))(hb:0<=b/\b<(m:Int))(hn:a≠b):eN [.int m,.tup [.int a,.int b]] Y=.ok 5e8 Y:=by
 have h1:cO [.int m,.tup [.int a,.int b]] Y=.ok 5e8 Y:=by
  rw[zF (fun x hx=>by dsimp[QI,SS,SU]at hx;rcases hx with rfl|rfl <;> exact nofun) 0e6];congr 2;dsimp[Sa,List.all_nil,Bool.and_true,FQ,RW,UH];exact⟨ha,hb⟩
 have h2:f9 true (.int a) (.int b) Y=.ok 5e8 Y:=by
  show ai.ok (D.bl (!(a == b))) Y=_;rw[Qs.mpr hn];rfl
 have i0:cj (.tup [.int a,.int b]) (.int 0) Y=.ok (.int a) Y:=rfl;have i1:cj (.tup [.int a,.int b]) (.int 1) Y=.ok (.int b) Y:=rfl;have l2:f9 false (.int (([.int a,.int b]:List D).length:Int)) (.int 2) Y=.ok 5e8 Y:=rfl;unfold eN;rw[cS];dsimp[qu,List.replicate,bc,fv,aA,ar,au,ah,ao,aT,aa,ae,h1,aO,RI,aC,dH,l2,i0,i1,h2,af,aP];exact aL 0e6
theorem Kc{a b:Int}(h0:0<=a)(h1:a<b)(h2:b<(m:Int)):jI [.int m,.tup [.int a,.int b]] Y=.ok 5e8 Y:=by
 have hp:=AI (Y:=Y) (m:=m) (a:=a) (b:=b) ⟨h0,by omega⟩ ⟨by omega,h2⟩ 0e0;have i0:cj (.tup [.int a,.int b]) (.int 0) Y=.ok (.int a) Y:=rfl;have i1:cj (.tup [.int a,.int b]) (.int 1) Y=.ok (.int b) Y:=rfl;unfold jI;rw[cS];dsimp[sV,List.replicate,bc,fv,aA,ar,au,ah,ao,aT,aa,ae,hp,aO,RI,aC,i0,i1,cG,af,aP];rw[show cA .Lt a b=true from Sr h1];exact aL 0e6
theorem KB{m:Int}:∀{ks:List 1e9},(∀k∈ks,oq m k)->m<=6->ks.Pairwise (fun a b=>pI a<pI b)->∀i,i<ks.length-1->FW (ks.getD i []) (ks.getD (i+1) [])=true:=fun {ks} hk hm hp i hi=>by
 have h1:i<ks.length:=by omega
 have h2:i+1<ks.length:=by omega
 have e1:ks.getD i []=ks[i]:=by rw[Uh,Ux h1];rfl
 have e2:ks.getD (i+1) []=ks[i+1]:=by rw[Uh,Ux h2];rfl
 have lt:=Tb.mp hp i (i+1) h1 h2 0e0;rw[e1,e2];obtain⟨a,b,ea,a1,a2,a3⟩:=hk _ (Uv h1);obtain⟨c,d,ec,c1,c2,c3⟩:=hk _ (Uv h2);rw[ea,ec]at lt⊢;have lt':a*6+b<c*6+d:=lt;unfold FW;dsimp only;by_cases z:a<c
 ·rw[Sr z];rfl
 ·have : a = c := by omega
  rw[Qr z,Sr this,Sr (show b<d by omega)];rfl
theorem GH(h:GW m ks):iy [.int m,.tup 0e5] Y=.ok 5e8 Y:=by
 have hl:=g9 h
 have hr:dY [.tup 0e5] (Y++[.lst (ks.map fun _=>D.bl true)])=.ok 5e8 (Y++[.lst (ks.map fun _=>D.bl true)]):=by
  rw[BD (fun k hk=>by obtain⟨a,b,e,_⟩:=h.2.2.2.2 k hk;exact⟨a,b,e⟩) 0e0];congr 2;exact TJ.mpr fun i hi=>KB h.2.2.2.2 (by have:=h.m6;omega) h.2.2.2.1 i 6e3
 have c:=fT (U:=List Int) (en:=aq) (src:=.fix 0e5) (g:=ak 0) (t:=bp) (e:=kh) (Y1:=Y) (q:=fun _=>true) (h:=fun _=>.bl true) (fun Z=>∃o,Z=[o,some 6e1]) 10e5 (us:=ks) (acc:=[]) (Z:=[none,some 6e1]) ⟨_,rfl⟩
  (by rw[S8];exact QD 0e0 bf)
  (fun k hk a Z hJJ => by
   obtain⟨o,e⟩:=hJJ;subst e;obtain⟨x,y,rfl,g1,g2,g3⟩:=h.2.2.2.2 k hk;refine⟨[some (aq [x,y]),some 6e1],⟨_,rfl⟩,rfl,rfl,fun _=>?_⟩;unfold kh;dsimp[aA,ar,au,ah,ao,aa,ae]
   exact Kc g1 g2 g3)
 rw[oZ,Sn]at c;unfold iy;rw[cS];dsimp[qt,List.replicate,bc,fv,fI,aA,ar,au,ah,ao,aT,aa,ae];rw[show eP "tuple" (.tup 0e5) Y=.ok 5e8 Y from rfl];dsimp[aa,ae,aO,RI,bP,cw,ao,ah];rw[show zb 5e9 Y=.ok (.fix 0e5) Y from rfl];dsimp[aa,ae,bg];rw[show dr [none,some 0] (some 6e1::some 5e9::List.replicate (2-2) none)=[none,some 6e1] from rfl,c];dsimp[aa,ae];rw[show ks.map (fun _=>D.bl true)=(ks.map fun _=>true).map D.bl from by rw[SX];rfl];rw[jW aw];rw[show (ks.map fun _=>true).all id=true from by simp];dsimp[aa,ae,aO,RI,aA,ar,au,ao,ah];rw[show (ks.map fun _=>true).map D.bl=ks.map (fun _=>D.bl true) from by rw[SX];rfl,hr];dsimp[af,ae,aP];exact d5 0e6
theorem zE(h:GW m ks):gB [bN m ks] Y=.ok 5e8 Y:=by
 have l2:f9 true (.int (([.int (m:Int),.tup 0e5]:List D).length:Int)) (.int 2) Y=.ok 4e2 Y:=rfl;unfold gB;rw[cu];dsimp[oa,List.replicate,aG,bw,gU,bX,cq,fI,ah,aa,ae];rw[show eP "tuple" (.tup [.int (m:Int),.tup 0e5]) Y=.ok 5e8 Y from rfl];dsimp[aa,ae,bL,TL,Sw,RH,bR,aC,aA,ar,au,ah,aT,dH,l2,aO,af,bT,aD,aS];dsimp[aG,aS,ah,aa,ae,af];rw[show dc 2 (aW (ak 1) (aW (ak 2) de)) (.tup [.int (m:Int),.tup 0e5]) [some (.tup [.int (m:Int),.tup 0e5]),none,none] Y=.ok [some (.tup [.int (m:Int),.tup 0e5]),some 6e1,some 5e9] Y from rfl];dsimp[af,aD,bc,fv,aA,ar,au,ao,ah,aa,ae,AK h.m0 h.m6,aO,RI,GH h,aP];exact aL 0e6
mutual
def Kn(Y:aB):D->Prop
 |.tup xs=>xs.length<1000/\Kns Y xs
 |.obj n=>∃tn,kP Y (.obj n)=some tn/\tn ≠ "int" /\ tn ≠ "bool" /\ tn ≠ "tuple"
 |_=>True
def Kns(Y:aB):List D->Prop
 |[]=>True
 |x::xs=>Kn Y x/\Kns Y xs
end
theorem iE{Y:aB}:∀{xs:List D},Kns Y xs↔∀x∈xs,Kn Y x
 |[]=>by simp[Kns]
 |x::xs=>by simp[Kns,iE (xs:=xs)]
theorem AC{g:aB}(h:kP Y (.obj n)=some tn):kP (Y++g) (.obj n)=some tn:=by
 unfold kP at h⊢;dsimp only at h⊢;cases e:Y[n]? with
 |none=>rw[e]at h;cases h
 |some o=>rw[Ru (QM.mp e).1,e];rw[e]at h;exact h
mutual
theorem rQ{Y:aB}(g:aB):∀{d:D},Kn Y d->Kn (Y++g) d
 |.non,_=>by simp[Kn]
 |.bl _,_=>by simp[Kn]
 |.int _,_=>by simp[Kn]
 |.str _,_=>by simp[Kn]
 |.frz _,_=>by simp[Kn]
 |.obj n,h=>by
  dsimp[Kn]at h⊢;obtain⟨tn,h1,h2⟩:=h;exact⟨tn,AC h1,h2⟩
 |.tup xs,h=>by
  dsimp[Kn]at h⊢;exact⟨h.1,kns_more g h.2⟩
theorem kns_more{Y:aB}(g:aB):∀{xs:List D},Kns Y xs->Kns (Y++g) xs
 |[],_=>by simp[Kns]
 |x::xs,h=>by
  dsimp[Kns]at h⊢;exact⟨rQ g h.1,kns_more g h.2⟩
end
def isInt:D->Bool
 |.int _=>true
 |_=>false
def eF:D->Bool
 |.tup _=>true
 |_=>false
def cf(a b:Int):D->Bool
 |.int i=>decide (a<=i)&&decide (i<=b)
 |_=>false
theorem Cj(h:Kn Y d):∃b,eP "int" d Y=.ok (.bl b) Y/\(b=true↔(isInt d=true\/∃c,d=.bl c)):=by
 cases d with
 |obj n=>
  dsimp[Kn]at h;obtain⟨tn,h1,h2,h3,h4⟩:=h;refine⟨_,by unfold eP;rw[h1],?_⟩;simp[lO,isInt,h2,h3]
 |non=>exact⟨_,rfl,by simp[lO,isInt]⟩
 |bl b=>exact⟨_,rfl,by simp[lO,isInt]⟩
 |int b=>exact⟨_,rfl,by simp[lO,isInt]⟩
 |str b=>exact⟨_,rfl,by simp[lO,isInt]⟩
 |tup b=>exact⟨_,rfl,by simp[lO,isInt]⟩
 |frz b=>exact⟨_,rfl,by simp[lO,isInt]⟩
theorem Fq(h:Kn Y d):∃b,eP "bool" d Y=.ok (.bl b) Y/\(b=true↔∃c,d=.bl c):=by
 cases d with
 |obj n=>
  dsimp[Kn]at h;obtain⟨tn,h1,h2,h3,h4⟩:=h;refine⟨_,by unfold eP;rw[h1],?_⟩;simp[lO,h2,h3]
 |non=>exact⟨_,rfl,by simp[lO]⟩
 |bl b=>exact⟨_,rfl,by simp[lO]⟩
 |int b=>exact⟨_,rfl,by simp[lO]⟩
 |str b=>exact⟨_,rfl,by simp[lO]⟩
 |tup b=>exact⟨_,rfl,by simp[lO]⟩
 |frz b=>exact⟨_,rfl,by simp[lO]⟩
theorem kF(h:Kn Y d):eP "tuple" d Y=.ok (.bl (eF d)) Y:=by
 cases d with
 |obj n=>
  dsimp[Kn]at h;obtain⟨tn,h1,h2,h3,h4⟩:=h;unfold eP;rw[h1];simp[lO,eF,h4]
 |non=>rfl
 |bl b=>rfl
 |int b=>rfl
 |str b=>rfl
 |tup b=>rfl
 |frz b=>rfl
theorem sX(h:Kn Y d):d8 [d] Y=.ok (.bl (isInt d)) Y:=by
 obtain⟨b1,e1,f1⟩:=Cj h;obtain⟨b2,e2,f2⟩:=Fq h;unfold d8;rw[cu]
 have:(b1 && !b2)=isInt d:=by
  cases d <;> simp[isInt]at f1 f2⊢ <;> simp[f1,f2]
 simp[lp,e1,e2];cases b1 <;> cases b2 <;> simp at this⊢ <;> rw[<- this] <;> exact aL 0e6
theorem p7(h:Kn Y d):fD [d] Y=.ok (.bl (isInt d)) Y:=sX h
theorem oP{a b:Int}(h:Kn Y d):bq [d,.int a,.int b] Y=.ok (.bl (cf a b d)) Y:=by
 unfold bq;rw[pY];simp[gu,sX h]
 cases d <;> simp[isInt,cf] <;> first
  |exact aL 0e6
  |skip
 simp[cA];split <;> (rename_i hc;simp[hc];exact aL 0e6)
theorem zG{m:Int}(h:Kn Y d):gC [.int m,d] Y=.ok (.bl (cf 0 (m-1) d)) Y:=by
 unfold gC;rw[cS];simp[og,oP h];exact aL 0e6
theorem BG(h:Kn Y d):fA [d] Y=.ok (.bl (cf 1 6 d)) Y:=by
 unfold fA;rw[cu];simp[qv,oP h];exact aL 0e6
def rJ(m:Int):D->Bool
 |.tup xs=>xs.all (cf 0 (m-1))
 |_=>false
theorem sO{h:D->Bool}{e:ME}{c:D}(hl:xs.length<=sizeLine)(he:∀x∈xs,∀a,e [some x,some c] (Y++[.lst a])=.ok (.bl (h x)) (Y++[.lst a])):
  compLoop (.fix xs) 8e6 (ak 0) bp e xs [none,some c] (Y++[.lst []])=.ok 1e0 (Y++[.lst ((xs.map h).map D.bl)]):=by
 have:=dn (src:=.fix xs) (g:=ak 0) (t:=bp) (e:=e) (Y1:=Y) (q:=fun _=>true) (h:=fun x=>D.bl (h x)) (fun Z=>∃o,Z=[o,some c]) 10e5 (xs:=xs) (acc:=[]) (Z:=[none,some c]) ⟨none,rfl⟩ (by simpa using hl)
  (fun x hx a Z ⟨o,ho⟩=>⟨[some x,some c],⟨_,rfl⟩,by subst ho;rfl,rfl,fun _=>he x hx a⟩)
 rw[this,U5.mpr (fun _ _=>rfl)];simp[SX,Vj]
theorem sE:1000<=sizeLine:=by decide
theorem mR{m:Int}(h:Kn Y d):cO [.int m,d] Y=.ok (.bl (rJ m d)) Y:=by
 unfold cO;rw[cS];simp[mw,kF h];cases d with
 |tup xs=>
  dsimp[eF,RI,rJ];simp;dsimp[Kn]at h;rw[sO (h:=cf 0 (m-1)) (QD (QE h.1) sE) fun x hx a=>?_]
  ·simp;rw[jW (bs:=xs.map (cf 0 (m-1))) 0e6];simp[UL,Vj];exact d5 0e6
  ·simp[iL];exact zG (rQ _ (iE.mp h.2 x hx))
 |non=>simp[eF,rJ];exact aL 0e6
 |bl b=>simp[eF,rJ];exact aL 0e6
 |int b=>simp[eF,rJ];exact aL 0e6
 |str b=>simp[eF,rJ];exact aL 0e6
 |frz b=>simp[eF,rJ];exact aL 0e6
 |obj b=>simp[eF,rJ];exact aL 0e6
def oB(m:Int)(d:D):Bool:=rJ m d&&(match d with
 |.tup [.int a,.int b]=>a != b
 |_=>false)
def ot(m:Int)(d:D):Bool:=rJ m d&&(match d with
 |.tup [.int a,.int b]=>decide (a<b)
 |_=>false)
theorem ER{m:Int}(h:rJ m (.tup xs)=true):∃ns:List Int,xs=ns.map D.int/\∀n∈ns,0<=n/\n<=m-1:=by
 dsimp[rJ]at h
 induction xs with
 |nil=>exact⟨[],rfl,by simp⟩
 |cons x r ih=>
  rw[Sa,RW]at h;obtain⟨ns,e,f⟩:=ih h.2;cases x with
  |int i=>
   simp[cf]at h;exact⟨i::ns,by rw[e];rfl,fun n hn=>(QI.mp hn).elim (fun z=>by rw[z];exact h.1) (f n)⟩
  |non=>simp[cf]at h
  |bl b=>simp[cf]at h
  |str b=>simp[cf]at h
  |tup b=>simp[cf]at h
  |frz b=>simp[cf]at h
  |obj b=>simp[cf]at h
theorem BE{m:Int}(h:Kn Y d):eN [.int m,d] Y=.ok (.bl (oB m d)) Y:=by
 unfold eN;rw[cS];simp[qu,mR h];cases hp:rJ m d with
 |false=>simp[oB,hp];exact aL 0e6
 |true=>
  cases d with
  |tup xs=>
   obtain⟨ns,rfl,_⟩:=ER hp;simp
   match ns with
   |[]=>simp[oB];exact aL 0e6
   |[a]=>simp[oB];exact aL 0e6
   |[a,b]=>
    dsimp[Sx,S8,RZ,RY];simp[jb (uB),jb (xp),oB,hp];simp at hp;rw[hp];simp[bne];exact aL 0e6
   |a::b::c::r=>
    have:((r.length:Int)+1+1+1 == 2)=false:=by simp;omega
    simp[this,oB];exact aL 0e6
  |non=>simp[rJ]at hp
  |bl b=>simp[rJ]at hp
  |int b=>simp[rJ]at hp
  |str b=>simp[rJ]at hp
  |frz b=>simp[rJ]at hp
  |obj b=>simp[rJ]at hp
theorem Ek{m:Int}(h:Kn Y d):jI [.int m,d] Y=.ok (.bl (ot m d)) Y:=by
 unfold jI;rw[cS];simp[sV,BE h];cases hp:oB m d with
 |false=>
  have:ot m d=false:=by
   unfold oB at hp;unfold ot;cases hq:rJ m d with
   |false=>rfl
   |true=>
    rw[hq]at hp;dsimp[Va]at hp⊢;split at hp
    ·simp at hp⊢;omega
    ·rfl
  simp[this];exact aL 0e6
 |true=>
  unfold oB at hp;rw[RW]at hp;obtain⟨hp1,hp2⟩:=hp;split at hp2
  ·rename_i a b;simp[jb (uB),jb (xp),ot,hp1,cA];exact aL 0e6
  ·cases hp2
theorem D8{m:Int}(h:ot m d=true):∃a b:Int,d=aq [a,b]/\0<=a/\a<b/\b<=m-1:=by
 unfold ot at h;rw[RW]at h;obtain⟨h1,h2⟩:=h;split at h2
 ·rename_i a b;simp[rJ,cf]at h1;simp at h2;exact⟨a,b,rfl,by omega,h2,by omega⟩
 ·cases h2
def sj(k k':List Int):Bool:=match k,k' with
 |[a,b],[c,d]=>decide (a<c) || (decide (a=c)&&decide (b<d))
 |_,_=>false
theorem yQ{a b c d:Int}:dC .Lt (aq [a,b]) (aq [c,d]) Y=.ok (.bl (sj [a,b] [c,d])) Y:=by
 have e:dC .Lt (aq [a,b]) (aq [c,d]) Y=(match cmpPs .Lt [.int a,.int b] [.int c,.int d] with|some k=>.ok (.bl k) Y|none=>.bad):=rfl;rw[e];dsimp[cmpPs,i7,PyData.eqv,sj];by_cases h1:a=c
 ·subst h1;by_cases h2:b=d
  ·subst h2;simp[cA]
  ·simp[h2,cA]
 ·simp[h1,cA]
def Dy(k:List Int):Prop:=∃a b,k=[a,b]
def zi(ks:List 1e9):Bool:=(List.range (ks.length-1)).all fun i=>sj (ks.getD i []) (ks.getD (i+1) [])
theorem nU:bu lo n=(List.range n).map fun(i:Nat)=>D.int (lo+(i:Int)):=rfl
theorem IH:ku=ay (dC .Lt) 12e6 (ay cj 3e0 2e3):=rfl
theorem BP(hk:∀k∈ks,Dy k)(a:List D)(i:Nat)(hi:i<ks.length-1):
  (ay (dC .Lt) 12e6 (ay cj 3e0 2e3)) [some (.int (1+(i:Int))),some 5e9] (Y++[.lst a])=.ok (.bl (sj (ks.getD i []) (ks.getD (i+1) []))) (Y++[.lst a]):=by
 have h1:i<ks.length:=by omega
 have h2:i+1<ks.length:=by omega
 obtain⟨x,y,e1⟩:=hk ks[i] (Uv h1);obtain⟨u,v,e2⟩:=hk ks[i+1] (Uv h2)
 have g1:atI 0e5 (1+(i:Int)-1)=some (aq [x,y]):=by
  rw[show (1+(i:Int)-1)=((i:Nat):Int) by omega];exact k9 (by rw[Rv,Ux h1,e1];rfl)
 have g2:atI 0e5 (1+(i:Int))=some (aq [u,v]):=by
  rw[show (1+(i:Int))=((i+1:Nat):Int) by omega];exact k9 (by rw[Rv,Ux h2,e2];rfl)
 have k1:ks.getD i []=[x,y]:=by rw[Uh,Ux h1,e1];rfl
 have k2:ks.getD (i+1) []=[u,v]:=by rw[Uh,Ux h2,e2];rfl
 rw[k1,k2];dsimp[aC,ao,ah,aT,aa,ae,xk];rw[jb g1];dsimp[aa,ae];rw[jb g2];dsimp[aa,ae];exact yQ
theorem zM(hk:∀k∈ks,Dy k)(hl:ks.length<1000):
  compLoop (pJ.fix (bu 1 (ks.length-1))) 8e6 (ak 0) bp (ay (dC CmpOp.Lt) (ay cj 3e0 (ay dG 2e3 (cC (D.int 1)))) (ay cj 3e0 2e3)) (bu 1 (ks.length-1)) [none,some (D.tup (List.map aq ks))] (Y++[O.lst []]) =
   .ok 1e0 (Y++[.lst (((List.range (ks.length-1)).map fun i=>sj (ks.getD i []) (ks.getD (i+1) [])).map D.bl)]):=by
 have:=dn (src:=.fix (bu 1 (ks.length-1))) (g:=ak 0) (t:=bp) (e:=ay (dC .Lt) 12e6 (ay cj 3e0 2e3)) (Y1:=Y) (q:=fun _=>true)
  (h:=fun d=>match d with | .int j=>.bl (sj (ks.getD (j-1).toNat []) (ks.getD ((j-1).toNat+1) []))|_=>.non) (fun Z=>∃o,Z=[o,some 5e9]) 10e5 (xs:=bu 1 (ks.length-1)) (acc:=[]) (Z:=[none,some 5e9]) ⟨none,rfl⟩
  (by rw[nU,Rz,SZ,S8];exact QD 0e0 sE)
  (fun x hx a Z ⟨o, ho⟩ => by
   rw[nU]at hx;obtain⟨i,hi,rfl⟩:=Te.mp hx;refine⟨[some (.int (1+(i:Int))),some 5e9],⟨_,rfl⟩,by subst ho;rfl,rfl,fun _=>?_⟩;rw[BP hk a i 6e3];dsimp only
   rw[show (1+(i:Int)-1).toNat=i by omega])
 rw[this,U5.mpr (fun _ _=>rfl),nU,SX,Sn,SX];congr 4;apply SY;intro i _;show D.bl (sj (ks.getD (1+(i:Int)-1).toNat []) (ks.getD ((1+(i:Int)-1).toNat+1) []))=_;rw[show (1+(i:Int)-1).toNat=i by omega];rfl
theorem yz(hk:∀k∈ks,Dy k)(hl:ks.length<1000):dY [.tup 0e5] Y=.ok (.bl (zi ks)) Y:=by
 unfold dY;rw[cu];dsimp[mv,bc,aA,ar,bP,cF,aT,au,aa,ae,ah,dH,Rz];rw[kZ 0e0 0e0 0e0 0e0];have hn:((ks.length:Int)-1).toNat=ks.length-1:=by omega
 dsimp[aa,ae,bg,hn];rw[show dr [none,some 0] (some (D.tup (List.map aq ks))::List.replicate (1-1) none)=[none,some (D.tup (List.map aq ks))] from rfl];rw[IH,zM hk hl];dsimp[aa,ae];rw[jW aw];dsimp[af,ae,aP];rw[d5 0e6];simp[zi,UL,Vj]
def Ji:D->List Int
 |.tup [.int a,.int b]=>[a,b]
 |_=>[]
def lT(m:Int)(d:D):Bool:=match d with
 |.tup ts=>ts.all (ot m)&&zi (ts.map Ji)
 |_=>false
def jR(d:D):Bool:=match d with
 |.tup [.int m,ts]=>decide (1<=m)&&decide (m<=6)&&lT m ts
 |_=>false
theorem FM{m:Int}{ts:List D}(h:ts.all (ot m)=true):∃ks:List 1e9,ts=ks.map aq/\ts.map Ji=ks/\∀k∈ks,∃a b:Int,k=[a,b]/\0<=a/\a<b/\b<=m-1:=by
 induction ts with
 |nil=>exact⟨[],rfl,rfl,by simp⟩
 |cons x r ih=>
  rw[Sa,RW]at h;obtain⟨ks,e1,e2,e3⟩:=ih h.2;obtain⟨a,b,rfl,h1,h2,h3⟩:=D8 h.1;refine⟨[a,b]::ks,by rw[e1];rfl,by rw[RZ,e2];rfl,fun k hk=>?_⟩;rcases QI.mp hk with z|z
  ·exact⟨a,b,z,h1,h2,h3⟩
  ·exact e3 k z
theorem BA{m:Int}(h:Kn Y d):iy [.int m,d] Y=.ok (.bl (lT m d)) Y:=by
 unfold iy;rw[cS];simp[qt,kF h];cases d with
 |tup ts=>
  dsimp[eF,RI,lT];dsimp[Kn]at h;rw[jV];dsimp[aa,ae,bg];rw[sO (h:=ot m) (QD (QE h.1) sE) fun x hx a=>?_]
  ·dsimp[aa, ae];rw[jW aw];dsimp[aa,ae,aO];cases ha:ts.all (ot m) with
   |false=>
    have:((ts.map (ot m)).all id)=false:=by rw[UL];simpa[Vj] using ha
    rw[this];simp;exact d5 0e6
   |true=>
    have:((ts.map (ot m)).all id)=true:=by rw[UL];simpa[Vj] using ha
    rw[this];obtain⟨ks,e1,e2,e3⟩:=FM ha;dsimp[RI,Va];rw[e2,e1,yz (fun k hk=>let ⟨a,b,e,_⟩:=e3 k hk;⟨a,b,e⟩) (by rw[e1]at h;simpa using h.1)];simp;exact d5 0e6
  ·simp[kh];exact Ek (rQ _ (iE.mp h.2 x hx))
 |non=>simp[eF,lT];exact aL 0e6
 |bl b=>simp[eF,lT];exact aL 0e6
 |int b=>simp[eF,lT];exact aL 0e6
 |str b=>simp[eF,lT];exact aL 0e6
 |frz b=>simp[eF,lT];exact aL 0e6
 |obj b=>simp[eF,lT];exact aL 0e6
theorem Kb(h:Kn Y d):gB [d] Y=.ok (.bl (jR d)) Y:=by
 unfold gB;rw[cu];simp[oa,kF h];cases d with
 |tup xs=>
  dsimp[Kn]at h;simp[eF]
  match xs,h with
  |[],h=>simp[jR];exact aL 0e6
  |[x],h=>simp[jR];exact aL 0e6
  |[x,y],h=>
   dsimp[Kns]at h;simp[BG h.2.1];cases x with
   |int m=>
    simp[cf];cases hm:(decide (1<=m)&&decide (m<=6)) with
    |false=>
     simp[jR,hm];have:¬ (1<=m/\m<=6):=by simpa using hm
     rw[Qv this];simp;exact aL 0e6
    |true=>
     have:1<=m/\m<=6:=by simpa using hm
     rw[Qu this];simp[BA h.2.2.1,jR,this];exact aL 0e6
   |non=>simp[cf,jR];exact aL 0e6
   |bl b=>simp[cf,jR];exact aL 0e6
   |str b=>simp[cf,jR];exact aL 0e6
   |tup b=>simp[cf,jR];exact aL 0e6
   |frz b=>simp[cf,jR];exact aL 0e6
   |obj b=>simp[cf,jR];exact aL 0e6
  |x::y::z::r,h=>
   have:((r.length:Int)+1+1+1 == 2)=false:=by simp;omega
   simp[this,jR];exact aL 0e6
 |non=>simp[eF,jR];exact aL 0e6
 |bl b=>simp[eF,jR];exact aL 0e6
 |int b=>simp[eF,jR];exact aL 0e6
 |str b=>simp[eF,jR];exact aL 0e6
 |frz b=>simp[eF,jR];exact aL 0e6
 |obj b=>simp[eF,jR];exact aL 0e6
def mm(p:Int×Int):List Int:=[min p.1 p.2,max p.1 p.2]
def PP(m:Nat)(p:Int×Int):Prop:=(0<=p.1/\p.1<(m:Int))/\(0<=p.2/\p.2<(m:Int))/\p.1≠p.2
theorem PP.ok{p:Int×Int}(h:PP m p):oq m (mm p):=⟨_,_,rfl,by have:=h.1;have:=h.2.1;omega,by have:=h.2.2;omega,by have:=h.1;have:=h.2.1;omega⟩
theorem jF{a b:Int}(hm:m<=6)(hps:∀p∈ps,PP m p):[a,b]∈cI (ps.map mm)↔∃p∈ps,mm p=[a,b]:=by
 unfold cI;rw[QB,UH,Te];exact⟨fun h=>h.2,fun h=>⟨by obtain⟨p,hp,e⟩:=h;rw[<- e];exact(hps p hp).ok.prs 0e0,h⟩⟩
theorem mH(h0:1<=m)(hm:m<=6)(hps:∀p∈ps,PP m p):GW m (cI (ps.map mm)):=iX 0e0 0e0 fun k hk=>by obtain⟨p,hp,rfl⟩:=Te.mp hk;exact(hps p hp).ok
structure y0(m:Nat)(ns:List Int):Prop where
 nd:ns.Nodup
 len:ns.length=m
 rng:∀n∈ns,0<=n/\n<(m:Int)
def nm(ns:List Int)(k:Int):Int:=ns.getD k.toNat 0
section
theorem y0.get(N:y0 m ns){k:Int}(h:0<=k/\k<(m:Int)):∃hk:k.toNat<ns.length,nm ns k=ns[k.toNat]:=by
 have hk:k.toNat<ns.length:=by rw[N.len];omega
 exact⟨hk,by unfold nm;rw[Uh,Ux hk];rfl⟩
theorem y0.ran(N:y0 m ns){k:Int}(h:0<=k/\k<(m:Int)):0<=nm ns k/\nm ns k<(m:Int):=by
 obtain⟨hk,e⟩:=N.get h;rw[e];exact N.rng _ (Uv hk)
theorem y0.inj(N:y0 m ns){a b:Int}(ha:0<=a/\a<(m:Int))(hb:0<=b/\b<(m:Int))(e:nm ns a=nm ns b):a=b:=by
 obtain⟨h1,e1⟩:=N.get ha;obtain⟨h2,e2⟩:=N.get hb;rw[e1,e2]at e;have:=(QN N.nd).mp e;omega
theorem y0.all(N:y0 m ns){b:Int}(hb:0<=b/\b<(m:Int)):∃a,(0<=a/\a<(m:Int))/\nm ns a=b:=by
 have sub:ns ⊆ rg m:=fun n hn=>sy.mpr (N.rng n hn)
 have hmem:b∈ns:=by
  apply Tf;intro hc;have:(b::ns).Nodup:=Rj.mpr ⟨hc,N.nd⟩
  have l:=this.length_le_of_subset (show b::ns ⊆ rg m from fun n hn=>by
   rcases QI.mp hn with z|z
   ·subst z;exact sy.mpr hb
   ·exact sub z)
  rw[Ky,Sx,N.len]at l;omega
 obtain⟨i,hi,e⟩:=UB hmem;have hi':(0:Int)<=(i:Int)/\(i:Int)<(m:Int):=by have:=N.len;omega
 refine⟨i,hi',?_⟩;unfold nm;rw[show ((i:Int)).toNat=i from by omega,Uh,Ux hi,e];rfl
def C1(ns:List Int)(k:List Int):Int×Int:=(nm ns (k.getD 0 0),nm ns (k.getD 1 0))
def ve(ks:List 1e9)(ns:List Int):List 1e9:=cI ((ks.map (C1 ns)).map mm)
theorem vt(N:y0 m ns)(h:∀k∈ks,oq m k):∀p∈ks.map (C1 ns),PP m p:=fun p hp=>by
 obtain⟨k,hk,rfl⟩:=Te.mp hp;obtain⟨a,b,rfl,h1,h2,h3⟩:=h k hk;have x1:0<=a/\a<(m:Int):=⟨h1,by omega⟩;have y1:0<=b/\b<(m:Int):=⟨by omega,h3⟩;exact⟨N.ran x1,N.ran y1,fun e=>by have:=N.inj x1 y1 e;omega⟩
theorem vv(N:y0 m ns)(h:GW m ks):GW m (ve ks ns):=mH h.m0 h.m6 (vt N h.2.2.2.2)
theorem G7(N:y0 m ns)(h:GW m ks){a b:Int}(ha:0<=a/\a<(m:Int))(hb:0<=b/\b<(m:Int)):mG ks a b↔mG (ve ks ns) (nm ns a) (nm ns b):=by
 have hk:=h.2.2.2.2;have pp:=vt N hk;rw[jX (vv N h).2.2.2.2,jX hk];unfold ve;rw[jF h.m6 pp,jF h.m6 pp];constructor
 ·intro e
  have key:∃p∈ks.map (C1 ns),(p.1=nm ns a/\p.2=nm ns b)\/(p.1=nm ns b/\p.2=nm ns a):=by
   rcases e with e|e
   ·exact⟨_,Te.mpr ⟨_,e,rfl⟩,.inl ⟨rfl,rfl⟩⟩
   ·exact⟨_,Te.mpr ⟨_,e,rfl⟩,.inr ⟨rfl,rfl⟩⟩
  obtain⟨p,hp,hc⟩:=key;by_cases le:nm ns a<=nm ns b
  ·refine .inl ⟨p, hp, ?_⟩;unfold mm;rcases hc with⟨e1,e2⟩|⟨e1,e2⟩ <;> rw[e1,e2]
   ·rw[Vf le,Vg le]
   ·rw[Vh le,Vi le]
  ·have le' : nm ns b <= nm ns a := by omega
   refine .inr ⟨p,hp,?_⟩;unfold mm;rcases hc with⟨e1,e2⟩|⟨e1,e2⟩ <;> rw[e1,e2]
   ·rw[Vh le',Vi le']
   ·rw[Vf le',Vg le']
 ·intro e
  have key:∃p∈ks.map (C1 ns),(p.1=nm ns a/\p.2=nm ns b)\/(p.1=nm ns b/\p.2=nm ns a):=by
   rcases e with⟨p,hp,e⟩|⟨p,hp,e⟩
   ·unfold mm at e;injection e with e1 e2
    injection e2 with e2 _
    exact⟨p,hp,by omega⟩
   ·unfold mm at e;injection e with e1 e2
    injection e2 with e2 _
    exact⟨p,hp,by omega⟩
  obtain⟨p,hp,hc⟩:=key;obtain⟨k,hkm,rfl⟩:=Te.mp hp;obtain⟨x,y,rfl,h1,h2,h3⟩:=hk k hkm;have x1:0<=x/\x<(m:Int):=⟨h1,by omega⟩;have y1:0<=y/\y<(m:Int):=⟨by omega,h3⟩;rcases hc with⟨e1,e2⟩|⟨e1,e2⟩
  ·have:=N.inj x1 ha e1;have:=N.inj y1 hb e2;subst x y;exact .inl hkm
  ·have:=N.inj x1 hb e1;have:=N.inj y1 ha e2;subst x y;exact .inr hkm
theorem N3(N:y0 m ns)(h:GW m ks){a b:Int}(ha:0<=a/\a<(m:Int))(hb:0<=b/\b<(m:Int)):R (mG ks) a n b↔R (mG (ve ks ns)) (nm ns a) n (nm ns b):=
 xq (adj:=mG ks) (adj':=mG (ve ks ns)) (f:=nm ns) (D:=fun q=>0<=q/\q<(m:Int)) (fun a b e=>(Ni h e).1) (fun a b e=>(Ni (vv N h) e).1) (fun a h=>N.ran h) (fun b h=>N.all h) (fun a b ha hb e=>N.inj ha hb e) (fun a b ha hb=>G7 N h ha hb) ha hb
end
theorem BI{a:Int}(h0:0<=a)(h1:a<7):PyData.showable (.int a)=true/\PyData.leavesShort 8 (.int a)=true/\PyData.weight (.int a)<=3:=by
 have:a=0\/a=1\/a=2\/a=3\/a=4\/a=5\/a=6:=by omega
 rcases this with rfl|rfl|rfl|rfl|rfl|rfl|rfl <;> decide +kernel
theorem σ8{d:PyData}(h1:d.showable=true)(h2:d.canLay0=true)(h3:d.depth<=60)(h4:d.leavesShort 8=true)(h5:d.weight<=1000):vw d=true:=by
 have hs:=PyData.shown_le 8 8e0 d h4;have hz:(10008:Nat)<=sizeLine:=by decide
 unfold vw;rw[h1,PyData.hasDict_of_canLay d h2,Sr h3,Sr (show d.shown.length<=sizeLine by omega)];rfl
theorem KN:prs.Nodup:=by decide +kernel
theorem uG(hn:ks.Nodup)(hk:∀k∈ks,k∈prs):(cI ks).length=ks.length:=by
 refine List.Perm.length_eq ((TF (KN.filter _) hn).mpr fun k=>?_);rw[QB,UH];exact⟨fun z=>z.2,fun z=>⟨hk k z,z⟩⟩
structure iu(m:Nat)(ks:List 1e9):Prop where
 gw:GW m ks
 len:ks.length+1=m
 con:∀q:Int,0<=q/\q<(m:Int)->∃n,R (mG ks) 0 n q
theorem EH(N:y0 m ns)(h:iu m ks):iu m (ve ks ns):=by
 have hg:=h.gw;have m0:=hg.m0;have m6:=hg.m6;have hk:=hg.2.2.2.2;refine⟨vv N hg,?_,fun q hq=>?_⟩
 ·unfold ve;rw[uG]
  ·simpa using h.len
  ·rw [SX];unfold List.Nodup;rw[Ul];have hp:ks.Pairwise fun a b=>pI a<pI b:=hg.2.2.2.1;refine U0 ?_ hp;intro x y hx hy hlt e;obtain⟨a,b,rfl,a0,ab,bm⟩:=hk x hx;obtain⟨c,d,rfl,c0,cd,dm⟩:=hk y hy;have ra:=N.ran (k:=a) ⟨a0,by omega⟩;have rb:=N.ran (k:=b) ⟨by omega,bm⟩;have rc:=N.ran (k:=c) ⟨c0,by omega⟩;have rd:=N.ran (k:=d) ⟨by omega,dm⟩;have e':[min (nm ns a) (nm ns b),max (nm ns a) (nm ns b)]=[min (nm ns c) (nm ns d),max (nm ns c) (nm ns d)]:=e;dsimp[Vk,Vl]at e';have hab:nm ns a≠nm ns b:=fun z=>by have:=N.inj ⟨a0,by omega⟩ ⟨by omega,bm⟩ z;omega
   have key:(nm ns a=nm ns c/\nm ns b=nm ns d)\/(nm ns a=nm ns d/\nm ns b=nm ns c):=by omega
   rcases key with⟨z1,z2⟩|⟨z1,z2⟩
   ·have := N.inj ⟨a0, by omega⟩ ⟨c0, by omega⟩ z1;have:=N.inj ⟨by omega,bm⟩ ⟨by omega,dm⟩ z2
    subst_vars
    exact absurd hlt (Int.lt_irrefl _)
   ·have:=N.inj ⟨a0,by omega⟩ ⟨by omega,dm⟩ z1;have:=N.inj ⟨by omega,bm⟩ ⟨c0,by omega⟩ z2;omega
  ·intro k hk';obtain⟨p,hp,rfl⟩:=Te.mp hk';exact(vt N hk p hp).ok.prs 0e0
 ·obtain⟨a,ha,ea⟩:=N.all hq;obtain⟨b,hb,eb⟩:=N.all (b:=0) 7e9;obtain⟨n1,r1⟩:=h.con a ha;obtain⟨n2,r2⟩:=h.con b hb;have r3:=(r2.rev fun x y e=>PF hg e).add r1;have:=(N3 N hg hb ha).mp r3;rw[ea,eb]at this;exact⟨_,this⟩
def F1(m:Nat)(ps:List (Int×Int)):Prop:=ps.length+1=m/\∀(i:Nat)(p:Int×Int),ps[i]?=some p->0<=p.1/\p.1<=(i:Int)/\p.2=(i:Int)+1
theorem F1.mem(h:F1 m ps){p:Int×Int}(hp:p∈ps):0<=p.1/\p.1<p.2/\p.2<(m:Int):=by
 obtain⟨i,hi⟩:=Th hp;have h1:=h.2 i p hi;have h2:=(QM.mp hi).1;have:=h.1;omega
theorem F1.mm(h:F1 m ps){p:Int×Int}(hp:p∈ps):mm p=[p.1,p.2]:=by
 have:=h.mem hp;unfold Lw.mm;rw[Vf 0e0,Vg 0e0]
theorem F1.pp(h:F1 m ps):∀p∈ps,PP m p:=fun p hp=>by
 have:=h.mem hp;exact⟨7e9,7e9,by omega⟩
theorem EZ(m0:1<=m)(m6:m<=6)(h:F1 m ps):iu m (cI (ps.map mm)):=by
 have hg:=mH m0 m6 h.pp;refine⟨hg,?_,fun q hq=>?_⟩
 ·rw [uG]
  ·simpa using h.1
  ·unfold List.Nodup;rw[Ul,Tb];intro i j hi hj hij e;rw[h.mm (Uv hi),h.mm (Uv hj)]at e;have e1:=h.2 i _ (Ux hi);have e2:=h.2 j _ (Ux hj);dsimp[Vk,Vl]at e;omega
  ·intro k hk';obtain⟨p,hp,rfl⟩:=Te.mp hk';exact(h.pp p hp).ok.prs 0e0
 ·obtain ⟨k, rfl⟩ : ∃ k : Nat, q = (k : Int) := ⟨q.toNat, by omega⟩
  induction k using Nat.strongRecOn with
  |ind k ih=>
   cases k with
   |zero=>exact⟨0,rfl⟩
   |succ k=>
    have hk:k<ps.length:=by have:=h.1;omega
    have hp:=h.2 k _ (Ux hk);have hm:=Uv hk;obtain⟨n,hn⟩:=ih ps[k].1.toNat 0e0 0e0;rw[TK hp.1]at hn;refine⟨n+1,.inr ⟨ps[k].1,?_,hn⟩⟩;rw[jX hg.2.2.2.2];left;rw[jF m6 h.pp];refine⟨_,hm,?_⟩;rw[h.mm hm,hp.2.2];rfl
theorem σ1(m0:1<=m)(m6:m<=6)(h:F1 m ps)(N:y0 m ns):cI 5e7=ve (cI (ps.map mm)) ns:=by
 have hg:=mH m0 m6 h.pp
 have pp:∀p∈(ps.map fun p=>(ns.getD p.1.toNat 0,ns.getD p.2.toNat 0)),PP m p:=fun p hp=>by
  obtain⟨x,hx,rfl⟩:=Te.mp hp;have hx':=h.pp x hx;exact⟨N.ran hx'.1,N.ran hx'.2.1,fun z=>hx'.2.2 (N.inj hx'.1 hx'.2.1 z)⟩
 refine yg (mH m0 m6 pp) (vv N hg) fun a b=>?_;show [a,b]∈cI ((ps.map fun p=>(ns.getD p.1.toNat 0,ns.getD p.2.toNat 0)).map mm)↔_;rw[jF m6 pp];unfold ve;rw[jF m6 (vt N hg.2.2.2.2)];constructor
 ·rintro ⟨p, hp, e⟩
  obtain⟨x,hx,rfl⟩:=Te.mp hp;refine⟨C1 ns (mm x),Te.mpr ⟨mm x,?_,rfl⟩,?_⟩
  ·rw[h.mm hx,jF m6 h.pp];exact⟨x,hx,h.mm hx⟩
  ·rw[h.mm hx];exact e
 ·rintro ⟨p, hp, e⟩
  obtain⟨k,hk,rfl⟩:=Te.mp hp;obtain⟨c,d,rfl,_⟩:=hg.2.2.2.2 k hk;obtain⟨x,hx,ex⟩:=(jF m6 h.pp).mp hk;rw[h.mm hx]at ex;dsimp[Vk,Vl]at ex;refine⟨_,Te.mpr ⟨x,hx,rfl⟩,?_⟩;rw[ex.1,ex.2];exact e
theorem Cy(hi:i<Y0.length)(h:Pn Y0 i Y1)(m0:1<=m)(m1:m<=6):
  ∃qs Y2,F1 m qs/\Pn Y0 i Y2/\Y2.length=Y1.length/\compLoop (.fix (bu 1 (m-1))) 6e9 (ak 0) bp fF (bu 1 (m-1)) [none,some 10e2] (Y1++[.lst []])=.ok (.obj 6e9) (Y2++[.lst 7e3]):=by
 have run:=iV (src:=.fix (bu 1 (m-1))) (g:=ak 0) (t:=bp) (e:=fF) (n:=6e9)
  (fun xs ys Z Y2 s=>s=[]/\Y2.length=Y1.length/\Pn Y0 i Y2/\(∃o,Z=[o,some 10e2])/\∃(n:Nat)(qs:List (Int×Int)),xs=bu (1+(qs.length:Int)) n/\1+qs.length+n=m/\ys=qs.map cg/\(∀(j:Nat)(p:Int×Int),qs[j]?=some p->0<=p.1/\p.1<=(j:Int)/\p.2=(j:Int)+1))
  (fun ys Z Y2 s ⟨_,e1,_⟩=>⟨e1,trivial⟩)
  (fun x r ys Z Y2 s hJJ => by
   obtain⟨es,e1,e2,⟨o,e4⟩,n,qs,e5,e7,e8,e10⟩:=hJJ;subst es e4 e8;cases n with
   |zero=>rw[ju]at e5;cases e5
   |succ n=>
    rw[ix]at e5;injection e5 with ex er
    subst ex er;obtain⟨v,a,b,c,v0,v1,ed,hp⟩:=(e2.app (g:=[.lst 7e3])).draw (m:=1+(qs.length:Int)) hi 0e0 0e0;have i2:i<Y2.length:=Qx hi e2.len;rw[mI i2]at ed;refine⟨e1,trivial,[some (.int (1+(qs.length:Int))),some 10e2],Y2,[],true,Y2,[],rfl,rfl,fun hc=>?_,fun hc=>nomatch hc⟩;refine⟨cg (v,1+(qs.length:Int)),Y2.set i 7e4,[],?_,?_,by simpa using e1,rfl,by simpa using e1,e2.set hi,⟨_,rfl⟩,n,qs++[(v,1+(qs.length:Int))],by rw[Ry];simp[Int.add_assoc],by simp;omega,by simp,fun j p hj=>?_⟩
    ·unfold fF;dsimp[cb,aA,ar,au,ao,ah,aT,aa,ae,ed,Sx,S8,Qu l2];rfl
    ·rw[Rz];exact Qx (show qs.length<1000 by omega) bf
    ·by_cases hj' : j < qs.length
     ·rw[Ru hj']at hj;exact e10 j p hj
     ·rw [Rq 0e0] at hj
      have:j-qs.length=0:=by
       have:=(QM.mp hj).1;simp at this;omega
      rw[this]at hj;simp at hj;subst hj
      exact⟨v0,by dsimp only;omega,by dsimp only;omega⟩)
  (xs:=bu 1 (m-1)) (ys:=[]) (Z:=[none,some 10e2]) (Y1:=Y1) (s:=[])
  ⟨rfl,rfl,h,⟨_,rfl⟩,m-1,[],rfl,by simp;omega,rfl,fun j p hj=>by simp at hj⟩
 obtain⟨ys',Z',Y2,s',⟨es,e1,e2,⟨o,e4⟩,n,qs,e5,e7,e8,e10⟩,run⟩:=run;have hn:=l6 e5.symm;subst es e8 hn;exact⟨qs,Y2,⟨by omega,e10⟩,e2,e1,run⟩
theorem Bz{a b c:Int}(hp:Y[i]?=some 7e4):∃m ks a' b' c',iu m ks/\fg [.obj i] Y=.ok 6e5 (Y.set i (bD a' b' c')):=by
 have hi:i<Y.length:=(QM.mp hp).1;obtain⟨v,a1,b1,c1,v0,v1,ed,hq⟩:=(Pn.self hp).draw (m:=6) hi 0e4 0e4;obtain⟨m,em⟩:∃m:Nat,(1:Int)+v=(m:Int):=⟨(1+v).toNat,by omega⟩;have P1:Pn Y i (Y.set i (bD a1 b1 c1)):=(Pn.self hp).set hi;obtain⟨qs,M2,hqs,P2,l2',run⟩:=Cy (m:=m) hi P1 0e0 0e0;have P3:=P2.app (g:=[.lst 7e3]);obtain⟨a5,b5,c5,hp4⟩:=P3.get hi;obtain⟨ns,a6,b6,c6,n1,n2,n3,n4⟩:=xE hp4 (m:=(m:Int)) 0e0 0e0;have N:y0 m ns:=⟨n1,by omega,n3⟩;have nd:=(IT (Y:=(M2++[O.lst 7e3]).set i (bD a6 b6 c6)) (m:=(m:Int)) (ps:=qs) 0e0 0e0 (fun p hp=>by have:=hqs.pp p hp;exact⟨this.1.1,this.1.2,this.2.1.1,this.2.1.2,this.2.2⟩) (by have:=hqs.1;omega) n1 n2 n3).2;rw[σ1 0e0 0e0 hqs N]at nd;have T:=EH N (EZ 0e0 0e0 hqs);obtain⟨a7,b7,c7,hg⟩:=(P3.set (a:=a6) (b:=b6) (c:=c6) hi).gc (kC T.gw);refine⟨m,_,a7,b7,c7,T,?_⟩;unfold fg;rw[cu];dsimp[mD,List.replicate];rw[aG,aS];dsimp[aC,aT,aA,ar,au,ah,aa,ae,ed,eV,em,af,bH,aD,U3,U4];rw[aG,aS,bP];dsimp[cF,ar,au,aT,ao,ah,aa,ae];rw[kZ 0e4 0e4 0e0 0e0];dsimp[aa,ae,bg];rw[show ((m:Int)-1).toNat=m-1 by omega];rw[show dr [none,some 0] [some (D.obj i),some (D.int m),none]=[none,some 10e2] from rfl,run];dsimp[af,ae,bH,aD,U3,U4];have tl:eR [.obj (Y.set i (bD a1 b1 c1)).length] (M2++[O.lst 7e3])=.ok (.tup 7e3) (M2++[O.lst 7e3]):=gk (by rw[<- l2'];exact aw);dsimp[bc,aA,ar,au,cb,ao,ah,aa,ae,tl,Sx,S8,Qu l2,n4];rw[show (D.tup 6e6)=.tup 6e6 from rfl,nd];dsimp[af,ae,aP];exact hg
def ou:Option Nat->PyData
 |none=>.none
 |some n=>.int (n:Int)
theorem xW{Y:aB}:∀l:List 4e7,fO Y (l.map pN)=some (l.map ou)/\PyData.canLayAll0 (l.map ou)=true/\PyData.depthAll (l.map ou)=0
 |[]=>⟨rfl,rfl,rfl⟩
 |o::l=>by
  obtain⟨h1,h2,h3⟩:=xW (Y:=Y) l;cases o with
  |none=>exact⟨by dsimp[RZ,pN,ou,fO,y9,yY,h1,SD,Option.map_some],by dsimp[RZ,ou,PyData.canLayAll0,PyData.canLay0,h2,TQ],by dsimp[RZ,ou,PyData.depthAll,PyData.depth,h3];rfl⟩
  |some n=>exact⟨by dsimp[RZ,pN,ou,fO,y9,yY,h1,SD,Option.map_some],by dsimp[RZ,ou,PyData.canLayAll0,PyData.canLay0,h2,TQ],by dsimp[RZ,ou,PyData.depthAll,PyData.depth,h3];rfl⟩
theorem D0{A:Nat}{f:Int->Option Nat}(h:M[A]?=some (.lst (fK m f))):va true .non (.obj A) M=.ok (.bl (!((rg m).any fun q=>(f q).isNone))) M:=by
 have er:fK m f=((rg m).map f).map pN:=by unfold fK rg;rw[SX,SX];rfl
 obtain⟨h1,h2,h3⟩:=xW (Y:=M) ((rg m).map f);rw[er]at h;have ea:nE M (.obj A)=some (.list (((rg m).map f).map ou)):=by unfold nE;dsimp only;rw[h];dsimp only;rw[h1];rfl
 have fl:dN (.list (((rg m).map f).map ou))=true:=by
  dsimp[dN,PyData.canLay0,h2,PyData.depth,h3,Va];rfl
 have fn:dN PyData.none=true:=by decide
 unfold va;rw[show nE M .non=some .none from rfl,ea];dsimp only;rw[show vz (.list (((rg m).map f).map ou))=some (((rg m).map f).map ou) from rfl];dsimp only;rw[Qu ⟨fn,fl⟩,Qu rfl];congr 3;rw[Vb,Vb];congr 1;funext q;show PyData.eqv (ou (f q)) .none=_;cases f q <;> rfl
section
theorem yi(h:GW m ks){f:Int->Option Nat}(hF:w6 (mG ks) 0 (fun q=>0<=q/\q<(m:Int)) f):(!((rg m).any fun q=>(f q).isNone))=true↔∀q:Int,0<=q/\q<(m:Int)->∃n,R (mG ks) 0 n q:=by
 rw[Vm,<- Bool.not_eq_true,Vc];constructor
 ·intro hn q hq;cases e:f q with
  |none=>exact absurd ⟨q,sy.mpr hq,by rw[e];rfl⟩ hn
  |some j=>exact⟨j,((hF q hq j).mp e).r⟩
 ·rintro hc ⟨q, hq, e⟩
  obtain⟨n,hn⟩:=hc q (sy.mp hq);obtain⟨j,_,hj⟩:=hn.lev;rw[(hF q (sy.mp hq) j).mpr hj]at e;cases e
theorem IS(h:GW m ks):∃b,bJ [bN m ks] Y=.ok (.bl b) Y/\(b=true↔iu m ks):=by
 have m0:=h.m0;obtain⟨A,g,f,ef,hA,hl,hF⟩:=GI (Y:=Y) h (p:=0) 0e4 0e0
 have base:bJ [bN m ks] Y=.ok (.bl (decide (ks.length+1=m) && !((rg m).any fun q=>(f q).isNone))) Y:=by
  unfold bJ;rw[cu];dsimp[mr,List.replicate,bc,fv,aA,ar,au,ah,aC,aT,aa,ae,zE h,aO,RI,cv,gZ,dH,Rz];rw[show dG 6e1 (.int 1) Y=.ok (.int ((m:Int)-1)) Y from rfl];dsimp[aa,ae,cE,Sw,RH,aO];by_cases e:ks.length+1=m
  ·rw[show ((ks.length:Int) == (m:Int)-1)=true from by rw[UA];omega,Qu rfl,ef];dsimp[aa,ae,D0 hA,af,aP,Sr e,Va];exact d5 0e6
  ·rw[show ((ks.length:Int) == (m:Int)-1)=false from by rw[Qs];omega,Qv Q0];dsimp[af,ae,aP,Qr e,Q5];exact aL 0e6
 refine⟨_,base,?_⟩;rw[RW,UH,yi h hF];exact⟨fun z=>⟨h,z.1,z.2⟩,fun z=>⟨z.len,z.con⟩⟩
theorem vK(h:iu m ks):bJ [bN m ks] Y=.ok 5e8 Y:=by
 obtain⟨b,e,hb⟩:=IS (Y:=Y) h.gw;rw[e,hb.mpr h]
theorem D9(h:GW m ks)(hn:¬ iu m ks):bJ [bN m ks] Y=.ok 4e2 Y:=by
 obtain⟨b,e,hb⟩:=IS (Y:=Y) h;cases b with
 |false=>exact e
 |true=>exact absurd (hb.mp rfl) hn
theorem ND(h:Kn Y d)(hn:jR d=false):bJ [d] Y=.ok 4e2 Y:=by
 unfold bJ;rw[cu];dsimp[mr,List.replicate,bc,fv,aA,ar,au,ah,aa,ae,Kb h,hn,aO,Sw,RH,af,aP];exact aL 0e6
end
theorem FT.row{a:Nat}{p:Int}(h:FT Y0 m a T Y)(p0:0<=p)(p1:p<m):∃b,cj 11e6 4e8 Y=.ok (.obj b) Y/\Y[b]?=some (.lst (fK m (T p))):=by
 obtain⟨h1,h2,bs,h0,h3,h4,h5⟩:=h;have hp:p.toNat<bs.length:=by omega
 have hpe:((p.toNat:Nat):Int)=p:=TK p0;obtain⟨g1,g2,g3⟩:=h5 p.toNat bs[p.toNat] (Ux hp);rw[hpe]at g3;exact⟨bs[p.toNat],eQ h3 (nR p0 (by rw[Rv,Ux hp];rfl)),g3⟩
theorem uF(h:GW m ks):cI ks=ks:=by
 have hg:GW m (cI ks):=iX (by have:=h.m0;omega) (by have:=h.m6;omega) h.2.2.2.2;refine yg hg h fun a b=>?_;unfold cI;rw[QB,UH];exact⟨fun z=>z.2,fun z=>⟨(h.2.2.2.2 _ z).prs (by have:=h.m6;omega),z⟩⟩
theorem BL(h:GW m ks):qZ [.tup 0e5] M=.ok 9e8 (M++[.set (cT ks)]):=by
 unfold qZ;dsimp only;unfold si;rw[oW fun k hk=>(h.2.2.2.2 k hk).prs (by have:=h.m6;omega)]
theorem nT(h:GW m ks):di [.obj 3e8] (M++[.set (cT ks)])=.ok (.obj (M++[O.set (cT ks)]).length) ((M++[.set (cT ks)])++[.lst 0e5]):=by
 unfold di;dsimp only;rw[aw];dsimp only;rw[j7,uF h]
theorem Fz{m:Int}{a b:Nat}(hk:∀k∈ks,oq m k)(ha:M[a]?=some (.lst 0e5))(hb:M[b]?=some (.lst 0e5)):f9 true 11e6 (.obj b) M=.ok 4e2 M:=by
 have h1:=qc (Y:=M) hk;have l:=qd hk;have ea:nE M 11e6=some (.list (ks.map eY)):=by unfold nE;dsimp only;rw[ha];dsimp only;rw[h1];rfl
 have eb:nE M (.obj b)=some (.list (ks.map eY)):=by unfold nE;dsimp only;rw[hb];dsimp only;rw[h1];rfl
 have f:dN (.list (ks.map eY))=true:=by
  have:=l.2;unfold dN;rw[RW,UH];exact⟨by dsimp[PyData.canLay0];exact l.1,by dsimp[PyData.depth];omega⟩
 unfold f9;rw[ea,eb];dsimp only;rw[Qu ⟨f,f⟩,Qu rfl,SeqAt.eqv_refl _ (cJ f)];rfl
section
theorem LA(h:GW m ks):compLoop (.fix 0e5) 3e8 (dc 2 6e4) bp fG 0e5 [none,none,some 6e5] (M++[.lst []])=.ok 9e8 (M++[.lst ((ks.map fun _=>true).map D.bl)]):=by
 have c:=fT (U:=List Int) (en:=aq) (src:=.fix 0e5) (g:=dc 2 6e4) (t:=bp) (e:=fG) (Y1:=M) (q:=fun _=>true) (h:=fun _=>.bl true) (fun Z=>∃o o',Z=[o,o',some 6e5]) 10e5 (us:=ks) (acc:=[]) (Z:=[none,none,some 6e5]) ⟨_,_,rfl⟩
  (by rw[S8];have:=g9 h;exact QD 0e0 bf)
  (fun k hk a Z hJJ => by
   obtain⟨o,o',e⟩:=hJJ;subst e;obtain⟨x,y,rfl,x0,xy,ym⟩:=h.2.2.2.2 k hk;refine⟨[some (.int x),some (.int y),some 6e5],⟨_,_,rfl⟩,rfl,rfl,fun _=>?_⟩;unfold fG;dsimp[Cs,aT,ah,ao,aC,aa,ae,cv,cG];rw[show cA .LtE 0 x=true from Sr x0,show cA .Lt x y=true from Sr xy,show cA .Lt y (m:Int)=true from Sr ym]
   dsimp[aO,aa,ae,RI])
 rw[oZ,Sn]at c;rw[show (ks.map fun _=>true).map D.bl=ks.map fun _=>D.bl true from by rw[SX];rfl];exact c
theorem DS(h:GW m ks):∃b,bh [bN m ks] Y=.ok (.bl b) Y/\(b=true↔iu m ks):=by
 have m0:=h.m0;have m6:=h.m6;let M1:aB:=Y++[O.lst 0e5]
 let M2:aB:=M1++[O.set (cT ks)]++[O.lst 0e5]
 let M3:aB:=M2++[O.lst ((ks.map fun _=>true).map D.bl)]
 obtain⟨a,μf,T,ef,hF,hT⟩:=AL (Y:=M3) h;obtain⟨gf,hpre⟩:=hF.pre;obtain⟨b,e1,e2⟩:=hF.row (p:=0) 0e4 0e0
 have base:bh [bN m ks] Y=.ok (.bl (decide (ks.length+1=m) && !((rg m).any fun q=>(T 0 q).isNone))) Y:=by
  unfold bh;rw[cu];dsimp[fm,List.replicate];rw[aG,bw];dsimp[gU,bX,cq,bR,fI,aC,aA,ar,au,ah,aT,mf,aa,ae,cv,dH,Sx,S8];rw[show eP "tuple" (bN m ks) Y=.ok 5e8 Y from rfl];dsimp[aa,ae,bL,TL,Sw,RH];rw[show f9 true (.int ((0+1+1:Nat):Int)) (.int 2) Y=.ok 4e2 Y from rfl];dsimp[aa,ae,aO,Sw,RH,p7 (show Kn Y 6e1 from by simp[Kn]),aa,bL,cG,aO];rw[show isInt 5e6=true from rfl,show cA .LtE 1 (m:Int)=true from Sr 0e0,show cA .LtE (m:Int) 6=true from Sr 0e0];dsimp[TL,Sw,RH,RI,aa,ae,aO,af,bT,aD];rw[aG,bw];dsimp[gU,bX,cq,bR,fI,aC,aA,ar,au,ah,aT,aa,ae,cv,gZ,dH,Rz];rw[show eP "tuple" (.tup 0e5) Y=.ok 5e8 Y from rfl];dsimp[aa,ae,bL,TL,Sw,RH];rw[show dG 6e1 (.int 1) Y=.ok (.int ((m:Int)-1)) Y from rfl];dsimp[aa,ae,cE,RI,aO];by_cases e:ks.length+1=m
  ·rw[show ((ks.length:Int) == (m:Int)-1)=true from by rw[UA];omega];dsimp[TL,Sw,RH];rw[show lE [.tup 0e5] Y=.ok 1e0 M1 from rfl];dsimp[aa,ae,BL h,nT h];rw[show f9 true 1e0 (.obj (M1++[O.set (cT ks)]).length) M2=.ok 4e2 M2 from Fz (m:=(m:Int)) h.2.2.2.2 (aK (aK aw)) aw];dsimp[aa,ae,aO,af,Sw,RH,bT,aD];rw[aG,bw];dsimp[bX,cq,aA,ar,au,bP,cw,aC,ah,aT,aa,ae,gZ,jV,bg];rw[show dr [none,none,some 0] (some 6e5::List.replicate (1-1) none)=[none,none,some 6e5] from rfl,LA (M:=M2) h];dsimp[aa,ae];rw[jW (Y:=M3) (n:=M2.length) (bs:=ks.map fun _=>true) aw];rw[show ((ks.map fun _=>true).all id)=true from by rw[UL];simp];dsimp[aa,ae,bL,TL,af,Sw,RH,bT,aD,bc,aC,aT,aA,ar,au,ah];rw[show fe [bN m ks] M3=.ok 11e6 μf from ef];dsimp[aa,ae,e1,D0 e2,af,aP,Sr e,Va];rw[hpre];dsimp[M3,M2,M1,Sh];exact d5 0e6
  ·rw[show ((ks.length:Int) == (m:Int)-1)=false from by rw[Qs];omega];dsimp[TV,RI,af,ae,bc,aT,gT,aP,Qr e,Q5];exact aL 0e6
 refine⟨_,base,?_⟩;rw[RW,UH,yi h (hT 0 0e4 0e0)];exact⟨fun z=>⟨h,z.1,z.2⟩,fun z=>⟨z.len,z.con⟩⟩
end
theorem vx(h:Ao Y d)(hn:OG d=false):bh [d] Y=.ok 4e2 Y:=by
 unfold bh;rw[cu];dsimp[fm,List.replicate];rw[aG,bw];dsimp[gU,bX,cq,fI,ah,aa,ae,A2 h,hn,bL,TV,RI,af,bc,aT,gT,aP];exact aL 0e6
theorem Lz:bh [.tup []] Y=.ok 4e2 Y:=by
 unfold bh;rw[cu];dsimp[fm,List.replicate];rw[aG,bw];dsimp[gU,bX,cq,bR,fI,aC,aA,ar,au,ah,aT,aa,ae,dH,S8];rw[show eP "tuple" (.tup []) Y=.ok 5e8 Y from rfl];dsimp[aa,ae,bL,TL,Sw,RH];rw[show f9 true (.int ((0:Nat):Int)) (.int 2) Y=.ok 5e8 Y from rfl];dsimp[aa,ae,aO,RI,af,bc,aT,gT,aP];exact aL 0e6
theorem zk{n:Int}{x:D}(hx:Ao Y x)(hn:(1<=n/\n<=6)->OG x=true->∃ts:List D,x=.tup ts/\(ts.length:Int)≠n-1):bh [.tup [.int n,x]] Y=.ok 4e2 Y:=by
 unfold bh;rw[cu];dsimp[fm,List.replicate];rw[aG,bw];dsimp[gU,bX,cq,bR,fI,aC,aA,ar,au,ah,aT,mf,aa,ae,cv,dH,Sx,S8];rw[show eP "tuple" (.tup [.int n,x]) Y=.ok 5e8 Y from rfl];dsimp[aa,ae,bL,TL,Sw,RH];rw[show f9 true (.int ((0+1+1:Nat):Int)) (.int 2) Y=.ok 4e2 Y from rfl];dsimp[aa,ae,aO,Sw,RH,p7 (show Kn Y (.int n) from by simp[Kn]),aa,bL,cG,aO];rw[show isInt (.int n)=true from rfl];dsimp[TL,Sw,RH];by_cases c1:1<=n
 ·rw [show cA .LtE 1 n = true from Sr c1];dsimp[RI,aa,ae,aO];by_cases c2:n<=6
  ·rw [show cA .LtE n 6 = true from Sr c2];dsimp[TL,af,ae,Sw,RH,bT,aD];rw[aG,bw];dsimp[gU,bX,cq,bR,fI,aC,aA,ar,au,ah,aT,aa,ae,cv,gZ,A2 hx,bL];cases e:OG x with
   |false=>
    dsimp[TV,RI,af,ae,bc,aT,gT,aP];exact aL 0e6
   |true=>
    obtain⟨ts,rfl,hl⟩:=hn ⟨c1,c2⟩ e;dsimp[TL,Sw,RH,dH,aa,ae];rw[show dG (.int n) (.int 1) Y=.ok (.int (n-1)) Y from rfl];dsimp[aa,ae,cE,RI,aO];rw[show ((ts.length:Int) == n-1)=false from by rw[Qs];exact hl];dsimp[TV,RI,af,ae,bc,aT,gT,aP];exact aL 0e6
  ·rw[show cA .LtE n 6=false from Qr c2];dsimp[TV,RI,af,ae,bc,aT,gT,aP];exact aL 0e6
 ·rw[show cA .LtE 1 n=false from Qr c1];dsimp[Sw,RH,aa,ae,aO,TV,RI,af,bc,aT,gT,aP];exact aL 0e6
theorem oF{x:DX}{g:MS}:(SO.exc x Y).bind g=.exc x Y:=UC 8e3
theorem kv{x:DX}:(SO.exc x Y).out=.exc x Y:=UC 8e3
theorem jM{x:DX}{f:β->aB->SO}:(ai.exc x Y:ai β).bindS f=.exc x Y:=UC 8e3
theorem pX{x:DX}{Y':aB}:tT Y (.exc x Y')=.exc x Y':=UC 8e3
theorem ma{c:Str}:pU c Z Y=.exc ⟨c,[]⟩ Y:=UC 8e3
def FV(w:List Int):PyData:=.tuple (w.map PyData.int)
section
variable{m':Nat}{ks':List 1e9}
theorem Bd(h:bJ [d] Y=.ok 5e8 Y):d9 [d] Y=.ok .non Y:=by
 unfold d9;rw[cu];dsimp[lu,List.replicate,bw,bX,cq,aA,ar,au,ah,aa,h,ae,bL,TL,af,Sw,RH,bT,E3];exact aL 0e6
theorem Ot(h:bJ [d] Y=.ok 4e2 Y):d9 [d] Y=.exc ⟨"NoTree",[]⟩ Y:=by
 unfold d9;rw[cu];dsimp[lu,List.replicate,bw,bX,cq,aA,ar,au,ah,aa,h,ae,bL,TV,af,RI,ma,kv,pX]
end
mutual
theorem DW{Y Y':aB}{n:Nat}(h:∀k<n,∀tn,kP Y (.obj k)=some tn->kP Y' (.obj k)=some tn):∀{d:D},d.low n->Kn Y d->Kn Y' d
 |.non,_,_=>by simp[Kn]
 |.bl _,_,_=>by simp[Kn]
 |.int _,_,_=>by simp[Kn]
 |.str _,_,_=>by simp[Kn]
 |.frz _,_,_=>by simp[Kn]
 |.obj k,hl,h1=>by
  dsimp[Kn,D.low]at h1 hl⊢;obtain⟨tn,h1,h2⟩:=h1;exact⟨tn,h k hl tn h1,h2⟩
 |.tup xs,hl,h1=>by
  dsimp[Kn,D.low]at h1 hl⊢;exact⟨h1.1,kns_low h hl h1.2⟩
theorem kns_low{Y Y':aB}{n:Nat}(h:∀k<n,∀tn,kP Y (.obj k)=some tn->kP Y' (.obj k)=some tn):∀{xs:List D},D.lows n xs->Kns Y xs->Kns Y' xs
 |[],_,_=>by simp[Kns]
 |x::xs,hl,h1=>by
  dsimp[Kns,D.lows]at h1 hl⊢;exact⟨DW h hl.1 h1.1,kns_low h hl.2 h1.2⟩
end
mutual
theorem uy{Y Y':aB}(h:∀k,∀tn,kP Y (.obj k)=some tn->kP Y' (.obj k)=some tn):∀{d:D},Kn Y d->Kn Y' d
 |.non,_=>by simp[Kn]
 |.bl _,_=>by simp[Kn]
 |.int _,_=>by simp[Kn]
 |.str _,_=>by simp[Kn]
 |.frz _,_=>by simp[Kn]
 |.obj k,h1=>by
  dsimp[Kn]at h1⊢;obtain⟨tn,h1,h2⟩:=h1;exact⟨tn,h k tn h1,h2⟩
 |.tup xs,h1=>by
  dsimp[Kn]at h1⊢;exact⟨h1.1,kns_ty h h1.2⟩
theorem kns_ty{Y Y':aB}(h:∀k,∀tn,kP Y (.obj k)=some tn->kP Y' (.obj k)=some tn):∀{xs:List D},Kns Y xs->Kns Y' xs
 |[],_=>by simp[Kns]
 |x::xs,h1=>by
  dsimp[Kns]at h1⊢;exact⟨uy h h1.1,kns_ty h h1.2⟩
end
theorem LG{a b c a' b' c':Int}(hp:Y[i]?=some 7e4)(h:Kn Y d):Kn (Y.set i (bD a' b' c')) d:=by
 refine uy (fun k tn hk=>?_) h;unfold kP at hk⊢;dsimp only at hk⊢;by_cases e:i=k
 ·subst e;rw[eU (QM.mp hp).1];rw[hp]at hk;exact hk
 ·rw[QP e];exact hk
theorem Ih(hl:d.low n)(h:Kn Y d):Kn (Y.take n) d:=by
 refine DW (n:=n) (fun k hk tn h1=>?_) hl h;unfold kP at h1⊢;dsimp only at h1⊢;rw[List.getElem?_take,Qu hk];exact h1
theorem Pn.gcK(h:Pn Y0 i Y)(hi:i<Y0.length)(hk:Kn Y d):∃Y',tT Y0 (.ok d Y)=.ok d Y'/\Pn Y0 i Y'/\Kn Y' d:=by
 rcases D2 (Y:=Y0) (d:=d) (Y':=Y) with e|⟨e,hl⟩
 ·exact⟨Y,e,h,hk⟩
 ·refine⟨_,e,?_,Ih hl hk⟩;obtain⟨a,b,c,g,rfl⟩:=h;exact⟨a,b,c,[],by rw[UP 0e6,Td 0e6,Rg]⟩
theorem vE{xs:List β}{r:Nat}{n:Int}(e:n=(r:Int)):jz xs (some n) none=xs.drop r:=by
 subst e;unfold jz;have h1:HT.sIx 3e9 0 (some (r:Int))=min r 3e9:=HT.sIx_nat _ _ r;have h2:HT.sIx 3e9 3e9 none=xs.length:=rfl;rw[h1,h2];by_cases h:r<=xs.length
 ·rw[Ve h,Td (by rw[RM];exact Q8 _)]
 ·rw[Nat.min_eq_right 0e0,TB,List.take_zero,List.drop_eq_nil_of_le 0e0]
def Mz(m:Nat)(ks:List 1e9)(d:D):Prop:=
 d=.tup [.int m,.tup ((ks.map aq).reverse++[.tup [.int 0,.int m]])]\/(d=.tup [.int ((m:Int)+1),.tup 0e5]/\m=6)\/(∃t,d=.obj t)\/(∃t,d=.tup [.int m,.obj t])\/d=.non\/d=.int 0\/d=.tup []\/d=.str "tree"
section
theorem HI(h:Mz m ks d):jR d=false:=by
 rcases h with rfl|⟨rfl,rfl⟩|⟨t,rfl⟩|⟨t,rfl⟩|rfl|rfl|rfl|rfl
 ·have:ot (m:Int) (.tup [.int 0,.int m])=false:=by
   unfold ot
   rw[show rJ (m:Int) (.tup [.int 0,.int m])=false from by
    show [D.int 0,D.int m].all (cf 0 ((m:Int)-1))=false;dsimp[Sa,List.all_nil,Bool.and_true]
    rw[show cf 0 ((m:Int)-1) 6e1=false from by simp[cf];omega,TX]]
   rfl
  simp[jR,lT,this]
 ·rfl
 ·rfl
 ·simp[jR,lT]
 ·rfl
 ·rfl
 ·rfl
 ·rfl
theorem DV(h:Kn Y (.obj n)):Ao Y (.obj n):=by
 dsimp[Kn]at h;obtain⟨tn,h1,_⟩:=h;unfold Ao;rw[h1];exact nofun
theorem Lm(h:Mz m ks d)(hk:Kn Y d)(hl:ks.length+1=m)(m6:m<=6):bh [d] Y=.ok 4e2 Y:=by
 rcases h with rfl|⟨rfl,rfl⟩|⟨t,rfl⟩|⟨t,rfl⟩|rfl|rfl|rfl|rfl
 ·refine zk nofun fun _ _=>⟨_,rfl,?_⟩;dsimp[Ry,UU,Rz,Sx,S8];omega
 ·exact zk nofun fun z _=>by omega
 ·exact vx (DV hk) rfl
 ·refine zk (DV ?_) fun _ z => by cases z
  dsimp[Kn,Kns]at hk⊢;exact hk.2.2.1
 ·exact vx nofun rfl
 ·exact vx nofun rfl
 ·exact Lz
 ·exact vx nofun rfl
theorem Oo(h:GW m ks)(hm:m<6):GW (m+1) ks:=⟨rfl,by omega,by omega,h.2.2.2.1,fun k hk=>by
 obtain⟨a,b,rfl,h1,h2,h3⟩:=h.2.2.2.2 k hk
 exact⟨a,b,rfl,h1,h2,by omega⟩⟩
theorem vB(h3:3<=m)(h6:m<=6):GW m [[0,1],[0,2],[1,2]]:=by
 refine⟨rfl,by omega,by omega,by decide,fun k hk=>?_⟩;dsimp[QI,SS,SU]at hk;rcases hk with rfl|rfl|rfl <;> exact⟨_,_,rfl,by omega,by omega,by omega⟩
theorem zo(h:GW m ks):Kns Y 0e5:=by
 rw[iE];intro x hx;obtain⟨k,hk,rfl⟩:=Te.mp hx;obtain⟨a,b,rfl,_⟩:=h.2.2.2.2 k hk;simp[aq,Kn,Kns]
theorem vy(h:GW m ks):Kn Y 6e5:=by
 have:=g9 h;have k:=zo (Y:=Y) h;dsimp[bN,Kn,Kns,Sx,S8,Rz,Vl,true_and];exact⟨by omega,by omega,k⟩
theorem BF{a b c:Int}(hp:Y[i]?=some 7e4)(T:iu m ks):∃d Y',fj [.obj i,bN m ks] Y=.ok d Y'/\Pn Y i Y'/\Kn Y' d/\((∃m' ks',d=bN m' ks'/\GW m' ks')\/Mz m ks d):=by
 have h:=T.gw;have m0:=h.m0;have m6:=h.m6;have hl:=T.len;have hlen:=g9 h;have hi:i<Y.length:=(QM.mp hp).1;obtain⟨r,a1,b1,c1,r0,r1,er,P1⟩:=(Pn.self hp).draw (m:=(ks.length:Int)+1) hi 0e0 0e0;obtain⟨r,rfl⟩:∃k:Nat,r=(k:Int):=⟨r.toNat,by omega⟩;have hr:r<=ks.length:=by omega
 let M1:aB:=Y.set i (bD a1 b1 c1)
 let t0:D:=bN m (ks.take r++ks.drop (r+1))
 let t1:D:=.tup [.int m,.tup ((ks.map aq).reverse++[.tup [.int 0,.int m]])]
 let t2:D:=.tup [.int ((m:Int)+1),.tup 0e5]
 let L1:List D:=[t0,t1,t2,.obj M1.length]
 let M2:aB:=M1++[O.lst [.int m,.tup 0e5]]++[O.lst L1]
 let M3:aB:=M2++[O.lst 0e5]++[O.dic]
 let t4:D:=.tup [.int m,.obj M2.length]
 let L2:List D:=[t4,.non,.int 0,.tup [],.obj (M2++[O.lst 0e5]).length,.str "tree",bN 3 [[0,1],[0,2],[1,2]]]
 let M4:aB:=M3++[O.lst L2]++[O.lst (L1++L2)]
 let L3:List D:=L1++L2++[bN 4 [[0,1],[0,2],[1,2]]]
 let M5:aB:=M3++[O.lst L2]++[O.lst L3]
 have P5:Pn Y i M5:=by
  have:M5=M1++([O.lst [.int m,.tup 0e5]]++[O.lst L1]++[O.lst 0e5]++[O.dic]++[O.lst L2]++[O.lst L3]):=by dsimp[M5,M3,M2,Sh]
  rw[this];exact P1.app
 obtain⟨j,a2,b2,c2,j0,j1,ej,P6⟩:=P5.draw (m:=12) hi 0e4 0e4;let M6:aB:=M5.set i (bD a2 b2 c2)
 have i5:i≠(M3++[O.lst L2]).length:=by
  have:M1.length=Y.length:=by simp[M1]
  dsimp[M3,M2,Ry,Sx,S8];omega
 have x6:M6[(M3++[O.lst L2]).length]?=some (.lst L3):=by
  rw[QP i5];exact aw
 have g0:GW m (ks.take r++ks.drop (r+1)):=yf h (by
  have:(ks.take r++ks.drop (r+1)).Sublist (ks.take r++ks.drop r):=(List.Sublist.refl _).append (by
   rw[<- List.drop_drop]
   exact List.drop_sublist _ _)
  rwa [Tj]at this)
 have ty:∀k tn,kP M5 (.obj k)=some tn->kP M6 (.obj k)=some tn:=by
  obtain⟨u,v,w,hq⟩:=P5.get hi;intro k tn hk;unfold kP at hk⊢;dsimp only at hk⊢;by_cases e:i=k
  ·subst e;rw[show M6[i]?=some (bD a2 b2 c2) from eU (QM.mp hq).1];rw[hq]at hk;exact hk
  ·rw[show M6[k]?=M5[k]? from QP e];exact hk
 have ob1:Kn M5 (.obj M1.length):=by
  dsimp[Kn];refine⟨"list",?_,by decide,by decide,by decide⟩;unfold kP;dsimp only;rw[show M5[M1.length]?=some (.lst [.int m,.tup 0e5]) from aK (aK (aK (aK (aK aw))))]
 have ob2:Kn M5 (.obj M2.length):=by
  dsimp[Kn];refine⟨"list",?_,by decide,by decide,by decide⟩;unfold kP;dsimp only;rw[show M5[M2.length]?=some (.lst 0e5) from aK (aK (aK aw))]
 have ob3:Kn M5 (.obj (M2++[O.lst 0e5]).length):=by
  dsimp[Kn];refine⟨"dict",?_,by decide,by decide,by decide⟩;unfold kP;dsimp only;rw[show M5[(M2++[O.lst 0e5]).length]?=some .dic from aK (aK aw)]
 have all:∀y∈L3,Kn M5 y/\((∃m' ks',y=bN m' ks'/\GW m' ks')\/Mz m ks y):=by
  intro y hy;dsimp[L3,L1,L2,QK,QI,SS,SU]at hy;rcases hy with ((rfl|rfl|rfl|rfl)|rfl|rfl|rfl|rfl|rfl|rfl|rfl)|rfl
  ·exact⟨vy g0,.inl ⟨_,_,rfl,g0⟩⟩
  ·refine ⟨?_, .inr 11e7⟩;have k:=zo (Y:=M5) h;rw[iE]at k;dsimp[t1,Kn,Kns,Sx,S8,Ry,UU,Rz,Vl,true_and];refine⟨by omega,by omega,iE.mpr fun x hx=>?_⟩;rcases QK.mp hx with z|z
   ·exact k x (List.mem_reverse.mp z)
   ·rw[SJ.mp z];simp[Kn,Kns]
  ·by_cases e : m = 6
   ·refine⟨?_,.inr (.inr (.inl ⟨rfl,e⟩))⟩;have k:=zo (Y:=M5) h;dsimp[t2,Kn,Kns,Sx,S8,Rz,Vl,true_and];exact⟨by omega,by omega,k⟩
   ·have g := Oo h 0e0;have e2:t2=bN (m+1) ks:=by dsimp[t2,bN];push_cast;rfl
    exact⟨by rw[e2];exact vy g,.inl ⟨_,_,e2,g⟩⟩
  ·exact⟨ob1,.inr (.inr (.inr (.inl ⟨_,rfl⟩)))⟩
  ·refine⟨?_,.inr (.inr (.inr (.inr (.inl ⟨_,rfl⟩))))⟩;dsimp[t4,Kn,Kns,Sx,S8,Vl,true_and]at ob2⊢;exact⟨by omega,ob2⟩
  ·exact⟨by simp[Kn],.inr (.inr (.inr (.inr (.inr 11e7))))⟩
  ·exact⟨by simp[Kn],.inr (.inr (.inr (.inr (.inr (.inr 11e7)))))⟩
  ·exact⟨by simp[Kn,Kns],.inr (.inr (.inr (.inr (.inr (.inr (.inr 11e7))))))⟩
  ·exact⟨ob3,.inr (.inr (.inr (.inl ⟨_,rfl⟩)))⟩
  ·exact⟨by simp[Kn],.inr (.inr (.inr (.inr (.inr (.inr (.inr (.inr rfl)))))))⟩
  ·exact⟨vy (vB (m:=3) 0e4 0e4),.inl ⟨_,_,rfl,vB 0e4 0e4⟩⟩
  ·exact⟨vy (vB (m:=4) 0e4 0e4),.inl ⟨_,_,rfl,vB 0e4 0e4⟩⟩
 have l3:L3.length=12:=rfl
 obtain⟨y,hy,ey⟩:∃y∈L3,atI L3 j=some y:=by
  have hj:j.toNat<L3.length:=by rw[l3];omega
  exact⟨L3[j.toNat],Uv hj,nR j0 (Ux hj)⟩
 obtain⟨ky,cy⟩:=all y hy;obtain⟨Y',eg,P7,k7⟩:=P6.gcK hi (uy ty ky);refine⟨y,Y',?_,P7,k7,cy⟩;have n1:0+1<=sizeLine:=l1;have n2:0+1+1<=sizeLine:=l2;have n3:0+1+1+1<=sizeLine:=QD 0e4 bf;have n4:0+1+1+1+1<=sizeLine:=QD 0e4 bf;have n7:0+1+1+1+1+1+1+1<=sizeLine:=QD 0e4 bf
 have ad0:∀M:aB,bF (.tup (jz 0e5 none (some (r:Int)))) (.tup (jz 0e5 (some ((r:Int)+1)) none)) M=.ok (.tup ((ks.take r++ks.drop (r+1)).map aq)) M:=fun M=>by
  rw[zx (by rw[Rz];exact hr),vE (r:=r+1) (by push_cast;rfl),<- Tp,<- Tq];unfold bF;dsimp only
  rw[Qu (by
   rw[Rz,Rz,Rn,RM]
   exact QD (show _<=1000 by omega) bf),To]
 have ad1:∀M:aB,bF (.tup (ks.map aq).reverse) (.tup [.tup [.int 0,.int m]]) M=.ok (.tup ((ks.map aq).reverse++[.tup [.int 0,.int m]])) M:=fun M=>by
  unfold bF;dsimp only
  rw[Qu (by
   rw[UU,Rz]
   exact QD (show _<=1000 by dsimp[Sx,S8];omega) bf)]
 have ad2:bF (.obj (M1++[O.lst [.int m,.tup 0e5]]).length) (.obj M3.length) (M3++[O.lst L2])=.ok (.obj (M3++[O.lst L2]).length) M4:=by
  unfold bF;dsimp only;rw[show (M3++[O.lst L2])[(M1++[O.lst [.int m,.tup 0e5]]).length]?=some (.lst L1) from aK (aK (aK aw)),show (M3++[O.lst L2])[M3.length]?=some (.lst L2) from aw];dsimp only;rw[Qu (QD (show L1.length+L2.length<=1000 from show (4+7:Nat)<=1000 by decide) bf)]
 have rv:∀M:aB,oD 5e9 (.int (-1)) M=.ok (.tup (ks.map aq).reverse) M:=fun M=>by
  unfold oD;dsimp only;rw[Qu rfl]
 have isl:oj (.obj (M3++[O.lst L2]).length) M4=true:=by unfold oj;dsimp only;rw[show M4[(M3++[O.lst L2]).length]?=some (.lst (L1++L2)) from aw]
 have apd:dJ (.obj (M3++[O.lst L2]).length) [bN 4 [[0,1],[0,2],[1,2]]] M4=.ok .non M5:=by
  unfold dJ;dsimp only;rw[show M4[(M3++[O.lst L2]).length]?=some (.lst (L1++L2)) from aw];dsimp only;rw[Qu (Qx (show (L1++L2).length<1000 from show (11:Nat)<1000 by decide) bf)];rw[show M4.set (M3++[O.lst L2]).length (O.lst (L1++L2++[bN 4 [[0,1],[0,2],[1,2]]]))=M5 from l5]
 have er':aM [.obj i,.int ((ks.length:Int)+1)] Y=.ok (.int (r:Int)) M1:=er;unfold fj;rw[cS];dsimp[mE,List.replicate];rw[aG,aS];dsimp[ao,ah,af,ae];rw[show dc 2 (aW (ak 2) (aW (ak 3) de)) 6e5 [some 10e2,some 6e5,none,none,none,none] Y=.ok [some 10e2,some 6e5,some 6e1,some 5e9,none,none] Y from rfl];dsimp[af,ae,aD];rw[aG,aS];dsimp[aA,ar,au,aC,ao,ah,aT,aa,ae,dH,Rz,eV,er',af,bH,aD,U3,U4];rw[aG,aS]
 have e1:fq 4e6 [some 10e2,some 6e5,some 6e1,some 5e9,some (.int (r:Int)),none] M1=.ok (.obj (M1++[O.lst [.int m,.tup 0e5]]).length) M2:=by
  dsimp[cZ,cb,ar,au,aC,fI,vD,xi,vC,me,sA,ao,ah,aT,aa,ae,eV];rw[show yV 5e9 none (some (r:Int)) M1=.ok (.tup (jz 0e5 none (some (r:Int)))) M1 from rfl];dsimp[aa,ae];rw[show yV 5e9 (some ((r:Int)+1)) none M1=.ok (.tup (jz 0e5 (some ((r:Int)+1)) none)) M1 from rfl];dsimp[aa,ae,ad0,rv,Sx,S8,Qu n2,Qu n1,ad1,Qu n4];rfl
 rw[e1];dsimp[af,ae,bH,aD,U3,U4];rw[aG,aS]
 have e2:ay bF (aj 5) 4e9 [some 10e2,some 6e5,some 6e1,some 5e9,some (.int (r:Int)),some (.obj (M1++[O.lst [.int m,.tup 0e5]]).length)] M2=.ok (.obj (M3++[O.lst L2]).length) M4:=by
  dsimp[aC,cZ,cb,ar,au,aA,ao,ah,aT,L7,aa,ae];rw[show lE [.tup 0e5] M2=.ok (.obj M2.length) (M2++[O.lst 0e5]) from rfl];dsimp[aa,ae,S8,Qu (SI sizeLine),Sx,Qu n2,Qu n3,Qu n7];exact ad2
 rw[e2];dsimp[af,ae,bH,aD,U3,U4];rw[aG,g6];dsimp[lD,ao,ah,aa,ae,isl,RI,ar,au,cb,aT,Sx,S8,Qu n2,Qu n3];rw[show dJ (.obj (M3++[O.lst L2]).length) [.tup [.int 4,.tup [.tup [.int 0,.int 1],.tup [.int 0,.int 2],.tup [.int 1,.int 2]]]] M4=.ok .non M5 from apd];dsimp[af,aD,bc,aC,ao,ah,aA,ar,au,aT,aa,ae];rw[show aM [.obj i,.int 12] M5=.ok (.int j) M6 from ej];dsimp[aa,ae];rw[eQ x6 ey];dsimp[af,ae,aP];exact eg
end
theorem uR:∀{w:List Int},(∀p∈w,0<=p/\p<7)->PyData.showableAll (w.map PyData.int)=true/\PyData.leavesShortAll 8 (w.map PyData.int)=true/\PyData.weightAll (w.map PyData.int)<=4*w.length
 |[],_=>by simp[PyData.showableAll,PyData.leavesShortAll,PyData.weightAll]
 |a::w,h=>by
  have ih:=uR fun x hx=>h x (QH _ hx);have ha:=BI (a:=a) (h a QG).1 (h a QG).2;dsimp[RZ,PyData.showableAll,PyData.leavesShortAll,PyData.weightAll]at ih ha⊢;refine⟨by dsimp[ha.1,ih.1,TQ],by dsimp[ha.2.1,ih.2.1,TQ],?_⟩;dsimp[Sx];omega
def C9(ends:List Int):List Int:=ends.filter fun p=>ends.countP (fun z=>z == p) == 1
noncomputable def C8(L:List 1e9):Option (Int×Int×List Int):=match C9 L.flatten with
 |[]=>none
 |c::r=>match L.filter fun k=>decide (r.foldl min c∈k) with
  |[]=>none
  |k::_=>some (r.foldl min c,k.getD 0 0+k.getD 1 0-r.foldl min c,k)
noncomputable def y8:Nat->List 1e9->List Int->Option 1e9
 |0,L,acc=>if L.length<=1 then some acc else none
 |n+1,L,acc=>if L.length<=1 then some acc else match C8 L with
  |some (_,x,k)=>y8 n (L.eraseIdx (L.findIdx fun z=>z == k)) (acc++[x])
  |none=>none
def gK(m:Nat)(ks:List 1e9):List 1e9:=(List.range m).map fun p:Nat=>(ks.filter fun k=>decide ((p:Int)∈k)).map fun k=>k.getD 0 0+k.getD 1 0-(p:Int)
def CQ(x:Int)(l:List Int):List Int:=l.eraseIdx (l.findIdx fun z=>z == x)
noncomputable def Do(m:Nat)(N:List 1e9):Option (Nat×Nat):=match (List.range m).filter fun p=>(N.getD p []).length == 1 with
 |[]=>none
 |p::_=>match N.getD p [] with
  |[]=>none
  |q::_=>if 0<=q/\q.toNat<m/\q.toNat≠p/\(p:Int)∈N.getD q.toNat [] then some (p,q.toNat) else none
def xf(N:List 1e9)(p q:Nat):List 1e9:=(N.set p (CQ (q:Int) (N.getD p []))).set q (CQ (p:Int) (N.getD q []))
def vg(m:Nat):Nat->List 1e9->List Int->Option 1e9
 |0,_,acc=>some acc
 |n+1,N,acc=>match Do m N with
  |some (p,q)=>vg m n (xf N p q) (acc++[(q:Int)])
  |none=>none
def oz(m:Nat)(w:List Int):Bool:=decide (w.length+2=m)&&w.all fun p=>decide (0<=p)&&decide (p<(m:Int))
def IJ(m:Nat)(ks:List 1e9):Bool:=match y8 6 ks [],vg m (m-2) (gK m ks) [] with
 |some a,some b=>a == b&&oz m a
 |_,_=>false
noncomputable def Bn(ks:List 1e9):Nat->List Int->List Int
 |0,l=>l
 |n+1,l=>Bn ks n (l++(ks.filter fun k=>(decide (k.getD 0 0∈l)) != (decide (k.getD 1 0∈l))).map fun k=>if decide (k.getD 0 0∈l) then k.getD 1 0 else k.getD 0 0)
def wZ(m:Nat)(ks:List 1e9):Bool:=let l:=Bn ks 5 [0]
 (ks.all fun k=>decide (k.getD 0 0∈l) == decide (k.getD 1 0∈l)) && !((List.range m).all fun q:Nat=>decide ((q:Int)∈l))
def dg(P:List 1e9->Bool):List 1e9->Nat->List 1e9->Bool
 |_,0,acc=>P acc.reverse
 |[],_+1,_=>true
 |x::r,k+1,acc=>dg P r k (x::acc)&&dg P r (k+1) acc
def vf(m:Nat):List 1e9:=prs.filter fun k=>decide (k.getD 1 0<(m:Int))
theorem PD:dg (fun ks=>wZ 3 ks || IJ 3 ks) (vf 3) 2 []=true:=by decide +kernel
theorem PB:dg (fun ks=>wZ 4 ks || IJ 4 ks) (vf 4) 3 []=true:=by decide +kernel
theorem Pz:dg (fun ks=>wZ 5 ks || IJ 5 ks) (vf 5) 4 []=true:=by decide +kernel
abbrev P6(ks:List 1e9):Bool:=wZ 6 ks || IJ 6 ks
abbrev r4:List 1e9:=(vf 6).drop 4
theorem Mq:dg P6 ([0,3]::[0,4]::r4) 3 [[0,2],[0,1]]=true:=by decide +kernel
theorem Mp:dg P6 ([0,4]::r4) 3 [[0,3],[0,1]]=true:=by decide +kernel
theorem Mo:dg P6 ([0,4]::r4) 4 [[0,1]]=true:=by decide +kernel
theorem Mn:dg P6 ([0,4]::r4) 3 [[0,3],[0,2]]=true:=by decide +kernel
theorem Mm:dg P6 ([0,4]::r4) 4 [[0,2]]=true:=by decide +kernel
theorem Ml:dg P6 ([0,4]::r4) 4 [[0,3]]=true:=by decide +kernel
theorem Mj:dg P6 (r4) 4 [[0,4]]=true:=by decide +kernel
theorem Mi:dg P6 (r4) 5 []=true:=by decide +kernel
theorem Py:dg P6 (vf 6) 5 []=true:=by
 have s:∀(x:List Int)(r:List 1e9)(k:Nat)(acc:List 1e9),dg P6 r k (x::acc)=true->dg P6 r (k+1) acc=true->dg P6 (x::r) (k+1) acc=true:=fun x r k acc h g=>by
  dsimp[dg,h,g,TQ]
 rw[show vf 6=[0,1]::[0,2]::[0,3]::[0,4]::r4 from by decide +kernel];exact s _ _ _ _ (s _ _ _ _ Mq (s _ _ _ _ Mp Mo)) (s _ _ _ _ (s _ _ _ _ Mn Mm) (s _ _ _ _ Ml (s _ _ _ _ Mj Mi)))
theorem CN{P:List 1e9->Bool}:∀{l:List 1e9}{k:Nat}{acc s:List 1e9},dg P l k acc=true->s.Sublist l->s.length=k->P (acc.reverse++s)=true:=by
 intro l
 induction l with
 |nil=>
  intro k acc s h hs hl;cases hs;cases k with
  |zero=>simpa[dg] using h
  |succ k=>simp at hl
 |cons x r ih=>
  intro k acc s h hs hl;cases k with
  |zero=>
   have:s=[]:=Uw.mp hl;subst this;simpa[dg] using h
  |succ k=>
   dsimp[dg,RW]at h;cases hs with
   |cons _ hs=>exact ih h.2 hs hl
   |cons_cons _ hs=>
    have:=ih h.1 hs (by simpa using hl);simpa using this
theorem LX(h:GW m ks):ks.Sublist (vf m):=by
 have e:=uF h;rw[<- e];unfold cI vf
 have:(prs.filter fun k=>decide (k∈ks))=(prs.filter fun k=>decide (k.getD 1 0<(m:Int))).filter fun k=>decide (k∈ks):=by
  rw[List.filter_filter];refine List.filter_congr fun k _=>?_;by_cases hk:k∈ks
  ·obtain⟨a,b,rfl,_,_,h3⟩:=h.2.2.2.2 k hk;simp[hk];exact h3
  ·simp[hk]
 rw[this];exact List.filter_sublist
theorem Mf(h:iu m ks):wZ m ks=false:=by
 cases e:wZ m ks with
 |false=>rfl
 |true=>
  exfalso;unfold wZ at e;dsimp[RW,TJ,UA,Vm,List.all_eq_false]at e;obtain⟨h1,q,hq,h2⟩:=e;have hm:=QC.mp hq;obtain⟨n,hr⟩:=h.con (q:Int) 7e9
  have z0:∀(n:Nat)(l:List Int),(0:Int)∈l->(0:Int)∈Bn ks n l:=by
   intro n
   induction n with
   |zero=>intro l hl;exact hl
   |succ n ih=>intro l hl;exact ih _ (QL _ hl)
  have key:∀(n:Nat)(q:Int),R (mG ks) 0 n q->q∈Bn ks 5 [0]:=by
   intro n
   induction n with
   |zero=>intro q hq;rw[show q=0 from hq];exact z0 5 [0] 0e6
   |succ n ih=>
    intro q hq;rcases hq with hq|⟨r,ha,hr⟩
    ·exact ih q hq
    ·have hr' := ih r hr;unfold mG vk at ha;obtain⟨k,hk,hd⟩:=U6.mp ha;obtain⟨a,b,rfl,_⟩:=h.gw.2.2.2.2 k hk;have hh:=h1 _ hk;simp at hd hh;rcases hd with⟨rfl,rfl⟩|⟨rfl,rfl⟩
     ·exact hh.mp hr'
     ·exact hh.mpr hr'
  exact h2 (by simpa using key n q hr)
theorem D7(h:iu m ks)(h3:3<=m):IJ m ks=true:=by
 have hs:=LX h.gw;have hc:=Mf h;have hl:=h.len;have m6:=h.gw.m6
 have fin:∀n,n=m->dg (fun ks=>wZ n ks || IJ n ks) (vf n) (n-1) []=true->IJ m ks=true:=fun n e a=>by
  subst e;have:=CN a hs 0e0;dsimp[List.reverse_nil,Sn,hc,Bool.false_or]at this;exact this
 have:m=3\/m=4\/m=5\/m=6:=by omega
 rcases this with e|e|e|e
 ·exact fin 3 e.symm PD
 ·exact fin 4 e.symm PB
 ·exact fin 5 e.symm Pz
 ·exact fin 6 e.symm Py
theorem Bv(h:iu m ks)(h3:3<=m):∃w,y8 6 ks []=some w/\vg m (m-2) (gK m ks) []=some w/\oz m w=true:=by
 have c:=D7 h h3;unfold IJ at c;split at c
 ·rename_i a b e1 e2;dsimp[RW,UA]at c;obtain⟨rfl,c2⟩:=c;exact⟨a,e1,e2,c2⟩
 ·cases c
theorem kG:∀l:List Int,PyData.canLayAll0 (l.map PyData.int)=true/\PyData.depthAll (l.map PyData.int)=0
 |[]=>by simp[PyData.canLayAll0,PyData.depthAll]
 |x::r=>by
  have:=kG r;simp[PyData.canLayAll0,PyData.depthAll,PyData.canLay0,PyData.depth,this.1,this.2]
theorem A8{p:Int}:dN 4e8=true:=by unfold dN;simp[PyData.canLay0,PyData.depth]
theorem yq:∀{a b:List Int},PyData.eqvAll (a.map PyData.int) (b.map PyData.int)=decide (a=b)
 |[],[]=>by simp[PyData.eqvAll]
 |[],_::_=>by simp[PyData.eqvAll]
 |_::_,[]=>by simp[PyData.eqvAll]
 |x::a,y::b=>by
  have:=yq (a:=a) (b:=b);dsimp[RZ,PyData.eqvAll,PyData.eqv,this];by_cases h:x=y
  ·by_cases g:a=b <;> simp[h,g]
  ·simp[h]
theorem yp{a b:List Int}:PyData.eqv (eY a) (eY b)=(a == b):=by
 show PyData.eqvAll (a.map PyData.int) (b.map PyData.int)=_;rw[yq];by_cases h:a=b <;> simp[h]
theorem zj{J β:Type}{f:J->β}:∀{l:List J}{i:Nat},(l.map f).eraseIdx i=(l.eraseIdx i).map f
 |[],_=>rfl
 |_::_,0=>rfl
 |x::l,i+1=>by dsimp[RZ,List.eraseIdx_cons_succ,zj (l:=l) (i:=i)]
theorem OT:∀k:List Int,(k.flatMap fun p=>[D.int p])=k.map D.int
 |[]=>rfl
 |x::k=>by rw[U9,OT k];rfl
theorem yl:dN (eY k)=true:=by
 have:=kG k;unfold dN eY;simp[PyData.canLay0,PyData.depth,this.1,this.2]
theorem uQ{Y:aB}:∀fs:List Int,toPs Y (fs.map D.int)=some (fs.map PyData.int)
 |[]=>rfl
 |x::r=>by dsimp[RZ,toPs,yY,uQ r];rfl
theorem nV{M:aB}:∀L:List 1e9,fO M (L.map aq)=some (L.map eY)/\PyData.canLayAll0 (L.map eY)=true
 |[]=>⟨rfl,by simp[PyData.canLayAll0]⟩
 |k::L=>by
  have ih:=nV (M:=M) L
  have h1:y9 M (aq k)=some (eY k):=by
   show (toPs M (k.map D.int)).map PyData.tuple=_;rw[uQ];rfl
  have h2:PyData.canLay0 (eY k)=true:=by unfold eY;dsimp[PyData.canLay0,(kG k).1]
  constructor
  ·dsimp[RZ,fO,h1,ih.1,SD,Option.map_some]
  ·dsimp[RZ,PyData.canLayAll0,h2,ih.2,TQ]
theorem xU:nE M (aq k)=some (eY k):=by
 show (fO M (k.map D.int)).map PyData.tuple=_;rw[kz];rfl
theorem FH{l:List Int}{p:Int}(h:M[n]?=some (.lst (l.map D.int))):mO (.obj n) [.int p] M=.ok (.int (l.countP (fun z=>z == p):Nat)) M:=by
 unfold mO;dsimp only;rw[h,show nE M 4e8=some 4e8 from rfl];dsimp only;rw[kz];dsimp only;rw[Qu ⟨(kG l).1,A8⟩,UW];rfl
theorem sH{l:List Int}{p:Int}(h:M[n]?=some (.lst (l.map D.int)))(hp:p∈l):jB (.obj n) [.int p] M=.ok .non (M.set n (.lst ((CQ p l).map D.int))):=by
 unfold jB;dsimp only;rw[h,show nE M 4e8=some 4e8 from rfl];dsimp only;rw[kz];dsimp only;rw[Qu ⟨(kG l).1,A8,Vc.mpr ⟨.int p,Ti hp,by simp[PyData.eqv]⟩⟩,List.findIdx_map];unfold CQ;rw[zj];rfl
theorem BQ{L:List 1e9}(h:M[n]?=some (.lst (L.map aq)))(hk:k∈L):jB (.obj n) [aq k] M=.ok .non (M.set n (.lst ((L.eraseIdx (L.findIdx fun z=>z == k)).map aq))):=by
 unfold jB;dsimp only;rw[h,xU];dsimp only;rw[(nV L).1];dsimp only;rw[Qu ⟨(nV (M:=M) L).2,yl,Vc.mpr ⟨eY k,Ti hk,by rw[yp];simp⟩⟩,List.findIdx_map];rw[zj,show ((fun z=>PyData.eqv z (eY k)) ∘ eY)=(fun z:List Int=>z == k) from funext fun z=>yp]
theorem x8{c:Int}{r:List Int}(h:M[n]?=some (.lst ((c::r).map D.int))):rf [.obj n] M=.ok (.int (r.foldl min c)) M:=by
 unfold rf;dsimp only;unfold CW;dsimp only;rw[h];dsimp only;rw[ye];rfl
theorem DJ{a b x:O}:(Y++a::b::G).set 8e6 x=Y++x::b::G:=by
 rw[UQ _ _ 8e0,TB,U4]
theorem DI{a b x:O}:(Y++a::b::G).set (Y.length+1) x=Y++a::x::G:=by
 rw[UQ _ _ 0e0,show Y.length+1-Y.length=1 from by omega,U3,U4]
theorem pW{a b:O}:(Y++a::b::G)[Y.length+1]?=some b:=by
 rw[Rq 0e0,show Y.length+1-Y.length=1 from by omega];rfl
section
variable{L:List 1e9}
theorem Ct{t:Nat}(hL:L.length<=15)(hk:∀k∈L,oq m k)(ht:M[t]?=some (.lst (L.map aq)))(hv:aj 1 Z M=.ok (.obj t) M):
  nP (fL 3e0) [none,none] (ak 0) bp ka Z M=.ok 9e8 (M++[.lst (L.flatten.map D.int)]):=by
 have fl:((L.filter fun _=>true).flatMap fun k=>k.map D.int)=L.flatten.map D.int:=by
  rw[U5.mpr (fun _ _=>rfl),List.map_flatten,List.flatMap_def]
 have sz:L.flatten.length<=30:=by
  have:∀l:List 1e9,(∀k∈l,oq m k)->l.flatten.length=2*l.length:=by
   intro l
   induction l with
   |nil=>intro _;rfl
   |cons k l ih=>
    intro h;obtain⟨a,b,rfl,_⟩:=h k 0e6;rw[Sf,Ry,ih fun z hz=>h z (by simp[hz])];dsimp[Sx,S8];omega
  rw[this L hk];omega
 obtain⟨Z',r',run⟩:=oV (U:=List Int) (en:=aq) (src:=.own t (L.map aq)) (g:=ak 0) (t:=bp) (fb:=ka) (Y1:=M) (q:=fun _=>true) (k:=fun k=>k.map D.int)
  (fun Z=>∃a b,Z=[a,b]) (fun a=>aK ht) (us:=L) (acc:=[]) (Z:=[none,none]) ⟨_,_,rfl⟩
  (by rw[fl,Rz,S8];exact QD 0e0 bf)
  (fun k hk' a Z ⟨x, y, e⟩ => by
   subst e;refine⟨[some (aq k),y],rfl,rfl,fun z=>⟨_,_,rfl⟩,fun _ hsz=>?_⟩
   obtain⟨Z2,⟨y2,e2⟩,run2⟩:=oV (U:=Int) (en:=D.int) (src:=.fix (k.map D.int)) (g:=ak 1) (t:=bp) (fb:=sm qR) (Y1:=M) (q:=fun _=>true) (k:=fun p=>[D.int p])
    (fun Z=>∃b,Z=[some (aq k),b]) 10e5 (us:=k) (acc:=a) (Z:=[some (aq k),y]) ⟨_,rfl⟩
    (by rw[U5.mpr (fun _ _=>rfl),OT];exact hsz)
    (fun p hp b Z ⟨y, e⟩ => by
     subst e
     exact⟨[some (aq k),some 4e8],rfl,rfl,fun _=>⟨_,rfl⟩,fun _ hb=>⟨_,⟨_,rfl⟩,FE rfl (by simpa using hb)⟩⟩)
   rw[U5.mpr (fun _ _=>rfl),OT]at run2
   exact⟨Z2,⟨_,_,e2⟩,run2⟩)
 rw[fl,Sn]at run;unfold nP;rw[cw,hv,aa,d6 ht];dsimp[aa,cK];rw[show dr [none,none] Z=[none,none] from rfl,run];rfl
end
section
variable{L:List 1e9}
theorem A0:(((n:Nat):Int) == 1)=(n == 1):=by rw[Rc];dsimp[UA];omega
theorem CA{e:Nat}{l:List Int}(he:M[e]?=some (.lst (l.map D.int)))(hl:l.length<=1000):
  compLoop (.own e (l.map D.int)) 3e8 (ak 0) iZ kf (l.map D.int) [none,some (.obj e)] (M++[.lst []])=.ok 9e8 (M++[.lst ((C9 l).map D.int)]):=by
 have c:=fT (U:=Int) (en:=D.int) (src:=.own e (l.map D.int)) (g:=ak 0) (t:=iZ) (e:=kf) (Y1:=M) (q:=fun p=>l.countP (fun z=>z == p) == 1) (h:=D.int) (fun Z=>∃o,Z=[o,some (.obj e)]) (fun _=>aK he) (us:=l) (acc:=[]) (Z:=[none,some (.obj e)]) ⟨_,rfl⟩
  (by rw[S8];exact QD 0e0 bf)
  (fun p hp a Z ⟨o, eo⟩ => by
   subst eo;refine⟨[some 4e8,some (.obj e)],⟨_,rfl⟩,rfl,?_,fun _=>rfl⟩;unfold iZ;rw[bR,aC,lD];dsimp[ao,ah,aa];rw[show oj (.obj e) (M++[O.lst a])=true from by unfold oj;dsimp only;rw[aK he]];dsimp[RI,ar,au,ao,ah,aT,aa,FH (aK he),cE,Sw,RH,aO]
   rw[A0])
 rw[Sn]at c;exact c
theorem Cf{t:Nat}{p:Int}(ht:M[t]?=some (.lst (L.map aq)))(hl:L.length<=1000):
  compLoop (.own t (L.map aq)) 3e8 (ak 0) iY ke (L.map aq) [none,some 4e8] (M++[.lst []])=.ok 9e8 (M++[.lst ((L.filter fun k=>decide (p∈k)).map aq)]):=by
 have c:=fT (U:=List Int) (en:=aq) (src:=.own t (L.map aq)) (g:=ak 0) (t:=iY) (e:=ke) (Y1:=M) (q:=fun k=>decide (p∈k)) (h:=aq) (fun Z=>∃o,Z=[o,some 4e8]) (fun _=>aK ht) (us:=L) (acc:=[]) (Z:=[none,some 4e8]) ⟨_,rfl⟩
  (by rw[S8];exact QD 0e0 bf)
  (fun k hk a Z ⟨o, eo⟩ => by
   subst eo;refine⟨[some (aq k),some 4e8],⟨_,rfl⟩,rfl,?_,fun _=>rfl⟩;unfold iY;dsimp[bR,aC,ao,ah,aa];rw[show va false 4e8 (aq k) (M++[O.lst a])=.ok (.bl (decide (p∈k))) (M++[O.lst a]) from Dq (neg:=false)]
   dsimp[aa,aO])
 rw[Sn]at c;exact c
abbrev wS(Y:aB)(L:List 1e9)(acc:List Int)(G:aB):aB:=Y++O.lst (L.map aq)::O.lst (acc.map D.int)::G
theorem JJ{acc:List Int}{o3 o5:Option D}{p x:Int}(hL:L.length<=15)(ha:acc.length<=100)(hk:∀k∈L,oq m k)(m6:m<=6)(hs:C8 L=some (p,x,k)):
  ∃G' o3' o4' o5',kb [o0,some 1e0,some 5e1,o3,o4,o5] (wS Y L acc G)=.next [o0,some 1e0,some 5e1,o3',o4',o5'] (wS Y (L.eraseIdx (L.findIdx fun z=>z == k)) (acc++[x]) G'):=by
 unfold C8 at hs;cases ec:C9 L.flatten with
 |nil=>rw[ec]at hs;cases hs
 |cons c r=>
  rw[ec]at hs;dsimp only at hs;cases el:L.filter fun k=>decide (r.foldl min c∈k) with
  |nil=>rw[el]at hs;cases hs
  |cons k' r'=>
   rw[el]at hs;injection hs with hs
   injection hs with hp hs
   injection hs with hx hkk
   subst hkk;have kL:k'∈L:=(QB.mp (by rw[el];simp:k'∈L.filter fun k=>decide (r.foldl min c∈k))).1;rw[hp]at hx el;obtain⟨a,b,rfl,h1,h2,h3⟩:=hk k' kL;have hx':x=a+b-p:=hx.symm;let M:=wS Y L acc G
   let M1:aB:=M++[O.lst (L.flatten.map D.int)]
   let M2:aB:=M1++[O.lst ((c::r).map D.int)]
   let M3:aB:=M2++[O.lst (([a,b]::r').map aq)]
   have ht:M[8e6]?=some (.lst (L.map aq)):=aw
   have hfl:L.flatten.length<=1000:=by
    have:∀l:List 1e9,(∀k∈l,oq m k)->l.flatten.length=2*l.length:=by
     intro l
     induction l with
     |nil=>intro _;rfl
     |cons k l ih=>
      intro h;obtain⟨a,b,rfl,_⟩:=h k 0e6;rw[Sf,Ry,ih fun z hz=>h z (by simp[hz])];dsimp[Sx,S8];omega
    rw[this L hk];omega
   have e1:nP (fL 3e0) [none,none] (ak 0) bp ka [o0,some 1e0,some 5e1,o3,o4,o5] M=.ok 9e8 M1:=Ct hL hk ht rfl
   have c2:compLoop (.own 3e8 (L.flatten.map D.int)) M1.length (ak 0) iZ kf (L.flatten.map D.int) [none,some 9e8] (M1++[.lst []])=.ok (.obj M1.length) M2:=by
    rw[CA aw hfl,ec]
   have mn:rf [.obj M1.length] M2=.ok 4e8 M2:=by
    rw[x8 (M:=M2) (n:=M1.length) (c:=c) (r:=r) aw,hp]
   have c3:compLoop (.own 8e6 (L.map aq)) M2.length (ak 0) iY ke (L.map aq) [none,some 4e8] (M2++[.lst []])=.ok (.obj M2.length) M3:=by
    rw[Cf (M:=M2) (t:=8e6) (aK (aK ht)) 0e0,el]
   have i3:cj (.obj M2.length) (.int 0) M3=.ok (aq [a,b]) M3:=eQ (xs:=([a,b]::r').map aq) aw (by
    rw[RZ];unfold atI;rw[show wM (aq [a,b]::r'.map aq).length 0=some 0 from kn 0e4 0e6]
    rfl)
   have s4:Ax [aq [a,b]] M3=.ok (.int (a+b)) M3:=by
    show (if (0<=a/\a<1000)/\(0<=b/\b<1000) then ai.ok (D.int (a+b)) M3 else .bad)=_;rw[Qu ⟨7e9,by omega,by omega⟩]
   let G3:aB:=G++[O.lst (L.flatten.map D.int)]++[O.lst ((c::r).map D.int)]++[O.lst (([a,b]::r').map aq)]
   have eM3:M3=wS Y L acc G3:=by dsimp[M3,M2,M1,M,wS,G3,Sh,Ta,Sn]
   have a4:dJ 5e1 [.int (a+b-p)] M3=.ok .non (wS Y L (acc++[x]) G3):=by
    unfold dJ;dsimp only;rw[eM3,pW];dsimp only;rw[Qu (by rw[Rz];exact Qx (show acc.length<1000 by omega) bf),DI];show ai.ok D.non (Y++O.lst (L.map aq)::O.lst (acc.map D.int++[D.int (a+b-p)])::G3)=ai.ok D.non (Y++O.lst (L.map aq)::O.lst ((acc++[x]).map D.int)::G3);rw[To,hx'];rfl
   have r5:jB 1e0 [aq [a,b]] (wS Y L (acc++[x]) G3)=.ok .non (wS Y (L.eraseIdx (L.findIdx fun z=>z == [a,b])) (acc++[x]) G3):=by
    rw[BQ (L:=L) aw kL,DJ]
   refine⟨G3,some 9e8,some 4e8,some (aq [a,b]),?_⟩;unfold kb;rw[aG,aS,e1];dsimp[af,bH,aD,U3,U4];rw[aG,aS];dsimp[aA,ar,au,bP,cw,ao,ah,aa];rw[d6 (show M1[3e8]?=some (.lst (L.flatten.map D.int)) from aw)];dsimp[aa,cK];rw[show dr [none,some 3] [o0,some 1e0,some 5e1,some 9e8,o4,o5]=[none,some 9e8] from rfl,c2];dsimp[aa,mn,af,bH,aD,U3,U4];rw[aG,aS];dsimp[aC,bP,cw,ao,ah,aT,aa];rw[d6 (show M2[8e6]?=some (.lst (L.map aq)) from aK (aK ht))];dsimp[aa,cK];rw[show dr [none,some 4] [o0,some 1e0,some 5e1,some 9e8,some 4e8,o5]=[none,some 4e8] from rfl,c3];dsimp[aa,i3,af,bH,aD,U3,U4];rw[aG,g6,lD];dsimp[ao,ah,aa];rw[show oj 5e1 M3=true from by unfold oj;dsimp only;rw[eM3,pW]];dsimp[RI,ar,au,aC,aA,ao,ah,aa,s4];rw[show dG (.int (a+b)) 4e8 M3=.ok (.int (a+b-p)) M3 from rfl];dsimp[aa,a4,af,aD];rw[g6,lD];dsimp[ao,ah,aa];rw[show oj 1e0 (wS Y L (acc++[x]) G3)=true from by unfold oj;dsimp only;rw[aw]];dsimp[RI,ar,au,ao,ah,aa,r5,af]
theorem C7{t:Nat}(hv:aj 1 Z M=.ok (.obj t) M)(ht:M[t]?=some (.lst (L.map aq))):gb (ay (dC .Gt) (aE jy (ag 3e0 az)) 0e8) Z M=.ok (decide (1<L.length)) M:=by
 rw[bR,aC,aA,ar,hv];dsimp[aa,au,vV ht,aT,cG,aO,Rz];congr 1;show decide ((1:Int)<(L.length:Int))=_;by_cases h:1<L.length
 ·rw[Sr h,Sr 0e0]
 ·rw[Qr h,Qr 0e0]
theorem Gr(m6:m<=6){w:List Int}:∀(n c:Nat)(L:List 1e9)(acc:List Int)(G:aB)(o3 o4 o5:Option D),y8 n L acc=some w->L.length<=15->acc.length+n<=100->(∀k∈L,oq m k)->n<c ->
  ∃L' G' o3' o4' o5',jD (gb (ay (dC .Gt) (aE jy (ag 3e0 az)) 0e8)) kb c [o0,some 1e0,some 5e1,o3,o4,o5] (wS Y L acc G)=.next [o0,some 1e0,some 5e1,o3',o4',o5'] (wS Y L' w G'):=by
 intro n
 induction n with
 |zero=>
  intro c L acc G o3 o4 o5 h hl ha hk hc;obtain⟨c,rfl⟩:∃c',c=c'+1:=⟨c-1,by omega⟩;unfold y8 at h;split at h
  ·rename_i h1;cases h;refine⟨L,G,o3,o4,o5,?_⟩;unfold jD;rw[C7 (L:=L) rfl aw,Qr 0e0,af,Qv Q0]
  ·cases h
 |succ n ih=>
  intro c L acc G o3 o4 o5 h hl ha hk hc;obtain⟨c,rfl⟩:∃c',c=c'+1:=⟨c-1,by omega⟩;unfold y8 at h;split at h
  ·rename_i h1;cases h;refine⟨L,G,o3,o4,o5,?_⟩;unfold jD;rw[C7 (L:=L) rfl aw,Qr 0e0,af,Qv Q0]
  ·rename_i h1;split at h
   ·rename_i p x k hs;obtain⟨G',a3,a4,a5,e⟩:=JJ (Y:=Y) (acc:=acc) (G:=G) (o0:=o0) (o3:=o3) (o4:=o4) (o5:=o5) hl 0e0 hk m6 hs;obtain⟨L',G2,b3,b4,b5,e2⟩:=ih c (L.eraseIdx (L.findIdx fun z=>z == k)) (acc++[x]) G' a3 a4 a5 h (QD (List.length_eraseIdx_le ..) hl) 10e7 (fun z hz=>hk z (List.mem_of_mem_eraseIdx hz)) 0e0;refine⟨L',G2,b3,b4,b5,?_⟩;unfold jD;rw[C7 (L:=L) rfl aw,Sr 0e0,af,Qu rfl,e,oG,e2]
   ·cases h
theorem GG{w:List Int}(T:iu m ks)(h3:3<=m)(hw:y8 6 ks []=some w):eK [bN m ks] Y=.ok (iD w) Y:=by
 have hl:=g9 T.gw;have m6:=T.gw.m6;obtain⟨L',G',o3,o4,o5,e⟩:=Gr (Y:=Y) (o0:=some 6e5) (w:=w) m6 6 100 ks [] [] none none none hw hl 0e6 T.gw.2.2.2.2 0e0;unfold eK;rw[cu,show (some 6e5::List.replicate (6-1) none:Ro)=[some 6e5,none,none,none,none,none] from rfl];dsimp[mV];rw[aG,g6];dsimp[aA,ar,au,ah,aa,Bd (vK T),af,aD];rw[aG,bw];dsimp[bR,aC,ah,aT,aa,cv,cG,aO];rw[show cA .Lt (m:Int) 3=false from Qr 0e0];dsimp[af,Sw,RH,bT,aD];rw[aG,aS];dsimp[aA,ar,au,aC,ah,aT,aa,gZ];rw[show lE [.tup 0e5] Y=.ok 1e0 (Y++[O.lst 0e5]) from rfl];dsimp[af,bH,aD,U3,U4];rw[aG,aS,cZ,au,aa,S8,Qu (SI _)];dsimp[af,bH,aD,U3,U4];rw[aG];unfold pT;rw[show (Y++[O.lst 0e5]++[O.lst []]:aB)=wS Y ks [] [] from by simp[wS],show (Y++[O.lst 0e5]).length=Y.length+1 from by simp,e,aD];rw[bc,aA,ar];dsimp[ao,ah,aa,au];rw[gk pW];dsimp[af,aP];exact d5 zl
theorem Gq(h:bJ [d] Y=.ok 4e2 Y):eK [d] Y=.exc ⟨"NoTree",[]⟩ Y:=by
 unfold eK;rw[cu];dsimp[mV];rw[aG,g6];dsimp[aA,ar,au,ah,aa,Ot h,jM,oF,kv,pX]
theorem D6 (T:iu m ks) (h3:m<3):eK [bN m ks] Y=.exc ⟨"NoTree",[]⟩ Y:=by
 unfold eK;rw[cu];dsimp[mV];rw[aG,g6];dsimp[aA,ar,au,ah,aa,Bd (vK T),af,aD];rw[aG,bw];dsimp[bR,aC,ah,aT,aa,cv,cG,aO];rw[show cA .Lt (m:Int) 3=true from Sr 0e0];dsimp[af,RI,ma,oF,kv,pX]
end
abbrev ln(l:List Int):O:=.lst (l.map D.int)
abbrev qF(n m:Nat):O:=.lst ((List.range m).map fun i=>D.obj (n+1+i))
abbrev lS(Y:aB)(m:Nat)(N:List 1e9)(acc:List Int)(G:aB):aB:=Y++qF 8e6 m::(N.map ln++ln acc::G)
section
variable{N:List 1e9}{acc:List Int}
theorem vN(h:n<1000):km [.int (n:Int)] Y=.ok (.fix ((List.range n).map fun k:Nat=>D.int (k:Int))) Y:=by
 rw[gY 0e0 0e0,RF,oQ];congr 2;apply SY;intro k _;simp
theorem zm:(lS Y m N acc G)[8e6]?=some (qF 8e6 m):=aw
theorem Bk{p:Nat}(hp:p<N.length):(lS Y m N acc G)[Y.length+1+p]?=some (ln (N.getD p [])):=by
 rw[Rq 0e0,show Y.length+1+p-Y.length=p+1 from by omega,UE,Ru (by simpa using hp),Rv,Ux hp,Uh,Ux hp];rfl
theorem A1{p:Nat}(hp:p<N.length){l:List Int}:(lS Y m N acc G).set (Y.length+1+p) (ln l)=lS Y m (N.set p l) acc G:=by
 rw[UQ _ _ 0e0,show Y.length+1+p-Y.length=p+1 from by omega,U3,List.set_append_left _ _ (by simpa using hp)];show _=Y++qF 8e6 m::((N.set p l).map ln++ln acc::G);rw[List.map_set]
theorem Jy(hm:N.length=m):(lS Y m N acc G)[Y.length+1+m]?=some (ln acc):=by
 rw[Rq 0e0,show Y.length+1+m-Y.length=m+1 from by omega,UE,Rq (by simp[hm]),Rz,hm,TB];rfl
theorem Ig(hm:N.length=m){l:List Int}:(lS Y m N acc G).set (Y.length+1+m) (ln l)=lS Y m N l G:=by
 rw[UQ _ _ 0e0,show Y.length+1+m-Y.length=m+1 from by omega,U3,UQ _ _ (by simp[hm]),Rz,hm,TB,U4]
theorem LD{g:O}:lS Y m N acc G++[g]=lS Y m N acc (G++[g]):=by
 dsimp[lS,Sh,Ta]
theorem zp{p:Nat}(h:M[n]?=some (qF n m))(hp:p<m):cj (.obj n) (.int (p:Int)) M=.ok (.obj (n+1+p)) M:=eQ h (by
 unfold atI;rw[show wM ((List.range m).map fun i=>D.obj (n+1+i)).length (p:Int)=some p from by rw[kn 0e0 10e7];rfl]
 simp[hp])
theorem Pl{r:List Int}(h:M[n]?=some (ln (q::r))):cj (.obj n) (.int 0) M=.ok (.int q) M:=eQ h (by
 unfold atI;rw[show wM ((q::r).map D.int).length 0=some 0 from kn 0e4 0e6]
 rfl)
theorem FC(hN:∀p<m,∀a,(M++[O.lst a])[n+1+p]?=some (ln (N.getD p [])))(hr:M[n]?=some (qF n m))(hm:m<=6):
  compLoop (.fix ((List.range m).map fun p:Nat=>D.int (p:Int))) 3e8 (ak 0) fW iM ((List.range m).map fun p:Nat=>D.int (p:Int)) [none,some (.obj n)] (M++[.lst []])=.ok 9e8 (M++[.lst (((List.range m).filter fun p=>(N.getD p []).length == 1).map fun p:Nat=>D.int (p:Int))]):=by
 have c:=fT (U:=Nat) (en:=fun p:Nat=>D.int (p:Int)) (src:=.fix ((List.range m).map fun p:Nat=>D.int (p:Int))) (g:=ak 0) (t:=fW) (e:=iM) (Y1:=M) (q:=fun p=>(N.getD p []).length == 1) (h:=fun p:Nat=>D.int (p:Int)) (fun Z=>∃o,Z=[o,some (.obj n)]) 10e5 (us:=List.range m) (acc:=[]) (Z:=[none,some (.obj n)]) ⟨_,rfl⟩
  (by rw[S8,SZ];exact QD 0e0 bf)
  (fun p hp a Z ⟨o, eo⟩ => by
   subst eo;have hp:=QC.mp hp;refine⟨[some (.int (p:Int)),some (.obj n)],⟨_,rfl⟩,rfl,?_,fun _=>rfl⟩;unfold fW
   dsimp[bR,aC,aA,ar,au,ao,ah,aT,aa,zp (aK hr) hp,vV (hN p hp a),Rz,cE,Sw,RH,aO,A0])
 rw[Sn]at c;exact c
theorem LC{o3 o5:Option D}{p q:Nat}(hm:N.length=m)(m6:m<=6)(ha:acc.length<=100)(hs:Do m N=some (p,q)):
  ∃G' o4' o5',iK [some 6e5,some 1e0,some (.obj (Y.length+1+m)),o3,o4,o5] (lS Y m N acc G)=.next [some 6e5,some 1e0,some (.obj (Y.length+1+m)),o3,o4',o5'] (lS Y m (xf N p q) (acc++[(q:Int)]) G'):=by
 unfold Do at hs;cases ec:(List.range m).filter fun p=>(N.getD p []).length == 1 with
 |nil=>rw[ec]at hs;cases hs
 |cons c r=>
  rw[ec]at hs;dsimp only at hs;cases el:N.getD c [] with
  |nil=>rw[el]at hs;cases hs
  |cons q' r'=>
   rw[el]at hs;dsimp only at hs;split at hs
   ·rename_i hq;injection hs with hs
    injection hs with h1 h2
    subst h1;have cm:c<m:=QC.mp (QB.mp (by rw[ec];simp:c∈(List.range m).filter fun p=>(N.getD p []).length == 1)).1;have hqi:(q:Int)=q':=by omega
    obtain⟨q0,q1,q2,q3⟩:=hq;rw[h2]at q1 q2 q3;let M:=lS Y m N acc G
    let M1:aB:=M++[O.lst ((c::r).map fun p:Nat=>D.int (p:Int))]
    have eM1:M1=lS Y m N acc (G++[O.lst ((c::r).map fun p:Nat=>D.int (p:Int))]):=LD
    have c1:compLoop (.fix ((List.range m).map fun p:Nat=>D.int (p:Int))) 3e8 (ak 0) fW iM ((List.range m).map fun p:Nat=>D.int (p:Int)) [none,some 1e0] (M++[.lst []])=.ok 9e8 M1:=by
     rw[FC (N:=N) (n:=8e6) (fun p hp a=>aK (Bk 0e0)) zm m6,ec]
    have i1:cj 9e8 (.int 0) M1=.ok (.int (c:Int)) M1:=eQ (xs:=(c::r).map fun p:Nat=>D.int (p:Int)) aw (by
     unfold atI;rw[show wM ((c::r).map fun p:Nat=>D.int (p:Int)).length 0=some 0 from kn 0e4 0e6]
     rfl)
    let G1:aB:=G++[O.lst ((c::r).map fun p:Nat=>D.int (p:Int))]
    have x1:cj 1e0 (.int (c:Int)) (lS Y m N acc G1)=.ok (.obj (Y.length+1+c)) (lS Y m N acc G1):=zp zm cm
    have x2:cj (.obj (Y.length+1+c)) (.int 0) (lS Y m N acc G1)=.ok (.int (q:Int)) (lS Y m N acc G1):=by
     rw[Pl (q:=q') (r:=r') (by rw[Bk 0e0,el]),hqi]
    have a1:dJ (.obj (Y.length+1+m)) [.int (q:Int)] (lS Y m N acc G1)=.ok .non (lS Y m N (acc++[(q:Int)]) G1):=by
     unfold dJ;dsimp only;rw[Jy hm];dsimp only;rw[Qu (by rw[Rz];exact Qx (show acc.length<1000 by omega) bf)];rw[show O.lst (acc.map D.int++[D.int (q:Int)])=ln (acc++[(q:Int)]) from by rw[ln,To];rfl,Ig hm]
    have y1:∀(N:List 1e9)(p:Nat),p<m->cj 1e0 (.int (p:Int)) (lS Y m N (acc++[(q:Int)]) G1)=.ok (.obj (Y.length+1+p)) (lS Y m N (acc++[(q:Int)]) G1):=fun N p hp=>zp zm hp
    have r1:jB (.obj (Y.length+1+c)) [.int (q:Int)] (lS Y m N (acc++[(q:Int)]) G1)=.ok .non (lS Y m (N.set c (CQ (q:Int) (N.getD c []))) (acc++[(q:Int)]) G1):=by
     rw[sH (l:=N.getD c []) (Bk 0e0) (by rw[el,hqi];simp),A1 0e0]
    have g2:(N.set c (CQ (q:Int) (N.getD c []))).getD q []=N.getD q []:=by
     rw[Uh,QP (fun z=>q2 z.symm),<- Uh]
    have r2:jB (.obj (Y.length+1+q)) [.int (c:Int)] (lS Y m (N.set c (CQ (q:Int) (N.getD c []))) (acc++[(q:Int)]) G1)=.ok .non (lS Y m (xf N c q) (acc++[(q:Int)]) G1):=by
     rw[sH (l:=N.getD q []) (by rw[Bk 10e7,g2]) q3,A1 10e7];rfl
    refine⟨G1,some (.int (c:Int)),some (.int (q:Int)),?_⟩;unfold iK;rw[aG,aS];dsimp[aC,bP,cF,ar,au,ah,ao,aT,aa,cv];rw[vN (by omega:m<1000)];dsimp[aa,bg];rw[show dr [none,some 1] [some 6e5,some 1e0,some (.obj (Y.length+1+m)),o3,o4,o5]=[none,some 1e0] from rfl,c1];dsimp[aa,i1,af,bH,aD,U3,U4];rw[show M1=lS Y m N acc G1 from eM1];rw[aG,aS];dsimp[aC,ao,ah,aT,aa,x1,x2,af,bH,aD,U3,U4];rw[aG,g6,lD];dsimp[ao,ah,aa];rw[show oj (.obj (Y.length+1+m)) (lS Y m N acc G1)=true from by unfold oj;dsimp only;rw[Jy hm]];dsimp[RI,ar,au,ao,ah,aa,a1,af,aD];rw[aG,g6,lD];dsimp[aC,ao,ah,aa,y1 N c cm];rw[show oj (.obj (Y.length+1+c)) (lS Y m N (acc++[(q:Int)]) G1)=true from by unfold oj;dsimp only;rw[Bk 0e0]];dsimp[RI,ar,au,ao,ah,aa,r1,af,aD];rw[g6,lD];dsimp[aC,ao,ah,aa,y1 _ q q1];rw[show oj (.obj (Y.length+1+q)) (lS Y m (N.set c (CQ (q:Int) (N.getD c []))) (acc++[(q:Int)]) G1)=true from by unfold oj;dsimp only;rw[Bk 10e7]];dsimp[RI,ar,au,ao,ah,aa,r2,af]
   ·cases hs
end
section
variable{N:List 1e9}{acc:List Int}
theorem Pm{p a b:Int}:va false 4e8 (.tup [.int a,.int b]) M=.ok (.bl (decide (p∈[a,b]))) M:=Dq (neg:=false) (w:=[a,b])
theorem E9{p:Int}(h:GW m ks):compLoop (.fix 0e5) 3e8 (dc 2 6e4) iJ iO 0e5 [none,none,some 4e8] (M++[.lst []])=.ok 9e8 (M++[ln ((ks.filter fun k=>decide (p∈k)).map fun k=>k.getD 0 0+k.getD 1 0-p)]):=by
 have n2:0+1+1<=sizeLine:=QD (by decide:2<=1000) bf
 have c:=fT (U:=List Int) (en:=aq) (src:=.fix 0e5) (g:=dc 2 6e4) (t:=iJ) (e:=iO) (Y1:=M) (q:=fun k=>decide (p∈k)) (h:=fun k=>.int (k.getD 0 0+k.getD 1 0-p)) (fun Z=>∃o o',Z=[o,o',some 4e8]) 10e5 (us:=ks) (acc:=[]) (Z:=[none,none,some 4e8]) ⟨_,_,rfl⟩
  (by rw[S8];have:=g9 h;exact QD 0e0 bf)
  (fun k hk a Z ⟨o, o', e⟩ => by
   subst e;obtain⟨x,y,rfl,_⟩:=h.2.2.2.2 k hk;refine⟨[some (.int x),some (.int y),some 4e8],⟨_,_,rfl⟩,rfl,?_,fun _=>?_⟩
   ·unfold iJ;dsimp[bR,aC,cb,ar,au,ao,ah,aa,Sx,S8,Qu n2,Pm,aO]
   ·unfold iO;dsimp[aC,ao,ah,aa,eV]
    rfl)
 rw[Sn]at c;rw[ln,SX];exact c
theorem oU:(gK m ks).length=m:=by unfold gK;simp
theorem Fb(h:GW m ks):compLoop (.fix ((List.range m).map fun p:Nat=>D.int (p:Int))) 8e6 (ak 0) bp iN ((List.range m).map fun p:Nat=>D.int (p:Int)) [none,some 6e5] (Y++[.lst []])=.ok 1e0 (Y++qF 8e6 m::(gK m ks).map ln):=by
 have m6:=h.m6
 obtain⟨ys',Z',Y2,s',⟨e1,i,hi,e2,e3,e4,o,e5⟩,run⟩:=iV (src:=.fix ((List.range m).map fun p:Nat=>D.int (p:Int))) (g:=ak 0) (t:=bp) (e:=iN) (n:=8e6)
  (fun xs ys Z Y2 s=>Y2=Y/\∃i,i<=m/\xs=((List.range m).drop i).map (fun p:Nat=>D.int (p:Int))/\ys=(List.range i).map (fun j=>D.obj (Y.length+1+j))/\s=((gK m ks).take i).map ln/\∃o,Z=[o,some 6e5])
  (fun ys Z Y2 s ⟨e,_⟩=>⟨by rw[e],trivial⟩)
  (fun x r ys Z Y2 s ⟨e1, i, hi, e2, e3, e4, o, e5⟩ => by
   subst e1 e3 e4 e5
   have him:i<m:=by
    by_cases z:i<m
    ·exact z
    ·rw[List.drop_of_length_le 10e7]at e2;cases e2
   rw[UF (by simpa using him),RZ]at e2;injection e2 with ex er
   dsimp[List.getElem_range]at ex;subst ex;refine⟨rfl,trivial,[some (.int (i:Int)),some 6e5],Y2,_,true,Y2,_,rfl,rfl,fun _=>⟨.obj (Y2.length+1+i),Y2,((gK m ks).take (i+1)).map ln,?_,?_,rfl,rfl,i+1,him,er,?_,rfl,_,rfl⟩,fun z=>by cases z⟩
   ·unfold iN;dsimp[bP,cw,aC,ao,ah,aT,aa,gZ,jV,bg];rw[show dr [none,none,some 0] [some (D.int (i:Int)),some 6e5]=[none,none,some (.int (i:Int))] from rfl,E9 h]
    have hlen:(Y2++O.lst ((List.range i).map fun j=>D.obj (Y2.length+1+j))::((gK m ks).take i).map ln).length=Y2.length+1+i:=by
     dsimp[Ry,Sx,Rz,Rn,oU];omega
    rw[hlen];congr 1;rw[Sh,Ta];congr 2;rw[Uc,To];congr 1;rw[show (gK m ks)[i]?=some ((ks.filter fun k=>decide ((i:Int)∈k)).map fun k=>k.getD 0 0+k.getD 1 0-(i:Int)) from by unfold gK;simp[him]];rfl
   ·rw[Rz,SZ];exact Qx (show i<1000 by omega) bf
   ·rw[U8,To];rfl)
  (xs:=(List.range m).map fun p:Nat=>D.int (p:Int)) (ys:=[]) (Z:=[none,some 6e5]) (Y1:=Y) (s:=[]) ⟨rfl,0,by omega,rfl,rfl,rfl,_,rfl⟩
 subst e1 e3 e4
 have him:i=m:=by
  by_cases z:i<m
  ·rw[UF (by simpa using z)]at e2;cases e2
  ·omega
 subst him;rw[Td (by rw[oU];exact Q8 _)]at run;exact run
theorem xF{w:List Int}(h:GW m ks)(h2:2<=m)(hw:vg m (m-2) (gK m ks) []=some w):dz [bN m ks] Y=.ok (iD w) Y:=by
 have m6:=h.m6
 obtain⟨Z',M',⟨n,N,acc,G,q1,q2,q3,q4,q5,o3,o4,o5,q6⟩,fr⟩:=iF (src:=.fix ((List.range (m-2)).map fun p:Nat=>D.int (p:Int))) (g:=ak 3) (fb:=iK)
  (fun zs Z M=>∃(n:Nat)(N:List 1e9)(acc:List Int)(G:aB),zs.length=n/\vg m n N acc=some w/\N.length=m/\acc.length+n<=10/\M=lS Y m N acc G/\∃o3 o4 o5,Z=[some 6e5,some 1e0,some (.obj (Y.length+1+m)),o3,o4,o5])
  (fun _ _ _=>trivial)
  (fun x r Z M ⟨n, N, acc, G, q1, q2, q3, q4, q5, o3, o4, o5, q6⟩ => by
   subst q5 q6;dsimp[Sx]at q1;subst q1;unfold vg at q2;split at q2
   ·rename_i p q hs;obtain⟨G',a4,a5,e⟩:=LC (ks:=ks) (Y:=Y) (G:=G) (N:=N) (acc:=acc) (o3:=some x) (o4:=o4) (o5:=o5) q3 m6 0e0 hs;exact⟨trivial,_,_,_,_,rfl,e,r.length,xf N p q,acc++[(q:Int)],G',rfl,q2,by unfold xf;simp[q3],by simp;omega,rfl,_,_,_,rfl⟩
   ·cases q2)
  (xs:=(List.range (m-2)).map fun p:Nat=>D.int (p:Int)) (Z:=[some 6e5,some 1e0,some (.obj (Y.length+1+m)),none,none,none]) (Y:=lS Y m (gK m ks) [] [])
  ⟨m-2,gK m ks,[],[],by simp,hw,oU,by simp;omega,rfl,_,_,_,rfl⟩
 subst q5 q6;have qn:n=0:=q1.symm;subst qn;have qw:acc=w:=by unfold vg at q2;exact Qp q2
 subst qw;unfold dz;rw[cu,show (some 6e5::List.replicate (6-1) none:Ro)=[some 6e5,none,none,none,none,none] from rfl];dsimp[qT];rw[aG,aS];dsimp[bP,cF,ar,au,aC,ah,aT,aa,cv];rw[vN (by omega:m<1000)];dsimp[aa,bg];rw[show dr [none,some 0] [some 6e5,none,none,none,none,none]=[none,some 6e5] from rfl,Fb h];dsimp[af,bH,aD,U3,U4];rw[aG,aS,cZ,au,aa,S8,Qu (SI _)];dsimp[af,bH,aD,U3,U4];rw[show ((Y++qF 8e6 m::(gK m ks).map ln)++[O.lst []]:aB)=lS Y m (gK m ks) [] [] from by simp[lS],show (Y++qF 8e6 m::(gK m ks).map ln).length=Y.length+1+m from by simp[oU];omega];rw[aG,gW];dsimp[cF,ar,au,aC,ah,aT,aa,cv]
 rw[show dG 5e6 (.int 2) (lS Y m (gK m ks) [] [])=.ok (.int ((m-2:Nat):Int)) (lS Y m (gK m ks) [] []) from by
  show ai.ok (D.int ((m:Int)-2)) _=_
  rw[show (m:Int)-2=((m-2:Nat):Int) from by omega]]
 dsimp[aa];rw[vN (by omega:m-2<1000)];dsimp[af,bg,fr,aD,bc,aA,ar,au,ao,ah,aa];rw[gk (Jy q3)];dsimp[af,aP];exact d5 zl
end
theorem xI{M:aB}{t m:Nat}{xs:List D}(hm:m<=6)(ht:M[t]?=some 2e9):∀(rs:List (Int×Int))(acc:List 1e9)(o:Option D),(∀p∈rs,PP m p) ->
  ∃o',ji (.own t xs) 3e8 (ak 0) bp ll (rs.map cg) [o] (M++[.set acc])=.ok [o'] (M++[.set ((rs.map mm).foldl nJ acc)])
 |[],acc,o,_=>by
  refine⟨o,?_⟩;rw[RY];unfold ji;rw[Qu (show cN (.own t xs) (M++[.set acc]) from aK ht)];rfl
 |p::rs,acc,o,h=>by
  obtain⟨o',e⟩:=xI hm ht rs (nJ acc (mm p)) (some (cg p)) fun q hq=>h q (QH _ hq);refine⟨o',?_⟩;have hp:=(h p QG).ok.prs 0e0
  have ee:ll 3e8 [some (cg p)] (M++[.set acc])=.ok [some (cg p)] (M++[.set (nJ acc (mm p))]):=by
   unfold ll Aw tG cg;dsimp[cb,ar,au,aA,ah,aa,Na,Nd,Sx,S8,Qu l2,ae];unfold Ga;rw[aw];dsimp only;rw[Qu (show [min p.1 p.2,max p.1 p.2]∈prs from hp)];dsimp[aa,ae];rw[show (M++[O.set acc]).set 3e8 (O.set (nJ acc [min p.1 p.2,max p.1 p.2]))=M++[O.set (nJ acc [min p.1 p.2,max p.1 p.2])] from l5];rfl
  rw[RZ];unfold ji;rw[Qu (show cN (.own t xs) (M++[.set acc]) from aK ht)];rw[show ak 0 (cg p) [o] (M++[.set acc])=.ok [some (cg p)] (M++[.set acc]) from rfl];dsimp[ae,aa];rw[show bp [some (cg p)] (M++[.set acc])=.ok true (M++[.set acc]) from rfl];dsimp[ae,aa,RI];rw[ee];dsimp[ae,aa];rw[e];rfl
theorem Ei{t:Nat}(h0:1<=m)(hm:m<=6)(ht:Y[t]?=some (.lst 11e0))(hps:∀p∈ps,PP m p):mi [.int m,.obj t] Y=.ok (bN m (cI (ps.map mm))) Y:=by
 have hks:∀k∈ps.map mm,oq m k:=fun k hk=>by obtain⟨p,hp,rfl⟩:=Te.mp hk;exact(hps p hp).ok
 obtain⟨Z',Y',⟨rs,o2,o3,e1,e2,e3⟩,run⟩:=iF (src:=.eno t 11e0) (g:=dc 2 (aW (ak 2) (aW (ak 3) (de)))) (fb:=n9)
  (fun xs Z M=>∃(rs:List (Nat×(Int×Int)))(o2 o3:Option D),xs=rs.map (fun r=>D.tup [.int (r.1:Nat),cg r.2])/\(M=Y/\∀r∈rs,PP m r.2)/\Z=[some 6e1,some (.obj t),o2,o3])
  (fun Z M hJJ => by
   obtain⟨_,_,_,_,e,_⟩:=hJJ
   rw[e.1];exact ht)
  (fun x xs Z M hJJ => by
   obtain⟨rs,o2,o3,e1,e2,e3⟩:=hJJ;subst e3;obtain⟨rfl,e2⟩:=e2;cases rs with
   |nil=>cases e1
   |cons r rs=>
    rw[RZ]at e1;injection e1 with h1 h2
    subst h1 h2;have hp:=e2 r QG;refine⟨ht,[some 6e1,some (.obj t),some (.int (r.1:Nat)),some (cg r.2)],M,[some 6e1,some (.obj t),some (.int (r.1:Nat)),some (cg r.2)],M,rfl,?_,rs,_,_,rfl,⟨rfl,fun z hz=>e2 z (QH _ hz)⟩,rfl⟩;unfold n9;dsimp[bw,bX,cq,aA,ar,au,ah,ao,aa,ae];rw[show eN [.int m,cg r.2] M=.ok 5e8 M from AI hp.1 hp.2.1 hp.2.2]
    dsimp[aa,ae,bL,TL,af,Sw,RH,bT])
  (xs:=fP 0 11e0) (Z:=[some 6e1,some (.obj t),none,none]) (Y:=Y)
  ⟨(List.range ps.length).zip ps, none, none, by
    have core:∀(l:List (Int×Int))(k:Nat),fP k (l.map cg)=((List.range' k l.length).zip l).map (fun r=>D.tup [.int (r.1:Nat),cg r.2]):=by
     intro l
     induction l with
     |nil=>intro k;rfl
     |cons p l ih=>
      intro k;dsimp[RZ,fP,Sx,List.range'_succ,UI];rw[ih (k+1)]
    rw[core,<- List.range_eq_range'],⟨rfl,fun r hr=>hps r.2 (Rk hr).2⟩,rfl⟩
 obtain⟨rfl,_⟩:=e2;subst e3;obtain⟨o',sl⟩:=xI hm ht ps [] none hps;unfold mi;rw[cS];dsimp[yy,List.replicate,aG,bw,bX,cq,aA,ar,au,ah,ao,aa,ae,AK h0 hm,bL,TL,af,Sw,RH,bT,aD,gW,cF];rw[show qI [.obj t] Y'=.ok (.eno t 11e0) Y' from by unfold qI;dsimp only;rw[ht]];dsimp[af,ae];rw[show (pJ.eno t 11e0).items=fP 0 11e0 from rfl,run];dsimp[aD,bc,cb,ar,au,aA,ah,ao,aa,ae];unfold vG;dsimp[cw,ao,ah,aa,ae];rw[d6 ht];dsimp[aa,ae,cK];rw[show dr [none] _=[none] from rfl,sl];dsimp[aa,ae];rw[show (ps.map mm).foldl nJ []=cT (ps.map mm) from rfl]
 have s2:di [.obj Y'.length] (Y'++[.set (cT (ps.map mm))])=.ok (.obj (Y'++[O.set (cT (ps.map mm))]).length) ((Y'++[.set (cT (ps.map mm))])++[.lst ((cI (ps.map mm)).map aq)]):=by
  unfold di;dsimp only;rw[aw];dsimp only;rw[j7]
 rw[s2];dsimp[aa,ae];rw[gk aw];dsimp[aa,ae,Sx,S8,Qu l2,af,aP];rw[Sh];exact d5 (kC (iX 0e0 0e0 hks))
def Df(left suf:List Int):Option Int:=match left.filter fun q=>!decide (q∈suf) with
 |[]=>none
 |c::r=>some (r.foldl min c)
noncomputable def za:List Int->List Int->List (Int×Int)->Option (List (Int×Int))
 |left,[],ps=>match left with
  |[a,b]=>some (ps++[(a,b)])
  |_=>none
 |left,p::suf,ps=>match Df left (p::suf) with
  |some x=>if x∈left then za (CQ x left) suf (ps++[(x,p)]) else none
  |none=>none
def PV(m:Nat)(p:Int×Int):Bool:=decide (0<=p.1)&&decide (p.1<(m:Int))&&decide (0<=p.2)&&decide (p.2<(m:Int)) && !decide (p.1=p.2)
noncomputable def nF(m:Nat)(w:List Int):Bool:=match za (rg m) w [] with
 |some ps=>ps.all (PV m)&&decide (ps.length<=10)&&(let ks:=cI (ps.map mm)
  decide (ks.length+1=m)&&((List.range m).all fun q:Nat=>decide ((q:Int)∈Bn ks 5 [0]))&&(vg m (m-2) (gK m ks) [] == some w))
 |none=>false
def m5(P:List Int->Bool)(m:Nat):Nat->List Int->Bool
 |0,acc=>P acc.reverse
 |k+1,acc=>(List.range m).all fun x:Nat=>m5 P m k ((x:Int)::acc)
theorem O3:m5 (nF 3) 3 1 []=true:=by decide +kernel
theorem O2:m5 (nF 4) 4 2 []=true:=by decide +kernel
theorem O1:m5 (nF 5) 5 3 []=true:=by decide +kernel
theorem Nx:m5 (nF 6) 6 3 [0]=true:=by decide +kernel
theorem Nw:m5 (nF 6) 6 3 [1]=true:=by decide +kernel
theorem Nv:m5 (nF 6) 6 3 [2]=true:=by decide +kernel
theorem Nu:m5 (nF 6) 6 3 [3]=true:=by decide +kernel
theorem Nt:m5 (nF 6) 6 3 [4]=true:=by decide +kernel
theorem Nr:m5 (nF 6) 6 3 [5]=true:=by decide +kernel
theorem O0:m5 (nF 6) 6 4 []=true:=by
 show ((List.range 6).all fun x:Nat=>m5 (nF 6) 6 3 [(x:Int)])=true;rw[TJ];intro x hx;have hx:=QC.mp hx
 match x,hx with
 |0,_=>exact Nx
 |1,_=>exact Nw
 |2,_=>exact Nv
 |3,_=>exact Nu
 |4,_=>exact Nt
 |5,_=>exact Nr
theorem IF{P:List Int->Bool}:∀{k:Nat}{acc s:List Int},m5 P m k acc=true->s.length=k->(∀p∈s,0<=p/\p<(m:Int))->P (acc.reverse++s)=true:=by
 intro k
 induction k with
 |zero=>
  intro acc s h hl _;have:s=[]:=Uw.mp hl;subst this;simpa[m5] using h
 |succ k ih=>
  intro acc s h hl hs;cases s with
  |nil=>simp at hl
  |cons x r=>
   unfold m5 at h;have hx:=hs x 0e6;have h1:=TJ.mp h x.toNat (QC.mpr 0e0);rw[show ((x.toNat:Nat):Int)=x from by omega]at h1;have:=ih h1 (by simpa using hl) fun p hp=>hs p (by simp[hp]);simpa using this
theorem LY(hk:∀k∈ks,oq m k):∀(n:Nat)(l:List Int)(j:Nat),(∀x∈l,R (mG ks) 0 j x)->∀q∈Bn ks n l,R (mG ks) 0 (j+n) q:=by
 intro n
 induction n with
 |zero=>intro l j h q hq;exact h q hq
 |succ n ih=>
  intro l j h q hq;have:=ih _ (j+1) (fun x hx=>?_) q hq
  ·rw[show j+(n+1)=j+1+n from by omega];exact this
  ·rcases QK.mp hx with hx | hx
   ·exact(h x hx).up
   ·obtain ⟨k, hkm, rfl⟩ := Te.mp hx;obtain⟨hk1,hk2⟩:=QB.mp hkm;obtain⟨a,b,rfl,_⟩:=hk k hk1;have ab:mG ks a b:=U6.mpr ⟨_,hk1,by simp⟩;have ba:mG ks b a:=U6.mpr ⟨_,hk1,by simp⟩;by_cases ha:a∈l
    ·rw[Qu (show decide (([a,b]:List Int).getD 0 0∈l)=true from Sr ha)];exact .inr ⟨a,ab,h a ha⟩
    ·rw [Qv (show ¬ decide (([a, b] : List Int).getD 0 0 ∈ l) = true from by simpa using ha)]
     have hb:b∈l:=by
      have:(decide (a∈l) != decide (b∈l))=true:=hk2;simpa[ha] using this
     exact .inr ⟨b,ba,h b hb⟩
theorem Br{w:List Int}(h3:3<=m)(h6:m<=6)(hw:oz m w=true):∃ps,za (rg m) w []=some ps/\(∀p∈ps,PP m p)/\ps.length<=10/\iu m (cI (ps.map mm))/\vg m (m-2) (gK m (cI (ps.map mm))) []=some w:=by
 unfold oz at hw;dsimp[RW,UH,TJ]at hw
 have c:nF m w=true:=by
  have fin:∀n,n=m->m5 (nF n) n (n-2) []=true->nF m w=true:=fun n e a=>by
   subst e;have:=IF a (s:=w) 0e0 fun p hp=>hw.2 p hp;simpa using this
  have:m=3\/m=4\/m=5\/m=6:=by omega
  rcases this with e|e|e|e
  ·exact fin 3 e.symm O3
  ·exact fin 4 e.symm O2
  ·exact fin 5 e.symm O1
  ·exact fin 6 e.symm O0
 unfold nF at c;split at c
 ·rename_i ps e;dsimp[RW,UH,TJ,UA]at c;obtain⟨⟨c1,c2⟩,⟨c3,c4⟩,c5⟩:=c
  have hp:∀p∈ps,PP m p:=fun p hp=>by
   have:=c1 p hp;unfold PV at this;dsimp[RW,UH,Vm,decide_eq_false_iff_not]at this;exact⟨⟨this.1.1.1.1,this.1.1.1.2⟩,⟨this.1.1.2,this.1.2⟩,this.2⟩
  have gw:=mH (by omega:1<=m) h6 hp;refine⟨ps,e,hp,c2,⟨gw,c3,fun q hq=>⟨0+5,?_⟩⟩,c5⟩;refine LY gw.2.2.2.2 5 [0] 0 (fun x hx=>by rw[SJ.mp hx];rfl) q ?_;have:=c4 q.toNat (QC.mpr 0e0)
  rwa [show ((q.toNat:Nat):Int)=q from by omega]at this
 ·cases c
section
variable{w:List Int}
abbrev tS(Y:aB)(left:List Int)(ps:List (Int×Int))(G:aB):aB:=Y++ln left::O.lst 11e0::G
theorem Ce{t:Nat}(ht:M[t]?=some (ln left))(hl:left.length<=100):
  compLoop (.own t (left.map D.int)) 3e8 (ak 0) i4 kg (left.map D.int) [none,some (iD w),some (.int (i:Int))] (M++[.lst []])=.ok 9e8 (M++[ln (left.filter fun q=>!decide (q∈w.drop i))]):=by
 have c:=fT (U:=Int) (en:=D.int) (src:=.own t (left.map D.int)) (g:=ak 0) (t:=i4) (e:=kg) (Y1:=M) (q:=fun q=>!decide (q∈w.drop i)) (h:=D.int) (fun Z=>∃o,Z=[o,some (iD w),some (.int (i:Int))]) (fun _=>aK ht) (us:=left) (acc:=[]) (Z:=[none,some (iD w),some (.int (i:Int))]) ⟨_,rfl⟩
  (by rw[S8];exact QD 0e0 bf)
  (fun q hq a Z ⟨o, e⟩ => by
   subst e;refine⟨[some (.int q),some (iD w),some (.int (i:Int))],⟨_,rfl⟩,rfl,?_,fun _=>rfl⟩;unfold i4;dsimp[bR,aC,xi,ao,ah,me,vC,sA,aa]
   rw[show yV (iD w) (some (i:Int)) none (M++[O.lst a])=.ok (iD (w.drop i)) (M++[O.lst a]) from by
    show ai.ok (D.tup (jz (w.map D.int) (some (i:Int)) none)) _=_
    rw[vE (r:=i) rfl,<- Tq]]
   dsimp[aa,Dq,RI,aO])
 rw[Sn]at c;exact c
theorem JW{p x:Int}{o6:Option D}(hl:left.length<=100)(hp:ps.length<=100)(hx:Df left (w.drop i)=some x)(hm:x∈left):
  ∃G',kc [some 5e6,some (iD w),some 1e0,some 5e1,some (.int (i:Int)),some 4e8,o6] (tS Y left ps G)=.next [some 5e6,some (iD w),some 1e0,some 5e1,some (.int (i:Int)),some 4e8,some (.int x)] (tS Y (CQ x left) (ps++[(x,p)]) G'):=by
 unfold Df at hx;cases ec:left.filter fun q=>!decide (q∈w.drop i) with
 |nil=>rw[ec]at hx;cases hx
 |cons c r=>
  rw[ec]at hx;have hx':r.foldl min c=x:=Qp hx;let M:=tS Y left ps G
  let G1:aB:=G++[ln (c::r)]
  have eM1:M++[ln (c::r)]=tS Y left ps G1:=by dsimp[M,tS,G1,Sh,Ta]
  have ht:M[8e6]?=some (ln left):=aw
  have c1:compLoop (.own 8e6 (left.map D.int)) 3e8 (ak 0) i4 kg (left.map D.int) [none,some (iD w),some (.int (i:Int))] (M++[.lst []])=.ok 9e8 (M++[ln (c::r)]):=by
   rw[Ce ht hl,ec]
  have mn:rf [.obj 3e8] (M++[ln (c::r)])=.ok (.int x) (M++[ln (c::r)]):=by
   rw[x8 aw,hx']
  have a1:dJ 5e1 [.tup [.int x,.int p]] (tS Y left ps G1)=.ok .non (tS Y left (ps++[(x,p)]) G1):=by
   unfold dJ;dsimp only;rw[pW];dsimp only;rw[Qu (by rw[Rz];exact Qx (show ps.length<1000 by omega) bf),DI];show ai.ok D.non (Y++ln left::O.lst (ps.map cg++[cg (x,p)])::G1)=ai.ok D.non (Y++ln left::O.lst ((ps++[(x,p)]).map cg)::G1);rw[To];rfl
  have r1:jB 1e0 [.int x] (tS Y left (ps++[(x,p)]) G1)=.ok .non (tS Y (CQ x left) (ps++[(x,p)]) G1):=by
   rw[sH (l:=left) aw hm,DJ]
  have n2:0+1+1<=sizeLine:=QD (by decide:2<=1000) bf;refine⟨G1,?_⟩;unfold kc;rw[aG,aS];dsimp[aA,ar,au,bP,cw,ao,ah,aa];rw[d6 ht];dsimp[aa,cK];rw[show dr [none,some 1,some 4] [some 5e6,some (iD w),some 1e0,some 5e1,some (.int (i:Int)),some 4e8,o6]=[none,some (iD w),some (.int (i:Int))] from rfl,c1];dsimp[aa,mn,af,bH,aD,U3,U4];rw[eM1,aG,g6,lD];dsimp[ao,ah,aa];rw[show oj 5e1 (tS Y left ps G1)=true from by unfold oj;dsimp only;rw[pW]];dsimp[RI,ar,au,cb,ao,ah,aa,Sx,S8,Qu n2,a1,af,aD];rw[g6,lD];dsimp[ao,ah,aa];rw[show oj 1e0 (tS Y left (ps++[(x,p)]) G1)=true from by unfold oj;dsimp only;rw[aw]];dsimp[RI,ar,au,ao,ah,aa,r1,af]
end
section
variable{w:List Int}
def FP(m:Nat)(d:D):Bool:=rJ (m:Int) d&&(match d with | .tup xs=>decide (xs.length+2=m)|_=>false)
theorem Hj{m:Int}(h:xs.all (cf 0 (m-1))=true):∃w:List Int,xs=w.map D.int/\∀p∈w,0<=p/\p<m:=by
 induction xs with
 |nil=>exact⟨[],rfl,by simp⟩
 |cons x r ih=>
  rw[Sa,RW]at h;obtain⟨w,rfl,hw⟩:=ih h.2;cases x with
  |int i=>
   have h1:=h.1;dsimp[cf,RW,UH]at h1;refine⟨i::w,rfl,fun p hp=>?_⟩;rcases QI.mp hp with rfl|hp
   ·omega
   ·exact hw p hp
  |_=>cases h.1
theorem LR(h:FP m d=true):∃w,d=iD w/\oz m w=true:=by
 unfold FP at h;rw[RW]at h;cases d with
 |tup xs=>
  obtain⟨w,rfl,hw⟩:=Hj (show xs.all (cf 0 ((m:Int)-1))=true from h.1);refine⟨w,rfl,?_⟩;have h2:=Vd h.2;unfold oz;dsimp[RW,UH,TJ];exact⟨by simpa using h2,hw⟩
 |_=>cases h.1
theorem JU{ps':List (Int×Int)}:∀(suf:List Int)(i:Nat)(left:List Int)(ps:List (Int×Int))(G:aB)(o4 o5 o6:Option D),w.drop i=suf->za left suf ps=some ps'->left.length<=100->ps.length+suf.length<=100 ->
  ∃a b ps2 G' o4' o5' o6',ps'=ps2++[(a,b)]/\iS (.fix (fP 0 (w.map D.int))) (dc 2 (aW (ak 4) (aW (ak 5) de))) kc (fP i (suf.map D.int)) [some 5e6,some (iD w),some 1e0,some 5e1,o4,o5,o6] (tS Y left ps G)=.next [some 5e6,some (iD w),some 1e0,some 5e1,o4',o5',o6'] (tS Y [a,b] ps2 G'):=by
 intro suf
 induction suf with
 |nil=>
  intro i left ps G o4 o5 o6 hd h hl hp;unfold za at h;split at h
  ·rename_i a b;cases h;refine⟨a,b,ps,G,o4,o5,o6,rfl,?_⟩;dsimp[RY,fP];unfold iS;rw[Qu (show cN (.fix (fP 0 (w.map D.int))) _ from trivial)]
  ·cases h
 |cons p suf ih=>
  intro i left ps G o4 o5 o6 hd h hl hp;unfold za at h;split at h
  ·rename_i x hx;split at h
   ·rename_i hm;rw[<- hd]at hx;obtain⟨G1,e⟩:=JW (m:=m) (w:=w) (Y:=Y) (left:=left) (ps:=ps) (G:=G) (i:=i) (p:=p) (o6:=o6) hl (by simp at hp;omega) hx hm;have hd':w.drop (i+1)=suf:=by rw[<- List.drop_drop,hd];rfl
    obtain⟨a,b,ps2,G',b4,b5,b6,q1,q2⟩:=ih (i+1) (CQ x left) (ps++[(x,p)]) G1 (some (.int (i:Int))) (some 4e8) (some (.int x)) hd' h (QD (List.length_eraseIdx_le ..) hl) (by simp at hp⊢;omega);refine⟨a,b,ps2,G',b4,b5,b6,q1,?_⟩;dsimp[RZ,fP];unfold iS;rw[Qu (show cN (.fix (fP 0 (w.map D.int))) _ from trivial)];rw[show dc 2 (aW (ak 4) (aW (ak 5) de)) (.tup [.int (i:Int),.int p]) [some 5e6,some (iD w),some 1e0,some 5e1,o4,o5,o6] (tS Y left ps G)=.ok [some 5e6,some (iD w),some 1e0,some 5e1,some (.int (i:Int)),some 4e8,o6] (tS Y left ps G) from rfl];rw[af,e,oG,q2]
   ·cases h
  ·cases h
theorem MF(h3:3<=m)(h6:m<=6):bq [.int (m:Int),.int 3,.int 6] Y=.ok 5e8 Y:=by
 rw[oP (by simp[Kn])];dsimp[cf];rw[Sr 0e0,Sr 0e0];rfl
theorem NT(h3:3<=m)(h6:m<=6)(hw:oz m w=true)(hr:za (rg m) w []=some ps)(hp:∀p∈ps,PP m p)(hl:ps.length<=10):eM [.int (m:Int),iD w] Y=.ok (bN m (cI (ps.map mm))) Y:=by
 unfold oz at hw;dsimp[RW,UH,TJ]at hw
 have hkn:Kn Y (iD w):=by
  dsimp[Kn];refine⟨by simp;omega,iE.mpr fun x hx=>?_⟩;obtain⟨k,_,rfl⟩:=Te.mp hx;simp[Kn]
 have pl:cO [.int (m:Int),iD w] Y=.ok 5e8 Y:=by
  rw[mR hkn];congr 2;show (w.map D.int).all (cf 0 ((m:Int)-1))=true;rw[UL,TJ];intro p hp;have:=hw.2 p hp;dsimp[Function.comp,cf];rw[Sr 0e0,Sr 0e0];rfl
 obtain⟨a,b,ps2,G,o4,o5,o6,q1,q2⟩:=JU (m:=m) (w:=w) (Y:=Y) w 0 (rg m) [] [] none none none rfl hr (by unfold rg;simp;omega) 10e7
 have lr:kX [.int (m:Int)] Y=.ok 1e0 (Y++[ln (rg m)]):=by
  unfold kX;dsimp only;rw[Qu 0e0,Kx]
 let M1:aB:=tS Y [a,b] ps2 G++[O.lst [cg (a,b)]]
 have hl2:ps2.length<=9:=by rw[q1]at hl;simp at hl;omega
 have ad:bF 5e1 (.obj (tS Y [a,b] ps2 G).length) M1=.ok (.obj M1.length) (M1++[O.lst 11e0]):=by
  unfold bF;dsimp only;rw[show M1[Y.length+1]?=some (O.lst (ps2.map cg)) from aK pW,show M1[(tS Y [a,b] ps2 G).length]?=some (O.lst [cg (a,b)]) from aw];dsimp only;rw[Qu (by simp;exact QD 0e0 bf),q1,To];rfl
 have wo:=Ei (Y:=M1++[O.lst 11e0]) (m:=m) (t:=M1.length) (ps:=ps) 0e0 h6 aw hp;have n1:0+1<=sizeLine:=QD (by decide:1<=1000) bf;unfold eM;rw[cS,show (some (D.int (m:Int))::some (iD w)::List.replicate (7-2) none:Ro)=[some 5e6,some (iD w),none,none,none,none,none] from rfl];dsimp[mW];rw[aG,bw];dsimp[bX,cq,aA,ar,au,ah,aT,aa,MF h3 h6,ae,bL,TL,af,Sw,RH,bT,aD];rw[aG,bw];dsimp[gU,bX,cq,bR,aC,aA,ar,au,ah,ao,aT,aa,pl,ae,bL,TL,Sw,RH,dH];rw[show dG 5e6 (.int 2) Y=.ok (.int ((m:Int)-2)) Y from rfl];dsimp[aa,cE,RI,Rz];rw[show (!(((w.length:Nat):Int) == (m:Int)-2))=false from by simp;omega];dsimp[aO,af,Sw,RH,bT,aD];rw[aG,aS];dsimp[aA,ar,au,ah,aa,lr,af,bH,aD,U3,U4];rw[aG,aS,cZ,au,aa,S8,Qu (SI _)];dsimp[af,bH,aD,U3,U4];rw[show (Y++[ln (rg m)]++[O.lst []]:aB)=tS Y (rg m) [] [] from by simp[tS],show (Y++[ln (rg m)]).length=Y.length+1 from by simp];rw[aG,gW];dsimp[cF,ar,au,ao,ah,aa];rw[show qI [iD w] (tS Y (rg m) [] [])=.ok (.fix (fP 0 (w.map D.int))) (tS Y (rg m) [] []) from rfl];dsimp[af,bg,q2,aD,bc,aA,ar,au,aC,cZ,ao,ah,aa];rw[gk (show (tS Y [a,b] ps2 G)[8e6]?=some (ln [a,b]) from aw)];dsimp[aa,Sx,S8,Qu n1];rw[show bF 5e1 (.obj (tS Y [a,b] ps2 G).length) (tS Y [a,b] ps2 G++[O.lst [D.tup ([a,b].map D.int)]])=_ from ad];dsimp[aa,wo,ae,af,aP];rw[show M1++[O.lst 11e0]=Y++(ln [a,b]::O.lst (ps2.map cg)::(G++[O.lst [cg (a,b)]]++[O.lst 11e0])) from by simp[M1,tS]];exact d5 (kC (mH 0e0 h6 hp))
theorem JV (hk:Kn Y d) (h:cf 3 6 d=false) {e:D}:eM [d,e] Y=.exc ⟨"NoNumber",[]⟩ Y:=by
 unfold eM;rw[cS];dsimp[mW];rw[aG,bw];dsimp[bX,cq,aA,ar,au,ah,aT,aa,oP hk,h,ae,bL,TV,af,RI,ma,oF,kv,pX]
theorem NF (h3:3<=m) (h6:m<=6) (hk:Kn Y d) (h:FP m d=false):eM [.int (m:Int),d] Y=.exc ⟨"NoTree",[]⟩ Y:=by
 unfold eM;rw[cS];dsimp[mW];rw[aG,bw];dsimp[bX,cq,aA,ar,au,ah,aT,aa,MF h3 h6,ae,bL,TL,af,Sw,RH,bT,aD];rw[aG,bw];cases hp:rJ (m:Int) d with
 |false=>
  dsimp[gU,bX,cq,aA,ar,au,ah,ao,aa,mR hk,hp,ae,bL,TV,RI,af,ma,oF,kv,pX]
 |true=>
  cases d with
  |tup xs=>
   have hx:¬ xs.length+2=m:=fun z=>by
    unfold FP at h;rw[hp]at h;have h':(true&&decide (xs.length+2=m))=false:=h;rw[Sr z]at h';cases h'
   dsimp[gU,bX,cq,bR,aC,aA,ar,au,ah,ao,aT,aa,mR hk,hp,ae,bL,TL,Sw,RH,dH];rw[show dG 5e6 (.int 2) Y=.ok (.int ((m:Int)-2)) Y from rfl];dsimp[aa,cE,RI];rw[show (!(((xs.length:Nat):Int) == (m:Int)-2))=true from by simp;omega];dsimp[aO,af,RI,ma,oF,kv,pX]
  |_=>cases hp
theorem JI{x:D}(hk:Kn M x):gF [some x,some 5e6] M=.ok (.bl (cf 0 ((m:Int)-1) x)) M:=by
 unfold gF;dsimp[fv,aA,ar,au,ah,aa,p7 hk,aO];cases x with
 |int i=>
  dsimp[isInt,RI,mf,aT,ah,ao,aa,cG,aO,cf];by_cases h0:0<=i
  ·rw [show cA .LtE 0 i = true from Sr h0];dsimp[RI,cG,ao,ah,aa];congr 2;rw[Sr h0,Va];show decide (i<(m:Int))=_;by_cases h1:i<(m:Int)
   ·rw[Sr h1,Sr 0e0]
   ·rw[Qr h1,Qr 0e0]
  ·rw[show cA .LtE 0 i=false from Qr h0,Qr h0];rfl
 |_=>rfl
theorem xD(hk:Kn Y d):dU [.int (m:Int),d] Y=.ok (.bl (FP m d)) Y:=by
 unfold dU;rw[cS,show (some (D.int (m:Int))::some d::List.replicate (2-2) none:Ro)=[some 5e6,some d] from rfl];dsimp[kN];rw[aG,bw];cases d with
 |tup xs=>
  have hks:xs.length<1000/\Kns Y xs:=by simpa only[Kn] using hk
  dsimp[gU,bX,cq,fI,bR,aC,aA,ar,au,ah,ao,aT,aa,kF hk,eF,bL,TL,Sw,RH,dH];rw[show dG 5e6 (.int 2) Y=.ok (.int ((m:Int)-2)) Y from rfl];dsimp[aa,cE,RI];by_cases hx:xs.length+2=m
  ·rw [show (!(((xs.length : Nat) : Int) == (m : Int) - 2)) = false from by simp; omega];dsimp[aO,af,Sw,RH,bT,aD,bc,aA,ar,au,bP,cw,ao,ah,aa,jV,bg];rw[show dr [none,some 0] [some (D.int (m:Int)),some (D.tup xs)]=[none,some 5e6] from rfl];rw[sO (h:=cf 0 ((m:Int)-1)) (QD 0e0 bf) fun x hx a=>JI (uy (fun k tn h=>AC h) (iE.mp hks.2 x hx))];dsimp[aa];rw[jW aw];dsimp[af,aP]
   rw[show FP m (.tup xs)=(xs.map (cf 0 ((m:Int)-1))).all id from by
    unfold FP;show (xs.all (cf 0 ((m:Int)-1))&&decide (xs.length+2=m))=_;rw[Sr hx,Bool.and_true,UL]
    rfl]
   exact d5 0e6
  ·rw [show (!(((xs.length : Nat) : Int) == (m : Int) - 2)) = true from by simp; omega];dsimp[aO,af,RI,bc,aT,gT,aP]
   rw[show FP m (.tup xs)=false from by
    unfold FP;show (xs.all (cf 0 ((m:Int)-1))&&decide (xs.length+2=m))=_
    rw[Qr hx,TX]]
   exact aL 0e6
 |_=>
  dsimp[gU,bX,cq,fI,ao,ah,aa,kF hk,eF,bL,TV,RI,af,bc,aT,gT,aP];exact aL 0e6
end
theorem zt{c:Str}(h:Y[n]?=some (.exc c))(hk:known.contains c=true):nI subs known (.obj n) Y=.ok (.bl (subs.contains c)) Y:=by
 unfold nI;dsimp only;rw[h];dsimp only;rw[Qu hk]
theorem rV{a b:Nat}(h:Y[a]?=some 2e9)(g:Y[b]?=some (.lst ys))(hn:xs.length+ys.length<=1000000):bF 11e6 (.obj b) Y=.ok 1e0 (Y++[.lst (xs++ys)]):=by
 unfold bF;dsimp[h,g];rw[Qu (QD hn 0e4)]
theorem l4:(4:Nat)<=sizeLine:=by decide
theorem l8:(8:Nat)<=sizeLine:=by decide
abbrev sk:List D:=[.str "place",.str "number",.str "line",.str "root",.str "tree",.str "web",.str "text",.str "great"]
abbrev kA(p:Bool):List D:=[D.bl false,D.bl p,D.bl false,D.bl false]
abbrev kB(p:Bool):List D:=[D.bl (!p),D.bl false,D.bl false,D.bl false]
abbrev kR(p:Bool)(Y:aB):aB:=Y++[O.lst (kA p)]++[O.lst (kB p)]
abbrev kS(p:Bool)(Y:aB):aB:=kR p Y++[O.lst (kA p++kB p)]
theorem IU{c:Str}(p:Bool)(cp:(["NoNumber"]:List Str).contains c=p)(cr:(["NoTree"]:List Str).contains c=!p)(c0:([]:List Str).contains c=false)(ck:(["NoNumber", "NoTree"]:List Str).contains c=true)(h:Y[n]?=some (.exc c)):cP [.obj n] Y=.ok (.str (if p then "number" else "tree")) Y:=by
 have h1:(Y++[O.lst (kA p)])[n]?=some (.exc c):=aK h;have h2:(kR p Y)[n]?=some (.exc c):=aK h1;have h3:(kS p Y)[n]?=some (.exc c):=aK h2;have m3:(kS p Y)[(kR p Y).length]?=some (.lst (kA p++kB p)):=aw;have m4:(kS p Y++[O.lst sk])[(kR p Y).length]?=some (.lst (kA p++kB p)):=aK m3;have k4:(kS p Y++[O.lst sk])[(kS p Y).length]?=some (.lst sk):=aw;have a1:=rV (Y:=kR p Y) (a:=8e6) (b:=(Y++[O.lst (kA p)]).length) (xs:=kA p) (ys:=kB p) (aK aw) aw (show 8<=1000000 by decide)
 have c1:mM (.obj (kR p Y).length) [.bl true] (kS p Y)=.ok (.int 1) (kS p Y):=by
  unfold mM;dsimp only;rw[m3];cases p <;> rfl
 have i1:mL (.obj (kR p Y).length) [.bl true] (kS p Y++[O.lst sk])=.ok (.int (if p then 1 else 4)) (kS p Y++[O.lst sk]):=by
  unfold mL;dsimp only;rw[m4];dsimp only;rw[Qu ⟨by cases p <;> rfl,by simp,by cases p <;> rfl⟩];cases p <;> rfl
 have e3:oj (.obj (kR p Y).length) (kS p Y)=true:=by unfold oj;dsimp only;rw[m3]
 have e4:oj (.obj (kR p Y).length) (kS p Y++[O.lst sk])=true:=by unfold oj;dsimp only;rw[m4]
 unfold cP;rw[cu];dsimp[mF,List.replicate,aG,aS,cZ,ar,au,fI,ah,aa,ae,zt h ck,cp,cr,c0,ck];rw[Qu (show (kA p).length<=sizeLine from l4)];dsimp[af,ae];rw[show ak 1 (D.obj 8e6) [some (D.obj n),none] (Y++[O.lst (kA p)])=.ok [some (D.obj n),some (D.obj 8e6)] (Y++[O.lst (kA p)]) from rfl];dsimp[af,aD,aG,aS,aC,cZ,ar,au,fI,ah,ao,aa,ae,zt h1 ck,cp,cr,c0,ck];rw[Qu (show (kB p).length<=sizeLine from l4)];dsimp[aa,ae];rw[a1];dsimp[af,ae];rw[show ak 1 (D.obj (kR p Y).length) [some (D.obj n),some (D.obj 8e6)] (kS p Y)=.ok [some (D.obj n),some (D.obj (kR p Y).length)] (kS p Y) from rfl];dsimp[af,aD,aG,bw,gU,bX,cq,fI,aC,ar,au,ah,ao,aT,aa,ae,zt h3 ck,cp,cr,c0,ck,bL,TL,Sw,RH];unfold gb;dsimp[aC,lD,ar,au,ah,ao,aT,aa,ae,e3,RI,c1,cE,aO];rw[show (!((1:Int) == 1))=false from rfl];dsimp[af,Sw,RH,bT,aD,bc,aC,cZ,ar,au,aT,aa,ae];rw[Qu (show [D.str "place",D.str "number",D.str "line",D.str "root",D.str "tree",D.str "web",D.str "text",D.str "great"].length<=sizeLine from l8)];dsimp[aa,ae,lD,ar,au,ao,ah,aT,e4,RI,i1];rw[eQ (xs:=sk) (d:=.str (if p then "number" else "tree")) k4 (by cases p <;> rfl)];dsimp[af,ae,aP,Sh];exact d5 0e6
theorem ny:(["NoNumber", "NoTree"]:List Str).contains "NoNumber" = true:=by decide +kernel
theorem j8:(["NoNumber", "NoTree"]:List Str).contains "NoTree" = true:=by decide +kernel
theorem Fm(h:Y[n]?=some (.exc "NoNumber")):cP [.obj n] Y=.ok (.str "number") Y:=IU true 0e9 0e9 0e9 ny h
theorem qf(h:Y[n]?=some (.exc "NoTree")):cP [.obj n] Y=.ok (.str "tree") Y:=IU false 0e9 0e9 0e9 j8 h
section
variable{e r:D}
theorem Dd:dE [some (.int 0),some d,some e,none] Y=(eK [d] Y).bindS fun r Y=>.ret r Y:=by
 unfold dE;rw[bc,xj];dsimp[bR,aC,ah,ao,aT,aa,cE,Sw,RH,aO,aA,ar,au];rw[show ((0:Int) == 0)=true from rfl];dsimp[RI]
theorem Dc:dE [some (.int 1),some d,some e,none] Y=(eM [d,e] Y).bindS fun r Y=>.ret r Y:=by
 unfold dE;rw[bc,xj];dsimp[bR,aC,ah,ao,aT,aa,cE,Sw,RH,aO,aA,ar,au];rw[show ((1:Int) == 0)=false from rfl];dsimp[Sw,RH]
theorem AE{k:Int}(h:dE [some (.int k),some d,some e,none] Y=.ret r Y)(hr:r.low 8e6):bU [.int k,d,e] Y=.ok r Y:=by
 unfold bU;rw[pY];dsimp[mx,List.replicate];unfold CZ;rw[h];dsimp[aP];exact aL hr
theorem rM{k:Int}{c:Str}(h:dE [some (.int k),some d,some e,none] Y=.exc ⟨c,[]⟩ Y)(hc:(["NoNumber", "NoTree"]:List Str).contains c=true)(hx:∀(M:aB) (n:Nat),M[n]?=some (.exc c)->cP [.obj n] M=.ok (.str x) M):bU [.int k,d,e] Y=.ok (.str x) Y:=by
 unfold bU;rw[pY];dsimp[mx,List.replicate];unfold CZ;rw[h];dsimp only;rw[Qu hc];unfold nA;rw[show ((List.replicate 4 none).set 3 (some (D.obj 8e6)):Ro)=[none,none,none,some 1e0] from rfl];rw[bc];dsimp[aA,ar,au,ao,ah,aa];rw[hx _ _ (show (Y++[O.exc c])[8e6]?=some (.exc c) from aw)];dsimp[af];unfold SO.ro;dsimp only;rw[aP];exact d5 0e6
end
theorem vW{x:D}{p:PyData}(e:nE Y x=some p)(f:dN p=true):f9 neg x x Y=.ok (.bl (!neg)) Y:=by
 unfold f9;rw[e];dsimp only;rw[Qu ⟨f,f⟩,SeqAt.eqv_refl _ (cJ f)];cases neg <;> rfl
theorem Fw:dN (.str "tree")=true:=by decide +kernel
theorem Ir:dN (.str "number")=true:=by decide +kernel
section
theorem vT{w:List Int}(h:w.length<1000):Kn Y (iD w):=by
 dsimp[Kn];refine⟨by simpa using h,iE.mpr fun x hx=>?_⟩;obtain⟨k,_,rfl⟩:=Te.mp hx;simp[Kn]
theorem Em(h3:3<=m)(h6:m<=6)(hk:Kn Y d):cM [.int (m:Int),d] Y=.ok 5e8 Y:=by
 cases hi:FP m d with
 |true=>
  obtain⟨w,rfl,hw⟩:=LR hi;obtain⟨ps,r1,r2,r3,T,r5⟩:=Br h3 h6 hw;have to:bU [.int 1,.int (m:Int),iD w] Y=.ok (bN m (cI (ps.map mm))) Y:=AE (by rw[Dc,NT h3 h6 hw r1 r2 r3,af]) (kC T.gw);obtain⟨b,lt,hb⟩:=DS (Y:=Y) T.gw;have hb':b=true:=hb.mpr T;subst hb';have lw:=xF (Y:=Y) T.gw 0e0 r5;unfold cM;rw[cS,show (some (D.int (m:Int))::some (iD w)::List.replicate (3-2) none:Ro)=[some 5e6,some (iD w),none] from rfl];dsimp[gJ];rw[aG,aS];dsimp[aA,ar,au,aT,ah,ao,aa,to,af,bH,aD,U3,U4];rw[aG,bw];dsimp[bX,cq,aA,ar,au,ah,ao,aa,xD hk,hi,bL,TL,af,Sw,RH,bT,aD,bc];dsimp[fv,fI,aC,aA,ar,au,aT,ah,ao,aa];rw[show eP "tuple" (bN m (cI (ps.map mm))) Y=.ok 5e8 Y from rfl];dsimp[aa,aO,RI,cv,cE,Sw,RH];rw[show ((m:Int) == (m:Int))=true from by simp];dsimp[RI,lt,aa,aO,lw];rw[show f9 false (iD w) (iD w) Y=.ok 5e8 Y from vW (p:=eY w) xU yl];dsimp[af,aP];exact aL 0e6
 |false=>
  have to:bU [.int 1,.int (m:Int),d] Y=.ok (.str "tree") Y:=rM (c:="NoTree") (by rw[Dc,NF h3 h6 hk hi,jM]) j8 fun M n h=>qf h;unfold cM;rw[cS,show (some (D.int (m:Int))::some d::List.replicate (3-2) none:Ro)=[some 5e6,some d,none] from rfl];dsimp[gJ];rw[aG,aS];dsimp[aA,ar,au,aT,ah,ao,aa,to,af,bH,aD,U3,U4];rw[aG,bw];dsimp[bX,cq,aA,ar,au,ah,ao,aa,xD hk,hi,bL,TV,af,RI,bc,aC,aT];rw[show f9 false (.str "tree") (.str "tree") Y=.ok 5e8 Y from vW (p:=.str "tree") rfl Fw];dsimp[af,gT,aP];exact aL 0e6
end
theorem sT(h:xs.length+ys.length<=1000):bF (.tup xs) (.tup ys) M=.ok (.tup (xs++ys)) M:=by
 unfold bF;dsimp only;rw[Qu (QD h bf)]
theorem Ii{a b c a' b' c':Int}(hp:M[i]?=some 7e4)(h:Kn M d):Kn (M.set i (bD a' b' c')) d:=LG hp h
section
variable{w:List Int}
theorem AN{a b c:Int}(hp:Y[i]?=some 7e4)(hl:w.length<=4)(h3:3<=m)(h6:m<=6):∃d Y',dZ [iD w,.int (m:Int),.obj i] Y=.ok d Y'/\Pn Y i Y'/\Kn Y' d:=by
 have hi:i<Y.length:=(QM.mp hp).1;obtain⟨r,a1,b1,c1,r0,r1,er,P1⟩:=(Pn.self hp).draw (m:=(w.length:Int)+1) hi 0e0 0e0;obtain⟨r,rfl⟩:∃k:Nat,r=(k:Int):=⟨r.toNat,by omega⟩;have hr:r<=w.length:=by omega
 let M1:aB:=Y.set i (bD a1 b1 c1)
 obtain⟨x,a2,b2,c2,x0,x1,ex,P2⟩:=P1.draw (m:=(m:Int)) hi 0e0 0e0;let M2:aB:=M1.set i (bD a2 b2 c2)
 let O7:List D:=[.int (m:Int),.int (-1),.bl true,.non,.str "0",.tup [.int 0],.int x]
 let M3:aB:=M2++[O.lst O7]
 obtain⟨j,a3,b3,c3,j0,j1,ej,P4⟩:=(P2.app (g:=[O.lst O7])).draw (m:=7) hi 0e4 0e4;let M4:aB:=M3.set i (bD a3 b3 c3)
 have lM2:M2.length=Y.length:=by simp[M2,M1]
 have x4:M4[M2.length]?=some (.lst O7):=by
  rw[QP 0e0];exact aw
 obtain⟨od,hod,eod⟩:∃y∈O7,atI O7 j=some y:=by
  have hj:j.toNat<O7.length:=by show j.toNat<7;omega
  exact⟨O7[j.toNat],Uv hj,nR j0 (Ux hj)⟩
 have kod:∀M:aB,Kn M od:=fun M=>by
  dsimp[O7,QI,SS,SU]at hod;rcases hod with rfl|rfl|rfl|rfl|rfl|rfl|rfl <;> simp[Kn,Kns]
 let ws:List D:=w.map D.int
 have lws:ws.length=w.length:=by simp[ws]
 let t0:D:=.tup (ws.take r++[od]++ws.drop (r+1))
 let t1:D:=.tup (ws.take r++[od]++ws.drop r)
 let t2:D:=.tup (ws.take r++ws.drop (r+1))
 let L1:List D:=[t0,t1,t2]
 let M5:aB:=M4++[O.lst L1]
 let M6:aB:=M5++[O.lst ws]
 let L2:List D:=[.obj M5.length,.non,.int 0,.tup [iD w],.tup ws.reverse]
 let M8:aB:=M6++[O.lst L2]++[O.lst (L1++L2)]
 have P8:Pn Y i M8:=by
  have:M8=M4++([O.lst L1]++[O.lst ws]++[O.lst L2]++[O.lst (L1++L2)]):=by dsimp[M8,M6,M5,Sh]
  rw[this];exact P4.app
 obtain⟨k,a9,b9,c9,k0,k1,ek,P9⟩:=P8.draw (m:=8) hi 0e4 0e4;let M9:aB:=M8.set i (bD a9 b9 c9)
 have x9:M9[(M6++[O.lst L2]).length]?=some (.lst (L1++L2)):=by
  rw[QP (by dsimp[M6,M5,M4,M3,Ry,R9,Sx,S8];omega)];exact aw
 have kws:∀(M:aB)(y:D),y∈ws->Kn M y:=fun M y hy=>by
  obtain⟨z,_,rfl⟩:=Te.mp hy;simp[Kn]
 have ktp:∀(M:aB)(l:List D),l.length<1000->(∀y∈l,y∈ws\/y=od)->Kn M (.tup l):=fun M l h1 h2=>by
  dsimp[Kn];refine⟨h1,iE.mpr fun y hy=>?_⟩;rcases h2 y hy with h|h
  ·exact kws M y h
  ·rw[h];exact kod M
 have ob:Kn M8 (.obj M5.length):=by
  dsimp[Kn];refine⟨"list",?_,by decide,by decide,by decide⟩;unfold kP;dsimp only;rw[show M8[M5.length]?=some (.lst ws) from aK (aK aw)]
 have all:∀y∈L1++L2,Kn M8 y:=by
  intro y hy;dsimp[L1,L2,Ta,Sn,QI,SS,SU]at hy;rcases hy with rfl|rfl|rfl|rfl|rfl|rfl|rfl|rfl
  ·refine ktp _ _ (by simp; omega) fun y hy => ?_;dsimp[QK,SJ]at hy;rcases hy with (hy|hy)|hy
   ·exact .inl (Tu hy)
   ·exact .inr hy
   ·exact .inl (Tv hy)
  ·refine ktp _ _ (by simp; omega) fun y hy => ?_;dsimp[QK,SJ]at hy;rcases hy with (hy|hy)|hy
   ·exact .inl (Tu hy)
   ·exact .inr hy
   ·exact .inl (Tv hy)
  ·refine ktp _ _ (by simp; omega) fun y hy => ?_;dsimp[QK]at hy;rcases hy with hy|hy
   ·exact .inl (Tu hy)
   ·exact .inl (Tv hy)
  ·exact ob
  ·simp[Kn]
  ·simp[Kn]
  ·have:=vT (Y:=M8) (w:=w) 0e0;dsimp[Kn,Kns,Sx,S8,Vl]at this⊢;exact⟨by omega,this⟩
  ·exact ktp _ _ 10e7 fun y hy=>.inl (List.mem_reverse.mp hy)
 obtain⟨y,hy,ey⟩:∃y∈L1++L2,atI (L1++L2) k=some y:=by
  have hj:k.toNat<(L1++L2).length:=by show k.toNat<8;omega
  exact⟨(L1++L2)[k.toNat],Uv hj,nR k0 (Ux hj)⟩
 obtain⟨u1,u2,u3,hq⟩:=P8.get hi;obtain⟨Y',eg,P10,k10⟩:=P9.gcK hi (Ii hq (all y hy));refine⟨y,Y',?_,P10,k10⟩;have n1:0+1<=sizeLine:=l1;have n3:0+1+1+1<=sizeLine:=QD 0e4 bf;have n5:0+1+1+1+1+1<=sizeLine:=QD 0e4 bf;have n7:0+1+1+1+1+1+1+1<=sizeLine:=QD 0e4 bf
 have q1:∀M:aB,yV (iD w) none (some (r:Int)) M=.ok (.tup (ws.take r)) M:=fun M=>by
  show ai.ok (D.tup (jz ws none (some (r:Int)))) M=_;rw[zx 0e0]
 have q2:∀M:aB,yV (iD w) (some ((r:Int)+1)) none M=.ok (.tup (ws.drop (r+1))) M:=fun M=>by
  show ai.ok (D.tup (jz ws (some ((r:Int)+1)) none)) M=_;rw[vE (r:=r+1) (by push_cast;rfl)]
 have q3:∀M:aB,yV (iD w) (some (r:Int)) none M=.ok (.tup (ws.drop r)) M:=fun M=>by
  show ai.ok (D.tup (jz ws (some (r:Int)) none)) M=_;rw[vE (r:=r) rfl]
 have lt:(ws.take r).length<=4:=by rw[Rn];omega
 have ld:∀n,(ws.drop n).length<=4:=fun n=>by rw[RM];omega
 have d1:∀M:aB,bF (.tup (ws.take r)) (.tup [od]) M=.ok (.tup (ws.take r++[od])) M:=fun M=>sT (by dsimp[Sx,S8];omega);have d2:∀(M:aB)(n:Nat),bF (.tup (ws.take r++[od])) (.tup (ws.drop n)) M=.ok (.tup (ws.take r++[od]++ws.drop n)) M:=fun M n=>sT (by have:=ld n;dsimp[Ry,Sx,S8];omega);have d3:∀M:aB,bF (.tup (ws.take r)) (.tup (ws.drop (r+1))) M=.ok (.tup (ws.take r++ws.drop (r+1))) M:=fun M=>sT (by have:=ld (r+1);omega);have li:lE [iD w] M5=.ok (.obj M5.length) M6:=rfl
 have ad:bF (.obj M4.length) (.obj M6.length) (M6++[O.lst L2])=.ok (.obj (M6++[O.lst L2]).length) M8:=by
  have:=rV (Y:=M6++[O.lst L2]) (a:=M4.length) (b:=M6.length) (xs:=L1) (ys:=L2) (aK (aK aw)) aw (show 3+5<=1000000 by decide);exact this
 unfold dZ;rw[pY,show (some (iD w)::some (D.int (m:Int))::some 10e2::List.replicate (6-3) none:Ro)=[some (iD w),some 5e6,some 10e2,none,none,none] from rfl];dsimp[qV];rw[aG,aS];dsimp[aA,ar,au,aC,ah,ao,aT,aa,dH,eV,Rz,er,af,bH,aD,U3,U4]
 have rv:∀M:aB,oD (iD w) (.int (-1)) M=.ok (.tup ws.reverse) M:=fun M=>by
  unfold oD;rfl
 have ex':aM [.obj i,.int (m:Int)] M1=.ok (.int x) M2:=ex;have ej':aM [.obj i,.int 7] (M2++[O.lst O7])=.ok (.int j) M4:=ej;have ek':aM [.obj i,.int 8] M8=.ok (.int k) M9:=ek;rw[aG,aS];rw[show Y.set i (bD a1 b1 c1)=M1 from rfl];dsimp[aC,cZ,ar,au,aA,fI,vD,cb,ah,ao,aT,aa,Sx,S8,Qu n1,ex',Qu n7];rw[show aM [.obj i,.int 7] (M2++[O.lst [.int (m:Int),.int (-1),.bl true,.non,.str "0",.tup [.int 0],.int x]])=.ok (.int j) M4 from ej'];dsimp[aa];rw[eQ x4 eod];dsimp[af,bH,aD,U3,U4];rw[aG,aS];dsimp[cZ,aC,ar,au,xi,vC,me,sA,cb,ah,ao,aT,aa,eV,Sx,S8,Qu n1,q1,q2,q3,d1,d2,d3,Qu n3];dsimp[af,bH,aD,U3,U4];rw[bc];dsimp[aC,cZ,ar,au,aA,fI,vD,cb,ah,ao,aT,aa,Sx,S8,Qu n1,rv];rw[show M4++[O.lst [D.tup (ws.take r++[od]++ws.drop (r+1)),D.tup (ws.take r++[od]++ws.drop r),D.tup (ws.take r++ws.drop (r+1))]]=M5 from rfl,li];dsimp[aa,rv,Sx,S8,Qu n5];rw[show bF (.obj M4.length) (.obj M6.length) (M6++[O.lst [.obj M5.length,.non,.int 0,.tup [iD w],.tup ws.reverse]])=.ok (.obj (M6++[O.lst L2]).length) M8 from ad];dsimp[aa,ek'];rw[eQ x9 ey];dsimp[af,aP];exact eg
end
def Kp(P:Nat)(M M':aB):Prop:=(∃a b c,M'[P]?=some 7e4)/\∀j o,P≠j->M[j]?=some o->M'[j]?=some o
theorem Pn.kp{M':aB}{P:Nat}(h:Pn M P M')(hP:P<M.length):Kp P M M':=by
 refine⟨h.get hP,fun j o ne e=>?_⟩;obtain⟨a,b,c,g,rfl⟩:=h;exact aK (by rw[QP ne];exact e)
theorem sN{src:pJ}{t:Nat}{g:MG}{e:ME}(α:List D->List D->Ro->aB->Prop)(ho:∀xs acc Z M,α xs acc Z M->cN src M)
  (hs:∀x r acc Z M,α (x::r) acc Z M->∃Z1 d M1,g x Z M=.ok Z1 M/\e Z1 M=.ok d M1/\M1[t]?=some (.lst acc)/\acc.length<1000/\α r (acc++[d]) Z1 (M1.set t (.lst (acc++[d])))) :
  ∀(xs acc:List D)(Z:Ro)(M:aB),α xs acc Z M->∃acc' Z' M',compLoop src t g bp e xs Z M=.ok (.obj t) M'/\α [] acc' Z' M'
 |[],acc,Z,M,h=>⟨acc,Z,M,by unfold compLoop;rw[Qu (ho _ _ _ _ h)],h⟩
 |x::r,acc,Z,M,h=>by
  obtain⟨Z1,d,M1,e1,e2,e3,e4,h1⟩:=hs x r acc Z M h;obtain⟨acc',Z',M',c,h2⟩:=sN α ho hs r (acc++[d]) Z1 _ h1;refine⟨acc',Z',M',?_,h2⟩;unfold compLoop;rw[Qu (ho _ _ _ _ h),e1];dsimp[ae,aa];rw[show bp Z1 M=.ok true M from rfl];dsimp[ae,aa];rw[Qu trivial,e2];dsimp[ae,aa];rw[show qG t d M1=.ok () (M1.set t (.lst (acc++[d]))) from by unfold qG;rw[e3];dsimp only;rw[Qu (Qx e4 bf)]];dsimp[aa];exact c
theorem IQ{M':aB}{P:Nat}{a b c:Int}(h:Pn M P M')(hp:M[P]?=some 7e4):∀k tn,kP M (.obj k)=some tn->kP M' (.obj k)=some tn:=by
 intro k tn hk;have hP:P<M.length:=(QM.mp hp).1;obtain⟨q1,q2⟩:=h.kp hP;unfold kP at hk⊢;dsimp only at hk⊢;by_cases e:P=k
 ·subst e;obtain⟨u,v,w,hq⟩:=q1;rw[hq];rw[hp]at hk;exact hk
 ·cases hm : M[k]? with
  |none=>rw[hm]at hk;cases hk
  |some o=>rw[q2 k o e hm];rw[hm]at hk;exact hk
theorem DE{t:Nat}{a b:List D}(h:M[t]?=some (.lst a)):∀k tn,kP M (.obj k)=some tn->kP (M.set t (.lst b)) (.obj k)=some tn:=by
 intro k tn hk;have ht:t<M.length:=(QM.mp h).1;unfold kP at hk⊢;dsimp only at hk⊢;by_cases e:t=k
 ·subst e;rw[eU ht];rw[h]at hk;exact hk
 ·rw[QP e];exact hk
theorem xB{M:aB}:∀w:List Int,pO (CO M 4) (w.map D.int)=some (w.map PyData.int)
 |[]=>rfl
 |x::w=>by dsimp[RZ,pO,xB w];rfl
theorem N2{w:List Int}(h:∀p∈w,0<=p/\p<7)(hl:w.length<=100):ko [iD w] Y=.ok (.str (FV w).shown) Y:=by
 have e:CO Y 5 (iD w)=some (FV w):=by
  show (pO (CO Y 4) (w.map D.int)).map PyData.tuple=_;rw[xB];rfl
 have s:=uR h;have l:=oX w;have ok:vw (FV w)=true:=σ8 (by dsimp[FV,PyData.showable];exact s.1) (by dsimp[FV,PyData.canLay0];exact l.1) (by dsimp[FV,PyData.depth,l.2];decide) (by dsimp[FV,PyData.leavesShort];exact s.2.1) (by dsimp[FV,PyData.weight];have:=s.2.2;omega)
 have ok2:rN (FV w)=true:=by
  unfold vw at ok;unfold rN;dsimp[RW,Vm,UH,UO]at ok⊢;exact⟨⟨⟨ok.1.1.1,.inl ok.1.1.2⟩,ok.1.2⟩,ok.2⟩
 unfold ko;dsimp only;rw[e];dsimp only;rw[Qu ⟨rfl,ok2⟩]
theorem AR:ko [.str "tree"] Y=.ok (.str (reprText "tree")) Y:=by
 unfold ko;dsimp only;rw[Qu 0e9]
theorem Pu:C5 true (.str x) (.str x) Y=.ok 4e2 Y:=by
 show ai.ok (D.bl (!decide (x=x))) Y=_;rw[Sr rfl];rfl
def FX(M:aB)(d:D):Prop:=(∃m ks,d=bN m ks/\GW m ks)\/(Kn M d/\∃m ks,iu m ks/\Mz m ks d)
theorem FX.ty{M':aB}(h:FX M d)(ht:∀k tn,kP M (.obj k)=some tn->kP M' (.obj k)=some tn):FX M' d:=by
 rcases h with h|⟨h1,h2⟩
 ·exact .inl h
 ·exact .inr ⟨uy ht h1,h2⟩
section
variable{a0 a1 a2 a3 a5 a6 a7 a8 a9:Option D}
theorem Jx{b:Bool}{r:D}(tg:bJ [d] M=.ok (.bl b) M)(lt:bh [d] M=.ok (.bl b) M)(wd:Ju (lF (i8 (aj 6)) (gb (ay (dC .Gt) (ay cj (aj 4) 1e4) 9e6))) (aE dz (ag (aj 4) az)) (cC (.str "tree")) [a0,a1,a2,a3,some d,some (.bl b),some (.bl b),a7,a8,a9] M=.ok r M)(to:bU [.int 0,d,.non] M=.ok r M)(rp:ko [r] M=.ok (.str x) M):
  mP [a0,a1,a2,a3,some d,a5,a6,a7,a8,a9] M=.next [a0,a1,a2,a3,some d,some (.bl b),some (.bl b),some r,a8,a9] M:=by
 unfold mP;rw[aG,aS];dsimp[aA,ar,au,ao,ah,aa,tg,ae,af,bH,aD,U3,U4];rw[aG,aS];dsimp[aA,ar,au,ao,ah,aa,lt,ae,af,bH,aD,U3,U4];rw[aG,bw];dsimp[gU,bX,cq,fI,bR,aC,ao,ah,aa];rw[show eP "bool" (.bl b) M=.ok 5e8 M from rfl];dsimp[aa,bL,TL,Sw,RH];rw[show f9 true (.bl b) (.bl b) M=.ok 4e2 M from by cases b <;> rfl];dsimp[aa,aO,af,Sw,RH,bT,aD];rw[aG,aS,wd];dsimp[af,bH,aD,U3,U4];rw[bw];dsimp[bR,aC,aA,ar,au,ao,ah,aT,aa,to,rp,Pu,aO,af,Sw,RH,bT]
theorem Nq:Ju (lF (i8 (aj 6)) (gb (ay (dC .Gt) (ay cj (aj 4) 1e4) 9e6))) (aE dz (ag (aj 4) az)) (cC (.str "tree")) [a0,a1,a2,a3,some d,some 4e2,some 4e2,a7,a8,a9] M=.ok (.str "tree") M:=by
 rw[xj];dsimp[g7,cq,ao,ah,aa,bL,Sw,RH,aT]
theorem Lx(h:FX M d):∃b5 b6 b7,mP [a0,a1,a2,a3,some d,a5,a6,a7,a8,a9] M=.next [a0,a1,a2,a3,some d,b5,b6,b7,a8,a9] M:=by
 have no:bJ [d] M=.ok 4e2 M->bh [d] M=.ok 4e2 M->∃b5 b6 b7,mP [a0,a1,a2,a3,some d,a5,a6,a7,a8,a9] M=.next [a0,a1,a2,a3,some d,b5,b6,b7,a8,a9] M:=fun tg lt=>
  ⟨_,_,_,Jx tg lt Nq (rM (c:="NoTree") (by rw[Dd,Gq tg,jM]) j8 fun M n h=>qf h) AR⟩
 rcases h with⟨m,ks,rfl,g⟩|⟨hk,m,ks,T,o⟩
 ·obtain ⟨b, lt, hb⟩ := DS (Y := M) g;by_cases t:iu m ks
  ·rw [hb.mpr t] at lt;have tg:=vK (Y:=M) t;by_cases h3:3<=m
   ·obtain⟨w,w1,w2,w3⟩:=Bv t h3;have w4:=w3;unfold oz at w4;dsimp[RW,UH,TJ]at w4;have m6:=g.m6;refine⟨_,_,_,Jx (r:=iD w) tg lt ?_ (AE (by rw[Dd,GG t h3 w1,af]) zl) (N2 (fun p hp=>by have:=w4.2 p hp;omega) 0e0)⟩;rw[xj];dsimp[g7,cq,bR,aC,ao,ah,aT,aa,bL,RI,cv,cG,aO];rw[show cA .Gt (m:Int) 2=true from Sr 0e0];dsimp[RI,aA,ar,au,ao,ah,aa,xF g 0e0 w2]
   ·refine⟨_,_,_,Jx (r:=.str "tree") tg lt ?_ (rM (c:="NoTree") (by rw[Dd,D6 t 0e0,jM]) j8 fun M n h=>qf h) AR⟩;rw[xj];dsimp[g7,cq,bR,aC,ao,ah,aT,aa,bL,RI,cv,cG,aO];rw[show cA .Gt (m:Int) 2=false from Qr 0e0];dsimp[Sw,RH]
  ·have hb':b=false:=by
    cases b with
    |false=>rfl
    |true=>exact absurd (hb.mp rfl) t
   subst hb';exact no (D9 g t) lt
 ·exact no (ND hk (HI o)) (Lm o hk T.len T.gw.m6)
theorem HW(h3:3<=m)(h6:m<=6)(hk:Kn M d):oK [a0,a1,a2,a3,some d,a5,a6,a7,some 5e6,a9] M=.next [a0,a1,a2,a3,some d,a5,a6,a7,some 5e6,a9] M:=by
 unfold oK;dsimp[bw,bX,cq,aA,ar,au,ao,ah,aa,Em h3 h6 hk,bL,TL,af,Sw,RH,bT]
theorem HX{a4:Option D}(hk:Kn M d)(h:cf 3 6 d=false):rX [a0,a1,a2,a3,a4,a5,a6,a7,a8,some d] M=.next [a0,a1,a2,a3,a4,a5,a6,a7,a8,some d] M:=by
 unfold rX;have to:bU [.int 1,d,.non] M=.ok (.str "number") M:=rM (c:="NoNumber") (by rw[Dc,JV hk h,jM]) ny fun M n h=>Fm h;dsimp[bw,bR,aC,aA,ar,au,ao,ah,aT,aa,to];rw[show f9 true (.str "number") (.str "number") M=.ok 4e2 M from vW (p:=.str "number") rfl Ir];dsimp[aa,aO,af,Sw,RH,bT]
end
def Kq(P:Nat)(M0 M:aB):Prop:=(∃a b c,M[P]?=some 7e4)/\∀j o,j≠P->M0[j]?=some o->M[j]?=some o
theorem Kq.pn{P:Nat}{M':aB}(h:Kq P M0 M)(hp:Pn M P M'):Kq P M0 M':=by
 obtain⟨⟨a,b,c,e⟩,k⟩:=h;have kp:=hp.kp (QM.mp e).1;exact⟨kp.1,fun j o n q=>kp.2 j o (QJ n) (k j o n q)⟩
theorem Kq.app{P:Nat}{g:aB}(h:Kq P M0 M):Kq P M0 (M++g):=⟨by obtain⟨a,b,c,e⟩:=h.1;exact⟨a,b,c,aK e⟩,fun j o n q=>aK (h.2 j o n q)⟩
theorem Kq.set{P t:Nat}{o:O}(h:Kq P M0 M)(h1:t≠P)(h2:M0.length<=t):Kq P M0 (M.set t o):=
 ⟨by obtain ⟨a, b, c, e⟩ := h.1; exact ⟨a, b, c, by rw [QP h1]; exact e⟩, fun j o' n q => by
  have hj:=(QM.mp q).1;rw[QP 0e0]
  exact h.2 j o' n q⟩
theorem Kq.trans{P:Nat}{M1 M2:aB}(h:Kq P M0 M1)(h':Kq P M1 M2):Kq P M0 M2:=⟨h'.1,fun j o n q=>h'.2 j o n (h.2 j o n q)⟩
section
variable{P:Nat}
theorem E8(T:iu m ks)(hp:∃a b c,M[P]?=some 7e4):∃acc N,compLoop (.fix (bu 0 4)) 3e8 (ak 0) bp oN (bu 0 4) [none,some (.obj P),some 6e5] (M++[.lst []])=.ok 9e8 N/\N[3e8]?=some (.lst acc)/\acc.length=4/\(∀y∈acc,FX N y)/\Kq P M N:=by
 have hP:P<M.length:=by obtain⟨a,b,c,e⟩:=hp;exact(QM.mp e).1
 obtain⟨acc,Z',N,e,j1,j2,j3,j4,j5⟩:=sN (src:=.fix (bu 0 4)) (t:=3e8) (g:=ak 0) (e:=oN)
  (fun xs acc Z N=>xs.length+acc.length=4/\N[3e8]?=some (.lst acc)/\(∀y∈acc,FX N y)/\Kq P M N/\∃o,Z=[o,some (.obj P),some 6e5])
  (fun _ _ _ _ _=>trivial)
  (fun x r acc Z N ⟨j1, j2, j3, j4, o, j5⟩ => by
   subst j5;obtain⟨a,b,c,hq⟩:=j4.1;obtain⟨d,N1,en,pn,kd,cl⟩:=BF hq T;have ht:=IQ pn hq;have hP':P<N.length:=(QM.mp hq).1;have g1:N1[3e8]?=some (.lst acc):=(pn.kp hP').2 _ _ 0e0 j2;dsimp[Sx]at j1;refine⟨[some x,some (.obj P),some 6e5],d,N1,rfl,?_,g1,by omega,by simp;omega,?_,fun y hy=>?_,(j4.pn pn).set 0e0 8e0,_,rfl⟩
   ·unfold oN;dsimp[aA,ar,au,ao,ah,aa,en]
   ·rw[eU (QM.mp g1).1]
   ·rcases QK.mp hy with hy | hy
    ·exact((j3 y hy).ty ht).ty (DE g1)
    ·rw [SJ.mp hy];refine FX.ty ?_ (DE g1);rcases cl with c|o
     ·exact .inl c
     ·exact .inr ⟨kd,m,ks,T,o⟩)
  (bu 0 4) [] [none,some (.obj P),some 6e5] (M++[.lst []]) ⟨rfl,aw,by simp,⟨by obtain⟨a,b,c,e⟩:=hp;exact⟨a,b,c,aK e⟩,fun j o _ q=>aK q⟩,_,rfl⟩
 exact⟨acc,N,e,j2,by simpa using j1,j3,j4⟩
theorem z9(h3:3<=m)(h6:m<=6)(hp:∃a b c,M[P]?=some 7e4)(hn:n<=6):∃w N,compLoop (.fix (bu 0 n)) 3e8 (ak 0) bp oM (bu 0 n) [none,some (.obj P),some 5e6] (M++[.lst []])=.ok 9e8 N/\N[3e8]?=some (ln w)/\w.length=n/\Kq P M N:=by
 have hP:P<M.length:=by obtain⟨a,b,c,e⟩:=hp;exact(QM.mp e).1
 obtain⟨acc,Z',N,e,w,j1,j2,j3,j4,j5⟩:=sN (src:=.fix (bu 0 n)) (t:=3e8) (g:=ak 0) (e:=oM)
  (fun xs acc Z N=>∃w:List Int,acc=w.map D.int/\xs.length+w.length=n/\N[3e8]?=some (.lst acc)/\Kq P M N/\∃o,Z=[o,some (.obj P),some 5e6])
  (fun _ _ _ _ _=>trivial)
  (fun x r acc Z N ⟨w, j1, j2, j3, j4, o, j5⟩ => by
   subst j5 j1;obtain⟨a,b,c,hq⟩:=j4.1;have hP':P<N.length:=(QM.mp hq).1;obtain⟨q,a1,b1,c1,q0,q1,eq,pn⟩:=(Pn.self hq).draw (m:=(m:Int)) hP' 0e0 0e0;have g1:(N.set P (bD a1 b1 c1))[3e8]?=some (.lst (w.map D.int)):=(pn.kp hP').2 _ _ 0e0 j3;dsimp[Sx]at j2;refine⟨[some x,some (.obj P),some 5e6],.int q,_,rfl,?_,g1,by rw[Rz];omega,w++[q],by rw[To];rfl,by simp;omega,?_,(j4.pn pn).set 0e0 8e0,_,rfl⟩
   ·unfold oM;dsimp[aA,ar,au,ao,ah,aa,eq]
   ·rw[eU (QM.mp g1).1])
  (bu 0 n) [] [none,some (.obj P),some 5e6] (M++[.lst []]) ⟨[],rfl,by unfold bu;simp,aw,⟨by obtain⟨a,b,c,e⟩:=hp;exact⟨a,b,c,aK e⟩,fun j o _ q=>aK q⟩,_,rfl⟩
 subst j1;exact⟨w,N,e,j3,by simpa using j2,j4⟩
end
theorem JP{N g:aB}:∀k tn,kP N (.obj k)=some tn->kP (N++g) (.obj k)=some tn:=by
 intro k tn hk;unfold kP at hk⊢;dsimp only at hk⊢;cases hm:N[k]? with
 |none=>rw[hm]at hk;cases hk
 |some o=>rw[aK hm];rw[hm]at hk;exact hk
section
variable{t:Nat}{all:List D}{a0 a1 a2 a3 a4 a5 a6 a7 a8 a9:Option D}
theorem Jh(ht:M[t]?=some (.lst all)):∀(ds:List D)(a4 a5 a6 a7:Option D),(∀d∈ds,FX M d) ->
  ∃b4 b5 b6 b7,iS (.own t all) (ak 4) mP ds [a0,a1,a2,a3,a4,a5,a6,a7,a8,a9] M=.next [a0,a1,a2,a3,b4,b5,b6,b7,a8,a9] M
 |[],a4,a5,a6,a7,_=>⟨a4,a5,a6,a7,by unfold iS;rw[Qu 12e4]⟩
 |d::ds,a4,a5,a6,a7,h=>by
  obtain⟨c5,c6,c7,e1⟩:=Lx (a0:=a0) (a1:=a1) (a2:=a2) (a3:=a3) (a5:=a5) (a6:=a6) (a7:=a7) (a8:=a8) (a9:=a9) (h d QG);obtain⟨b4,b5,b6,b7,e⟩:=Jh ht ds (some d) c5 c6 c7 fun x hx=>h x (QH _ hx);refine⟨b4,b5,b6,b7,?_⟩;unfold iS;rw[Qu 12e4];dsimp[bH,af,U3,U4];rw[e1];exact e
theorem Jg{m:Nat}(h3:3<=m)(h6:m<=6)(ht:M[t]?=some (.lst all)):∀(ds:List D)(a4:Option D),(∀d∈ds,Kn M d) ->
  ∃b4,iS (.own t all) (ak 4) oK ds [a0,a1,a2,a3,a4,a5,a6,a7,some 5e6,a9] M=.next [a0,a1,a2,a3,b4,a5,a6,a7,some 5e6,a9] M
 |[],a4,_=>⟨a4,by unfold iS;rw[Qu 12e4]⟩
 |d::ds,a4,h=>by
  obtain⟨b4,e⟩:=Jg h3 h6 ht ds (some d) fun x hx=>h x (QH _ hx);refine⟨b4,?_⟩;unfold iS;rw[Qu 12e4];dsimp[bH,af,U3,U4];rw[HW h3 h6 (h d QG)];exact e
theorem Jf(ht:M[t]?=some (.lst all)):∀(ds:List D)(a9:Option D),(∀d∈ds,Kn M d/\cf 3 6 d=false) ->
  ∃b9,iS (.own t all) (ak 9) rX ds [a0,a1,a2,a3,a4,a5,a6,a7,a8,a9] M=.next [a0,a1,a2,a3,a4,a5,a6,a7,a8,b9] M
 |[],a9,_=>⟨a9,by unfold iS;rw[Qu 12e4]⟩
 |d::ds,a9,h=>by
  obtain⟨b9,e⟩:=Jf ht ds (some d) fun x hx=>h x (QH _ hx);refine⟨b9,?_⟩;unfold iS;rw[Qu 12e4];dsimp[bH,af,U3,U4];rw[HX (h d QG).1 (h d QG).2];exact e
end
theorem Fe(h1:1<=n)(h2:n<=100):uA (.tup [.int 0]) (.int (n:Int)) M=.ok (iD (List.replicate n 0)) M:=by
 unfold uA;dsimp only
 rw[Qu ⟨by simp,by omega,by omega,by
  refine QD ?_ bf;dsimp[Sx,S8,RF]
  omega⟩]
 congr 1;unfold iD;rw[RF];congr 1;clear h1 h2
 induction n with
 |zero=>rfl
 |succ n ih=>rw[Se,Se,Sf,ih];rfl
theorem HY{x:Int}{a0 a2 a3 a4 a5 a6 a7 a8 a9:Option D}:∃(M':aB)(b2 b3 b4 b5 b6 b7 b8 b9:Option D),
  rW [a0,some (.int x),a2,a3,a4,a5,a6,a7,a8,a9] M=.next [a0,some (.int x),b2,b3,b4,b5,b6,b7,b8,b9] M'/\∀(j:Nat)(o:O),M[j]?=some o->M'[j]?=some o:=by
 obtain⟨a,b,c,ep⟩:=Kd (Y:=M) x;have sl:∀a b c a' b' c':Int,(M++[bD a b c]).set 3e8 (bD a' b' c')=M++[bD a' b' c']:=fun _ _ _ _ _ _=>l5;obtain⟨m,ks,a1',b1',c1',T,ew⟩:=Bz (Y:=M++[bD a b c]) (i:=3e8) aw;rw[sl]at ew;obtain⟨dw,mm,kk,a2',b2',c2',gw,eb⟩:=Ej (Y:=M++[bD a1' b1' c1']) (i:=3e8) aw;rw[sl]at eb;obtain⟨M2,hM2⟩:∃M2:aB,M2=M++[bD a2' b2' c2']:=⟨_,rfl⟩;rw[<- hM2]at eb;have lM2:M2.length=M.length+1:=by rw[hM2];simp
 obtain⟨M3,hM3⟩:∃M3:aB,M3=M2++[O.lst [bN m ks,dw]]:=⟨_,rfl⟩;have lM3:M3.length=M.length+2:=by rw[hM3];simp;omega
 have p2:M2[3e8]?=some (bD a2' b2' c2'):=by rw[hM2];exact aw
 have p3:M3[3e8]?=some (bD a2' b2' c2'):=by rw[hM3];exact aK p2
 have t3:M3[M2.length]?=some (.lst [bN m ks,dw]):=by rw[hM3];exact aw
 obtain⟨acc,N,en,tn,ln',th,kq⟩:=E8 (M:=M3) (P:=3e8) T ⟨_,_,_,p3⟩;obtain⟨A,hA⟩:∃A:List D,A=[bN m ks,dw]++acc:=⟨_,rfl⟩;obtain⟨M4,hM4⟩:∃M4:aB,M4=N++[O.lst A]:=⟨_,rfl⟩;have t4:M4[N.length]?=some (.lst A):=by rw[hM4];exact aw
 have k4:Kq 3e8 M3 M4:=by rw[hM4];exact kq.app
 have tN:N[M2.length]?=some (.lst [bN m ks,dw]):=kq.2 _ _ 0e0 t3
 have ad:bF (.obj M2.length) (.obj M3.length) N=.ok (.obj N.length) M4:=by
  rw[rV tN tn (by rw[ln'];show 2+4<=1000000;decide),hM4,hA]
 obtain⟨b4,b5,b6,b7,e2⟩:=Jh (a0:=a0) (a1:=some (.int x)) (a2:=some 9e8) (a3:=some 6e5) (a8:=a8) (a9:=a9) t4 A a4 a5 a6 a7 (by
  intro d hd;rw[hM4];refine FX.ty (M:=N) ?_ JP;rw[hA]at hd;dsimp[Ta,Sn,QI]at hd;rcases hd with rfl|rfl|hd
  ·exact .inl ⟨_,_,rfl,T.gw⟩
  ·refine .inl ⟨mm.toNat, kk, ?_⟩;have h0:((mm.toNat:Nat):Int)=mm:=TK (by have:=gw.2.1;omega)
   have e1:d=bN mm.toNat kk:=by
    unfold bN;rw[h0];exact gw.1
   refine⟨e1,?_⟩;unfold GW;rw[h0,<- e1];exact gw
  ·exact th d hd)
 obtain⟨u1,u2,u3,p4⟩:=k4.1;have hP4:M.length<M4.length:=(QM.mp p4).1;obtain⟨r,a5',b5',c5',r0,r1,er,pn5⟩:=(Pn.self p4).draw (m:=4) hP4 0e4 0e4;obtain⟨M5,hM5⟩:∃M5:aB,M5=M4.set 3e8 (bD a5' b5' c5'):=⟨_,rfl⟩;rw[<- hM5]at er pn5;obtain⟨r,rfl⟩:∃k:Nat,r=(k:Int):=⟨r.toNat,by omega⟩;obtain⟨mn,hmn⟩:∃mn:Nat,mn=3+r:=⟨_,rfl⟩;have em:(3:Int)+(r:Int)=(mn:Int):=by rw[hmn];push_cast;rfl
 have h3:3<=mn:=by omega
 have h6:mn<=6:=by omega
 have k5:Kq 3e8 M3 M5:=k4.pn pn5;obtain⟨w,N5,ed,tw,lw,kw⟩:=z9 (M:=M5) (P:=3e8) (m:=mn) h3 h6 k5.1 (n:=mn-2) 0e0;have k6:Kq 3e8 M3 N5:=k5.trans kw;obtain⟨v1,v2,v3,p5⟩:=k6.1;obtain⟨d1,M6,eb1,pn6,kd1⟩:=AN (m:=mn) (w:=w) p5 0e0 h3 h6;have k7:Kq 3e8 M3 M6:=k6.pn pn6;obtain⟨w1,w2,w3,p6⟩:=k7.1;obtain⟨d2,M7,eb2,pn7,kd2⟩:=AN (m:=mn) (w:=w) p6 0e0 h3 h6;have k8:Kq 3e8 M3 M7:=k7.pn pn7;have kd1':Kn M7 d1:=uy (IQ pn7 p6) kd1;obtain⟨σ,hB⟩:∃σ:List D,σ=[iD w,d1,d2,iD (List.replicate (mn-2) 0)]:=⟨_,rfl⟩;obtain⟨M8,hM8⟩:∃M8:aB,M8=M7++[O.lst σ]:=⟨_,rfl⟩;have t8:M8[M7.length]?=some (.lst σ):=by rw[hM8];exact aw
 obtain⟨c4,e4⟩:=Jg (a0:=a0) (a1:=some (.int x)) (a2:=some 9e8) (a3:=some 6e5) (a5:=b5) (a6:=b6) (a7:=some (iD w)) (a9:=a9) h3 h6 t8 σ b4 (by
  intro d hd;rw[hM8];refine rQ _ ?_;rw[hB]at hd;dsimp[QI,SS,SU]at hd;rcases hd with rfl|rfl|rfl|rfl
  ·exact vT 0e0
  ·exact kd1'
  ·exact kd2
  ·exact vT (by rw[RA];omega))
 obtain⟨C,hC⟩:∃C:List D,C=[.int 2,.int 7,.int (-1),.bl true,.non,.str "3",.tup [.int 3],.int (10^20)]:=⟨_,rfl⟩;obtain⟨M9,hM9⟩:∃M9:aB,M9=M8++[O.lst C]:=⟨_,rfl⟩;have t9:M9[M8.length]?=some (.lst C):=by rw[hM9];exact aw
 obtain⟨c9,e5⟩:=Jf (a0:=a0) (a1:=some (.int x)) (a2:=some 9e8) (a3:=some 6e5) (a4:=c4) (a5:=b5) (a6:=b6) (a7:=some (iD w)) (a8:=some (.int (mn:Int))) t9 C a9 (by
  intro d hd;rw[hC]at hd;dsimp[QI,SS,SU]at hd
  rcases hd with rfl|rfl|rfl|rfl|rfl|rfl|rfl|rfl <;> exact⟨by simp[Kn,Kns],by decide⟩)
 refine⟨M9,some 9e8,some 6e5,c4,b5,b6,some (iD w),some (.int (mn:Int)),c9,?_,fun j o e=>?_⟩
 ·have n2 : 0 + 1 + 1 <= sizeLine := QD 0e4 bf;have n1:0+1<=sizeLine:=QD 0e4 bf;have n4:0+1+1+1+1<=sizeLine:=QD 0e4 bf;have n8:0+1+1+1+1+1+1+1+1<=sizeLine:=QD 0e4 bf;have p1:Gg 10 20:=⟨by decide,by decide,by decide⟩;unfold rW;rw[aG,aS];dsimp[aA,ar,au,ao,ah,aa,ep,af,bH,U3,U4,aD];rw[aG,aS];dsimp[aA,ar,au,ao,ah,aa,ew,af,bH,U3,U4,aD];rw[aG,gW,cw,aC];dsimp[cZ,aA,ar,au,ao,ah,aa,eb,Sx,S8,Qu n2];rw[<- hM3];dsimp[bP,cF,ar,au,aT,aa];rw[gY 0e4 0e4];dsimp[aa,bg];rw[show compLoop (.fix (bu 0 (4:Int).toNat)) M3.length (ak 0) bp oN (bu 0 (4:Int).toNat) (dr [none,some 2,some 3] [a0,some (.int x),some 9e8,some 6e5,a4,a5,a6,a7,a8,a9]) (M3++[.lst []])=.ok (.obj M3.length) N from en];dsimp[aa,ad];rw[d6 t4,af,cK,e2,aD];rw[aG,aS];dsimp[aC,aA,ar,au,ao,ah,aT,aa,er,eV,em,af,bH,U3,U4,aD];rw[aG,aS];have es:(mn:Int)-2=((mn-2:Nat):Int):=by omega
  dsimp[aA,bP,cF,ar,au,aC,ao,ah,aT,aa,xk,es];rw[gY 0e0 0e0];dsimp[aa,bg,RF];rw[show compLoop (.fix (bu 0 (mn-2))) M5.length (ak 0) bp oM (bu 0 (mn-2)) (dr [none,some 2,some 8] [a0,some (.int x),some 9e8,some 6e5,b4,b5,b6,b7,some (.int (mn:Int)),a9]) (M5++[.lst []])=.ok (.obj M5.length) N5 from ed];dsimp[aa];rw[gk tw];dsimp[af,bH,U3,U4,aD];rw[aG,gW,cw];dsimp[cZ,aA,cb,ar,au,aC,ao,ah,aT,aa,xk,es,Sx,S8,Qu n1];rw[show dZ [.tup (w.map D.int),.int (mn:Int),.obj 3e8] N5=.ok d1 M6 from eb1];dsimp[aa];rw[show dZ [.tup (w.map D.int),.int (mn:Int),.obj 3e8] M6=.ok d2 M7 from eb2];dsimp[aa];rw[Fe 0e0 0e0];dsimp[aa,Sx,S8,Qu n4];rw[show M7++[O.lst [.tup (w.map D.int),d1,d2,iD (List.replicate (mn-2) 0)]]=M8 from by rw[hM8,hB]];rw[d6 t8,af,cK];rw[show iS (.own M7.length σ) (ak 4) oK σ [a0,some (.int x),some 9e8,some 6e5,b4,b5,b6,some (.tup (w.map D.int)),some (.int (mn:Int)),a9] M8=_ from e4,aD];rw[gW,cw];dsimp[cZ,cb,ar,au,fI,vD,aC,aT,aa,Sx,S8,Qu n1];rw[show C4 (.int 10) (.int 20) M8=.ok (.int (10^(20:Int).toNat)) M8 from nO p1];dsimp[aa,Sx,S8,Qu n8];rw[show M8++[O.lst [.int 2,.int 7,.int (-1),.bl true,.non,.str "3",.tup [.int 3],.int (10^(20:Int).toNat)]]=M9 from by rw[hM9,hC];rfl];rw[d6 t9,af,cK];exact e5
 ·have hj:=(QM.mp e).1;rw[hM9,hM8];refine aK (aK (k8.2 j o 0e0 ?_));rw[hM3,hM2];exact aK (aK e)
theorem GJ:∃x:Int,fk [.frz 6e6,.int 0] Y=.ok (.int x) Y:=by
 unfold fk;rw[cS];cases ns with
 |nil=>
  refine⟨0,?_⟩;dsimp[jO,RY,List.replicate,aG,bw,bR,aC,ao,ah,aA,ar,au,Ba,S8,aa,cG];rw[show cA .Lt 0 ((0:Nat):Int)=false from rfl];dsimp[aO,af,Sw,RH,bT,aD,bc,aT,aP];exact aL 0e6
 |cons x r=>
  refine⟨x,?_⟩;dsimp[jO,RZ,List.replicate,aG,bw,bR,aC,ao,ah,aA,ar,au,Ba,Sx,aa,cG];rw[show cA .Lt 0 (((r.map D.int).length+1:Nat):Int)=true from Sr 0e0];dsimp[aO,af,RI,bc,aC,ao,ah,aa];rw[L6 uB];dsimp[af,gT,aP];exact aL 0e6
theorem Ke(ns:List Int):∃Y',xu [.frz 6e6] []=.ok 5e8 Y':=by
 obtain⟨x0,ex0⟩:=GJ (Y:=[]) (ns:=ns)
 obtain⟨xs,hxs,hxl⟩:∃xs:List Int,jz 6e6 (some 1) (some 5)=xs.map D.int/\xs.length<=6:=by
  refine⟨(ns.drop (HT.sIx ns.length 0 (some 1))).take (HT.sIx ns.length ns.length (some 5)-HT.sIx ns.length 0 (some 1)),?_,?_⟩
  ·unfold jz;rw[Rz,Tp,Tq]
  ·rw[Rn];have h6:HT.sIx ns.length ns.length (some 5)=min 5 ns.length:=HT.sIx_nat _ _ 5;omega
 obtain⟨L,hL⟩:∃L:List Int,L=x0::xs:=⟨_,rfl⟩;let M5:aB:=([O.lst [.int x0]]++[O.lst (xs.map D.int)])++[O.lst (L.map D.int)]
 have h5:M5[2]?=some (.lst (L.map D.int)):=rfl
 obtain⟨Z3,M6,_,run3⟩:=iF (src:=.own 2 (L.map D.int)) (g:=ak 1) (fb:=rW)
  (fun zs Z Y=>Y[2]?=some (O.lst (L.map D.int))/\(∃rs:List Int,zs=rs.map D.int)/\∃o0 o1 o2 o3 o4 o5 o6 o7 o8 o9,Z=[o0,o1,o2,o3,o4,o5,o6,o7,o8,o9])
  (fun Z Y hJJ=>hJJ.1)
  (fun x r Z Y hJJ => by
   obtain⟨h2,⟨rs,er⟩,o0,o1,o2,o3,o4,o5,o6,o7,o8,o9,eρ⟩:=hJJ;subst eρ;cases rs with
   |nil=>cases er
   |cons y rs=>
    injection er with ex er
    subst ex er;obtain⟨M',b2,b3,b4,b5,b6,b7,b8,b9,e1,e2⟩:=HY (M:=Y) (x:=y) (a0:=o0) (a2:=o2) (a3:=o3) (a4:=o4) (a5:=o5) (a6:=o6) (a7:=o7) (a8:=o8) (a9:=o9)
    exact⟨h2,_,Y,_,_,rfl,e1,e2 2 _ h2,⟨rs,rfl⟩,_,_,_,_,_,_,_,_,_,_,rfl⟩)
  (xs:=L.map D.int) (Z:=[some (.frz 6e6),none,none,none,none,none,none,none,none,none]) (Y:=M5)
  ⟨h5,⟨L,rfl⟩,_,_,_,_,_,_,_,_,_,_,rfl⟩
 have hend:∃Y',tT [] (.ok 5e8 M6)=.ok 5e8 Y':=by
  rcases D2 (Y:=[]) (d:=.bl true) (Y':=M6) with e|⟨e,_⟩ <;> exact⟨_,e⟩
 obtain⟨Y',hend⟩:=hend;refine⟨Y',?_⟩;unfold xu;rw[cu];unfold Jp;have l1:([.int x0]:List D).length<=sizeLine:=by show 1<=sizeLine;decide
 have sl:∀Y,yV (.frz 6e6) (some 1) (some 5) Y=.ok 1e0 (Y++[.lst (xs.map D.int)]):=fun Y=>by
  unfold yV;dsimp only;rw[hxs]
 have ad:bF (.obj 0) (.obj 1) ([O.lst [.int x0]]++[O.lst (xs.map D.int)])=.ok (.obj 2) M5:=by
  have:=rV (Y:=[O.lst [.int x0]]++[O.lst (xs.map D.int)]) (a:=0) (b:=1) rfl rfl (show ([.int x0]:List D).length+(xs.map D.int).length<=1000000 by rw[Rz];dsimp[Sx,S8];omega);rw[this];dsimp[M5,hL];rfl
 dsimp[List.replicate];rw[aG,gW,cw,aC,cZ,ar,aA,ar,ah,aa,ar,aT,aa,au,aa,aa,aa,ex0,aa,au,aa,aa];dsimp[Qu l1,aa,xi,ah,me,aT,sA];rw[sl,aa];rw[show bF (.obj ([]:aB).length) (.obj (([]:aB)++[O.lst [.int x0]]).length) (([]:aB)++[O.lst [.int x0]]++[O.lst (xs.map D.int)])=_ from ad];rw[aa,d6 h5,af,cK,run3,aD,bc,aT,af,aP];exact hend
end Lw
namespace Lw
open PySem PySem.Spec PyProof.Rows L2 RS
theorem cD(P:Params)(f:Addr)(n m:Str)(t:Tok)(c:Addr)(st:Stmt)(l:(Kz P).lookup f=some (fo n st m t c))(q:W.codeIn (Kz P) (.ref c) n=true):ik (Kz P) n n st f (W.fnOf n n (fw st) (cR st) (av st) .none .none .none (.str m t) none (.ref c) .none):=LZ l q (by unfold W.keepIn;dsimp only;rw[l];rfl)
theorem Mh{l:W.OpenLaw}{h:Heap}{fa:Addr}(X:(Kz 7e2).In h)(G:h.Ns mainGlobals mg)(hfa:mg "law" = some (.ref fa)):
  ∃fd:FuncData,(∀(s:Shared) (v:Value),BindsTo s fd ⟨[v],[]⟩ [("_law_script",v)])/\∀base:Heap,(Kz 7e2).In base->base.Ns mainGlobals mg->sf l.prog w (Kz 7e2) mg base y6 14 fa fd ["_law_script"] (FO (dj (Kz 7e2) w) 1 xu):=by
 have e:=hfa.symm.trans (W.mg_of X G (v:=.ref 374) 0e2);cases e;have nm:Nm mg:=⟨W.mg_none_of X G 0e2,W.mg_none_of X G 0e2,W.mg_none_of X G 0e2,W.mg_none_of X G 0e2,W.mg_none_of X G 0e2,W.mg_none_of X G 0e2,W.mg_none_of X G 0e2,W.mg_none_of X G 0e2,W.mg_none_of X G 0e2,W.mg_none_of X G 0e2,W.mg_none_of X G 0e2,W.mg_none_of X G 0e2,W.mg_none_of X G 0e2,W.mg_none_of X G 0e2,W.mg_none_of X G 0e2,W.mg_none_of X G 0e2⟩;have c_MOST_PLACES:=W.mg_of X G (n:="MOST_PLACES") (v:=(.int 6 404)) 0e2;have c_LEAST_WORDED:=W.mg_of X G (n:="LEAST_WORDED") (v:=(.int 3 464)) 0e2;have F:=cD 7e2 374 "law" "law_rootwebs_k33_trees_and_words" 492 373 kT 0e2 0e2;refine⟨W.fnOf "law" "law" (fw kT) (cR kT) (av kT) .none .none .none (.str "law_rootwebs_k33_trees_and_words" 492) none (.ref 373) .none,fun s v=>.of_eq rfl,fun base Xb Gb=>?_⟩;have d_is_whole:=yE (P:=l.prog) (w:=w) (base:=base)  nm (cD 7e2 151 "is_whole" "rootwebs.kinds" 364 150 jZ 0e2 0e2) 1e7;have d_is_whole_from:=qA (P:=l.prog) (w:=w) (base:=base)  nm (cD 7e2 158 "is_whole_from" "rootwebs.kinds" 364 157 fE 0e2 0e2) 1e7 d_is_whole;have d_is_place:=yF (P:=l.prog) (w:=w) (base:=base)  nm (cD 7e2 165 "is_place" "rootwebs.kinds" 364 164 j6 0e2 0e2) 1e7 d_is_whole_from;have d_is_places:=wt (P:=l.prog) (w:=w) (base:=base)  nm (cD 7e2 170 "is_places" "rootwebs.kinds" 364 169 hV 0e2 0e2) 1e7 d_is_place;have d_is_rising:=wq (P:=l.prog) (w:=w) (base:=base)  nm (cD 7e2 175 "is_rising" "rootwebs.kinds" 364 174 hG 0e2 0e2) 1e7;have d_is_many:=zW (P:=l.prog) (w:=w) (base:=base)  nm (cD 7e2 189 "is_many" "rootwebs.webs" 402 188 lb 0e2 0e2) 1e7 ⟨_,c_MOST_PLACES⟩ d_is_whole_from;have d_is_pair:=zV (P:=l.prog) (w:=w) (base:=base)  nm (cD 7e2 208 "is_pair" "rootwebs.webs" 402 207 la 0e2 0e2) 1e7 d_is_places;have d_is_tie:=σ7 (P:=l.prog) (w:=w) (base:=base)  nm (cD 7e2 201 "is_tie" "rootwebs.webs" 402 200 mQ 0e2 0e2) 1e7 d_is_pair;have d_is_ties:=zU (P:=l.prog) (w:=w) (base:=base)  nm (cD 7e2 194 "is_ties" "rootwebs.webs" 402 193 jK 0e2 0e2) 1e7 d_is_tie d_is_rising;have d_web_good:=yD (P:=l.prog) (w:=w) (base:=base)  nm (cD 7e2 182 "web_good" "rootwebs.webs" 402 181 jY 0e2 0e2) 1e7 d_is_many d_is_ties;have d_web_of:=σ6 (P:=l.prog) (w:=w) (base:=base)  nm (cD 7e2 213 "web_of" "rootwebs.webs" 402 212 kE 0e2 0e2) 1e7 d_is_many d_is_pair;have d_next_places:=tJ (P:=l.prog) (w:=w) (base:=base)  nm (cD 7e2 223 "next_places" "rootwebs.webs" 402 222 dR 0e2 0e2) 1e7;have d_fars_from:=wu (P:=l.prog) (w:=w) (base:=base)  nm (cD 7e2 218 "fars_from" "rootwebs.webs" 402 217 hX 0e2 0e2) 1e7 d_next_places;have d_tree_good:=wm (P:=l.prog) (w:=w) (base:=base)  nm (cD 7e2 230 "tree_good" "rootwebs.trees" 462 229 jk 0e2 0e2) 1e7 d_web_good d_fars_from;have d_check_tree:=uf (P:=l.prog) (w:=w) (base:=base) (a_NoTree:=85) nm (cD 7e2 237 "check_tree" "rootwebs.trees" 462 236 iH 0e2 0e2) 1e7 0e2 1e3 d_tree_good;have d_word_of:=zS (P:=l.prog) (w:=w) (base:=base) (a_NoTree:=85) nm (cD 7e2 242 "word_of" "rootwebs.trees" 462 241 gy 0e2 0e2) 1e7 ⟨_,c_LEAST_WORDED⟩ 0e2 1e3 d_check_tree;have d_tree_by:=zT (P:=l.prog) (w:=w) (base:=base) (a_NoNumber:=49) (a_NoTree:=85) nm (cD 7e2 247 "tree_by" "rootwebs.trees" 462 246 jJ 0e2 0e2) 1e7 ⟨_,c_LEAST_WORDED⟩ ⟨_,c_MOST_PLACES⟩ 0e2 (rh.of (nm:="NoNumber") (q:="NoNumber") (N:=48) (bs:=[(.ref 24)]) (bm:=[(.ref 24),8e4,12e8,6e8,9e3]) (hd:=true) (sn:=[]) (sub:=[]) (ab:=false) (col:=none) (dd:=none) (k0:=some (.ref 40)) (k1:=none) (k2:=some (.str "NoNumber" 223)) (k3:=some (.str "NoNumber" 231)) (k5:=some (.bool true)) Xb Gb 0e2 0e2 0e2 0e2 0e2) 0e2 1e3 d_is_whole_from d_is_places d_web_of;have d__law_cell_at:=rE (P:=l.prog) (w:=w) (base:=base)  nm (cD 7e2 254 "_law_cell_at" "law_rootwebs_k33_trees_and_words" 492 253 gq 0e2 0e2) 1e7;have d__law_next:=wz (P:=l.prog) (w:=w) (base:=base)  nm (cD 7e2 261 "_law_next" "law_rootwebs_k33_trees_and_words" 492 260 jm 0e2 0e2) 1e7;have d__law_pen_of:=tL (P:=l.prog) (w:=w) (base:=base)  nm (cD 7e2 268 "_law_pen_of" "law_rootwebs_k33_trees_and_words" 492 267 ia 0e2 0e2) 1e7;have d__law_draw:=wA (P:=l.prog) (w:=w) (base:=base)  nm (cD 7e2 275 "_law_draw" "law_rootwebs_k33_trees_and_words" 492 274 jn 0e2 0e2) 1e7 d__law_next;have d__law_whole:=ug (P:=l.prog) (w:=w) (base:=base)  nm (cD 7e2 282 "_law_whole" "law_rootwebs_k33_trees_and_words" 492 281 iI 0e2 0e2) 1e7;have d__law_kind_of:=rC (P:=l.prog) (w:=w) (base:=base) (a_NoLine:=61) (a_NoNumber:=49) (a_NoPlace:=37) (a_NoRoot:=73) (a_NoText:=123) (a_NoTree:=85) (a_NoWeb:=104) (a_TooGreat:=142) nm (cD 7e2 289 "_law_kind_of" "law_rootwebs_k33_trees_and_words" 492 288 gp 0e2 0e2) 1e7 (cx.of 0e2) (cx.of 0e2) (cx.of 0e2) (cx.of 0e2) (cx.of 0e2) (cx.of 0e2) (cx.of 0e2) (cx.of 0e2) (cx.of 0e2) 1e7 1e7 1e7 1e7 1e7 1e7 1e7 1e7;have d__law_named:=ui (P:=l.prog) (w:=w) (base:=base)  nm (cD 7e2 294 "_law_named" "law_rootwebs_k33_trees_and_words" 492 293 eO 0e2 0e2) 1e7;have d__law_names_by:=qB (P:=l.prog) (w:=w) (base:=base)  nm (cD 7e2 299 "_law_names_by" "law_rootwebs_k33_trees_and_words" 492 298 dS 0e2 0e2) 1e7 d__law_draw;have d__law_far:=yG (P:=l.prog) (w:=w) (base:=base)  nm (cD 7e2 304 "_law_far" "law_rootwebs_k33_trees_and_words" 492 303 iW 0e2 0e2) 1e7;have d__law_steps:=uh (P:=l.prog) (w:=w) (base:=base)  nm (cD 7e2 309 "_law_steps" "law_rootwebs_k33_trees_and_words" 492 308 fU 0e2 0e2) 1e7 d__law_far;have d__law_sparse_by:=pE (P:=l.prog) (w:=w) (base:=base)  nm (cD 7e2 314 "_law_sparse_by" "law_rootwebs_k33_trees_and_words" 492 313 bz 0e2 0e2) 1e7 d__law_draw d__law_named d__law_names_by;have d__law_web_by:=tK (P:=l.prog) (w:=w) (base:=base)  nm (cD 7e2 321 "_law_web_by" "law_rootwebs_k33_trees_and_words" 492 320 h7 0e2 0e2) 1e7 d__law_sparse_by d__law_draw d__law_steps;have d__law_tree_by:=rA (P:=l.prog) (w:=w) (base:=base)  nm (cD 7e2 326 "_law_tree_by" "law_rootwebs_k33_trees_and_words" 492 325 eG 0e2 0e2) 1e7 d__law_draw d__law_named d__law_names_by;have d__law_no_tree:=rB (P:=l.prog) (w:=w) (base:=base)  nm (cD 7e2 333 "_law_no_tree" "law_rootwebs_k33_trees_and_words" 492 332 gn 0e2 0e2) 1e7 d__law_draw;have d__law_is_tree:=rD (P:=l.prog) (w:=w) (base:=base)  nm (cD 7e2 338 "_law_is_tree" "law_rootwebs_k33_trees_and_words" 492 337 eH 0e2 0e2) 1e7 d__law_whole d__law_far;have d__law_word:=wx (P:=l.prog) (w:=w) (base:=base)  nm (cD 7e2 343 "_law_word" "law_rootwebs_k33_trees_and_words" 492 342 fB 0e2 0e2) 1e7;have d__law_told:=wy (P:=l.prog) (w:=w) (base:=base) (a_RootError:=24) nm (cD 7e2 350 "_law_told" "law_rootwebs_k33_trees_and_words" 492 349 jl 0e2 0e2) 1e7 1e7 (xr.of 0e2) d_word_of d_tree_by d__law_kind_of;have d__law_word_good:=pD (P:=l.prog) (w:=w) (base:=base)  nm (cD 7e2 355 "_law_word_good" "law_rootwebs_k33_trees_and_words" 492 354 dB 0e2 0e2) 1e7 d__law_whole;have d__law_treed_right:=m7 (P:=l.prog) (w:=w) (base:=base)  nm (cD 7e2 362 "_law_treed_right" "law_rootwebs_k33_trees_and_words" 492 361 dM 0e2 0e2) 1e7 d__law_told d__law_word_good d__law_is_tree d__law_word;have d__law_bent:=wB (P:=l.prog) (w:=w) (base:=base)  nm (cD 7e2 369 "_law_bent" "law_rootwebs_k33_trees_and_words" 492 368 jo 0e2 0e2) 1e7 d__law_draw;exact L5 nm F d__law_cell_at d__law_pen_of d__law_tree_by d__law_web_by d__law_no_tree d_tree_good d__law_is_tree d__law_word d__law_told d__law_draw d__law_bent d__law_treed_right
theorem OZ{l:W.OpenLaw}{q:Program}{d:DefRec}(hn:l.most=some 63)(hdf:d.params.defaults=[])(hd:d.name = "law"):
  W.WalkO q loose XP (W.Hook.says Hz) l.row.toRowW d [] (fun f vs=>PySem.call f vs):=
 L2.walk_of (K:=Kz) (n:=63) (k:=14) (x:="_law_script") (CX:=fun _=>y6) (sp:=fun w=>FO (dj (Kz 7e2) w) 1 xu) hn 0e4 hdf ⟨rfl,by decide,by decide,rfl⟩ (fun _ _ μ=>W.kIn_of μ) (fun _ _ _ _ X G e=>Mh X G (hd ▸ e)) (fun w H a ns hl hO hS=>Fj (Ke ns) hO hS) fun _ _ _ _ _ z=>z
end Lw
open PySem PySem.W PyProof.Rows Lw
set_option maxRecDepth 100000 in
set_option maxHeartbeats 0 in
theorem PySem.Challenge.cw_rootwebs_k33_trees_and_words_holds : PySem.Challenge.rw_rootwebs_k33_trees_and_words.Holds := by
 w_on;refine holds_law JF fun said=>?_
 exact holds_open (Xt:=Xz) (XP:=XL Qz []) (YP:=Hook.says Hz) JG (Hook.of Hz) (Hook.keeps Hz) (fun s e=>xl_of s (Bool.and_eq_true_iff.mp e).1) XL.keeps (by rfl) (by rfl) (by rfl) (fun s e=>recFacts_of (Bool.and_eq_true_iff.mp e).2) (by rfl) said 0e9 ⟨rfl,rfl,rfl,rfl,rfl,by decide +kernel⟩ (by w_witness2) (OZ rfl rfl rfl)
