import PyProof.Rows.All
import Wide.All
import OpenK.AllK
import Wide.FinOn
import PyProof.EqAt
import PyProof.EqKinds
import PyProof.TupleCall
import PyProof.P3In
import PyProof.NeData
import PyProof.ConsumeS
import PyProof.WalksMore
import PyProof.ReprRoads
import PyProof.ReprLen
import PyProof.Draws
import PyProof.EnumMake
import PyProof.EnumFor
import PyProof.CallFns
import PyProof.Rows.CallKwBuiltin
import Lean
import PySem.Challenge.RW_rootwebs_k09_roots_looked_at
set_option Elab.async false
set_option linter.all false
set_option maxHeartbeats 1000000
set_option maxHeartbeats 2000000
set_option maxHeartbeats 400000
set_option maxHeartbeats 4000000
set_option maxRecDepth 100000
noncomputable section
abbrev N7:=@PySem.Value.isInt_shape
abbrev N8:=@decide_eq_false
abbrev N9:=@beq_eq_false_iff_ne
abbrev Oa:=@PySem.wpAny_eqBool_int
abbrev Ob:=@if_pos
abbrev Oc:=@if_neg
abbrev Od:=@Option.some.inj
abbrev Oe:=@PySem.Heap.lt_size
abbrev Of:=@Nat.lt_of_lt_of_le
abbrev Og:=@Nat.lt_irrefl
abbrev Oh:=@Nat.ne_of_lt
abbrev Oi:=@List.mem_filter
abbrev Oj:=@List.mem_range
abbrev Ol:=@Nat.le_trans
abbrev Om:=@Nat.le_of_lt
abbrev On:=@List.filterMap_cons
abbrev Oo:=@List.mem_cons_self
abbrev Oq:=@List.mem_cons_of_mem
abbrev Os:=@List.mem_cons
abbrev Ot:=@Ne.symm
abbrev Ou:=@List.mem_append
abbrev Ov:=@List.mem_append_left
abbrev Ow:=@List.getElem?_eq_some_iff
abbrev Ox:=@List.getElem_inj
abbrev Oy:=@List.getElem?_set_self
abbrev OA:=@List.getElem?_set_ne
abbrev OB:=@PySem.wpAny_mono
abbrev OC:=@PySem.wpAny_truthy_bool
abbrev OD:=@Array.length_toList
abbrev OE:=@congrArg
abbrev OF:=@PySem.wpAny_execs_nil
abbrev OG:=@PySem.wpAny_bind
abbrev OH:=@PySem.wpAny_holding
abbrev OI:=@PySem.wpAny_standAt
abbrev OJ:=@PySem.wpAny_passesOwn
abbrev OK:=@Bool.false_ne_true
abbrev OL:=@Nat.ne_of_gt
abbrev OM:=@PySem.wpAny_pure
abbrev ON:=@PySem.wpAny_load
abbrev OO:=@Bool.false_and
abbrev OP:=@PySem.Heap.get?_push_of_some
abbrev OQ:=@PySem.Heap.get?_push_size
abbrev OR:=@Nat.le_refl
abbrev OS:=@PyProof.Rows.callWith_type1
abbrev OT:=@List.mem_filterMap
abbrev OU:=@List.mem_append_right
abbrev OV:=@Bool.eq_iff_iff
abbrev OW:=@PySem.sizeLine_eq
abbrev OX:=@List.size_toArray
abbrev OY:=@List.append_nil
abbrev OZ:=@PySem.wpAny_call
abbrev O0:=@PySem.codeAny_mono
abbrev O1:=@PySem.wpAny_Call_Name_kw
abbrev O2:=@List.nodup_cons
abbrev O3:=@List.of_mem_zip
abbrev O4:=@Option.isSome_iff_exists
abbrev O5:=@List.length_take
abbrev O6:=@PySem.mem_of_lookup
abbrev O7:=@List.getElem?_append_right
abbrev O8:=@List.getElem?_replicate
abbrev O9:=@List.getElem?_append_left
abbrev Pb:=@List.getElem?_map
abbrev Pc:=@List.getElem?_take_of_lt
abbrev Pd:=@List.mem_of_getElem?
abbrev Pe:=@List.length_append
abbrev Pf:=@List.length_map
abbrev Pg:=@List.length_replicate
abbrev Ph:=@PySem.noFill_tuple_add
abbrev Pi:=@PySem.F.slot_tuple_add
abbrev Pj:=@PySem.F.entry_tuple_add
abbrev Pl:=@PySem.F.args_tuple_add_2
abbrev Pm:=@Int.toNat_natCast
abbrev Po:=@Nat.min_le_right
abbrev Pp:=@if_false
abbrev Pq:=@if_true
abbrev Pr:=@PyProof.Rows.slicePart_none
abbrev Pt:=@PySem.wpAny_field
abbrev Pu:=@List.filterMap_map
abbrev Pv:=@List.length_drop
abbrev Pw:=@PySem.wpAny_sequenceKey
abbrev Px:=@PySem.wpAny_callSpecial?_slot
abbrev Py:=@PyProof.Rows.slot_tuple_getitem
abbrev Pz:=@PySem.wpAny_call_entry
abbrev PB:=@PyProof.Rows.entry_tuple_getitem
abbrev PD:=@PyProof.Rows.args_tuple_getitem
abbrev PF:=@PySem.wpAny_typeOf
abbrev PH:=@Bool.and_eq_true
abbrev PJ:=@PySem.wpAny_newObj_type
abbrev PL:=@List.map_nil
abbrev PM:=@List.map_cons
abbrev PN:=@PySem.Heap.IsSliceOf.new
abbrev PQ:=@PySem.slot_list_getitem
abbrev PR:=@PySem.Heap.get?_update_self
abbrev PU:=@PySem.Heap.get?_update_other
abbrev PV:=@List.length_set
abbrev PX:=@List.all_cons
abbrev PY:=@List.reverse_cons
abbrev PZ:=@List.replicate_succ
abbrev P0:=@List.flatten_cons
abbrev Qa:=@List.append_assoc
abbrev Qb:=@List.foldl_cons
abbrev Qc:=@PySem.call_meets
abbrev Qd:=@List.length_singleton
abbrev Qe:=@Bool.and_false
abbrev Qf:=@Nat.succ_mul
abbrev Qg:=@List.nil_append
abbrev Qh:=@Nat.le_of_not_lt
abbrev Qi:=@decide_eq_true
abbrev Qj:=@List.lookup_cons
abbrev Qk:=@beq_self_eq_true
abbrev Ql:=@Bool.false_eq_true
abbrev Qm:=@List.length_cons
abbrev Qn:=@Nat.lt_succ_self
abbrev Qo:=@Nat.lt_succ_of_lt
abbrev Qp:=@PySem.Heap.size_push
abbrev Qq:=@PySem.pushCells_keeps
abbrev Qr:=@Option.bind_some
abbrev Qs:=@PySem.codeAny_of_tree
abbrev Qt:=@PySem.wpAny_askSetting
abbrev Qu:=@PySem.wpAny_rule
abbrev Qv:=@Nat.zero_le
abbrev Qw:=@List.mem_singleton
abbrev Qx:=@List.range_succ_eq_map
abbrev Qy:=@List.map_map
abbrev QA:=@List.map_congr_left
abbrev QB:=@List.length_range
abbrev QC:=@List.length_nil
abbrev QD:=@List.cons.inj
abbrev QE:=@List.cons_append
abbrev QF:=@List.pairwise_iff_getElem
abbrev QG:=@Array.getElem?_eq_some_iff
abbrev QH:=@List.take_of_length_le
abbrev QI:=@Array.getElem?_toList
abbrev QJ:=@List.mem_map
abbrev QK:=@Classical.byContradiction
abbrev QL:=@List.nodup_range
abbrev QM:=@List.getElem?_of_mem
abbrev QN:=@List.mem_map_of_mem
abbrev QO:=@List.take_append_drop
abbrev QP:=@List.pairwise_cons
abbrev QR:=@List.map_append
abbrev QS:=@List.map_take
abbrev QT:=@List.map_drop
abbrev QU:=@Array.getD_eq_getD_getElem?
abbrev QV:=@Option.getD_some
abbrev QW:=@List.getElem?_drop
abbrev QX:=@List.mem_of_mem_take
abbrev QY:=@List.mem_of_mem_drop
abbrev QZ:=@Array.getElem?_eq_none_iff
abbrev Q0:=@List.nodup_nil
abbrev Q2:=@Nat.sub_self
abbrev Q3:=@Option.some.injEq
abbrev Q4:=@List.pairwise_lt_range
abbrev Q5:=@Array.getElem?_eq_getElem
abbrev Q6:=@List.all_eq_true
abbrev Q7:=@Int.toNat_of_nonneg
abbrev Q8:=@Bool.not_true
abbrev Q9:=@PySem.wpAny_seqItems
abbrev Ra:=@PySem.wpAny_forIn_list
abbrev Rb:=@PySem.wpAny_setState_of
abbrev Rc:=@Bool.and_self
abbrev Re:=@Array.mem_toList_iff
abbrev Rf:=@List.nodup_append
abbrev Rg:=@PySem.wpAny_storeSet_of
abbrev Rh:=@PySem.putSet_of
abbrev Ri:=@PySem.Heap.SameBut.update
abbrev Rj:=@Bool.not_false
abbrev Rk:=@List.foldl_append
abbrev Rm:=@PySem.codeAny_builtin
abbrev Rn:=@PySem.Around.under_plainId
abbrev Rp:=@PyProof.Rows.F.plain_set_update_loop
abbrev Rq:=@PySem.plainId_quiet
abbrev Rt:=@PySem.wpAny_of_eq
abbrev Ru:=@PySem.isSubtype_type
abbrev Rv:=@PySem.F.called_set
abbrev Rw:=@PySem.Code.quiet_builtin
abbrev Rx:=@PySem.codeAny_call_builtin
abbrev Ry:=@PySem.wpAny_pyIter_list
abbrev Rz:=@PySem.wpAny_runValue
abbrev RA:=@List.not_mem_nil
abbrev RB:=@or_false
abbrev RC:=@PySem.Walks.list
abbrev RD:=@PySem.wpAny_pyIter_tuple
abbrev RE:=@PySem.Walks.tuple
abbrev RF:=@List.take_add_one
abbrev RG:=@List.take_length
abbrev RH:=@PySem.W.KasT.kasWp_bind
abbrev RI:=@decide_eq_decide
abbrev RJ:=@List.getD_eq_getElem?_getD
abbrev RK:=@List.ext_getElem?
abbrev RL:=@List.getElem?_range
abbrev RM:=@List.getElem?_eq_none
abbrev RN:=@List.pairwise_map
abbrev RO:=@PyProof.Rows.listUpdate_at
abbrev RP:=@PyProof.Rows.get?_update_seq
abbrev RQ:=@PySem.wpAny_newList
abbrev RR:=@PyProof.Rows.size_push'
abbrev RT:=@PySem.Heap.size_update
abbrev RU:=@PySem.Heap.get?_update_ne
abbrev RW:=@bne_self_eq_false
abbrev RX:=@List.getElem_mem
abbrev RY:=@List.length_eq_zero_iff
abbrev RZ:=@List.getElem?_eq_getElem
abbrev R0:=@PySem.wpAny_setEntries_of
abbrev R6:=@PySem.wpAny_setField_rec
abbrev R7:=@PySem.Calls.call_function_entry
abbrev R8:=@PyProof.Rows.entry_list_sort
abbrev R9:=@beq_iff_eq
abbrev Sa:=@of_eq_true
abbrev Sb:=@eq_self
abbrev Sd:=@decide_eq_true_eq
abbrev Se:=@PySem.AutoSeq1.sub_tuple_tuple
abbrev Sf:=@List.zip_nil_left
abbrev Sg:=@List.zip_nil_right
abbrev Sh:=@List.zip_cons_cons
abbrev Si:=@PySem.richCompare_meets_room
abbrev Sj:=@List.eq_nil_of_length_eq_zero
abbrev Sk:=@PyProof.Rows.boot_isinstance
abbrev Sl:=@List.all_map
abbrev Sm:=@Nat.le_succ
abbrev Sn:=@Int.le_antisymm
abbrev So:=@List.length_pos_iff
abbrev Sr:=@List.take_append_of_le_length
abbrev Ss:=@List.filter_cons
abbrev Su:=@PySem.F.slot_list_iadd
abbrev Sv:=@List.length_reverse
abbrev Sw:=@PySem.F.entry_min_loop
abbrev Sx:=@PySem.F.plain_min_loop
abbrev Sy:=@PySem.wpAny_tryCatch
abbrev SA:=@PySem.wpAny_updateSeq
abbrev SB:=@PySem.wpAny_letGo
abbrev SC:=@Bool.and_eq_true_iff
abbrev SD:=@PySem.PassesOwn.never
abbrev SE:=@Int.emod_nonneg
abbrev SF:=@Int.emod_lt_of_pos
abbrev SG:=@List.set_cons_succ
abbrev SH:=@List.set_cons_zero
abbrev SI:=@List.mem_flatMap
abbrev SJ:=@List.length_filter_le
abbrev SK:=@List.filter_map
abbrev SL:=@List.flatMap_append
abbrev SM:=@List.flatMap_cons
abbrev SN:=@List.flatMap_nil
abbrev SQ:=@Bool.true_and
abbrev SR:=@of_decide_eq_true
abbrev SS:=@Bool.and_true
abbrev SU:=@List.cons.injEq
abbrev SV:=@List.filter_eq_self
abbrev SW:=@Function.comp_def
abbrev SX:=@Nat.mul_le_mul_right
abbrev SY:=@PyProof.Rows.gt_int
namespace L2
open PySem PySem.Spec PyProof.Rows
abbrev sx:=Sum Int Str
def He:sx->Value->Bool
 |.inl k,v=>Value.isInt k v
 |.inr x,v=>Value.isStrOf x v
def Nd(w:World):sx->Int
 |.inl k=>hashInt k
 |.inr x=>hashStr w x
theorem c9:∀{k:sx}{v:Value},He k v=true->(∃i t,k=Sum.inl i/\v=Value.int i t)\/(∃x t,k=Sum.inr x/\v=Value.str x t)
 |.inl i,v,h=>by
  obtain⟨t,e⟩:=N7 (k:=i) (v:=v) h;exact .inl ⟨i,t,rfl,e⟩
 |.inr x,v,h=>by
  obtain⟨t,e⟩:=Value.isStrOf_shape (x:=x) (v:=v) h;exact .inr ⟨x,t,rfl,e⟩
theorem JS(a b:Int):decide ((Sum.inl a:sx)=Sum.inl b)=(a == b):=by
 by_cases e:a=b
 ·subst e;simp
 ·have h:¬ (Sum.inl a:sx)=Sum.inl b:=fun q=>e (Sum.inl.inj q);rw[N8 h];exact(N9.mpr e).symm
theorem JP(a b:Str):decide ((Sum.inr a:sx)=Sum.inr b)=decide (a=b):=by
 by_cases e:a=b
 ·subst e;simp
 ·have h:¬ (Sum.inr a:sx)=Sum.inr b:=fun q=>e (Sum.inr.inj q);rw[N8 h,N8 e]
theorem JR(a:Int)(b:Str):decide ((Sum.inl a:sx)=Sum.inr b)=false:=N8 (fun q=>nomatch q)
theorem JQ(a:Str)(b:Int):decide ((Sum.inr a:sx)=Sum.inl b)=false:=N8 (fun q=>nomatch q)
def qh(prog:Program)(w:World):PySem.KeyKind prog w sx where
 is:=He
 hash:=Nd w
 inj:=fun v a b ha hb=>by
  rcases c9 ha with⟨i,t,rfl,rfl⟩|⟨x,t,rfl,rfl⟩
  ·rcases c9 hb with ⟨j, u, rfl, e⟩ | ⟨y, u, rfl, e⟩
   ·injection e with e1 _;rw[e1]
   ·exact nomatch e
  ·rcases c9 hb with ⟨j, u, rfl, e⟩ | ⟨y, u, rfl, e⟩
   ·exact nomatch e
   ·injection e with e1 _;rw[e1]
 byValue:=fun k v h=>by
  rcases c9 h with⟨i,t,rfl,rfl⟩|⟨x,t,rfl,rfl⟩ <;> rfl
 pyHash:=fun hv h=>by
  rcases c9 hv with⟨i,t,rfl,rfl⟩|⟨x,t,rfl,rfl⟩
  ·exact wpAny_pyHash_int h
  ·exact wpAny_pyHash_str h
 eqBool:=fun hu hv h=>by
  rcases c9 hu with⟨i,t,rfl,rfl⟩|⟨x,t,rfl,rfl⟩
  ·rcases c9 hv with ⟨j, u, rfl, rfl⟩ | ⟨y, u, rfl, rfl⟩
   ·rw[JS]at h;exact Oa h
   ·rw[JR]at h;exact SeqAt.EqAt.int_str i t y u _ _ _ _ h
  ·rcases c9 hv with ⟨j, u, rfl, rfl⟩ | ⟨y, u, rfl, rfl⟩
   ·rw[JQ]at h;exact SeqAt.EqAt.str_int x t j u _ _ _ _ h
   ·rw[JP]at h;exact wpAny_eqBool_str h
 «strs»:=fun k x t v h=>by
  rcases c9 h with⟨i,u,rfl,e⟩|⟨y,u,rfl,e⟩
  ·exact nomatch e
  ·injection e with e1 _
   subst e1;cases v <;> rfl
end L2
namespace L2
open PySem PySem.Spec PyProof.Rows
inductive V where
 |non|bl (b:Bool)|int (i:Int)|str (x:Str)|byt (b:Array UInt8)|flt (b:UInt64)|ref (a:Addr)|ty (n:String)
 deriving DecidableEq
def ck:V->Value->Prop
 |.non,u=>u=Value.none
 |.bl b,u=>u=Value.bool b
 |.int i,u=>∃t,u=Value.int i t
 |.str x,u=>∃t,u=Value.str x t
 |.byt b,u=>∃t,u=Value.bytes b t
 |.flt b,u=>∃t,u=Value.float b t
 |.ref a,u=>u=Value.ref a
 |.ty n,u=>u=Value.type n
abbrev bh:List V->List Value->Prop:=Paired ck
theorem bh.length{xs:List V}{us:List Value}(r:bh xs us):xs.length=us.length:=Paired.length r
theorem bh.get:∀{xs:List V}{us:List Value}{i:Nat}{x:V},bh xs us->xs[i]?=some x->∃u,us[i]?=some u/\ck x u
 |_,_,_,_,.nil,e=>by simp at e
 |_,_,0,_,.cons r _,e=>by simp at e;subst e;exact⟨_,rfl,r⟩
 |_,_,i+1,x,.cons _ t,e=>by
  obtain⟨u,h1,h2⟩:=bh.get (i:=i) (x:=x) t (by simpa using e);exact⟨u,by simpa using h1,h2⟩
theorem bh.set{x:V}{u:Value}(r:ck x u):∀{xs:List V}{us:List Value}(i:Nat),bh xs us->bh (xs.set i x) (us.set i u)
 |_,_,_,.nil=>.nil
 |_,_,0,.cons _ t=>.cons r t
 |_,_,i+1,.cons q t=>.cons q (bh.set r i t)
theorem bh.append:∀{xs ys:List V}{us ws:List Value},bh xs us->bh ys ws->bh (xs++ys) (us++ws)
 |_,_,_,_,.nil,s=>s
 |_,_,_,_,.cons r t,s=>.cons r (bh.append t s)
theorem bh.take:∀{xs:List V}{us:List Value}(n:Nat),bh xs us->bh (xs.take n) (us.take n)
 |_,_,0,_=>.nil
 |_,_,_+1,.nil=>.nil
 |_,_,n+1,.cons r t=>.cons r (bh.take n t)
theorem bh.drop:∀{xs:List V}{us:List Value}(n:Nat),bh xs us->bh (xs.drop n) (us.drop n)
 |_,_,0,r=>r
 |_,_,_+1,.nil=>.nil
 |_,_,n+1,.cons _ t=>bh.drop n t
def K9:Option V->Option Value->Prop
 |some v,some u=>ck v u
 |none,none=>True
 |_,_=>False
def KV{κ:Type}:List (κ×V)->List (κ×Value)->Prop:=Paired fun(p:κ×V) (q:κ×Value)=>p.1=q.1/\ck p.2 q.2
def kV:sx->V
 |.inl i=>.int i
 |.inr x=>.str x
inductive HO where
 |lst (xs:List V)
 |tup (xs:List V)
 |dK (kvs:List (sx×V))|dT (kvs:List (List sx×V))
 |set (S:Int->Bool) (n:Nat)
 |ins (C dx:Addr) (fs:List (Str×V))
 |own (x:Addr)
 |xd (fs:List (Str×V))
 |met (f x:Addr)
 |rng (lo hi:Int)
 |frz (o:Obj) (u:HO)
 |tbl (ps:Array Value)
 |ext (φ:Heap->Prop)
abbrev Hp:=Addr->Option HO
def dg(H:Hp)(a:Addr)(o:HO):Hp:=fun b=>if b=a then some o else H b
theorem cJ{H:Hp}{a:Addr}{o:HO}:dg H a o a=some o:=by unfold dg;rw[Ob rfl]
theorem bG{H:Hp}{a b:Addr}{o:HO}(h:b≠a):dg H a o b=H b:=by unfold dg;rw[Oc h]
theorem B0{H:Hp}{a b:Addr}{o u:HO}(h:H a=some o)(h':H b=some u)(d:o≠u):a≠b:=by
 intro e;subst e;rw[h]at h';exact d (Od h')
theorem cu{H:Hp}{a b:Addr}{o:HO}(h:H a=some o)(h':H b=none):a≠b:=by
 intro e;subst e;rw[h]at h';cases h'
section
variable(P:Program)(w:World)
def fA(H:Hp)(h:Heap)(a:Addr):HO->Prop
 |.lst xs=>xs.length<=sizeLine/\∃(its:List Value) (n:Nat),bh xs its/\h.get? a=some {cls:=.type "list",data:=.seq its.toArray n}
 |.tup xs=>xs.length<=sizeLine/\∃its:List Value,bh xs its/\IsTup h a its.toArray
 |.dK kvs=>kvs.length<=sizeLine/\(a == sysModules)=false/\∃vs,KV kvs vs/\h.DictOf (qh P w) a vs
 |.dT kvs=>kvs.length<=sizeLine/\(a == sysModules)=false/\∃xs:List (List sx×Addr×Value),
   Paired (fun(p:List sx×V) (q:List sx×Addr×Value)=>p.1=q.1/\H q.2.1=some (.tup (p.1.map kV))/\ck p.2 q.2.2) kvs xs /\
   ∃o es ep,h.get? a=some o/\o.ExactDict/\o.data=.dict es ep/\es.toList=xs.map (entryOfKey (tupleKind (qh P w)))/\(xs.map (·.1)).Nodup
 |.set S n=>h.SetOf (intKind P w) a S n
 |.ins C dx fs=>H dx=some (.own a)/\fs.length<=1000/\dx≠a/\h.get? a=some (W.instObj C dx) /\
   ∃mA,h.Ns1 dx mA/\(∀f,K9 (fs.lookup f) (mA f))/\PySem.Within mA (fs.map (·.1))
 |.own _=>∃o,h.get? a=some o
 |.xd fs=>∃mA,h.Ns1 a mA/\∀f,K9 (fs.lookup f) (mA f)
 |.rng lo hi=>∃t u v,h.get? a=some {cls:=.type "range",data:=.fields #[.int lo t,.int hi u,.int 1 v]}
 |.frz o u=>h.get? a=some o/\fA H h a u
 |.tbl ps=>h.get? a=some {cls:=.none,data:=.fields ps}
 |.met f x=>h.get? a=some (W.methodObj (.ref f) (.ref x))
 |.ext φ=>φ h/\(∃o,h.get? a=some o)/\∀h1 h2:Heap,φ h1->(∀o,h1.get? a=some o->h2.get? a=some o)->φ h2
def nL(H:Hp)(h:Heap):Prop:=∀a o,H a=some o->fA P w H h a o
end
section
variable{P:Program}{w:World}{H H':Hp}{h h':Heap}{a:Addr}{o:HO}
theorem fA.lt(x:fA P w H h a o):a<h.objs.size:=by
 cases o with
 |lst xs=>obtain⟨_,_,_,_,e⟩:=x;exact Oe e
 |tup xs=>obtain⟨_,_,_,p⟩:=x;exact p.lt
 |dK kvs=>obtain⟨_,_,_,_,o,_,_,e,_⟩:=x;exact Oe e
 |dT kvs=>obtain⟨_,_,_,_,o,_,_,e,_⟩:=x;exact Oe e
 |set S n=>obtain⟨o,_,_,_,e,_⟩:=x;exact Oe e
 |ins C dx fs=>obtain⟨_,_,_,e,_⟩:=x;exact Oe e
 |own y=>obtain⟨_,e⟩:=x;exact Oe e
 |xd fs=>obtain⟨_,⟨_,_,_,e,_⟩,_⟩:=x;exact Oe e
 |rng lo hi=>obtain⟨_,_,_,e⟩:=x;exact Oe e
 |frz ob u=>obtain⟨e,_⟩:=x;exact Oe e
 |tbl ps=>exact Oe (show h.get? a=some _ from x)
 |met f y=>exact Oe (show h.get? a=some _ from x)
 |ext φ=>obtain⟨_,⟨_,e⟩,_⟩:=x;exact Oe e
theorem pC{α β:Type}{F G:α->β->Prop}:∀{l₁:List α}{l₂:List β},Paired F l₁ l₂->(∀a b,F a b->G a b)->Paired G l₁ l₂
 |_,_,.nil,_=>.nil
 |_,_,.cons r t,f=>.cons (f _ _ r) (pC t f)
theorem fA.stay(x:fA P w H h a o)(k:∀b u,(b=a\/H b=some (.own a))->h.get? b=some u->h'.get? b=some u)
  (ho:∀b,H b=some (.own a)->H' b=some (.own a)) (ht:∀b xs,H b=some (.tup xs)->H' b=some (.tup xs)):fA P w H' h' a o:=by
 induction o with
 |lst xs=>obtain⟨z,its,n,r,e⟩:=x;exact⟨z,its,n,r,k _ _ (.inl rfl) e⟩
 |tup xs=>obtain⟨z,its,r,ob,e,c⟩:=x;exact⟨z,its,r,ob,k _ _ (.inl rfl) e,c⟩
 |dK kvs=>obtain⟨z,y,vs,r,ob,es,ep,e,c⟩:=x;exact⟨z,y,vs,r,ob,es,ep,k _ _ (.inl rfl) e,c⟩
 |dT kvs=>
  obtain⟨z,y,xs,r,ob,es,ep,e,c⟩:=x;exact⟨z,y,xs,pC r fun p q z=>⟨z.1,ht _ _ z.2.1,z.2.2⟩,ob,es,ep,k _ _ (.inl rfl) e,c⟩
 |set S n=>obtain⟨ob,es,ep,t,e,c⟩:=x;exact⟨ob,es,ep,t,k _ _ (.inl rfl) e,c⟩
 |ins C dx fs=>
  obtain⟨d,z,ne,e,mA,⟨od,es,ep,e2,c⟩,r⟩:=x;exact⟨ho _ d,z,ne,k _ _ (.inl rfl) e,mA,⟨od,es,ep,k _ _ (.inr d) e2,c⟩,r⟩
 |own y=>obtain⟨ob,e⟩:=x;exact⟨ob,k _ _ (.inl rfl) e⟩
 |xd fs=>obtain⟨mA,⟨od,es,ep,e,c⟩,r⟩:=x;exact⟨mA,⟨od,es,ep,k _ _ (.inl rfl) e,c⟩,r⟩
 |rng lo hi=>obtain⟨t,u,v,e⟩:=x;exact⟨t,u,v,k _ _ (.inl rfl) e⟩
 |frz ob u ih=>obtain⟨e,q⟩:=x;exact⟨k _ _ (.inl rfl) e,ih q⟩
 |tbl ps=>
  have e:h.get? a=some {cls:=.none,data:=.fields ps}:=x;show h'.get? a=some {cls:=.none,data:=.fields ps};exact k a _ (.inl rfl) e
 |met f y=>
  have e:h.get? a=some (W.methodObj (.ref f) (.ref y)):=x;show h'.get? a=some (W.methodObj (.ref f) (.ref y));exact k a _ (.inl rfl) e
 |ext φ=>obtain⟨p,⟨o,e⟩,st⟩:=x;exact⟨st _ _ p fun o q=>k _ _ (.inl rfl) q,⟨o,k _ _ (.inl rfl) e⟩,st⟩
theorem nL.lt(x:nL P w H h)(e:H a=some o):a<h.objs.size:=(x a o e).lt
theorem nL.fresh(x:nL P w H h)(e:h.objs.size<=a):H a=none:=by
 cases q:H a with
 |none=>rfl
 |some u=>exact absurd (Of (x.lt q) e) (Og _)
theorem nL.kept(x:nL P w H h)(k:∀b u,h.get? b=some u->h'.get? b=some u):nL P w H h':=fun a o e=>
 (x a o e).stay (fun b u _ q=>k b u q) (fun _ q=>q) fun _ _ q=>q
theorem nL.laid(x:nL P w H h)(k:∀b u,h.get? b=some u->h'.get? b=some u)(hp:h.objs.size<=a)(new:fA P w (dg H a o) h' a o):nL P w (dg H a o) h':=fun b u e=>by
 have hn:=x.fresh hp;by_cases hb:b=a
 ·subst hb;rw[cJ]at e;cases e;exact new
 ·rw[bG hb]at e;exact(x b u e).stay (fun c v _ q=>k c v q) (fun c q=>by rw[bG (cu q hn)];exact q) fun c xs q=>by rw[bG (cu q hn)];exact q
end
def Rd(H:Hp)(a:Addr)(u:HO):Prop:=H a=some u\/∃o,H a=some (.frz o u)
theorem Rd.ok{P:Program}{w:World}{H:Hp}{h:Heap}{a:Addr}{u:HO}(r:Rd H a u)(x:nL P w H h):fA P w H h a u:=by
 rcases r with r|⟨o,r⟩
 ·exact x a u r
 ·obtain⟨_,q⟩:=x a _ r;exact q
def Mt:Option HO->Prop
 |some (.lst _)=>True
 |some (.dK _)=>True
 |some (.dT _)=>True
 |some (.set _ _)=>True
 |some (.ins _ _ _)=>True
 |some (.ext _)=>True
 |_=>False
section
variable{P:Program}{w:World}{H:Hp}{h h':Heap}{x e:Addr}{o':HO}
theorem nL.write(ok:nL P w H h)(mu:Mt (H x))(he:e=x\/H e=some (.own x))(k:∀b u,b≠e->h.get? b=some u->h'.get? b=some u)(heo:∃u,h'.get? e=some u)
  (new:fA P w (dg H x o') h' x o'):nL P w (dg H x o') h':=fun b u q=>by
 have nown:∀c y,H c=some (.own y)->c≠x:=fun c y r z=>by subst z;rw[r]at mu;exact mu
 have ntup:∀c xs,H c=some (.tup xs)->c≠x:=fun c xs r z=>by subst z;rw[r]at mu;exact mu
 by_cases hb:b=x
 ·subst hb;rw[cJ]at q;cases q;exact new
 ·rw [bG hb] at q;by_cases hbe:b=e
  ·have q':H b=some (.own x):=by
    rcases he with z|z
    ·exact absurd (hbe.trans z) hb
    ·rw[hbe];exact z
   rw[q]at q';cases q';obtain⟨v,hv⟩:=heo;exact⟨v,by rw[hbe];exact hv⟩
  ·refine (ok b u q).stay (fun c v hc r => k c v ?_ r) (fun c r => by rw [bG (nown c b r)]; exact r) fun c xs r => by rw [bG (ntup c xs r)]; exact r
   rcases hc with rfl|hc
   ·exact hbe
   ·rintro rfl
    rcases he with z|z
    ·exact nown c b hc z
    ·rw[hc]at z;cases z;exact hb rfl
end
structure Un(fs ex:List Addr)(H H':Hp)(h h':Heap):Prop where
 keep:∀b o,h.get? b=some o->H b=none->b∉fs->b∉ex->h'.get? b=some o
 slot:∀b o,h.get? b=some o->H b=none->b∈fs->b∉ex->∃sl,h'.get? b=some {o with slots:=sl}
 free:∀b o,h.get? b=some o->H b=none->b∉ex->H' b=none
 there:∀b o,h.get? b=some o->b∉ex->∃o',h'.get? b=some o'
 tups:∀b xs,H b=some (.tup xs)->H' b=some (.tup xs)
 frzs:∀b o u,H b=some (.frz o u)->H' b=some (.frz o u)
 tbls:∀b ps,H b=some (.tbl ps)->∃more,H' b=some (.tbl (ps++more))
section
variable{fs fs' ex ex':List Addr}{H H1 H2:Hp}{h h1 h2 h':Heap}{a x e:Addr}{o:HO}
theorem Un.any(u:Un fs ex H H1 h h1){b:Addr}{ob:Obj}(q:h.get? b=some ob)(n:H b=none)(hx:b∉ex):∃sl,h1.get? b=some {ob with slots:=sl}:=by
 by_cases hb:b∈fs
 ·exact u.slot b ob q n hb hx
 ·exact⟨ob.slots,u.keep b ob q n hb hx⟩
theorem Un.kept(k:∀b u,h.get? b=some u->h'.get? b=some u):Un fs ex H H h h':=
 ⟨fun b ob q _ _ _=>k b ob q,fun b ob q _ _ _=>⟨ob.slots,k b ob q⟩,fun _ _ _ n _=>n,fun b ob q _=>⟨ob,k b ob q⟩,fun _ _ q=>q,fun _ _ _ q=>q,fun _ ps q=>⟨#[],by rw[q];simp⟩⟩
theorem Un.refl:Un fs ex H H h h:=Un.kept fun _ _ q=>q
theorem Un.laid(k:∀b u,h.get? b=some u->h'.get? b=some u)(hp:h.objs.size<=a)(hn:H a=none):Un fs ex H (dg H a o) h h' where
 keep:=fun b u q _ _ _=>k b u q
 slot:=fun b u q _ _ _=>⟨u.slots,k b u q⟩
 free:=fun b u q n _=>by rw[bG (Oh (Of (Oe q) hp))];exact n
 there:=fun b u q _=>⟨u,k b u q⟩
 tups:=fun b xs q=>by rw[bG (cu q hn)];exact q
 frzs:=fun b u xs q=>by rw[bG (cu q hn)];exact q
 tbls:=fun b ps q=>⟨#[],by rw[bG (cu q hn),q];simp⟩
theorem Un.write(mu:Mt (H x))(he:e=x\/H e=some (.own x))(k:∀b u,b≠e->h.get? b=some u->h'.get? b=some u)(heo:∃u,h'.get? e=some u):Un fs ex H (dg H x o) h h':=by
 have hx:∀b,H b=none->b≠x:=fun b n z=>by subst z;rw[n]at mu;exact mu
 have hb:∀b,H b=none->b≠e:=fun b n z=>by
  subst z;rcases he with r|r
  ·exact hx b n r
  ·rw[n]at r;cases r
 have hm:∀b u,H b=some u->¬ Mt (some u)->b≠x:=fun b u q nm z=>by subst z;rw[q]at mu;exact nm mu
 refine⟨fun b u q n _ _=>k b u (hb b n) q,fun b u q n _ _=>⟨u.slots,k b u (hb b n) q⟩,fun b u q n _=>by rw[bG (hx b n)];exact n,fun b u q _=>?_,
  fun b xs q=>by rw[bG (hm b _ q fun z=>z)];exact q,fun b u xs q=>by rw[bG (hm b _ q fun z=>z)];exact q,fun b ps q=>⟨#[],by rw[bG (hm b _ q fun z=>z),q];simp⟩⟩
 by_cases hbe:b=e
 ·subst hbe;exact heo
 ·exact⟨u,k b u hbe q⟩
end
def Mm(h:Heap)(H:Hp):List Addr:=(List.range h.objs.size).filter fun a=>(H a).isSome
def ub(h:Heap)(H:Hp):Heap:=W.hideAll h (Mm h H)
theorem A5(h:Heap)(H:Hp):(ub h H).objs.size=h.objs.size:=W.hideAll_size _ _
theorem DY{h:Heap}{H:Hp}{b:Addr}{o:Obj}(e:h.get? b=some o)(n:H b=none):(ub h H).get? b=some o:=
 W.hideAll_get _ e fun hm=>by
  have q:(H b).isSome=true:=(Oi.mp hm).2;rw[n]at q;simp at q
theorem F2{h:Heap}{H:Hp}{b:Addr}{o:Obj}(e:(ub h H).get? b=some o):h.get? b=some o/\H b=none:=by
 have e':h.get? b=some o:=W.of_hideAll (Mm h H) e;refine⟨e',?_⟩;cases q:H b with
 |none=>rfl
 |some x=>
  have hm:b∈Mm h H:=Oi.mpr ⟨Oj.mpr (Oe e'),by simp[q]⟩;have z:(ub h H).get? b=none:=W.hideAll_none (Mm h H) hm;rw[z]at e;cases e
end L2
namespace L2
open PySem PySem.Spec PyProof.Rows
structure Mod(K:W.Frag)(mg:Str->Option Value)(base:Heap):Prop where
 kin:K.In base
 glob:base.Ns mainGlobals mg
 blt:∃mb,base.Ns builtinsNs mb/\∀x:Str,x ≠ "__name__" -> mb x=bootBuiltins x
 nolimit:base.NoLimit
structure Cx where
 prog:Program
 w:World
 K:W.Frag
 mg:Str->Option Value
 base:Heap
 A:Around
 N:List Str
 s₀:Shared
 H₀:Hp
 env:Env
 outer:List Env
 stack:List Env
 ex:List Addr
 fn:Str->Bool
 calm:Bool
 pn:List (Addr×Obj)
 xe:Value->Shared->Prop
def oV(l:List Env):List Addr:=l.filterMap (·.frame)
abbrev Cx.fs(X:Cx):List Addr:=oV X.outer
def KD(sc:Scope)(x:Str):Prop:=sc.names.lookup x=some .local\/sc.names.lookup x=some .cell\/sc.names.lookup x=some .free
def Ab(sc:Scope)(x:Str):Prop:=sc.names.lookup x=some .local\/sc.names.lookup x=some .cell
def Nv(env:Env)(h:Heap)(m:Str->Option Value)(x:Str)(u:Value):Prop:=
 (env.kindOf x=some .local/\m x=some u)\/((env.kindOf x=some .cell\/env.kindOf x=some .free)/\∃c,env.cells.lookup x=some c/\h.IsCell c (some u))
structure Cx.Ok(X:Cx):Prop where
 mod:Mod X.K X.mg X.base
 kind:X.env.scope.kind=.function
 glob:X.env.globals=mainGlobals
 blt:X.env.builtins=builtinsNs
 above:X.s₀.heap.objs.size<=X.env.locals
 inj:∀x y c,X.env.cells.lookup x=some c->X.env.cells.lookup y=some c->x=y
 has:∀x,(X.env.kindOf x=some .cell\/X.env.kindOf x=some .free)->∃c,X.env.cells.lookup x=some c
 cab:∀x c,X.fn x=true->X.env.cells.lookup x=some c->X.s₀.heap.objs.size<=c
 hd:X.calm=true->X.A.handled=none
 frames:X.A.frames=some X.stack
 stk:X.stack=X.outer\/(X.stack=X.env::X.outer/\X.env.frame=some X.env.locals)
 exf:∀b∈X.ex,b≠X.env.locals/\∀x c,X.env.cells.lookup x=some c->c≠b
 bs:∀b o,X.base.get? b=some o->X.s₀.heap.get? b=some o/\X.H₀ b=none
 bsz:X.base.objs.size<=X.s₀.heap.objs.size
 noex:∀b o,X.base.get? b=some o->b∉X.ex
 exfs:∀b∈X.ex,b∉X.fs
 funs:X.s₀.heap.FunFrames X.base X.outer
 frf:∀b∈X.fs,X.H₀ b=none
structure aY(X:Cx)(pins:List (Addr×Obj))(σ:List (Option V))(H:Hp)(s:Shared):Prop where
 ok:X.Ok
 os:s.os=X.s₀.os
 bare:AllBare s.gens
 base:Un X.fs X.ex X.H₀ H X.s₀.heap s.heap
 loc:∃m,s.heap.Ns X.env.locals m/\∀(i:Nat)(x:Str)(v:V),X.N[i]?=some x->σ[i]?=some (some v)->KD X.env.scope x->∃u,ck v u/\Nv X.env s.heap m x u
 cell:∀x c,X.env.cells.lookup x=some c->∃v,s.heap.IsCell c v
 free:H X.env.locals=none
 freeC:∀x c,X.env.cells.lookup x=some c->H c=none
 pin:∀p∈X.pn++pins,s.heap.get? p.1=some p.2/\H p.1=none/\p.1≠X.env.locals/\p.1∉X.fs/\∀v,p.2.data≠.cell v
 hok:nL X.prog X.w H s.heap
 len:σ.length=X.N.length
section
variable{X:Cx}{pins:List (Addr×Obj)}{σ:List (Option V)}{H H':Hp}{s:Shared}{h':Heap}
theorem Cx.Ok.nofr(ok:X.Ok){b:Addr}{o:Obj}(e:X.base.get? b=some o):b∉X.fs:=fun hb=>by
 have:=(ok.funs.mem hb).1;rw[e]at this;cases this
theorem aY.bs(I:aY X pins σ H s):∀b o,X.base.get? b=some o->s.heap.get? b=some o/\H b=none:=fun b o e=>
 ⟨I.base.keep b o (I.ok.bs b o e).1 (I.ok.bs b o e).2 (I.ok.nofr e) (I.ok.noex b o e),I.base.free b o (I.ok.bs b o e).1 (I.ok.bs b o e).2 (I.ok.noex b o e)⟩
theorem aY.bk(I:aY X pins σ H s):∀b o,X.base.get? b=some o->s.heap.get? b=some o:=fun b o e=>(I.bs b o e).1
theorem aY.mod(I:aY X pins σ H s):Mod X.K X.mg X.base:=I.ok.mod
theorem aY.kIn(I:aY X pins σ H s):X.K.In s.heap:=I.ok.mod.kin.keeps I.bk
theorem aY.lt(I:aY X pins σ H s):X.env.locals<s.heap.objs.size:=let ⟨_,hn,_⟩:=I.loc;hn.lt
theorem aY.sz(I:aY X pins σ H s):X.s₀.heap.objs.size<=s.heap.objs.size:=Ol I.ok.above (Om I.lt)
theorem aY.nofs(I:aY X pins σ H s){a:Addr}(h:s.heap.objs.size<=a):a∉X.fs:=fun hb=>by
 obtain⟨_,o,ho,_⟩:=I.ok.funs.mem hb;exact absurd (Of (Oe ho) (Ol I.sz h)) (Og _)
theorem aY.cne(I:aY X pins σ H s):∀x c,X.env.cells.lookup x=some c->c≠X.env.locals:=fun x c e z=>by
 obtain⟨v,o,ho,hd⟩:=I.cell x c e;obtain⟨m,⟨o',es,ep,ho',hd',_⟩,_⟩:=I.loc;rw[z,ho']at ho;cases ho;rw[hd']at hd;cases hd
theorem aY.funs(I:aY X pins σ H s):s.heap.FunFrames X.base X.outer:=by
 have all:∀(l:List Env),(∀b∈oV l,b∈X.fs)->X.s₀.heap.FunFrames X.base l->s.heap.FunFrames X.base l:=by
  intro l
  induction l with
  |nil=>intro _ _;trivial
  |cons env r ih=>
   intro hs hl;obtain⟨hk,⟨L,o,hf,hn,ho,hd⟩,hr⟩:=hl;have hL:L∈X.fs:=hs L (by unfold oV;rw[On,hf];exact Oo);obtain⟨sl,e⟩:=I.base.slot L o ho (I.ok.frf L hL) hL fun z=>I.ok.exfs L z hL;exact⟨hk,⟨L,_,hf,hn,e,hd⟩,ih (fun b hb=>hs b (by unfold oV;rw[On,hf];exact Oq _ hb)) hr⟩
 exact all X.outer (fun _ hb=>hb) I.ok.funs
theorem aY.stack(I:aY X pins σ H s):s.heap.FunFrames X.base X.stack:=by
 rcases I.ok.stk with e|⟨e,hf⟩
 ·rw[e];exact I.funs
 ·rw[e];obtain⟨m,hn,_⟩:=I.loc;refine .cons (by rw[I.ok.kind];decide) hf hn ?_ I.funs;exact Heap.get?_none_of_le (Ol I.ok.bsz I.ok.above)
theorem aY.stkSub(I:aY X pins σ H s):∀b∈oV X.stack,b∈X.env.locals::X.fs:=fun b hb=>by
 rcases I.ok.stk with e|⟨e,hf⟩
 ·rw[e]at hb;exact Oq _ hb
 ·rw[e]at hb;unfold oV at hb;rw[On,hf]at hb;exact hb
theorem aY.stkFree(I:aY X pins σ H s):∀b∈oV X.stack,H b=none:=fun b hb=>by
 rcases Os.mp (I.stkSub b hb) with e|hb
 ·rw[e];exact I.free
 ·obtain⟨_,o,ho,_⟩:=I.ok.funs.mem hb;exact I.base.free b o ho (I.ok.frf b hb) fun z=>I.ok.exfs b z hb
theorem aY.step{g':Array GenState}{t':Nat}{d':Drawn}{ch:List Addr}(I:aY X pins σ H s)
  (hch:∀b∈ch,(b∈X.ex\/X.s₀.heap.objs.size<=b)/\b≠X.env.locals/\(∀x c,X.env.cells.lookup x=some c->c≠b)/\∀p∈X.pn++pins,p.1≠b)
  (keep:∀b o,b≠X.env.locals->b∉X.fs->b∉ch->s.heap.get? b=some o->H b=none->h'.get? b=some o)
  (slot:∀b o,b≠X.env.locals->b∈X.fs->b∉ch->s.heap.get? b=some o->H b=none->∃sl,h'.get? b=some {o with slots:=sl}) (free:∀b o,b∉ch->s.heap.get? b=some o->H b=none->H' b=none)
  (there:∀b o,b∉ch->s.heap.get? b=some o->∃o',h'.get? b=some o')
  (tups:∀b xs,H b=some (.tup xs)->H' b=some (.tup xs)) (frzs:∀b o u,H b=some (.frz o u)->H' b=some (.frz o u)) (tbls:∀b ps,H b=some (.tbl ps)->∃more,H' b=some (.tbl (ps++more)))
  (ns:∀m,s.heap.Ns X.env.locals m->h'.Ns X.env.locals m) (hok:nL X.prog X.w H' h') (hg:AllBare g') :
  aY X pins σ H' {s with heap:=h',gens:=g',drawn:=d',toks:=t'}:=by
 have neL:∀b o,X.s₀.heap.get? b=some o->b≠X.env.locals:=fun b o e=>Oh (Of (Oe e) I.ok.above)
 have neC:∀b o,X.s₀.heap.get? b=some o->b∉X.ex->b∉ch:=fun b o e hx hb=>by
  rcases (hch b hb).1 with z|z
  ·exact hx z
  ·exact absurd (Of (Oe e) z) (Og _)
 have cellK:∀x c,X.env.cells.lookup x=some c->∀v,s.heap.IsCell c v->h'.IsCell c v:=fun x c e v ⟨o,ho,hd⟩=>by
  have nch:c∉ch:=fun z=>(hch c z).2.2.1 x c e rfl;by_cases hc:c∈X.fs
  ·obtain⟨sl,q⟩:=slot c o (I.cne x c e) hc nch ho (I.freeC x c e);exact⟨_,q,hd⟩
  ·exact⟨o,keep c o (I.cne x c e) hc nch ho (I.freeC x c e),hd⟩
 refine⟨I.ok,I.os,hg,⟨fun b o e n hb hx=>?_,fun b o e n hb hx=>?_,fun b o e n hx=>?_,fun b o e hx=>?_,fun b xs e=>tups b xs (I.base.tups b xs e),fun b o xs e=>frzs b o xs (I.base.frzs b o xs e),fun b ps e=>?_⟩,?_,fun x c e=>?_,?_,fun x c e=>?_,fun p hp=>?_,hok,I.len⟩
 ·exact keep b o (neL b o e) hb (neC b o e hx) (I.base.keep b o e n hb hx) (I.base.free b o e n hx)
 ·obtain⟨sl,e1⟩:=I.base.slot b o e n hb hx;obtain⟨sl',e2⟩:=slot b _ (neL b o e) hb (neC b o e hx) e1 (I.base.free b o e n hx);exact⟨sl',e2⟩
 ·obtain⟨o',e1⟩:=I.base.there b o e hx;exact free b o' (neC b o e hx) e1 (I.base.free b o e n hx)
 ·obtain⟨o',e1⟩:=I.base.there b o e hx;exact there b o' (neC b o e hx) e1
 ·obtain⟨m1,e1⟩:=I.base.tbls b ps e;obtain⟨m2,e2⟩:=tbls b _ e1;exact⟨m1++m2,by rw[e2,Array.append_assoc]⟩
 ·obtain ⟨m, hn, hl⟩ := I.loc;refine⟨m,ns m hn,fun i x v e1 e2 e3=>?_⟩;obtain⟨u,r,l⟩:=hl i x v e1 e2 e3;refine⟨u,r,?_⟩;rcases l with l|⟨k,c,e,z⟩
  ·exact .inl l
  ·exact .inr ⟨k,c,e,cellK x c e _ z⟩
 ·obtain⟨v,z⟩:=I.cell x c e;exact⟨v,cellK x c e v z⟩
 ·obtain⟨m,⟨o,_,_,ho,_⟩,_⟩:=I.loc;exact free _ o (fun z=>(hch _ z).2.1 rfl) ho I.free
 ·obtain⟨v,o,ho,hd⟩:=I.cell x c e;exact free c o (fun z=>(hch c z).2.2.1 x c e rfl) ho (I.freeC x c e)
 ·obtain⟨e,n,ne,nf,d⟩:=I.pin p hp;have nch:p.1∉ch:=fun z=>(hch p.1 z).2.2.2 p hp rfl;exact⟨keep p.1 p.2 ne nf nch e n,free p.1 p.2 nch e n,ne,nf,d⟩
theorem aY.un{t':Nat}(I:aY X pins σ H s)(u:Un X.fs [] H H' s.heap h')(hok:nL X.prog X.w H' h'):aY X pins σ H' {s with heap:=h',toks:=t'}:=by
 obtain⟨m,⟨o,es,ep,ho,r⟩,_⟩:=id I.loc;obtain⟨sl,hL⟩:=u.any ho I.free (by simp)
 exact I.step (g':=s.gens) (d':=s.drawn) (ch:=[]) (fun _ z=>nomatch z) (fun b o _ hb _ e n=>u.keep b o e n hb (by simp)) (fun b o _ hb _ e n=>u.slot b o e n hb (by simp)) (fun b o _ e n=>u.free b o e n (by simp)) (fun b o _ e=>u.there b o e (by simp)) u.tups u.frzs u.tbls (fun m' hm=>by
  obtain⟨o',es',ep',ho',r'⟩:=hm;rw[ho]at ho';cases ho'
  exact⟨_,es',ep',hL,r'⟩) hok I.bare
theorem aY.call{g':Array GenState}{t':Nat}{d':Drawn}{ch:List Addr}(I:aY X pins σ H s)(u:Un (oV X.stack) ch H H' s.heap h')(hok:nL X.prog X.w H' h')(hg:AllBare g')
  (hch:∀b∈ch,(b∈X.ex\/X.s₀.heap.objs.size<=b)/\b≠X.env.locals/\(∀x c,X.env.cells.lookup x=some c->c≠b)/\∀p∈X.pn++pins,p.1≠b) :
  aY X pins σ H' {s with heap:=h',gens:=g',drawn:=d',toks:=t'}:=by
 obtain⟨m,⟨o,es,ep,ho,r⟩,_⟩:=id I.loc;obtain⟨sl,hL⟩:=u.any ho I.free fun z=>(hch _ z).2.1 rfl
 exact I.step (ch:=ch) hch (fun b o hL hb hc e n=>u.keep b o e n (fun z=>(Os.mp (I.stkSub b z)).elim hL hb) hc) (fun b o _ _ hc e n=>u.any e n hc) (fun b o hc e n=>u.free b o e n hc) (fun b o hc e=>u.there b o e hc) u.tups u.frzs u.tbls (fun m' hm=>by
  obtain⟨o',es',ep',ho',r'⟩:=hm;rw[ho]at ho';cases ho'
  exact⟨_,es',ep',hL,r'⟩) hok hg
theorem aY.turned{t':Nat}{it:Addr}(I:aY X pins σ H s)(k:∀b o,b≠it->s.heap.get? b=some o->h'.get? b=some o)(hn:H it=none)(hL:it≠X.env.locals)
  (h1:it∈X.ex\/X.s₀.heap.objs.size<=it) (h2:∀x c,X.env.cells.lookup x=some c->c≠it) (h3:∀p∈X.pn++pins,p.1≠it):aY X pins σ H {s with heap:=h',toks:=t'}:=by
 have nit:∀b u,H b=some u->b≠it:=fun b u e z=>by rw[z,hn]at e;cases e
 refine I.step (g':=s.gens) (d':=s.drawn) (ch:=[it]) (fun b hb=>?_) (fun b o _ _ hc e _=>k b o (fun z=>hc (by simp[z])) e) (fun b o _ _ hc e _=>⟨o.slots,k b o (fun z=>hc (by simp[z])) e⟩) (fun _ _ _ _ n=>n)
  (fun b o hc e=>⟨o,k b o (fun z=>hc (by simp[z])) e⟩) (fun _ _ e=>e) (fun _ _ _ e=>e) (fun b ps e=>⟨#[],by rw[e];simp⟩) (fun m hm=>?_) (fun b u e=>?_) I.bare
 ·have e : b = it := by simpa using hb
  subst e;exact⟨h1,hL,h2,h3⟩
 ·obtain⟨o,es,ep,ho,r⟩:=hm;exact⟨o,es,ep,k _ o (Ot hL) ho,r⟩
 ·refine (I.hok b u e).stay (fun c v hc q => k c v ?_ q) (fun _ q => q) fun _ _ q => q;rcases hc with z|z
  ·rw[z];exact nit b u e
  ·exact nit c _ z
theorem aY.tok(I:aY X pins σ H s)(t:Nat):aY X pins σ H {s with toks:=t}:=I.un (h':=s.heap) (t':=t) Un.refl I.hok
theorem aY.kept{t':Nat}(I:aY X pins σ H s)(k:∀b u,s.heap.get? b=some u->h'.get? b=some u):aY X pins σ H {s with heap:=h',toks:=t'}:=I.un (Un.kept k) (I.hok.kept k)
theorem aY.laid{a:Addr}{o:HO}{t':Nat}(I:aY X pins σ H s)(k:∀b u,s.heap.get? b=some u->h'.get? b=some u)(hp:s.heap.objs.size<=a)(new:fA X.prog X.w (dg H a o) h' a o) :
  aY X pins σ (dg H a o) {s with heap:=h',toks:=t'}:=I.un (Un.laid k hp (I.hok.fresh hp)) (I.hok.laid k hp new)
theorem aY.write{x e:Addr}{o:HO}{t':Nat}(I:aY X pins σ H s)(mu:Mt (H x))(he:e=x\/H e=some (.own x))(k:∀b u,b≠e->s.heap.get? b=some u->h'.get? b=some u)(heo:∃u,h'.get? e=some u)
  (new:fA X.prog X.w (dg H x o) h' x o):aY X pins σ (dg H x o) {s with heap:=h',toks:=t'}:=I.un (Un.write mu he k heo) (I.hok.write mu he k heo new)
theorem aY.pins_of{pins':List (Addr×Obj)}(I:aY X pins σ H s)(h:∀p∈pins',s.heap.get? p.1=some p.2/\H p.1=none/\p.1≠X.env.locals/\p.1∉X.fs/\∀v,p.2.data≠.cell v):aY X pins' σ H s:=
 ⟨I.ok,I.os,I.bare,I.base,I.loc,I.cell,I.free,I.freeC,fun p hp=>(Ou.mp hp).elim (fun z=>I.pin p (Ov _ z)) (h p),I.hok,I.len⟩
theorem wG{N:List Str}(hN:N.Nodup){i j:Nat}{x:Str}(a:N[i]?=some x)(b:N[j]?=some x):i=j:=by
 obtain⟨h1,e1⟩:=Ow.mp a;obtain⟨h2,e2⟩:=Ow.mp b;exact(Ox hN).mp (e1.trans e2.symm)
theorem sX{M:Model}{A:Around}{E:Value->Shared->Prop}{i:Nat}{x:Str}{v:V}{u:Value}{Q:Unit->Shared->Prop}(I:aY X pins σ H s)(hN:X.N.Nodup)(hi:X.N[i]?=some x)(hx:Ab X.env.scope x)(r:ck v u)
  (h:∀s',aY X pins (σ.set i (some v)) H s'->(∃a,Heap.SameBut a s.heap s'.heap/\(a=X.env.locals\/X.env.cells.lookup x=some a))->Q () s') (hf:X.fn x=true\/X.env.scope.names.lookup x=some .local:=by first|exact .inl rfl|exact .inr rfl|assumption):wpAny M A (storeName X.env x u) Q E s:=by
 obtain⟨m,hn,hl⟩:=id I.loc;have hcls:(X.env.scope.kind == .class || (X.env.scope.kind == .module&&X.env.locals != X.env.globals))=false:=by rw[I.ok.kind];rfl
 have hiσ:i<σ.length:=by rw[I.len];exact(Ow.mp hi).1
 have cne:=I.cne
 have tracked:∀{a:Addr}{h':Heap},(∃o,s.heap.get? a=some o/\H a=none)->Heap.SameBut a s.heap h'->nL X.prog X.w H h':=fun {a h'} ha hs b ob e=>by
  obtain⟨_,_,hfree⟩:=ha;refine(I.hok b ob e).stay (fun c w' hc q=>(hs.2 c ?_).trans q) (fun _ q=>q) fun _ _ q=>q
  rintro rfl
  rcases hc with rfl|hc
  ·rw[hfree]at e;cases e
  ·rw[hfree]at hc;cases hc
 rcases hx with hk|hk
 ·refine wpAny_storeName_local hk hn (fun h' hn' hs => ?_) hcls;obtain⟨oL,_,_,hoL,_⟩:=id hn;refine h _ ⟨I.ok,I.os,I.bare,⟨fun b o e n hb hx=>?_,fun b o e n hb hx=>?_,I.base.free,fun b o e hx=>?_,I.base.tups,I.base.frzs,I.base.tbls⟩,⟨_,hn',fun j y v' e1 e2 e3=>?_⟩,fun y c e=>?_,I.free,I.freeC,fun p hp=>?_,tracked ⟨oL,hoL,I.free⟩ hs,by simpa using I.len⟩ ⟨_,hs,.inl rfl⟩
  ·exact(hs.2 b (Oh (Of (Oe e) I.ok.above))).trans (I.base.keep b o e n hb hx)
  ·obtain⟨sl,e1⟩:=I.base.slot b o e n hb hx;exact⟨sl,(hs.2 b (Oh (Of (Oe e) I.ok.above))).trans e1⟩
  ·obtain⟨o',e1⟩:=I.base.there b o e hx;exact⟨o',(hs.2 b (Oh (Of (Oe e) I.ok.above))).trans e1⟩
  ·by_cases hj : j = i
   ·subst hj;rw[hi]at e1;cases e1;rw[Oy hiσ]at e2;cases e2;exact⟨u,r,.inl ⟨hk,by simp⟩⟩
   ·rw [OA (Ot hj)] at e2;obtain⟨u',r',q⟩:=hl j y v' e1 e2 e3;refine⟨u',r',?_⟩;rcases q with⟨k,e⟩|⟨k,c,e,z⟩
    ·refine .inl ⟨k,?_⟩;have:y≠x:=fun e=>hj (wG hN e1 (e ▸ hi));simp[this,e]
    ·exact .inr ⟨k,c,e,z.sameBut hs (cne y c e)⟩
  ·obtain⟨w',z⟩:=I.cell y c e;exact⟨w',z.sameBut hs (cne y c e)⟩
  ·obtain⟨e,n,ne,nf,d⟩:=I.pin p hp;exact⟨(hs.2 p.1 ne).trans e,n,ne,nf,d⟩
 ·have hfn:X.fn x=true:=by
   rcases hf with z|z
   ·exact z
   ·rw[z]at hk;cases hk
  obtain⟨c,hc⟩:=I.ok.has x (.inl hk);obtain⟨w',z⟩:=I.cell x c hc;refine wpAny_storeName_cell I.ok.kind hk hc z (fun h' hc' hs=>?_);obtain⟨oc,hoc,hocd⟩:=id z;refine h {s with heap:=h'} ⟨I.ok,I.os,I.bare,⟨fun b o e n hb hx=>?_,fun b o e n hb hx=>?_,I.base.free,fun b o e hx=>?_,I.base.tups,I.base.frzs,I.base.tbls⟩,⟨m,hn.sameBut hs (Ot (cne x c hc)),fun j y v' e1 e2 e3=>?_⟩,fun y c' e=>?_,I.free,I.freeC,fun p hp=>?_,tracked ⟨oc,hoc,I.freeC x c hc⟩ hs,by simpa using I.len⟩ ⟨c,hs,.inr hc⟩
  ·exact(hs.2 b (Oh (Of (Oe e) (I.ok.cab x c hfn hc)))).trans (I.base.keep b o e n hb hx)
  ·obtain⟨sl,e1⟩:=I.base.slot b o e n hb hx;exact⟨sl,(hs.2 b (Oh (Of (Oe e) (I.ok.cab x c hfn hc)))).trans e1⟩
  ·obtain⟨o',e1⟩:=I.base.there b o e hx;exact⟨o',(hs.2 b (Oh (Of (Oe e) (I.ok.cab x c hfn hc)))).trans e1⟩
  ·by_cases hj : j = i
   ·subst hj;rw[hi]at e1;cases e1;rw[Oy hiσ]at e2;cases e2;exact⟨u,r,.inr ⟨.inl hk,c,hc,hc'⟩⟩
   ·rw [OA (Ot hj)] at e2;obtain⟨u',r',q⟩:=hl j y v' e1 e2 e3;refine⟨u',r',?_⟩;rcases q with q|⟨k,c',e,z'⟩
    ·exact .inl q
    ·refine .inr ⟨k, c', e, z'.sameBut hs ?_⟩
     rintro rfl
     exact hj (wG hN e1 (I.ok.inj _ _ _ e hc ▸ hi))
  ·by_cases hcc : c' = c
   ·subst hcc;exact⟨_,hc'⟩
   ·obtain⟨w2,z2⟩:=I.cell y c' e;exact⟨w2,z2.sameBut hs hcc⟩
  ·obtain⟨e,n,ne,nf,d⟩:=I.pin p hp;refine⟨(hs.2 p.1 ?_).trans e,n,ne,nf,d⟩;intro q;rw[q,hoc]at e;have q':oc=p.2:=Od e;exact d w' (by rw[<- q'];exact hocd)
theorem m5{M:Model}{A:Around}{E:Value->Shared->Prop}{i:Nat}{x:Str}{v:V}{u:Value}{Q:Unit->Shared->Prop}(I:aY X pins σ H s)(hN:X.N.Nodup)(hi:X.N[i]?=some x)(hx:Ab X.env.scope x)(r:ck v u)
  (h:∀s',aY X pins (σ.set i (some v)) H s'->Q () s') (hf:X.fn x=true\/X.env.scope.names.lookup x=some .local:=by first|exact .inl rfl|exact .inr rfl|assumption):wpAny M A (storeName X.env x u) Q E s:=
 sX I hN hi hx r (fun s' I' _=>h s' I') hf
theorem aY.call'{s':Shared}{ch:List Addr}(I:aY X pins σ H s)(ho:s'.os=s.os)(u:Un (oV X.stack) ch H H' s.heap s'.heap)(hok:nL X.prog X.w H' s'.heap)(hg:AllBare s'.gens)
  (hch:∀b∈ch,(b∈X.ex\/X.s₀.heap.objs.size<=b)/\b≠X.env.locals/\(∀x c,X.env.cells.lookup x=some c->c≠b)/\∀p∈X.pn++pins,p.1≠b):aY X pins σ H' s':=by
 obtain⟨h',g',d',t',o'⟩:=s';have e:o'=s.os:=ho;subst e;exact I.call (g':=g') (t':=t') (d':=d') u hok hg hch
end
abbrev XK:=Value->Option Addr->Hp->Prop
abbrev St:=List (Option V)
abbrev VK:=V->Hp->Prop
abbrev TE:=St->Hp->VK->Prop
abbrev TT:=St->Hp->(Bool->Hp->Prop)->Prop
abbrev TA:=St->Hp->(List V->Hp->Prop)->Prop
structure nT where
 nx:St->Hp->Prop
 rt:VK
 bk:St->Hp->Prop:=fun _ _=>False
 ct:St->Hp->Prop:=fun _ _=>False
abbrev TS:=nT->St->Hp->Prop
def EP(X:Cx)(pins:List (Addr×Obj))(σ:St)(Q:VK)(u:Value)(s':Shared):Prop:=∃v H',aY X pins σ H' s'/\ck v u/\Q v H'
def TP(X:Cx)(pins:List (Addr×Obj))(σ:St)(Q:Bool->Hp->Prop)(b:Bool)(s':Shared):Prop:=∃H',aY X pins σ H' s'/\Q b H'
def AP(X:Cx)(pins:List (Addr×Obj))(σ:St)(Q:List V->Hp->Prop)(us:List Value)(s':Shared):Prop:=∃vs H',aY X pins σ H' s'/\bh vs us/\Q vs H'
def SP(X:Cx)(pins:List (Addr×Obj))(D:nT)(f:Flow)(s':Shared):Prop:=
 match f with
 |.next=>∃σ' H',aY X pins σ' H' s'/\D.nx σ' H'
 |.brk=>∃σ' H',aY X pins σ' H' s'/\D.bk σ' H'
 |.cont=>∃σ' H',aY X pins σ' H' s'/\D.ct σ' H'
 |.ret u=>∃v σ' H',aY X pins σ' H' s'/\ck v u/\D.rt v H'
def PE(X:Cx)(e:Expr)(t:TE):Prop:=
 ∀(pins:List (Addr×Obj))(s:Shared)(σ:St)(H:Hp)(Q:VK),aY X pins σ H s->t σ H Q->wpAny (model X.prog X.w) X.A (eval e X.env) (EP X pins σ Q) X.xe s
def PT(X:Cx)(e:Expr)(t:TT):Prop:=
 ∀(pins:List (Addr×Obj))(s:Shared)(σ:St)(H:Hp)(Q:Bool->Hp->Prop),aY X pins σ H s->t σ H Q->wpAny (model X.prog X.w) X.A (isTrue e X.env (eval e X.env)) (TP X pins σ Q) X.xe s
def PW(X:Cx)(e:Expr)(t:TT):Prop:=
 ∀(whole:Sem Value)(pins:List (Addr×Obj))(s:Shared)(σ:St)(H:Hp)(Q:Bool->Hp->Prop),aY X pins σ H s->t σ H Q->wpAny (model X.prog X.w) X.A (isTrue e X.env whole) (TP X pins σ Q) X.xe s
theorem PW.pt{X:Cx}{e:Expr}{t:TT}(h:PW X e t):PT X e t:=h _
def PA(X:Cx)(es:List Expr)(t:TA):Prop:=
 ∀(pos:Pos)(pins:List (Addr×Obj))(s:Shared)(σ:St)(H:Hp)(Q:List V->Hp->Prop),aY X pins σ H s->t σ H Q->wpAny (model X.prog X.w) X.A (spliced (backTo pos (starEach es X.env))) (AP X pins σ Q) X.xe s
def PS(X:Cx)(st:Stmt)(t:TS):Prop:=
 ∀(pins:List (Addr×Obj))(s:Shared)(σ:St)(H:Hp)(D:nT),aY X pins σ H s->t D σ H->wpAny (model X.prog X.w) X.A (exec st X.env) (SP X pins D) X.xe s
def jt(X:Cx)(st:List Stmt)(t:TS):Prop:=
 ∀(pins:List (Addr×Obj))(s:Shared)(σ:St)(H:Hp)(D:nT),aY X pins σ H s->t D σ H->wpAny (model X.prog X.w) X.A (execs st X.env) (SP X pins D) X.xe s
theorem dr{α:Type}{t:Sem α}{Q Q':α->Shared->Prop}{M:Model}{A:Around}{E:Value->Shared->Prop}{s:Shared}(h:wpAny M A t Q E s)(hQ:∀a s,Q a s->Q' a s):wpAny M A t Q' E s:=OB h hQ fun _ _ x=>x
end L2
namespace L2
open PySem PySem.Spec PyProof.Rows
section
variable{X:Cx}
def Hs(i:Nat):TE:=fun σ H Q=>∃v,σ[i]?=some (some v)/\Q v H
def tC(v:V):TE:=fun _ H Q=>Q v H
theorem Cv {i:Nat}{x:Str}{pos:Pos} (hN:X.N[i]?=some x) (hv:KD X.env.scope x) (hd:(x == ("__debug__" : Str))=false:=by decide) (hcd:(x == ("__classdict__" : Str))=false:=by decide):PE X (.Name x pos) (Hs i):=by
 intro pins s σ H Q I h;obtain⟨v,e,h⟩:=h;obtain⟨m,hn,hl⟩:=I.loc;obtain⟨u,r,l⟩:=hl i x v hN e hv;have fin:EP X pins σ Q u s:=⟨v,H,I,r,h⟩;rcases l with⟨hk,hm⟩|⟨hk,c,hc,hcell⟩
 ·exact wpAny_Name (wpAny_loadName_local I.ok.kind hk hn hm fin) hd
 ·rcases hk with hk | hk
  ·exact wpAny_Name (wpAny_loadName_cell I.ok.kind hk hc hcell fin) hd
  ·exact wpAny_Name (wpAny_loadName_free I.ok.kind hk hc hcell fin hcd) hd
theorem Jf{i j pos}:PE X (.Constant (.int i) j pos) (tC (.int i)):=fun _ _ _ H _ I h=>wpAny_Constant_int ⟨.int i,H,I.tok _,⟨_,rfl⟩,h⟩
theorem LQ{b j pos}:PE X (.Constant (.bool b) j pos) (tC (.bl b)):=fun _ _ _ H _ I h=>Constant_bool ⟨.bl b,H,I,rfl,h⟩
theorem Je{j pos}:PE X (.Constant .none j pos) (tC .non):=fun _ _ _ H _ I h=>Constant_none ⟨.non,H,I,rfl,h⟩
theorem Jb{x j pos}:PE X (.Constant (.str x) j pos) (tC (.str x)):=fun _ _ _ H _ I h=>Calls.Constant_str ⟨.str x,H,I.tok _,⟨_,rfl⟩,h⟩
def Gl(X:Cx)(x:Str):Prop:=X.env.kindOf x=some .globalImplicit
theorem mS{E:Value->Shared->Prop}{pins:List (Addr×Obj)}{s:Shared}{σ:St}{H:Hp}{x:Str}{u:Value}{pos:Pos}{Q:Value->Shared->Prop}(I:aY X pins σ H s)(hg:Gl X x)(hm:X.mg x=some u)(h:Q u s)
  (hd:(x == ("__debug__" : Str))=false:=by decide):wpAny (model X.prog X.w) X.A (eval (.Name x pos) X.env) Q E s:=
 Calls.Name_function_global I.ok.kind hg (Calls.loadGlobal_global (by rw[I.ok.glob];exact I.mod.glob.keeps I.bk) hm h) hd
theorem qQ{E:Value->Shared->Prop}{pins:List (Addr×Obj)}{s:Shared}{σ:St}{H:Hp}{x:Str}{u:Value}{pos:Pos}{Q:Value->Shared->Prop}(I:aY X pins σ H s)(hg:Gl X x)(hm:X.mg x=none)(hv:bootBuiltins x=some u)(h:Q u s)
  (hn:x ≠ "__name__" := by decide) (hd:(x == ("__debug__" : Str))=false:=by decide):wpAny (model X.prog X.w) X.A (eval (.Name x pos) X.env) Q E s:=by
 obtain⟨mb,h1,h2⟩:=I.mod.blt;exact Calls.Name_function_global I.ok.kind hg (Calls.loadGlobal_builtin (by rw[I.ok.glob];exact I.mod.glob.keeps I.bk) hm (by rw[I.ok.blt];exact h1.keeps I.bk) ((h2 x hn).trans hv) h) hd
theorem uH {x:Str}{v:V}{u:Value}{pos:Pos} (hg:Gl X x) (hm:X.mg x=some u) (r:ck v u) (hd:(x == ("__debug__" : Str))=false:=by decide):PE X (.Name x pos) (tC v):=
 fun _ _ _ H _ I h=>mS I hg hm ⟨v,H,I,r,h⟩ hd
theorem zG {x:Str}{v:V}{u:Value}{pos:Pos} (hg:Gl X x) (hm:X.mg x=none) (hv:bootBuiltins x=some u) (r:ck v u) (hn:x ≠ "__name__" := by decide) (hd:(x == ("__debug__" : Str))=false:=by decide):PE X (.Name x pos) (tC v):=
 fun _ _ _ H _ I h=>qQ I hg hm hv ⟨v,H,I,r,h⟩ hn hd
variable{a b:Expr}{ta tb:TE}{pos:Pos}
variable{tA tB':TT}{rest:List Expr}
def MY(t u:TT):TT:=fun σ H Q=>t σ H fun c H1=>if c=true then u σ H1 Q else Q false H1
def NU(t u:TT):TT:=fun σ H Q=>t σ H fun c H1=>if c=true then Q true H1 else u σ H1 Q
def MR(t:TT):TT:=fun σ H Q=>t σ H fun c H1=>Q (!c) H1
theorem Fv(ha:PT X a tA):PW X (.BoolOp .And [a] pos) tA:=by
 intro wh pins s σ H Q I h;refine isTrue_and (dr (ha pins s σ H Q I h) fun c s1 e=>?_);cases c with
 |true=>exact isTrue_and_nil e
 |false=>exact e
theorem IP(ha:PT X a tA):PW X (.BoolOp .Or [a] pos) tA:=by
 intro wh pins s σ H Q I h;refine isTrue_or (dr (ha pins s σ H Q I h) fun c s1 e=>?_);cases c with
 |false=>exact isTrue_or_nil e
 |true=>exact e
theorem IQ(ha:PT X a tA)(hb:PW X (.BoolOp .And (b::rest) pos) tB'):PW X (.BoolOp .And (a::b::rest) pos) (MY tA tB'):=by
 intro wh pins s σ H Q I h;refine isTrue_and (dr (ha pins s σ H _ I h) fun c s1 ⟨H1,I1,q1⟩=>?_);cases c with
 |true=>exact hb wh pins s1 σ H1 Q I1 q1
 |false=>exact⟨H1,I1,q1⟩
theorem LK(ha:PT X a tA)(hb:PW X (.BoolOp .Or (b::rest) pos) tB'):PW X (.BoolOp .Or (a::b::rest) pos) (NU tA tB'):=by
 intro wh pins s σ H Q I h;refine isTrue_or (dr (ha pins s σ H _ I h) fun c s1 ⟨H1,I1,q1⟩=>?_);cases c with
 |true=>exact⟨H1,I1,q1⟩
 |false=>exact hb wh pins s1 σ H1 Q I1 q1
theorem IR(ha:PT X a tA):PT X (.UnaryOp .Not a pos) (MR tA):=by
 intro pins s σ H Q I h;exact isTrue_not (ha pins s σ H (fun c H1=>Q (!c) H1) I h)
def Lx(ta tb:TE):TE:=fun σ H Q=>ta σ H fun x H1=>∃c,x=.bl c/\if c=true then tb σ H1 Q else Q (.bl false) H1
def Lp(ta:TE):TE:=fun σ H Q=>ta σ H fun x H1=>∃c,x=.bl c/\Q (.bl (!c)) H1
theorem Jc{op}{t:TE}(h:PE X a t):PE X (.BoolOp op [a] pos) t:=fun pins s σ H Q I hw=>BoolOp_one (h pins s σ H Q I hw)
theorem Jg(ha:PE X a ta)(hb:PE X (.BoolOp .And (b::rest) pos) tb):PE X (.BoolOp .And (a::b::rest) pos) (Lx ta tb):=by
 intro pins s σ H Q I h;refine BoolOp_and (dr (ha pins s σ H _ I h) fun v s1 ⟨x,H1,I1,r1,q1⟩=>?_);obtain⟨c,rfl,q1⟩:=q1;cases r1;refine OC ?_;cases c with
 |true=>exact hb pins s1 σ H1 Q I1 q1
 |false=>exact⟨.bl false,H1,I1,rfl,q1⟩
theorem Jd(ha:PE X a ta):PE X (.UnaryOp .Not a pos) (Lp ta):=by
 intro pins s σ H Q I h;refine UnaryOp_ (dr (ha pins s σ H _ I h) fun v s1 ⟨x,H1,I1,r1,q1⟩=>?_);obtain⟨c,rfl,q1⟩:=q1;cases r1;exact not_of (OC ⟨.bl (!c),H1,I1,rfl,q1⟩)
def NV(t:TT)(ta tb:TE):TE:=fun σ H Q=>t σ H fun c H1=>if c=true then ta σ H1 Q else tb σ H1 Q
theorem Dz{c:Expr}(hc:PT X c tA)(ha:PE X a ta)(hb:PE X b tb):PE X (.IfExp c a b pos) (NV tA ta tb):=by
 intro pins s σ H Q I h;refine wpAny_IfExp (dr (hc pins s σ H _ I h) fun d s1 ⟨H1,I1,q1⟩=>?_);cases d with
 |true=>exact ha pins s1 σ H1 Q I1 q1
 |false=>exact hb pins s1 σ H1 Q I1 q1
end
end L2
namespace L2
open PySem PySem.Spec PyProof.Rows
def gu(K:W.Frag)(H:Hp)(a:Addr)(xs:List V):Prop:=
 Rd H a (.lst xs) \/
  ∃(o:Obj) (its:Array Value) (n:Nat),K.lookup a=some o/\o.cls=.type "list" /\ o.dict=none/\o.data=.seq its n/\its.size<=sizeLine/\bh xs its.toList
def gP(K:W.Frag)(H:Hp)(a:Addr)(xs:List V):Prop:=
 Rd H a (.tup xs) \/
  ∃(o:Obj) (its:Array Value) (n:Nat),K.lookup a=some o/\o.cls=.type "tuple" /\ o.data=.seq its n/\its.size<=sizeLine/\bh xs its.toList
def Nt:Value->Option V
 |.none=>some .non
 |.bool b=>some (.bl b)
 |.int i _=>some (.int i)
 |.str x _=>some (.str x)
 |.bytes b _=>some (.byt b)
 |.float b _=>some (.flt b)
 |.ref a=>some (.ref a)
 |.type n=>some (.ty n)
 |_=>none
theorem ck.abs{x:V}{u:Value}(r:ck x u):Nt u=some x:=by
 cases x with
 |non=>cases r;rfl
 |bl _=>cases r;rfl
 |int _=>obtain⟨t,rfl⟩:=r;rfl
 |str _=>obtain⟨t,rfl⟩:=r;rfl
 |byt _=>obtain⟨t,rfl⟩:=r;rfl
 |flt _=>obtain⟨t,rfl⟩:=r;rfl
 |ref _=>cases r;rfl
 |ty _=>cases r;rfl
theorem ck.inj{x y:V}{u:Value}(r:ck x u)(q:ck y u):x=y:=Od (r.abs.symm.trans q.abs)
theorem bh.inj:∀{xs ys:List V}{us:List Value},bh xs us->bh ys us->xs=ys
 |_,_,_,.nil,.nil=>rfl
 |_,_,_,.cons r t,.cons r' t'=>by rw[r.inj r',bh.inj t t']
section
variable{X:Cx}{pins:List (Addr×Obj)}{σ:St}{H:Hp}{s:Shared}{a:Addr}{xs ys:List V}
theorem gu.of{K:W.Frag}(h:H a=some (.lst xs)):gu K H a xs:=.inl (.inl h)
theorem gP.of{K:W.Frag}(h:H a=some (.tup xs)):gP K H a xs:=.inl (.inl h)
theorem aY.list(I:aY X pins σ H s)(h:gu X.K H a xs):∃its:List Value,bh xs its/\PlainL s.heap a its.toArray/\xs.length<=sizeLine:=by
 rcases h with h|⟨o,its,n,hk,hc,hd,hs,hz,r⟩
 ·obtain⟨z,its,n,r,e⟩:=h.ok I.hok;exact⟨its,r,⟨_,n,e,rfl,rfl,rfl⟩,z⟩
 ·refine⟨its.toList,r,⟨o,n,I.kIn a o hk,hc,hd,by simpa using hs⟩,?_⟩;have e:=r.length;simp only[OD]at e;omega
theorem aY.tuple(I:aY X pins σ H s)(h:gP X.K H a xs):∃its:List Value,bh xs its/\IsTup s.heap a its.toArray/\xs.length<=sizeLine:=by
 rcases h with h|⟨o,its,n,hk,hc,hs,hz,r⟩
 ·obtain⟨z,its,r,p⟩:=h.ok I.hok;exact⟨its,r,p,z⟩
 ·refine⟨its.toList,r,⟨o,I.kIn a o hk,hc,n,by simpa using hs⟩,?_⟩;have e:=r.length;simp only[OD]at e;omega
theorem aY.list_inj(I:aY X pins σ H s)(h:gu X.K H a xs)(h':gu X.K H a ys):xs=ys:=by
 obtain⟨its,r,⟨o,n,e,_,_,d⟩,_⟩:=I.list h;obtain⟨its',r',⟨o',n',e',_,_,d'⟩,_⟩:=I.list h';rw[e]at e';cases e';rw[d]at d';injection d' with d1 _
 have:its=its':=by simpa using OE Array.toList d1
 subst this;exact r.inj r'
theorem aY.tuple_inj(I:aY X pins σ H s)(h:gP X.K H a xs)(h':gP X.K H a ys):xs=ys:=by
 obtain⟨its,r,⟨o,e,_,n,d⟩,_⟩:=I.tuple h;obtain⟨its',r',⟨o',e',_,n',d'⟩,_⟩:=I.tuple h';rw[e]at e';cases e';rw[d]at d';injection d' with d1 _
 have:its=its':=by simpa using OE Array.toList d1
 subst this;exact r.inj r'
end
abbrev Cx.wish(X:Cx)(E:Value->Shared->Prop):Cx:={X with xe:=E}
abbrev Cx.nox(X:Cx):Cx:=X.wish fun _ _=>False
theorem Cx.Ok.wish{X:Cx}(ok:X.Ok)(E:Value->Shared->Prop):(X.wish E).Ok:=
 ⟨ok.mod,ok.kind,ok.glob,ok.blt,ok.above,ok.inj,ok.has,ok.cab,ok.hd,ok.frames,ok.stk,ok.exf,ok.bs,ok.bsz,ok.noex,ok.exfs,ok.funs,ok.frf⟩
theorem Cx.Ok.unwish{X:Cx}{E:Value->Shared->Prop}(ok:(X.wish E).Ok):X.Ok:=
 ⟨ok.mod,ok.kind,ok.glob,ok.blt,ok.above,ok.inj,ok.has,ok.cab,ok.hd,ok.frames,ok.stk,ok.exf,ok.bs,ok.bsz,ok.noex,ok.exfs,ok.funs,ok.frf⟩
section
variable{X:Cx}{pins:List (Addr×Obj)}{σ:St}{H:Hp}{s:Shared}{E:Value->Shared->Prop}
theorem aY.wish(I:aY X pins σ H s)(E:Value->Shared->Prop):aY (X.wish E) pins σ H s:=⟨I.ok.wish E,I.os,I.bare,I.base,I.loc,I.cell,I.free,I.freeC,I.pin,I.hok,I.len⟩
theorem aY.unwish(I:aY (X.wish E) pins σ H s):aY X pins σ H s:=⟨I.ok.unwish,I.os,I.bare,I.base,I.loc,I.cell,I.free,I.freeC,I.pin,I.hok,I.len⟩
theorem SP.unwish{D:nT}{f:Flow}{s':Shared}(h:SP (X.wish E) pins D f s'):SP X pins D f s':=by
 cases f with
 |next=>obtain⟨σ',H',I,q⟩:=h;exact⟨σ',H',I.unwish,q⟩
 |brk=>obtain⟨σ',H',I,q⟩:=h;exact⟨σ',H',I.unwish,q⟩
 |cont=>obtain⟨σ',H',I,q⟩:=h;exact⟨σ',H',I.unwish,q⟩
 |ret u=>obtain⟨v,σ',H',I,r,q⟩:=h;exact⟨v,σ',H',I.unwish,r,q⟩
theorem jt.nox{st:List Stmt}{t:TS}(h:jt X.nox st t):jt X st t:=fun pins s σ H D I hw=>
 OB (h pins s σ H D (I.wish _) hw) (fun _ _ q=>q.unwish) fun _ _ z=>False.elim z
end
section
variable{X:Cx}{st:Stmt}{rest:List Stmt}{t u:TS}{e:Expr}{te:TE}{pos:Pos}
def Lq:TS:=fun D σ H=>D.nx σ H
def MP(t u:TS):TS:=fun D σ H=>t {D with nx:=u D} σ H
theorem FC:jt X [] Lq:=fun _ _ σ H _ I h=>OF ⟨σ,H,I,h⟩
theorem Ds(h1:PS X st t)(h2:jt X rest u):jt X (st::rest) (MP t u):=by
 intro pins s σ H D I h;refine wpAny_execs_cons (dr (h1 pins s σ H {D with nx:=u D} I h) fun f s1 q=>?_);cases f with
 |next=>
  obtain⟨σ',H',I',q⟩:=q;exact h2 pins s1 σ' H' D I' q
 |ret v=>exact q
 |brk=>exact q
 |cont=>exact q
theorem FA(h1:PS X st t):jt X [st] t:=by
 intro pins s σ H D I h;refine wpAny_execs_cons (dr (h1 pins s σ H D I h) fun f s1 q=>?_);cases f with
 |next=>exact OF q
 |ret v=>exact q
 |brk=>exact q
 |cont=>exact q
theorem aY.quiet{pins:List (Addr×Obj)}{σ:St}{H:Hp}{s:Shared}(I:aY X pins σ H s):interactive X.env=false:=by simp[interactive,I.ok.kind]
def Lr(te:TE):TS:=fun D σ H=>te σ H fun _ H1=>D.nx σ H1
theorem FE(he:PE X e te)(hs:swapsWith e none pos.line X.env=pure false:=by rfl):PS X (.Expr e pos) (Lr te):=by
 intro pins s σ H D I h;exact wpAny_Expr_any (dr (he pins s σ H _ I h) fun v s1 ⟨x,H1,I1,r1,q1⟩=>⟨σ,H1,I1,q1⟩) I.quiet hs
def MQ(te:TE):TS:=fun D σ H=>te σ H D.rt
theorem IU(he:PE X e te):PS X (.Return (some e) pos) (MQ te):=by
 intro pins s σ H D I h;exact wpAny_Return_some (dr (he pins s σ H _ I h) fun v s1 ⟨x,H1,I1,r1,q1⟩=>⟨x,σ,H1,I1,r1,q1⟩)
def MV(c:TT)(t u:TS):TS:=fun D σ H=>c σ H fun b H1=>if b=true then t D σ H1 else u D σ H1
theorem LL{c:Expr}{a b:List Stmt}{tc:TT}(hc:PT X c tc)(ha:jt X a t)(hb:jt X b u):PS X (.If c a b pos) (MV tc t u):=by
 intro pins s σ H D I h;refine wpAny_If (dr (hc pins s σ H _ I h) fun d s1 ⟨H1,I1,q1⟩=>?_);cases d with
 |true=>exact ha pins s1 σ H1 D I1 q1
 |false=>exact hb pins s1 σ H1 D I1 q1
end
abbrev TG:=V->St->Hp->(St->Hp->Prop)->Prop
abbrev Ep:=List V->St->Hp->(St->Hp->Prop)->Prop
def PG(X:Cx)(target:Expr)(t:TG):Prop:=
 ∀(pins:List (Addr×Obj))(s:Shared)(σ:St)(H:Hp)(v:V)(u:Value)(Q:St->Hp->Prop),aY X pins σ H s->ck v u->t v σ H Q ->
  wpAny (model X.prog X.w) X.A (assign target X.env u) (fun _ s'=>∃σ' H',aY X pins σ' H' s'/\Q σ' H') X.xe s
def xP(X:Cx)(ts:List Expr)(t:Ep):Prop:=
 ∀(pins:List (Addr×Obj))(s:Shared)(σ:St)(H:Hp)(vs:List V)(us:List Value)(Q:St->Hp->Prop),aY X pins σ H s->bh vs us->t vs σ H Q ->
  wpAny (model X.prog X.w) X.A (assignInOrder ((assignEach ts X.env).map (·.2)) us) (fun _ s'=>∃σ' H',aY X pins σ' H' s'/\Q σ' H') X.xe s
abbrev HE:=V->V->V->Hp->(Hp->Prop)->Prop
def La(X:Cx)(t:HE):Prop:=
 ∀(pins:List (Addr×Obj))(s:Shared)(σ:St)(H:Hp)(o i v:V)(ov iv u:Value)(Q:Hp->Prop),aY X pins σ H s->ck o ov->ck i iv->ck v u->t o i v H Q ->
  wpAny (model X.prog X.w) X.A (setItem ov iv u) (fun _ s'=>∃H',aY X pins σ H' s'/\Q H') X.xe s
abbrev KE:=V->V->Hp->VK->Prop
def Ms(X:Cx)(op:Operator)(t:KE):Prop:=
 ∀(pins:List (Addr×Obj))(s:Shared)(σ:St)(H:Hp)(x y:V)(v u:Value)(Q:VK),aY X pins σ H s->ck x v->ck y u->t x y H Q ->
  wpAny (model X.prog X.w) X.A (inplaceOp op v u) (EP X pins σ Q) X.xe s
section
variable{X:Cx}{pos:Pos}
def vR(i:Nat):TG:=fun v σ H Q=>Q (σ.set i (some v)) H
theorem FJ{i:Nat}{x:Str}(hN:X.N.Nodup)(hi:X.N[i]?=some x)(hx:Ab X.env.scope x)(hf:X.fn x=true\/X.env.scope.names.lookup x=some .local:=by first|exact .inl rfl|exact .inr rfl|assumption):PG X (.Name x pos) (vR i):=by
 intro pins s σ H v u Q I r h;exact wpAny_assign_Name (m5 I hN hi hx r (fun s' I'=>⟨_,H,I',h⟩) hf)
def Nl:Ep:=fun vs σ H Q=>vs=[]/\Q σ H
def L6(t:TG)(u:Ep):Ep:=fun vs σ H Q=>∃v r,vs=v::r/\t v σ H fun σ' H'=>u r σ' H' Q
theorem FI:xP X [] Nl:=by
 intro pins s σ H vs us Q I r h;obtain⟨e,h⟩:=h;subst e;cases r;exact assignInOrder_nil ⟨σ,H,I,h⟩
theorem Dx{e:Expr}{es:List Expr}{t:TG}{u:Ep}(h1:PG X e t)(h2:xP X es u)
  (hs:(assignEach (e::es) X.env).map (·.2)=assign e X.env::(assignEach es X.env).map (·.2):=by rfl):xP X (e::es) (L6 t u):=by
 intro pins s σ H vs us Q I r h;obtain⟨v,vr,e1,h⟩:=h;subst e1;cases r with
 |cons r rr=>
  rw[hs];refine assignInOrder_cons (dr (h1 pins s σ H _ _ _ I r h) fun _ s1 ⟨σ1,H1,I1,q1⟩=>?_);exact h2 pins s1 σ1 H1 _ _ Q I1 rr q1
def Nj(K:W.Frag)(n:Nat)(t:Ep):TG:=fun v σ H Q=>∃a xs,v=.ref a/\gP K H a xs/\xs.length=n/\t xs σ H Q
theorem IZ{es:List Expr}{k:Nat}{t:Ep}{n:Nat}(hc:X.calm=true)(h:xP X es t)
  (hn:(assignEach es X.env).length=n:=by rfl) (hst:(assignEach es X.env).findIdx? (·.1)=none:=by rfl):PG X (.Tuple es k pos) (Nj X.K n t):=by
 intro pins s σ H v u Q I r hw;obtain⟨a,xs,e1,hq,hl,hw⟩:=hw;subst e1;cases r;obtain⟨its,rv,ht,hz⟩:=I.tuple hq;refine assign_Tuple_tuple (I.ok.hd hc) ht (by simp[hn,<- hl,rv.length]) hst fun h' hx=>?_;have I1:aY X pins σ H {s with heap:=h'}:=I.kept (t':=s.toks) fun b o e=>hx b o (Oh (Oe e)) e;exact h pins _ σ H xs _ Q I1 (by simpa using rv) hw
def Nk(to ti:TE)(t:HE):TG:=fun v σ H Q=>to σ H fun o H1=>ti σ H1 fun i H2=>t o i v H2 fun H3=>Q σ H3
theorem I0{o i:Expr}{to ti:TE}{t:HE}(ho:PE X o to)(hi:PE X i ti)(hs:La X t)
  (ha : ∀ v, assign (.Subscript o i pos) X.env v = (do
   let ov <- holding [v] (eval o X.env)
   let iv <- holding [v,ov] (eval i X.env)
   standAt pos
   holding [v,ov,iv] (setItem ov iv v)
   release [v,ov,iv] []):=by intro _;rfl):PG X (.Subscript o i pos) (Nk to ti t):=by
 intro pins s σ H v u Q I r h;rw[ha];refine OG (OH (dr (ho pins s σ H _ I h) fun ov s1 ⟨x,H1,I1,r1,q1⟩=>?_));refine OG (OH (dr (hi pins s1 σ H1 _ I1 q1) fun iv s2 ⟨y,H2,I2,r2,q2⟩=>?_));refine OG (OI (OG (OH (dr (hs pins s2 σ H2 x y v ov iv u _ I2 r1 r2 r q2) fun _ s3 ⟨H3,I3,q3⟩=>?_))));exact wpAny_release ⟨σ,H3,I3,q3⟩
def BA(te:TE)(g:TG):TS:=fun D σ H=>te σ H fun x H1=>g x σ H1 D.nx
theorem IX{tg e:Expr}{te:TE}{g:TG}(he:PE X e te)(hg:PG X tg g)(hs:swapsWithSole [tg] e pos.line X.env=pure false:=by rfl)(hw:swappedStores [tg] e X.env=pure none:=by rfl)
  (h1:(assignEach [tg] X.env).map (·.2)=[assign tg X.env]:=by rfl):PS X (.Assign [tg] e pos) (BA te g):=by
 intro pins s σ H D I h;refine wpAny_Assign_stores (dr (he pins s σ H _ I h) fun v s1 ⟨x,H1,I1,r1,q1⟩=>?_) hs hw;rw[h1];exact dr (hg pins s1 σ H1 x v _ I1 r1 q1) fun _ s2 q=>q
theorem IT{i:Nat}{x:Str}{e:Expr}{te:TE}{pos':Pos}(hN:X.N.Nodup)(hi:X.N[i]?=some x)(hx:Ab X.env.scope x)(he:PE X e te)(hs:swapsWith e (some (.Name x pos')) pos.line X.env=pure false:=by rfl)(hf:X.fn x=true\/X.env.scope.names.lookup x=some .local:=by first|exact .inl rfl|exact .inr rfl|assumption) :
  PS X (.Assign [.Name x pos'] e pos) (BA te (vR i)):=by
 intro pins s σ H D I h;refine wpAny_Assign_Name (dr (he pins s σ H _ I h) fun v s1 ⟨y,H1,I1,r1,q1⟩=>?_) hs;exact m5 I1 hN hi hx r1 (fun s2 I2=>⟨_,H1,I2,q1⟩) hf
def MX(i:Nat)(te:TE)(ti:KE):TS:=fun D σ H=>∃x,σ[i]?=some (some x)/\te σ H fun y H1=>ti x y H1 fun z H2=>D.nx (σ.set i (some z)) H2
theorem IW{i:Nat}{x:Str}{e:Expr}{te:TE}{op:Operator}{ti:KE}{pos':Pos}(hN:X.N.Nodup)(hi:X.N[i]?=some x)(hx:Ab X.env.scope x)(he:PE X e te)(ho:Ms X op ti)(hf:X.fn x=true\/X.env.scope.names.lookup x=some .local:=by first|exact .inl rfl|exact .inr rfl|assumption) :
  PS X (.AugAssign (.Name x pos') op e pos) (MX i te ti):=by
 intro pins s σ H D I h;obtain⟨v,e1,h⟩:=h;obtain⟨m,hn,hl⟩:=I.loc;have vis:KD X.env.scope x:=by rcases hx with k|k;exact .inl k;exact .inr (.inl k)
 obtain⟨u,r,l⟩:=hl i x v hi e1 vis;refine wpAny_AugAssign_Name ?_
 have go:wpAny (model X.prog X.w) X.A (eval e X.env) (fun w s₂=>wpAny (model X.prog X.w) X.A (inplaceOp op u w) (fun r s₃=>wpAny (model X.prog X.w) X.A (storeName X.env x r) (fun _=>SP X pins D .next) X.xe s₃) X.xe s₂) X.xe s:=by
  refine dr (he pins s σ H _ I h) fun w s1 ⟨y,H1,I1,r1,q1⟩=>?_;refine dr (ho pins s1 σ H1 v y u w _ I1 r r1 q1) fun z s2 ⟨zv,H2,I2,r2,q2⟩=>?_;exact m5 I2 hN hi hx r2 (fun s3 I3=>⟨_,H2,I3,q2⟩) hf
 rcases l with⟨hk,hm⟩|⟨hk,c,hc,hcell⟩
 ·exact wpAny_loadName_local I.ok.kind hk hn hm go
 ·rcases hk with hk | hk
  ·exact wpAny_loadName_cell I.ok.kind hk hc hcell go
  ·rcases hx with k | k
   ·have:X.env.scope.names.lookup x=some .free:=hk;rw[k]at this;cases this
   ·have:X.env.scope.names.lookup x=some .free:=hk;rw[k]at this;cases this
def NX(f:Int->Int->Int):KE:=fun x y H Q=>∃i j,x=.int i/\y=.int j/\Q (.int (f i j)) H
theorem JZ:Ms X .Add (NX fun i j=>i+j):=by
 intro pins s σ H x y v u Q I r1 r2 h;obtain⟨i,j,e1,e2,q⟩:=h;subst e1;subst e2;obtain⟨t,rfl⟩:=r1;obtain⟨t',rfl⟩:=r2;exact iadd_int ⟨.int _,H,I.tok _,⟨_,rfl⟩,q⟩
end
section
variable{X:Cx}{pos:Pos}
def HW(c:TT)(tb:TS):TS:=fun D σ H=>∃W:Nat->St->Hp->Prop,(∃m,W m σ H)/\∀m σ H,W m σ H ->
 c σ H fun b H1=>if b=true then ∃N:St->Hp->Prop,(∀σ' H',N σ' H'->∃m',m'<m/\W m' σ' H')/\tb {D with nx:=N,ct:=N,bk:=D.nx} σ H1 else D.nx σ H1
theorem Dt{c:Expr}{body:List Stmt}{tc:TT}{tb:TS}(hp:PassesOwn (model X.prog X.w) X.A X.env X.xe)(hc:PT X c tc)(hb:jt X body tb):PS X (.While c body [] pos) (HW tc tb):=by
 intro pins s σ H D I h;obtain⟨W,⟨m0,w0⟩,turn⟩:=h;refine wpAny_While (codeAny_whileLoop (fun n s'=>∃σ' H',aY X pins σ' H' s'/\W n σ' H') ?_ m0 ⟨σ,H,I,w0⟩)
 rintro n s1 ⟨σ1,H1,I1,w1⟩
 refine OJ hp (dr (hc pins s1 σ1 H1 _ I1 (turn n σ1 H1 w1)) fun b s2 ⟨H2,I2,q2⟩=>?_);cases b with
 |true=>
  obtain⟨N,hN,q2⟩:=q2;rw[Ob rfl];refine OJ hp (dr (hb pins s2 σ1 H2 _ I2 q2) fun f s3 q3=>?_);cases f with
  |next=>
   obtain⟨σ3,H3,I3,n3⟩:=q3;obtain⟨m',hm,w3⟩:=hN σ3 H3 n3;exact⟨m',hm,σ3,H3,I3,w3⟩
  |cont=>
   obtain⟨σ3,H3,I3,n3⟩:=q3;obtain⟨m',hm,w3⟩:=hN σ3 H3 n3;exact⟨m',hm,σ3,H3,I3,w3⟩
  |brk=>exact q3
  |ret v=>exact q3
 |false=>
  rw[Oc OK];exact OF ⟨σ1,H2,I2,q2⟩
end
structure It where
 go:Nat->Hp->Prop
 yld:Nat->Hp->V->Hp->Prop
 stop:Nat->Hp->Prop
def pJ(X:Cx)(pins:List (Addr×Obj))(H:Hp)(b:Addr):Prop:=
 H b=none/\b≠X.env.locals/\b∉X.fs/\(b∈X.ex\/X.s₀.heap.objs.size<=b)/\(∀x c,X.env.cells.lookup x=some c->c≠b)/\∀p∈X.pn++pins,p.1≠b
theorem aY.fpOk{X:Cx}{pins:List (Addr×Obj)}{σ:St}{H H':Hp}{s:Shared}{b:Addr}(I:aY X pins σ H s)(hb:s.heap.objs.size<=b)(hn:H' b=none):pJ X pins H' b:=by
 refine⟨hn,OL (Of I.lt hb),I.nofs hb,.inr (Ol I.sz hb),fun x c e z=>?_,fun p hp z=>?_⟩
 ·obtain⟨v,q⟩:=I.cell x c e;exact absurd (Of q.lt (by rw[z];exact hb)) (Og _)
 ·exact absurd (Of (Oe (I.pin p hp).1) (by rw[z];exact hb)) (Og _)
structure BI(P:Program)(w:World)(K:W.Frag)(tg:Expr)(J:It)(fp:List Addr)(it:Addr)(tn:Nat->Heap->Prop):Prop where
 mem:it∈fp
 obj:∀i h,tn i h->∀b∈fp,∃o,h.get? b=some o/\∀v,o.data≠.cell v
 keep:∀i h h',tn i h->(∀b∈fp,∀o,h.get? b=some o->h'.get? b=some o)->tn i h'
 item:∀(X:Cx),X.prog=P->X.w=w->X.K=K->X.calm=true->∀(i:Nat)(pins:List (Addr×Obj))(s:Shared)(σ:St)(H:Hp)(E:Value->Shared->Prop),aY X pins σ H s->(∀b∈fp,pJ X pins H b)->tn i s.heap->J.go i H ->
  wpAny (model P w) X.A (pyNext (.ref it)) (fun r s1=>∃u,r=some u /\
   wpAny (model P w) X.A (letOwnedTupleGo tg (.ref it) u) (fun _ s2=>∃x H',aY X pins σ H' s2/\ck x u/\J.yld i H x H'/\tn (i+1) s2.heap/\∀b∈fp,H' b=none) E s1) E s
 done:∀(X:Cx),X.prog=P->X.w=w->X.K=K->X.calm=true->∀(i:Nat)(pins:List (Addr×Obj))(s:Shared)(σ:St)(H:Hp)(E:Value->Shared->Prop),aY X pins σ H s->(∀b∈fp,pJ X pins H b)->tn i s.heap->J.stop i H ->
  wpAny (model P w) X.A (pyNext (.ref it)) (fun r s1=>r=none/\aY X pins σ H s1) E s
 self:∀(A:Around)(i:Nat)(s:Shared)(Q:Value->Shared->Prop)(E:Value->Shared->Prop),tn i s.heap->Q (.ref it) s->wpAny (model P w) A (pyIter (.ref it)) Q E s
abbrev TI:=St->Hp->(It->Hp->Prop)->Prop
def NH(X:Cx)(pins:List (Addr×Obj))(σ:St)(tg:Expr)(R:It->Hp->Prop)(itv:Value)(s2:Shared):Prop:=
 ∃(it:Addr)(fp:List Addr)(tn:Nat->Heap->Prop)(J:It)(H':Hp),itv=.ref it/\aY X pins σ H' s2/\BI X.prog X.w X.K tg J fp it tn/\tn 0 s2.heap/\(∀b∈fp,pJ X pins H' b)/\R J H'
def PI(X:Cx)(tg iter:Expr)(wi:TI):Prop:=
 ∀(pins:List (Addr×Obj))(s:Shared)(σ:St)(H:Hp)(R:It->Hp->Prop),aY X pins σ H s->wi σ H R ->
  wpAny (model X.prog X.w) X.A (eval iter X.env) (fun v s1=>wpAny (model X.prog X.w) X.A (pyIter v) (NH X pins σ tg R) X.xe s1) X.xe s
theorem B2{M:Model}{A:Around}{E:Value->Shared->Prop}{s:Shared}{tg:Expr}{it:Addr}{u:Value}{o:Obj}{n:String}{vs:Array Value}{Q:Unit->Shared->Prop}(ho:s.heap.get? it=some o)(hc:o.cls=.type n)(hd:o.data=.fields vs)
  (hn:["enumerate", "zip", "dict_itemiterator", "dict_reverseitemiterator", "odict_iterator", "itertools.zip_longest", "itertools.pairwise"].contains n=false) (hQ:Q () s):wpAny M A (letOwnedTupleGo tg (.ref it) u) Q E s:=by
 unfold letOwnedTupleGo
 cases tg <;> first
  |exact OM hQ
  |(cases u <;> first
    |exact OM hQ
    | (refine OG (ON ho ?_)
       rw[hc,hd];show wpAny M A (if (["enumerate", "zip", "dict_itemiterator", "dict_reverseitemiterator", "odict_iterator", "itertools.zip_longest", "itertools.pairwise"].contains n&&vs[0]? == some (rawInt _))=true then _ else _) Q E s;rw[Oc (by intro h;rw[hn,OO]at h;cases h)]
       exact OM hQ))
def Mv(K:W.Frag)(a:Addr):It:=
 ⟨fun i H=>∃xs x,gu K H a xs/\xs[i]?=some x,fun i H x H'=>H'=H/\∀xs,gu K H a xs->xs[i]?=some x,fun i H=>∃xs,gu K H a xs/\xs.length<=i⟩
def MH(K:W.Frag)(a:Addr):It:=
 ⟨fun i H=>∃xs x,gP K H a xs/\xs[i]?=some x,fun i H x H'=>H'=H/\∀xs,gP K H a xs->xs[i]?=some x,fun i H=>∃xs,gP K H a xs/\xs.length<=i⟩
def Kt(lo:Int)(n:Nat):It:=⟨fun i _=>i<n,fun i H x H'=>H'=H/\x=.int (lo+i),fun i _=>n<=i⟩
theorem An{P:Program}{w:World}{K:W.Frag}{tg:Expr}(a it:Addr):BI P w K tg (Mv K a) [it] it (fun i h=>h.IsListIter it a i) where
 mem:=by simp
 obj:=fun i h st b hb=>by
  have e:b=it:=by simpa using hb
  subst e;obtain⟨o,e,c,d⟩:=st;exact⟨o,e,fun v z=>by rw[d]at z;cases z⟩
 keep:=fun i h h' st k=>st.at fun o e=>k it (by simp) o e
 item:=by
  intro X hP hw hK hc i pins s σ H E I hf st hg;subst hP hw hK;obtain⟨xs,x,hq,hx⟩:=hg;obtain⟨its,rv,p,hz⟩:=I.list hq;obtain⟨u,hu,ru⟩:=rv.get hx;obtain⟨f0,f1,f2,f3,f4,f5⟩:=hf it (by simp);refine wpAny_pyNext_list_item st p.isList (x:=u) (by simpa using hu) fun h' st' sb=>?_;have I1:aY X pins σ H {s with heap:=h'}:=I.turned (t':=s.toks) (fun b o hb e=>(sb.2 b hb).trans e) f0 f1 f3 f4 f5;obtain⟨o,e,c,d⟩:=id st';exact⟨u,rfl,B2 (s:={s with heap:=h'}) e c d (by decide) ⟨x,H,I1,ru,⟨rfl,fun ys hy=>by rw[I.list_inj hy hq];exact hx⟩,st',fun b hb=>(hf b hb).1⟩⟩
 done:=by
  intro X hP hw hK hc i pins s σ H E I hf st hg;subst hP hw hK;obtain⟨xs,hq,hx⟩:=hg;obtain⟨its,rv,p,hz⟩:=I.list hq;obtain⟨f0,f1,f2,f3,f4,f5⟩:=hf it (by simp);have hl:=rv.length;exact wpAny_pyNext_list_end (I.ok.hd hc) st p.isList (by simp;omega) fun h' eb=>⟨rfl,I.turned (t':=s.toks) (fun b o hb e=>eb b o hb e) f0 f1 f3 f4 f5⟩
 self:=fun _ _ _ _ _ st h=>wpAny_pyIter_listiter st h
theorem yz{P:Program}{w:World}{K:W.Frag}{tg:Expr}(a it:Addr):BI P w K tg (MH K a) [it] it (fun i h=>h.IsTupleIter it a i) where
 mem:=by simp
 obj:=fun i h st b hb=>by
  have e:b=it:=by simpa using hb
  subst e;obtain⟨o,e,c,d⟩:=st;exact⟨o,e,fun v z=>by rw[d]at z;cases z⟩
 keep:=fun i h h' st k=>st.at fun o e=>k it (by simp) o e
 item:=by
  intro X hP hw hK hc i pins s σ H E I hf st hg;subst hP hw hK;obtain⟨xs,x,hq,hx⟩:=hg;obtain⟨its,rv,p,hz⟩:=I.tuple hq;obtain⟨u,hu,ru⟩:=rv.get hx;obtain⟨f0,f1,f2,f3,f4,f5⟩:=hf it (by simp);refine wpAny_pyNext_tuple_item st (show s.heap.IsTuple a its.toArray from p) (x:=u) (by simpa using hu) fun h' st' sb=>?_;have I1:aY X pins σ H {s with heap:=h'}:=I.turned (t':=s.toks) (fun b o hb e=>(sb.2 b hb).trans e) f0 f1 f3 f4 f5;obtain⟨o,e,c,d⟩:=id st';exact⟨u,rfl,B2 (s:={s with heap:=h'}) e c d (by decide) ⟨x,H,I1,ru,⟨rfl,fun ys hy=>by rw[I.tuple_inj hy hq];exact hx⟩,st',fun b hb=>(hf b hb).1⟩⟩
 done:=by
  intro X hP hw hK hc i pins s σ H E I hf st hg;subst hP hw hK;obtain⟨xs,hq,hx⟩:=hg;obtain⟨its,rv,p,hz⟩:=I.tuple hq;obtain⟨f0,f1,f2,f3,f4,f5⟩:=hf it (by simp);have hl:=rv.length;exact wpAny_pyNext_tuple_end (I.ok.hd hc) st (show s.heap.IsTuple a its.toArray from p) (by simp;omega) fun h' eb=>⟨rfl,I.turned (t':=s.toks) (fun b o hb e=>eb b o hb e) f0 f1 f3 f4 f5⟩
 self:=fun _ _ _ _ _ st h=>wpAny_pyIter_tupleiter st h
theorem yA{P:Program}{w:World}{K:W.Frag}{tg:Expr}(it:Addr)(lo:Int)(n:Nat):BI P w K tg (Kt lo n) [it] it (fun i h=>IsRangeIter h it (lo+(i:Nat)*1) ((n:Int)-(i:Nat)) 1) where
 mem:=by simp
 obj:=fun i h st b hb=>by
  have e:b=it:=by simpa using hb
  subst e
  exact⟨_,st,fun v z=>by
   have z':Data.fields _=Data.cell v:=z
   cases z'⟩
 keep:=fun i h h' st k=>k it (by simp) _ st
 item:=by
  intro X hP hw hK hc i pins s σ H E I hf st hg;subst hP hw hK;obtain⟨f0,f1,f2,f3,f4,f5⟩:=hf it (by simp);have W:=Walks.range (prog:=X.prog) (w:=X.w) (I.ok.hd hc) it lo 1 n;refine W.item i s _ _ hg st fun v h' tk hv st' kk=>?_;obtain⟨t,rfl⟩:=hv;have I1:aY X pins σ H {s with heap:=h',toks:=tk}:=I.turned (fun b o hb e=>kk b o (by simpa using hb) e) f0 f1 f3 f4 f5;refine⟨_,rfl,B2 (s:={s with heap:=h',toks:=tk}) (n:="range_iterator") st' rfl rfl (by decide) ⟨.int (lo+i),H,I1,⟨t,?_⟩,⟨rfl,rfl⟩,st',fun b hb=>(hf b hb).1⟩⟩;rw[Int.mul_one]
 done:=by
  intro X hP hw hK hc i pins s σ H E I hf st hg;subst hP hw hK;obtain⟨f0,f1,f2,f3,f4,f5⟩:=hf it (by simp);exact wpAny_pyNext_range_end (I.ok.hd hc) st (by have:n<=i:=hg;omega) fun h' eb=>⟨rfl,I.turned (t':=s.toks) (fun b o hb e=>eb b o hb e) f0 f1 f3 f4 f5⟩
 self:=fun _ _ _ _ _ st h=>wpAny_pyIter_rangeiter st h
end L2
namespace L2
open PySem PySem.Spec PyProof.Rows
section
variable{X:Cx}{tg:Expr}
theorem wx{pins:List (Addr×Obj)}{σ:St}{H:Hp}{s:Shared}{R:It->Hp->Prop}{E:Value->Shared->Prop}{lo hi:Int}{t u v:Tok}{tk:Nat}(I:aY X pins σ H s)(h1:-(2^62)<=lo)(h2:lo<2^62)(h3:-(2^62)<=hi)(h4:hi<2^62)
  (q:R (Kt lo (hi-lo).toNat) H):wpAny (model X.prog X.w) X.A (pyIter (.ref s.heap.objs.size)) (NH X pins σ tg R) E {s with heap:=s.heap.push {cls:=.type "range",data:=.fields #[.int lo t,.int hi u,.int 1 v]},toks:=tk}:=by
 refine wpAny_pyIter_range (IsRange.new ..) (small_one h1 h2 h3 h4) ?_;have I1:aY X pins σ H {s with heap:=s.heap.push {cls:=.type "range",data:=.fields #[.int lo t,.int hi u,.int 1 v]},toks:=tk}:=I.kept fun b o e=>OP _ e
 refine⟨(s.heap.push {cls:=.type "range",data:=.fields #[.int lo t,.int hi u,.int 1 v]}).objs.size,[(s.heap.push {cls:=.type "range",data:=.fields #[.int lo t,.int hi u,.int 1 v]}).objs.size],_,_,H,rfl,
  I1.kept (t':=tk) fun b o e=>OP _ e,yA _ lo (hi-lo).toNat,?_,fun b hb=>?_,q⟩
 ·have e1 : lo + ((0 : Nat) : Int) * 1 = lo := by simp
  have e2:(((hi-lo).toNat:Nat):Int)-((0:Nat):Int)=Builtin.Range.rangeSize lo hi 1:=by rw[rangeSize_one];split <;> omega
  show IsRangeIter _ _ (lo+((0:Nat):Int)*1) ((((hi-lo).toNat:Nat):Int)-((0:Nat):Int)) 1;rw[e1,e2];exact OQ _ rfl
 ·have e : b = (s.heap.push { cls := .type "range", data := .fields #[.int lo t, .int hi u, .int 1 v] }).objs.size := by simpa using hb
  subst e;exact I1.fpOk (OR _) (I1.hok.fresh (OR _))
def L4(ta:TA):TI:=fun σ H R=>ta σ H fun vs H1=>∃j:Int,vs=[.int j]/\-(2^62)<=j/\j<2^62/\R (Kt 0 j.toNat) H1
def L3(ta:TA):TI:=fun σ H R=>ta σ H fun vs H1=>∃i j:Int,vs=[.int i,.int j]/\(-(2^62)<=i/\i<2^62/\-(2^62)<=j/\j<2^62)/\R (Kt i (j-i).toNat) H1
theorem AL {a:Expr}{ta:TA}{p pos:Pos} (hg:Gl X "range") (hm:X.mg "range" = none) (ha:PA X [a] ta) (hs:starEach [a] X.env=[(false,eval a X.env)]:=by rfl):PI X tg (.Call (.Name "range" p) [a] [] pos) (L4 ta):=by
 intro pins s σ H R I h;refine Call_ (qQ I hg hm boot_range (OS (dr (ha pos pins s σ H _ I h) fun us s1 ⟨vs,H1,I1,r1,q1⟩=>?_) hs rfl));obtain⟨j,e,q1,q2,q⟩:=q1;subst e;cases r1 with
 |cons r rr=>
  cases rr;obtain⟨t,rfl⟩:=r;exact call_range_1 (wx I1 (by omega) (by omega) q1 q2 (by simpa using q))
theorem AK {a b:Expr}{ta:TA}{p pos:Pos} (hg:Gl X "range") (hm:X.mg "range" = none) (ha:PA X [a,b] ta) (hs:starEach [a,b] X.env=[(false,eval a X.env),(false,eval b X.env)]:=by rfl) (hs2:starEach [b] X.env=[(false,eval b X.env)]:=by rfl) :
  PI X tg (.Call (.Name "range" p) [a,b] [] pos) (L3 ta):=by
 intro pins s σ H R I h;refine Call_ (qQ I hg hm boot_range (OS (dr (ha pos pins s σ H _ I h) fun us s1 ⟨vs,H1,I1,r1,q1⟩=>?_) (by rw[hs,hs2]) (by rw[hs2];rfl)));obtain⟨i,j,e,⟨q1,q2,q3,q4⟩,q⟩:=q1;subst e;cases r1 with
 |cons r rr=>
  cases rr with
  |cons r' rr=>
   cases rr;obtain⟨t,rfl⟩:=r;obtain⟨t',rfl⟩:=r';exact call_range_2 (wx I1 q1 q2 q3 q4 q)
def MW(wi:TI)(g:TG)(tb:TS):TS:=fun D σ H=>wi σ H fun J H1=>∃W:Nat->Nat->St->Hp->Prop,(∃m,W 0 m σ H1)/\∀i m σ H,W i m σ H ->
 (J.stop i H/\D.nx σ H)\/(J.go i H/\∃N:St->Hp->Prop,(∀σ' H',N σ' H'->∃m',m'<m/\W (i+1) m' σ' H')/\∀x H',J.yld i H x H'->g x σ H' fun σ2 H2=>tb {D with nx:=N,ct:=N,bk:=D.nx} σ2 H2)
def qO(fp:List Addr)(h:Heap):List (Addr×Obj):=fp.filterMap fun b=>(h.get? b).map fun o=>(b,o)
theorem j6{fp:List Addr}{h:Heap}{b:Addr}{o:Obj}(hb:b∈fp)(e:h.get? b=some o):(b,o)∈qO fp h:=OT.mpr ⟨b,hb,by rw[e];rfl⟩
theorem AS{fp:List Addr}{h:Heap}{p:Addr×Obj}(hp:p∈qO fp h):p.1∈fp/\h.get? p.1=some p.2:=by
 obtain⟨b,hb,e⟩:=OT.mp hp;cases q:h.get? b with
 |none=>rw[q]at e;cases e
 |some o=>
  rw[q]at e;have e':(b,o)=p:=Od e;subst e';exact⟨hb,q⟩
theorem aY.pinned{pins:List (Addr×Obj)}{σ:St}{H:Hp}{s:Shared}{fp:List Addr}(I:aY X pins σ H s)(hf:∀b∈fp,pJ X pins H b)(ho:∀b∈fp,∃o,s.heap.get? b=some o/\∀v,o.data≠.cell v):aY X (pins++qO fp s.heap) σ H s:=
 I.pins_of fun p hp=>(Ou.mp hp).elim (fun z=>I.pin p (OU _ z)) fun z=>by
  obtain⟨hb,e⟩:=AS z;obtain⟨f0,f1,f2,_⟩:=hf p.1 hb;obtain⟨o,e',d⟩:=ho p.1 hb;rw[e]at e';cases e';exact⟨e,f0,f1,f2,d⟩
theorem aY.unpinned{pins pl:List (Addr×Obj)}{σ:St}{H:Hp}{s:Shared}(I:aY X (pins++pl) σ H s):aY X pins σ H s:=I.pins_of fun p hp=>I.pin p (OU _ (Ov _ hp))
theorem IV{iter:Expr}{body:List Stmt}{wi:TI}{g:TG}{tb:TS}{pos:Pos}(hp:PassesOwn (model X.prog X.w) X.A X.env X.xe)(hc:X.calm=true)(hi:PI X tg iter wi)(hg:PG X tg g)(hb:jt X body tb)
  (hs:∀x,foldedSetIterable iter X.env x=pure x:=by intro _;rfl):PS X (.For tg iter body [] pos) (MW wi g tb):=by
 intro pins s σ H D I h;refine wpAny_For (dr (hi pins s σ H _ I h) fun v s1 h1=>dr h1 fun itv s2 h2=>?_) hs;obtain⟨it,fp,tn,J,H2,e,I2,T,st2,f2,W,⟨m0,w0⟩,turn⟩:=h2;subst e;have stat:∀{H':Hp},(∀b∈fp,H' b=none)->∀b∈fp,pJ X pins H' b:=fun hn b hb=>⟨hn b hb,(f2 b hb).2⟩;refine codeAny_forLoop_any (fun n s'=>∃i σ' H',aY X pins σ' H' s'/\tn i s'.heap/\(∀b∈fp,H' b=none)/\W i n σ' H') ?_ m0 ⟨0,σ,H2,I2,st2,fun b hb=>(f2 b hb).1,w0⟩
 rintro n s3 ⟨i,σ3,H3,I3,st3,fr3,w3⟩
 rcases turn i n σ3 H3 w3 with⟨stop,qn⟩|⟨go,N,hN,step⟩
 ·refine OJ hp (dr (T.done X rfl rfl rfl hc i pins s3 σ3 H3 X.xe I3 (stat fr3) st3 stop) fun r s4 ⟨hr,I4⟩=>?_);subst hr;exact OF ⟨σ3,H3,I4,qn⟩
 ·refine OJ hp (dr (T.item X rfl rfl rfl hc i pins s3 σ3 H3 X.xe I3 (stat fr3) st3 go) fun r s4 ⟨u, hr, h4⟩ => ?_);subst hr;refine OJ hp (dr h4 fun _ s5 ⟨x,H5,I5,r5,y5,st5,fr5⟩=>?_);have I5':=I5.pinned (stat fr5) (T.obj _ _ st5);refine OJ hp (dr (hg _ s5 σ3 H5 x u _ I5' r5 (step x H5 y5)) fun _ s6 ⟨σ6,H6,I6,q6⟩=>?_);refine OJ hp (dr (hb _ s6 σ6 H6 _ I6 q6) fun f s7 q7=>?_)
  have again:∀{σ7:St}{H7:Hp},aY X (pins++qO fp s5.heap) σ7 H7 s7->N σ7 H7->∃m,m<n/\∃i σ' H',aY X pins σ' H' s7/\tn i s7.heap/\(∀b∈fp,H' b=none)/\W i m σ' H':=fun {σ7 H7} I7 n7=>by
   obtain⟨m',hm,w7⟩:=hN σ7 H7 n7;refine⟨m',hm,i+1,σ7,H7,I7.unpinned,T.keep _ _ _ st5 fun b hb o e=>(I7.pin (b,o) (OU _ (OU _ (j6 hb e)))).1,fun b hb=>?_,w7⟩;obtain⟨o,e,d⟩:=T.obj _ _ st5 b hb;exact(I7.pin (b,o) (OU _ (OU _ (j6 hb e)))).2.1
  cases f with
  |next=>obtain⟨σ7,H7,I7,n7⟩:=q7;exact again I7 n7
  |cont=>obtain⟨σ7,H7,I7,n7⟩:=q7;exact again I7 n7
  |brk=>obtain⟨σ7,H7,I7,q7⟩:=q7;exact⟨σ7,H7,I7.unpinned,q7⟩
  |ret v=>obtain⟨x7,σ7,H7,I7,r7,q7⟩:=q7;exact⟨x7,σ7,H7,I7.unpinned,r7,q7⟩
end
end L2
namespace L2
open PySem PySem.Spec PyProof.Rows
abbrev R2:=V->V->Hp->VK->Prop
def iP(X:Cx)(f:Value->Value->Sem Value)(r:R2):Prop:=
 ∀(pins:List (Addr×Obj))(s:Shared)(σ:St)(H:Hp)(x y:V)(v u:Value)(Q:VK),aY X pins σ H s->ck x v->ck y u->r x y H Q ->
  wpAny (model X.prog X.w) X.A (f v u) (EP X pins σ Q) X.xe s
def Mq(X:Cx)(f:Value->Sem Value)(r:V->Hp->VK->Prop):Prop:=
 ∀(pins:List (Addr×Obj))(s:Shared)(σ:St)(H:Hp)(x:V)(v:Value)(Q:VK),aY X pins σ H s->ck x v->r x H Q ->
  wpAny (model X.prog X.w) X.A (f v) (EP X pins σ Q) X.xe s
def c6(X:Cx)(f:Value)(r:List V->Hp->VK->Prop):Prop:=
 ∀(pins:List (Addr×Obj))(s:Shared)(σ:St)(H:Hp)(xs:List V)(us:List Value)(Q:VK),aY X pins σ H s->bh xs us->r xs H Q ->
  wpAny (model X.prog X.w) X.A (call f us) (EP X pins σ Q) X.xe s
def Nu(X:Cx)(r:V->Hp->(Bool->Hp->Prop)->Prop):Prop:=
 ∀(pins:List (Addr×Obj))(s:Shared)(σ:St)(H:Hp)(x:V)(v:Value)(Q:Bool->Hp->Prop),aY X pins σ H s->ck x v->r x H Q ->
  wpAny (model X.prog X.w) X.A (truthy v) (TP X pins σ Q) X.xe s
def Kx(r:R2)(ta tb:TE):TE:=fun σ H Q=>ta σ H fun x H1=>tb σ H1 fun y H2=>r x y H2 Q
def NS(r:V->Hp->VK->Prop)(ta:TE):TE:=fun σ H Q=>ta σ H fun x H1=>r x H1 Q
def rI(C:Int->Int->Prop)(g:Int->Int->V):R2:=fun x y H Q=>∃i j,x=.int i/\y=.int j/\C i j/\Q (g i j) H
def Ky(g:Int->Int->V):R2:=fun x y H Q=>∃i j,x=.int i/\y=.int j/\Q (g i j) H
def rU(g:Int->V):V->Hp->VK->Prop:=fun x H Q=>∃i,x=.int i/\Q (g i) H
section
variable{X:Cx}{a b c:Expr}{ta tb tc:TE}{pos:Pos}
theorem HA(ha:PE X a ta)(hb:PE X b tb){pins:List (Addr×Obj)}{s:Shared}{σ:St}{H:Hp}{R:V->V->Hp->Prop}(I:aY X pins σ H s)
  (h:ta σ H fun x H1=>tb σ H1 fun y H2=>R x y H2) {Q:Value->Shared->Prop}{f:Value->Value->Sem Value}
  (hf:∀v u s2 x y H2,aY X pins σ H2 s2->ck x v->ck y u->R x y H2->wpAny (model X.prog X.w) X.A (f v u) Q X.xe s2) :
  wpAny (model X.prog X.w) X.A (eval a X.env) (fun v s₁=>wpAny (model X.prog X.w) X.A (eval b X.env) (fun u s₂=>wpAny (model X.prog X.w) X.A (f v u) Q X.xe s₂) X.xe s₁) X.xe s:=by
 refine dr (ha pins s σ H _ I h) fun v s1 ⟨x,H1,I1,r1,q1⟩=>?_;refine dr (hb pins s1 σ H1 _ I1 q1) fun u s2 ⟨y,H2,I2,r2,q2⟩=>?_;exact hf v u s2 x y H2 I2 r1 r2 q2
theorem LO{op:Operator}{r:R2}(ho:iP X (binaryOp op) r)(ha:PE X a ta)(hb:PE X b tb):PE X (.BinOp a op b pos) (Kx r ta tb):=by
 intro pins s σ H Q I h;exact wpAny_BinOp (HA ha hb I h fun v u s2 x y H2 I2 rx ry q=>ho pins s2 σ H2 x y v u Q I2 rx ry q)
theorem LN{op:UnaryOp}{r:V->Hp->VK->Prop}(ho:Mq X (unaryOp op) r)(ha:PE X a ta):PE X (.UnaryOp op a pos) (NS r ta):=by
 intro pins s σ H Q I h;exact UnaryOp_ (dr (ha pins s σ H _ I h) fun v s1 ⟨x,H1,I1,r1,q1⟩=>ho pins s1 σ H1 x v Q I1 r1 q1)
theorem Mo{f:Value->Value->Sem Value}{C:Int->Int->Prop}{g:Int->Int->Int}
  (rule:∀(i j:Int)(t u:Tok)(s:Shared)(Q:Value->Shared->Prop)(E:Value->Shared->Prop),C i j->Q (.int (g i j) s.toks) {s with toks:=s.toks+1}->wpAny (model X.prog X.w) X.A (f (.int i t) (.int j u)) Q E s) :
  iP X f (rI C fun i j=>.int (g i j)):=by
 intro pins s σ H x y v u Q I rx ry h;obtain⟨i,j,rfl,rfl,hc,q⟩:=h;obtain⟨t,rfl⟩:=rx;obtain⟨t',rfl⟩:=ry;exact rule i j t t' s _ _ hc ⟨.int (g i j),H,I.tok _,⟨_,rfl⟩,q⟩
theorem K3{f:Value->Value->Sem Value}{g:Int->Int->Int}
  (rule:∀(i j:Int)(t u:Tok)(s:Shared)(Q:Value->Shared->Prop)(E:Value->Shared->Prop),Q (.int (g i j) s.toks) {s with toks:=s.toks+1}->wpAny (model X.prog X.w) X.A (f (.int i t) (.int j u)) Q E s) :
  iP X f (Ky fun i j=>.int (g i j)):=by
 intro pins s σ H x y v u Q I rx ry h;obtain⟨i,j,rfl,rfl,q⟩:=h;obtain⟨t,rfl⟩:=rx;obtain⟨t',rfl⟩:=ry;exact rule i j t t' s _ _ ⟨.int (g i j),H,I.tok _,⟨_,rfl⟩,q⟩
def EC(i j:Int):Prop:=0<j/\j<1073741824
def BK(i j:Int):Prop:=0<=j/\j<=1000000/\i.natAbs<2^64
def vL(i j:Int):Prop:=(-(2^64)<i/\i<2^64)\/(-(2^64)<j/\j<2^64)
theorem vL.ok{i j:Int}(h:vL i j):IntMulOk i j:=by
 rcases h with⟨h1,h2⟩|⟨h1,h2⟩
 ·exact .of_left (intBits_le_64 h1 h2)
 ·exact .of_right (intBits_le_64 h1 h2)
theorem Js:iP X (binaryOp .Add) (Ky fun i j=>.int (i+j)):=K3 fun _ _ _ _ _ _ _ q=>add_int q
theorem Ji:iP X (binaryOp .Sub) (Ky fun i j=>.int (i-j)):=K3 fun _ _ _ _ _ _ _ q=>sub_int q
theorem Jm:iP X (binaryOp .Mult) (rI vL fun i j=>.int (i*j)):=Mo fun _ _ _ _ _ _ _ hc q=>mul_int q hc.ok
theorem FS:iP X (binaryOp .FloorDiv) (rI EC fun i j=>.int (i / j)):=Mo fun i j _ _ _ _ _ hc q=>by
 have h1:(0:Int)<j:=hc.1;have h2:j<1073741824:=hc.2;exact floordiv_int (by omega) (by rw[Int.fdiv_eq_ediv_of_nonneg i (by omega)];exact q) (.inl (PyProof.noPylong_small (by omega)))
theorem Jn:iP X (binaryOp .Mod) (rI (fun _ j=>0<j) fun i j=>.int (i%j)):=Mo fun i j _ _ _ _ _ hc q=>by
 have h1:(0:Int)<j:=hc;exact mod_int' (by omega) (by rw[Int.fmod_eq_emod_of_nonneg i (by omega)];exact q)
theorem Jk:iP X (binaryOp .Pow) (rI BK fun i j=>.int (i^j.toNat)):=Mo fun _ _ _ _ _ _ _ hc q=>pow_int_small hc.1 hc.2.1 hc.2.2 q
theorem NQ{f:Value->Sem Value}{g:Int->Int}
  (rule:∀(i:Int)(t:Tok)(s:Shared)(Q:Value->Shared->Prop)(E:Value->Shared->Prop),Q (.int (g i) s.toks) {s with toks:=s.toks+1}->wpAny (model X.prog X.w) X.A (f (.int i t)) Q E s) :
  Mq X f (rU fun i=>.int (g i)):=by
 intro pins s σ H x v Q I rx h;obtain⟨i,rfl,q⟩:=h;obtain⟨t,rfl⟩:=rx;exact rule i t s _ _ ⟨.int (g i),H,I.tok _,⟨_,rfl⟩,q⟩
theorem HN:Mq X (unaryOp .USub) (rU fun i=>.int (-i)):=NQ fun _ _ _ _ _ q=>neg_int q
end
def M9:V->V->Bool
 |.non,.non=>true | .non,.int _=>true | .int _,.non=>true | .non,.bl _=>true | .bl _,.non=>true | .non,.str _=>true | .str _,.non=>true
 |.int _,.int _=>true | .bl _,.bl _=>true | .str _,.str _=>true | .byt _,.byt _=>true
 |.int _,.str _=>true | .str _,.int _=>true | .bl _,.str _=>true | .str _,.bl _=>true
 |_,_=>false
def MC:R2:=fun x y H Q=>M9 x y=true/\Q (.bl (!decide (x=y))) H
theorem GB{i j:Int}:decide (V.int i=V.int j)=(i == j):=by
 rw[OV];simp
theorem Kq{i j:Bool}:decide (V.bl i=V.bl j)=(i == j):=by
 rw[OV];simp
theorem GA{i j:Str}:decide (V.str i=V.str j)=(i == j):=by
 rw[OV];simp
theorem GC{i j:Array UInt8}:decide (V.byt i=V.byt j)=(i.toList == j.toList):=by
 rw[OV];cases i;cases j;simp
section
variable{X:Cx}{a b c:Expr}{ta tb tc:TE}{pos:Pos}
theorem eH{pins:List (Addr×Obj)}{σ:St}{H:Hp}{s:Shared}{Q:VK}{k k':Bool}(I:aY X pins σ H s)(q:Q (.bl k) H)(e:k=k'):EP X pins σ Q (.bool k') s:=by
 subst e;exact⟨.bl k,H,I,rfl,q⟩
theorem LS:iP X (compareOp .NotEq) MC:=by
 intro pins s σ H x y v u Q I rx ry h;obtain⟨hs,q⟩:=h;cases x with
 |non=>
  cases rx;cases y with
  |non=>cases ry;exact PySem.EqNone.ne_none_none (eH I q (by simp))
  |bl j=>cases ry;exact PySem.EqNone.ne_none_bool (eH I q (by simp))
  |int j=>obtain⟨t',rfl⟩:=ry;exact PySem.EqNone.ne_none_int (eH I q (by simp))
  |str j=>obtain⟨t',rfl⟩:=ry;exact PySem.EqNone.ne_none_str (eH I q (by simp))
  |_=>exact absurd (show false=true from hs) OK
 |bl i=>
  cases rx;cases y with
  |non=>cases ry;exact PySem.EqNone.ne_bool_none (eH I q (by simp))
  |bl j=>cases ry;exact ne_bool (eH I q (OE not Kq))
  |str j=>obtain⟨t',rfl⟩:=ry;exact PySem.EqMixed.ne_bool_str (eH I q (by simp))
  |_=>exact absurd (show false=true from hs) OK
 |int i=>
  obtain⟨t,rfl⟩:=rx;cases y with
  |non=>cases ry;exact PySem.EqNone.ne_int_none (eH I q (by simp))
  |int j=>obtain⟨t',rfl⟩:=ry;exact ne_int (eH I q (OE not GB))
  |str j=>obtain⟨t',rfl⟩:=ry;exact PySem.EqMixed.ne_int_str (eH I q (by simp))
  |_=>exact absurd (show false=true from hs) OK
 |str i=>
  obtain⟨t,rfl⟩:=rx;cases y with
  |non=>cases ry;exact PySem.EqNone.ne_str_none (eH I q (by simp))
  |bl j=>cases ry;exact PySem.EqMixed.ne_str_bool (eH I q (by simp))
  |int j=>obtain⟨t',rfl⟩:=ry;exact PySem.EqMixed.ne_str_int (eH I q (by simp))
  |str j=>obtain⟨t',rfl⟩:=ry;exact ne_str (eH I q (OE not GA))
  |_=>exact absurd (show false=true from hs) OK
 |byt i=>
  obtain⟨t,rfl⟩:=rx;cases y with
  |byt j=>obtain⟨t',rfl⟩:=ry;exact W.ne_bytes (eH I q (OE not GC))
  |_=>exact absurd (show false=true from hs) OK
 |_=>cases y <;> exact absurd (show false=true from hs) OK
theorem Jo:iP X (compareOp .Is) (fun x y H Q=>y=.non/\Q (.bl (decide (x=.non))) H):=by
 intro pins s σ H x y v u Q I rx ry h;obtain⟨rfl,q⟩:=h;cases ry;refine is_none_gen (eH I q ?_)
 cases x <;> first
  |(cases rx;rfl)
  |(obtain⟨t,rfl⟩:=rx;rfl)
theorem FQ:iP X (compareOp .IsNot) (fun x y H Q=>y=.non/\Q (.bl (!decide (x=.non))) H):=by
 intro pins s σ H x y v u Q I rx ry h;obtain⟨rfl,q⟩:=h;cases ry;refine isnot_none_gen (eH I q ?_)
 cases x <;> first
  |(cases rx;rfl)
  |(obtain⟨t,rfl⟩:=rx;rfl)
theorem iP.or{f:Value->Value->Sem Value}{r r':R2}(h:iP X f r)(h':iP X f r'):iP X f (fun x y H Q=>r x y H Q\/r' x y H Q):=by
 intro pins s σ H x y v u Q I rx ry q;rcases q with q|q
 ·exact h pins s σ H x y v u Q I rx ry q
 ·exact h' pins s σ H x y v u Q I rx ry q
theorem FN{op:CmpOp}{r:R2}(ho:iP X (compareOp op) r)(ha:PE X a ta)(hb:PE X b tb)(hm:behindInMarks op b=false):PE X (.Compare a [op] [b] pos) (Kx r ta tb):=by
 intro pins s σ H Q I h;exact wpAny_Compare1 (HA ha hb I h fun v u s2 x y H2 I2 rx ry q=>ho pins s2 σ H2 x y v u Q I2 rx ry q) hm
def zg(t:TE):TT:=fun σ H Q=>t σ H fun x H'=>∃k,x=.bl k/\Q k H'
theorem Fz{op:CmpOp}{r:R2}(ho:iP X (compareOp op) r)(ha:PE X a ta)(hb:PE X b tb)(hm:behindInMarks op b=false):PT X (.Compare a [op] [b] pos) (zg (Kx r ta tb)):=by
 intro pins s σ H Q I h
 refine wpAny_isTrue_Compare1 (dr (ha pins s σ H _ I h) fun v s1 ⟨x,H1,I1,r1,q1⟩=>dr (hb pins s1 σ H1 _ I1 q1) fun u s2 ⟨y,H2,I2,r2,q2⟩=>
  dr (ho pins s2 σ H2 x y v u _ I2 r1 r2 q2) fun c s3 ⟨z,H3,I3,r3,k,e,q3⟩=>?_) hm
 subst e;cases r3;exact OC ⟨H3,I3,q3⟩
def x9(r r':R2)(ta tb tc:TE):TE:=fun σ H Q=>ta σ H fun x H1=>tb σ H1 fun y H2=>r x y H2 fun z H3=>∃k,z=.bl k /\
 (if k=true then tc σ H3 fun w' H4=>r' y w' H4 Q else Q (.bl false) H3)
theorem DB{op op':CmpOp}{r r':R2}(ho:iP X (compareOp op) r)(ho':iP X (compareOp op') r')(ha:PE X a ta)(hb:PE X b tb)(hc:PE X c tc)
  (hm:lastMarks [op,op'] [b,c]=false:=by with_unfolding_all rfl):PE X (.Compare a [op,op'] [b,c] pos) (x9 r r' ta tb tc):=by
 intro pins s σ H Q I h
 refine Compare_chain (dr (ha pins s σ H _ I h) fun v s1 ⟨x,H1,I1,r1,q1⟩=>chain_link (dr (hb pins s1 σ H1 _ I1 q1) fun u s2 ⟨y,H2,I2,r2,q2⟩=>
  dr (ho pins s2 σ H2 x y v u _ I2 r1 r2 q2) fun d s3 ⟨z,H3,I3,r3,k,e,q3⟩=>?_)) hm
 subst e;cases r3;refine OC ?_;cases k with
 |false=>exact ite_ff ⟨.bl false,H3,I3,rfl,q3⟩
 |true=>exact ite_tt (chain_last (dr (hc pins s3 σ H3 _ I3 q3) fun w' s4 ⟨z',H4,I4,r4,q4⟩=>ho' pins s4 σ H4 y z' u w' Q I4 r2 r4 q4))
theorem Dr{op op':CmpOp}{r r':R2}(ho:iP X (compareOp op) r)(ho':iP X (compareOp op') r')(ha:PE X a ta)(hb:PE X b tb)(hc:PE X c tc)
  (hm:lastMarks [op,op'] [b,c]=false:=by with_unfolding_all rfl):PT X (.Compare a [op,op'] [b,c] pos) (zg (x9 r r' ta tb tc)):=by
 intro pins s σ H Q I h
 refine isTrue_chain (dr (ha pins s σ H _ I h) fun v s1 ⟨x,H1,I1,r1,q1⟩=>test_link (dr (hb pins s1 σ H1 _ I1 q1) fun u s2 ⟨y,H2,I2,r2,q2⟩=>
  dr (ho pins s2 σ H2 x y v u _ I2 r1 r2 q2) fun d s3 ⟨z,H3,I3,r3,k,e,q3⟩=>?_)) hm
 subst e;cases r3;refine OC ?_;cases k with
 |false=>
  obtain⟨k',e',q'⟩:=q3;cases e';exact ite_ff ⟨H3,I3,q'⟩
 |true=>
  refine ite_tt (test_last (dr (hc pins s3 σ H3 _ I3 q3) fun w' s4 ⟨z',H4,I4,r4,q4⟩=>dr (ho' pins s4 σ H4 y z' u w' _ I4 r2 r4 q4) fun d' s5 ⟨z2,H5,I5,r5,k2,e2,q5⟩=>?_));subst e2;cases r5;exact OC ⟨H5,I5,q5⟩
def HD(K:W.Frag)(x:V)(H:Hp)(k:Bool):Prop:=
 match x with
 |.non=>k=false
 |.bl b=>k=b
 |.int i=>k=(i != 0)
 |.str y=>y.length<=sizeLine/\k=((y.length:Int) != 0)
 |.byt y=>y.size<=sizeLine/\k=((y.size:Int) != 0)
 |.ref p=>(∃xs,gu K H p xs/\k=!xs.isEmpty)\/(∃xs,gP K H p xs/\k=!xs.isEmpty)\/∃kvs,H p=some (.dK kvs)/\k=!kvs.isEmpty
 |_=>False
theorem yT{κ:Type}{kvs:List (κ×V)}{vs:List (κ×Value)}(r:KV kvs vs):(!vs.isEmpty)=!kvs.isEmpty:=by
 cases r <;> rfl
theorem rM{xs:List V}{its:List Value}(r:bh xs its):(!its.toArray.isEmpty)=!xs.isEmpty:=by
 cases r <;> simp
theorem nV:(sizeLine:Nat)<2^63:=by rw[OW];decide
theorem HS:Nu X (fun x H Q=>∃k,HD X.K x H k/\Q k H):=by
 intro pins s σ H x v Q I rx h;obtain⟨k,e,q⟩:=h;have hl:=nV;have hs:sizeLine=16777216:=OW;cases x with
 |non=>
  cases rx;have e':k=false:=e;subst e';exact truthy_none ⟨H,I,q⟩
 |bl b=>
  cases rx;have e':k=b:=e;subst e';exact OC ⟨H,I,q⟩
 |int i=>
  obtain⟨t,rfl⟩:=rx;have e':k=(i != 0):=e;subst e';exact PySem.P.truthy_int ⟨H,I,q⟩
 |str y=>
  obtain⟨t,rfl⟩:=rx;obtain⟨hy,e'⟩:y.length<=sizeLine/\k=((y.length:Int) != 0):=e;subst e';exact PySem.P.truthy_str (by omega) ⟨H,I.tok _,q⟩
 |byt y=>
  obtain⟨t,rfl⟩:=rx;obtain⟨hy,e'⟩:y.size<=sizeLine/\k=((y.size:Int) != 0):=e;subst e';exact W.truthy_bytes (by omega) ⟨H,I.tok _,q⟩
 |ref p=>
  cases rx;have e':(∃xs,gu X.K H p xs/\k=!xs.isEmpty)\/(∃xs,gP X.K H p xs/\k=!xs.isEmpty)\/∃kvs,H p=some (.dK kvs)/\k=!kvs.isEmpty:=e;rcases e' with⟨xs,hx,e'⟩|⟨xs,hx,e'⟩|⟨kvs,hx,e'⟩
  ·subst e';obtain⟨its,r,pl,hz⟩:=I.list hx;have hlen:=r.length;exact wpAny_truthy_list pl.isList (by simp only[OX];omega) ⟨H,I.tok _,by rw[rM r];exact q⟩
  ·subst e';obtain⟨its,r,pl,hz⟩:=I.tuple hx;have hlen:=r.length;exact truthy_tuple pl (by simp only[OX];omega) ⟨H,I.tok _,by rw[rM r];exact q⟩
  ·subst e';obtain⟨hz,hS,vs,r,m⟩:kvs.length<=sizeLine/\(p == sysModules)=false/\∃vs,KV kvs vs/\s.heap.DictOf (qh X.prog X.w) p vs:=I.hok p _ hx;have hlen:kvs.length=vs.length:=Paired.length r;exact wpAny_truthy_dict hS m (by omega) ⟨H,I.tok _,by rw[yT r];exact q⟩
 |_=>exact(show False from e).elim
theorem Dq(ha:PE X a ta)(he:∀whole,isTrue a X.env whole=(do let v <- whole;standAt a.pos;holding [v] (truthy v))) :
  PT X a (fun σ H Q=>ta σ H fun x H'=>∃k,HD X.K x H' k/\Q k H'):=by
 intro pins s σ H Q I h;exact isTrue_plain (dr (ha pins s σ H _ I h) fun v s1 ⟨x,H1,I1,r1,q1⟩=>HS pins s1 σ H1 x v Q I1 r1 q1) (he _)
theorem yN:iP X (binaryOp .Add) (fun x y H Q=>∃i j,x=.str i/\y=.str j/\i.length+j.length<=sizeLine/\Q (.str (i++j)) H):=by
 intro pins s σ H x y v u Q I rx ry h;obtain⟨i,j,rfl,rfl,hz,q⟩:=h;obtain⟨t,rfl⟩:=rx;obtain⟨t',rfl⟩:=ry;exact add_str (fun t' tk=>⟨.str (i++j),H,I.tok _,⟨_,rfl⟩,q⟩) hz
theorem fI{x:V}{us:List Value}(r:bh [x] us):∃u,us=[u]/\ck x u:=by
 cases r with
 |cons r1 r2=>cases r2;exact⟨_,rfl,r1⟩
theorem BN{x y:V}{us:List Value}(r:bh [x,y] us):∃u w',us=[u,w']/\ck x u/\ck y w':=by
 cases r with
 |cons r1 r2=>
  cases r2 with
  |cons r3 r4=>cases r4;exact⟨_,_,rfl,r1,r3⟩
theorem Bh (hc:X.calm=true):c6 X (.builtin "max") (fun xs H Q=>∃i j,xs=[.int i,.int j]/\Q (.int (if j>i then j else i)) H):=by
 intro pins s σ H xs us Q I r h;obtain⟨i,j,rfl,q⟩:=h;obtain⟨u,w',rfl,⟨t,rfl⟩,⟨t',rfl⟩⟩:=BN r;refine max_two_ints (I.ok.hd hc) fun h' tk k=>⟨_,H,I.kept k,?_,q⟩;by_cases hj:j>i
 ·rw[Ob hj,Ob hj];exact⟨_,rfl⟩
 ·rw[Oc hj,Oc hj];exact⟨_,rfl⟩
theorem tW (hc:X.calm=true):c6 X (.builtin "min") (fun xs H Q=>∃i j,xs=[.int i,.int j]/\Q (.int (if j<i then j else i)) H):=by
 intro pins s σ H xs us Q I r h;obtain⟨i,j,rfl,q⟩:=h;obtain⟨u,w',rfl,⟨t,rfl⟩,⟨t',rfl⟩⟩:=BN r;refine min_two_ints (I.ok.hd hc) fun h' tk k=>⟨_,H,I.kept k,?_,q⟩;by_cases hj:j<i
 ·rw[Ob hj,Ob hj];exact⟨_,rfl⟩
 ·rw[Oc hj,Oc hj];exact⟨_,rfl⟩
theorem Bl:c6 X (.type "int") (fun xs H Q=>(∃i,xs=[.int i]/\Q (.int i) H)\/∃k,xs=[.bl k]/\Q (.int (if k then 1 else 0)) H):=by
 intro pins s σ H xs us Q I r h;rcases h with⟨i,rfl,q⟩|⟨k,rfl,q⟩
 ·obtain⟨u,rfl,t,rfl⟩:=fI r;exact call_int_int ⟨.int i,H,I,⟨_,rfl⟩,q⟩
 ·obtain⟨u,rfl,r1⟩:=fI r;cases r1;exact call_int_bool ⟨.int (if k then 1 else 0),H,I.tok _,⟨_,rfl⟩,q⟩
def HF(K:W.Frag)(x:V)(H:Hp)(n:Nat):Prop:=
 match x with
 |.str y=>y.length<=sizeLine/\n=y.length
 |.byt y=>y.size<=sizeLine/\n=y.size
 |.ref p=>(∃xs,gu K H p xs/\n=xs.length)\/∃xs,gP K H p xs/\n=xs.length
 |_=>False
theorem D8:c6 X (.builtin "len") (fun xs H Q=>∃x n,xs=[x]/\HF X.K x H n/\Q (.int n) H):=by
 intro pins s σ H xs us Q I r h;obtain⟨x,n,rfl,e,q⟩:=h;obtain⟨u,rfl,rx⟩:=fI r;have hl:=nV;have hs:sizeLine=16777216:=OW;cases x with
 |str y=>
  obtain⟨t,rfl⟩:=rx;obtain⟨hy,e'⟩:y.length<=sizeLine/\n=y.length:=e;subst e';exact len_str (by omega) ⟨.int _,H,I.tok _,⟨_,rfl⟩,q⟩
 |byt y=>
  obtain⟨t,rfl⟩:=rx;obtain⟨hy,e'⟩:y.size<=sizeLine/\n=y.size:=e;subst e';exact W.len_bytes (by omega) ⟨.int _,H,I.tok _,⟨_,rfl⟩,q⟩
 |ref p=>
  cases rx;have e':(∃xs,gu X.K H p xs/\n=xs.length)\/∃xs,gP X.K H p xs/\n=xs.length:=e;rcases e' with⟨xs,hx,e'⟩|⟨xs,hx,e'⟩
  ·subst e';obtain⟨its,r',pl,hz⟩:=I.list hx;have hlen:=r'.length;exact Calls.call_len_list pl.isList (by simp only[OX];omega) ⟨.int xs.length,H,I.tok _,⟨_,by simp only[OX];rw[hlen]⟩,q⟩
  ·subst e';obtain⟨its,r',pl,hz⟩:=I.tuple hx;have hlen:=r'.length;exact len_tuple pl (by simp only[OX];omega) ⟨.int xs.length,H,I.tok _,⟨_,by simp only[OX];rw[hlen]⟩,q⟩
 |_=>exact(show False from e).elim
end
end L2
namespace L2
open PySem PySem.Spec PyProof.Rows
structure N3(h:Heap)(x dx C:Addr)(mA:Str->Option Value):Prop where
 obj:h.get? x=some (W.instObj C dx)
 ns:h.Ns1 dx mA
 ne:dx≠x
section
variable{prog:Program}{w:World}{A:Around}{E:Value->Shared->Prop}{s:Shared}{K:W.Frag}{x dx C f:Addr}{mA:Str->Option Value}{name:Str}{v:Value}
end
section
variable{P:Program}{w:World}{H H':Hp}{h h':Heap}{a C dx:Addr}{fs fs':List (Str×V)}
end
structure NY(K:W.Frag)(C:Addr):Prop where
 pg:W.plainGet K C Str.empty=true
 hd:W.hasDictIn K C=true
 po:W.plainOver K C=true
 sa:W.findIn K (.ref C) "__setattr__" = some (some (.builtin "object.__setattr__"))
structure N6(K:W.Frag)(C:Addr)(f:Str)(v:V)(u:Value):Prop where
 at_:W.findIn K (.ref C) f=some (some u)
 rel:ck v u
 get:W.specialIn K u "__get__" = some none
 cp:W.copiedNames.contains f=false
structure N4(K:W.Frag)(C:Addr)(m:Str)(f:Addr):Prop where
 at_:W.findIn K (.ref C) m=some (some (.ref f))
 fn:W.isFn K (.ref f)=true
 kp:W.keepIn K (.ref f)=true
section
variable{X:Cx}{pins:List (Addr×Obj)}{σ:St}{H:Hp}{s:Shared}{a C dx:Addr}{fs:List (Str×V)}{f:Str}{v:V}{A:Around}{E:Value->Shared->Prop}
end
section
variable{X:Cx}{o e value:Expr}{f:Str}{pos pos' tpos:Pos}{ta tv:TE}
end
section
variable{X:Cx}{pins:List (Addr×Obj)}{σ:St}{H:Hp}{s:Shared}{A:Around}{E:Value->Shared->Prop}{Q:Value->Shared->Prop}{c:Value}{b:Bool}
inductive qy(K:W.Frag)(H:Hp):V->Value->Prop where
 |non:qy K H .non (.type "NoneType")
 |bl (x:Bool):qy K H (.bl x) (.type "bool")
 |int (i:Int):qy K H (.int i) (.type "int")
 |str (x:Str):qy K H (.str x) (.type "str")
 |flt (x:UInt64):qy K H (.flt x) (.type "float")
 |lst {a:Addr}{xs:List V} (e:H a=some (.lst xs)):qy K H (.ref a) (.type "list")
 |frz {a:Addr}{o:Obj}{xs:List V} (e:H a=some (.frz o (.lst xs))):qy K H (.ref a) (.type "list")
 |tup {a:Addr}{xs:List V} (e:H a=some (.tup xs)):qy K H (.ref a) (.type "tuple")
 |dK {a:Addr}{kvs:List (sx×V)} (e:H a=some (.dK kvs)):qy K H (.ref a) (.type "dict")
 |dT {a:Addr}{kvs:List (List sx×V)} (e:H a=some (.dT kvs)):qy K H (.ref a) (.type "dict")
 |ins {a C dx:Addr}{fs:List (Str×V)} (e:H a=some (.ins C dx fs)) (cl:NY K C) (ha:W.findIn K (.ref C) "__class__" = some (some (.builtin "object.__class__")))
   (hn:W.specialIn K (.builtin "object.__class__") "__get__" = some (some (.builtin "getset_descriptor.__get__"))) (htk:W.takesIn K (.builtin "object.__class__")=some true)
   (hm:W.mroIn K C (.type "object")=some true):qy K H (.ref a) (.ref C)
end
end L2
namespace L2
open PySem PySem.Spec PyProof.Rows
structure gr(k:Nat)(A:Around):Prop where
 hd:A.handled=none
 dp:A.depth+3*k+5<recursionLimit
 un:A.units+16*k+200<cLine
 gd:A.guards=some []
theorem gr.mono{j k:Nat}{A:Around}(r:gr k A)(h:j<=k):gr j A:=⟨r.hd,by have:=r.dp;omega,by have:=r.un;omega,r.gd⟩
theorem gr.deeper{k:Nat}{A:Around}(r:gr (k+1) A)(env:Env):gr k (A.deeper env):=
 ⟨r.hd,by have:=r.dp;show A.depth+1+3*k+5<_;omega,by have:=r.un;show A.units+3+16*k+200<_;omega,r.gd⟩
theorem gr.depth{k:Nat}{A:Around}(r:gr k A):A.depth<recursionLimit:=by have:=r.dp;omega
theorem gr.units{k:Nat}{A:Around}(r:gr k A):A.units+64<cLine:=by have:=r.un;omega
def MU:TA:=fun _ H Q=>Q [] H
def Lu(ta:TE)(tr:TA):TA:=fun σ H Q=>ta σ H fun x H1=>tr σ H1 fun xs H2=>Q (x::xs) H2
section
variable{X:Cx}{e:Expr}{es:List Expr}{te:TE}{t:TA}{pos:Pos}
theorem qP:PA X [] MU:=fun _ _ _ _ H Q I h=>Calls.spliced_nil ⟨[],H,I,.nil,h⟩
theorem jd(ha:PE X e te)(hr:PA X es t)(hs:starEach (e::es) X.env=(false,eval e X.env)::starEach es X.env:=by rfl):PA X (e::es) (Lu te t):=by
 intro pos pins s σ H Q I h;rw[hs];show wpAny _ _ (spliced ((false,eval e X.env)::backTo pos (starEach es X.env))) _ _ s;refine Calls.spliced_cons (dr (ha pins s σ H _ I h) fun u s1 ⟨x,H1,I1,r1,q1⟩=>?_);exact dr (hr pos pins s1 σ H1 _ I1 q1) fun us s2 ⟨xs,H2,I2,r2,q2⟩=>⟨x::xs,H2,I2,.cons r1 r2,q2⟩
def MN(t:TA):TE:=fun σ H Q=>t σ H fun xs H1=>xs.length<=sizeLine/\∀p,H1 p=none->Q (.ref p) (dg H1 p (.tup xs))
def KL(t:TA):TE:=fun σ H Q=>t σ H fun xs H1=>xs.length<=sizeLine/\∀p,H1 p=none->Q (.ref p) (dg H1 p (.lst xs))
theorem Ja{x1}(h:PA X es t):PE X (.Tuple es x1 pos) (MN t):=by
 intro pins s σ H Q I hq;refine wpAny_Tuple_spliced (dr (h pos pins s σ H _ I hq) fun us s1 ⟨xs,H1,I1,r,z,q⟩=>⟨by rw[<- r.length];exact z,?_⟩);have hf:H1 s1.heap.objs.size=none:=I1.hok.fresh (OR _);refine⟨.ref s1.heap.objs.size,dg H1 s1.heap.objs.size (.tup xs),I1.laid (t':=s1.toks) (fun b u e=>OP _ e) (OR _) ?_,rfl,q _ hf⟩;exact⟨z,us,r,⟨_,OQ _ rfl,rfl,_,rfl⟩⟩
theorem Cw(h:PA X es t):PE X (.List es pos) (KL t):=by
 intro pins s σ H Q I hq;refine wpAny_List_spliced (dr (h pos pins s σ H _ I hq) fun us s1 ⟨xs,H1,I1,r,z,q⟩=>⟨by rw[<- r.length];exact z,?_⟩);have hf:H1 s1.heap.objs.size=none:=I1.hok.fresh (OR _);refine⟨.ref s1.heap.objs.size,dg H1 s1.heap.objs.size (.lst xs),I1.laid (t':=s1.toks) (fun b u e=>OP _ e) (OR _) ?_,rfl,q _ hf⟩;exact⟨z,us,0,r,OQ _ rfl⟩
end
abbrev Sp:=List V->Hp->VK->XK->Prop
abbrev vv:=List Env->Hp->Shared->XK->Value->Shared->Prop
structure Ak(P:Program)(w:World)(K:W.Frag)(mg:Str->Option Value)(base:Heap)(A:Around)(outer:List Env)(s:Shared)(H:Hp):Prop where
 frames:A.frames=some outer
 mod:Mod K mg base
 bs:∀b o,base.get? b=some o->s.heap.get? b=some o/\H b=none
 bsz:base.objs.size<=s.heap.objs.size
 funs:s.heap.FunFrames base outer
 frf:∀b∈oV outer,H b=none
 hok:nL P w H s.heap
 bare:AllBare s.gens
def CE(outer:List Env)(P:Program)(w:World)(H:Hp)(s:Shared)(Q:VK)(u:Value)(s':Shared):Prop:=
 ∃v H',s'.os=s.os/\AllBare s'.gens/\Un (oV outer) [] H H' s.heap s'.heap/\nL P w H' s'.heap/\ck v u/\Q v H'
def CR(CX:vv)(outer:List Env)(P:Program)(w:World)(H:Hp)(s:Shared)(Q:VK)(E:XK)(r:Result)(s':Shared):Prop:=
 match r with
 |.ok (.ret u)=>CE outer P w H s Q u s'
 |.ok _=>False
 |.error e=>CX outer H s E e s'
structure qB(P:Program)(w:World)(K:W.Frag)(mg:Str->Option Value)(base:Heap)(CX:vv)(k:Nat)(f:Addr)(fd:FuncData)(ps:List Str)(sp:Sp):Prop where
 len:∀vs H Q E,sp vs H Q E->vs.length=ps.length
 run:∀(A:Around)(outer:List Env)(s:Shared)(H:Hp)(args:Args)(us:List Value)(vs:List V)(Q:VK)(E:XK),gr k A->Ak P w K mg base A outer s H->BindsTo s fd args (ps.zip us)->bh vs us->sp vs H Q E ->
  codeAny (model P w) A (.call (.ref f) args) (CR CX outer P w H s Q E) s
section
variable{X:Cx}{pins:List (Addr×Obj)}{σ:St}{H:Hp}{s s':Shared}
theorem aY.env0(I:aY X pins σ H s):Ak X.prog X.w X.K X.mg X.base X.A X.stack s H:=
 ⟨I.ok.frames,I.ok.mod,I.bs,Ol I.ok.bsz I.sz,I.stack,I.stkFree,I.hok,I.bare⟩
theorem aY.after{Q:VK}{u:Value}(I:aY X pins σ H s)(h:CE X.stack X.prog X.w H s Q u s'):EP X pins σ Q u s':=by
 obtain⟨v,H',os,bare,un,hok,r,q⟩:=h;obtain⟨hh,g,d,t,os'⟩:=s';obtain rfl:os'=s.os:=os;exact⟨v,H',I.call (h':=hh) (g':=g) (d':=d) (t':=t) (ch:=[]) un hok bare (fun b z=>absurd z (by simp)),r,q⟩
end
def GU(sp:Sp)(dvs:List V)(E:XK)(t:TA):TE:=fun σ H Q=>t σ H fun vs H1=>sp (vs++dvs) H1 Q E
def ix(K:W.Frag)(fd:FuncData)(ps:List Str)(ds:List Value):Prop:=
 ∀(s:Shared)(us:List Value),K.In s.heap->(us++ds).length=ps.length->BindsTo s fd ⟨us,[]⟩ (ps.zip (us++ds))
theorem ix.all{K:W.Frag}{fd:FuncData}{ps:List Str}(h:∀us:List Value,us.length=ps.length->bindArgs fd ⟨us,[]⟩=pure (ps.zip us)):ix K fd ps []:=fun s us _ hl=>by
 rw[OY]at hl⊢;exact .of_eq (h us hl)
def jv(CX:vv)(X:Cx)(E:XK):Prop:=∀(pins:List (Addr×Obj))(σ:St)(H:Hp)(s:Shared)(e:Value)(s':Shared),aY X pins σ H s->CX X.stack H s E e s'->X.xe e s'
section
variable{X:Cx}{CX:vv}{k:Nat}{f C:Addr}{fd:FuncData}{ps:List Str}{sp:Sp}{dvs:List V}{ds:List Value}{E:XK}{x m:Str}{p pos apos:Pos}{e o:Expr}{es:List Expr}{ta:TE}{t:TA}
theorem Cg{pins:List (Addr×Obj)}{σ:St}{H:Hp}{s:Shared}{Q:VK}{us:List Value}{vs:List V}(F:qB X.prog X.w X.K X.mg X.base CX k f fd ps sp)(hr:gr k X.A)(hb:ix X.K fd ps ds)(hd:bh dvs ds)(hx:jv CX X E)
  (I:aY X pins σ H s) (r:bh vs us) (h:sp (vs++dvs) H Q E):wpAny (model X.prog X.w) X.A (call (.ref f) us) (EP X pins σ Q) X.xe s:=by
 have r2:bh (vs++dvs) (us++ds):=r.append hd;have hl:(us++ds).length=ps.length:=by rw[<- r2.length];exact F.len _ _ _ _ h
 refine OZ (O0 (F.run X.A X.stack s H ⟨us,[]⟩ (us++ds) (vs++dvs) Q E hr I.env0 (hb s us I.kIn hl) r2 h) fun r s' hq=>?_);cases r with
 |error e=>exact hx pins σ H s e s' I hq
 |ok fl=>
  cases fl with
  |ret u=>exact I.after hq
  |next=>exact False.elim hq
  |brk=>exact False.elim hq
  |cont=>exact False.elim hq
theorem qd(F:qB X.prog X.w X.K X.mg X.base CX k f fd ps sp)(hr:gr k X.A)(hg:Gl X x)(hm:X.mg x=some (.ref f))(hk:W.keepIn X.K (.ref f)=true)(hb:ix X.K fd ps ds)(hd:bh dvs ds)(hx:jv CX X E)
  (ha:PA X (e::es) t) (hdb:(x == ("__debug__" : Str))=false:=by decide) (he:starEach (e::es) X.env=(false,eval e X.env)::starEach es X.env:=by rfl) (hpl:(backTo pos (starEach es X.env)).any (·.1)=false:=by rfl) :
  PE X (.Call (.Name x p) (e::es) [] pos) (GU sp dvs E t):=by
 intro pins s σ H Q I h;refine O1 (mS I hg hm ?_ hdb);refine W.callWith_K (h₀:=X.base) I.ok.mod.kin hk (dr (ha pos pins s σ H _ I h) fun us s1 ⟨vs,H1,I1,r,q⟩=>⟨I1.kIn,?_⟩) he hpl;exact Cg F hr hb hd hx I1 r q
structure Mk(K:W.Frag)(C f:Addr):Prop where
 makes:W.makesIn K C=true
 init:W.findIn K (.ref C) "__init__" = some (some (.ref f))
 fn:W.isFn K (.ref f)=true
 kp:W.keepIn K (.ref C)=true
end
section
variable{X:Cx}{CX:vv}{k:Nat}{f C:Addr}{fd:FuncData}{ps ks:List Str}{sp:Sp}{E:XK}{x m:Str}{p pos apos kpos:Pos}{e o:Expr}{es:List Expr}{kws:List Keyword}{te ta:TE}{t tk:TA}{nm:Option Str}
structure Nz(K:W.Frag)(fd:FuncData)(ps ks:List Str)(g:List Value->List Value->List Value)(gV:List V->List V->List V):Prop where
 to:∀(s:Shared)(us ws:List Value),K.In s.heap->(g us ws).length=ps.length->BindsTo s fd ⟨us,ks.zip ws⟩ (ps.zip (g us ws))
 rel:∀{vs:List V}{us:List Value}{zs:List V}{ws:List Value},bh vs us->bh zs ws->bh (gV vs zs) (g us ws)
variable{g:List Value->List Value->List Value}{gV:List V->List V->List V}
end
structure aV(N P:List Str)(sc:Scope):Prop where
 kind:sc.kind=.function
 co:sc.isCoroutine=false
 gen:sc.isGenerator=false
 nd:N.Nodup
 pre:N.take P.length=P
 par:∀x∈P,sc.names.lookup x=some .local\/sc.names.lookup x=some .cell
 nofree:∀y∈sc.names,y.2≠.free
theorem tY{kindOf:Str->Option NameKind}{x:Str}:∀{binds:List (Str×Value)}{m:Str->Option Value},(∀v,(x,v)∉binds)->bindL kindOf binds m x=m x
 |[],_,_=>rfl
 |(n,v)::r,m,h=>by
  unfold bindL;rw[tY fun w hw=>h w (Oq _ hw)];split
  ·have : x ≠ n := by rintro rfl; exact h v Oo
   simp[this]
  ·rfl
theorem tZ{kindOf:Str->Option NameKind}{x:Str}:∀{binds:List (Str×Value)}{m:Str->Option Value},(∀v,(x,v)∉binds)->bindC kindOf binds m x=m x
 |[],_,_=>rfl
 |(n,v)::r,m,h=>by
  unfold bindC;rw[tZ fun w hw=>h w (Oq _ hw)];split
  ·rfl
  ·have : x ≠ n := by rintro rfl; exact h v Oo
   simp[this]
theorem oG{kindOf:Str->Option NameKind}{x:Str}{v:Value}:∀{P:List Str}{vs:List Value}{i:Nat}{m:Str->Option Value},P.Nodup->P[i]?=some x->vs[i]?=some v->kindOf x=some .local ->
  bindL kindOf (P.zip vs) m x=some v
 |[],_,_,_,_,h,_,_=>by simp at h
 |_::_,[],_,_,_,_,h,_=>by simp at h
 |p::P,w::vs,0,m,nd,h1,h2,hk=>by
  simp at h1 h2;subst h1;subst h2;show bindL kindOf ((p,w)::P.zip vs) m p=_;unfold bindL;rw[tY fun v hv=>(O2.mp nd).1 (O3 hv).1,Ob hk];simp
 |p::P,w::vs,i+1,m,nd,h1,h2,hk=>by
  show bindL kindOf ((p,w)::P.zip vs) m x=_;unfold bindL;exact oG (i:=i) (O2.mp nd).2 (by simpa using h1) (by simpa using h2) hk
theorem oH{kindOf:Str->Option NameKind}{x:Str}{v:Value}:∀{P:List Str}{vs:List Value}{i:Nat}{m:Str->Option Value},P.Nodup->P[i]?=some x->vs[i]?=some v->kindOf x≠some .local ->
  bindC kindOf (P.zip vs) m x=some v
 |[],_,_,_,_,h,_,_=>by simp at h
 |_::_,[],_,_,_,_,h,_=>by simp at h
 |p::P,w::vs,0,m,nd,h1,h2,hk=>by
  simp at h1 h2;subst h1;subst h2;show bindC kindOf ((p,w)::P.zip vs) m p=_;unfold bindC;rw[tZ fun v hv=>(O2.mp nd).1 (O3 hv).1,Oc hk];simp
 |p::P,w::vs,i+1,m,nd,h1,h2,hk=>by
  show bindC kindOf ((p,w)::P.zip vs) m x=_;unfold bindC;exact oH (i:=i) (O2.mp nd).2 (by simpa using h1) (by simpa using h2) hk
def start(N:List Str)(vs:List V):St:=vs.map some++List.replicate (N.length-vs.length) none
def qx(CX:vv)(P:Program)(w:World)(K:W.Frag)(mg:Str->Option Value)(base:Heap)(N:List Str)(qual:Str)(scope:Scope)(f:Addr)(cd:Value)(A:Around)(outer:List Env)(s:Shared)(H:Hp)(E:XK):Cx where
 prog:=P
 w:=w
 K:=K
 mg:=mg
 base:=base
 A:=A.deeper (envOfC qual scope s.heap.objs.size f cd)
 N:=N
 s₀:=s
 H₀:=H
 env:=envOfC qual scope s.heap.objs.size f cd
 outer:=outer
 stack:=envOfC qual scope s.heap.objs.size f cd::outer
 ex:=[]
 calm:=true
 fn:=fun _=>true
 pn:=[]
 xe:=fun e s'=>wpAny (model P w) (A.deeper (envOfC qual scope s.heap.objs.size f cd)) (leaving (envOfC qual scope s.heap.objs.size f cd) e) (fun _ s''=>CX outer H s E e s'') (fun e' s''=>CX outer H s E e' s'') s'
theorem nr{sc:Scope}{n:Nat}{x:Str}(h:sc.names.lookup x=some .cell):∃c,(cellsFrom n sc.names []).lookup x=some c:=by
 have q:=W.cellsFrom_some sc.names n [] (.inl h);exact O4.mp q
theorem A3{CX:vv}{P:Program}{w:World}{K:W.Frag}{mg:Str->Option Value}{base:Heap}{N ps:List Str}{qual:Str}{scope:Scope}{f:Addr}{cd:Value}{A:Around}{outer:List Env}{s s1:Shared}{H:Hp}{E:XK}{us:List Value}{vs:List V}
  (S:aV N ps scope) (hd:A.handled=none) (e0:Ak P w K mg base A outer s H) (hl:vs.length=ps.length) (r:bh vs us)
  (x:InCallC s s.heap.objs.size (bindL (envOfC qual scope s.heap.objs.size f cd).kindOf (ps.zip us) fun _=>none) (cellsFrom (s.heap.objs.size+1) scope.names []) (bindC (envOfC qual scope s.heap.objs.size f cd).kindOf (ps.zip us) fun _=>none) s1) :
  aY (qx CX P w K mg base N qual scope f cd A outer s H E) [] (start N vs) H s1:=by
 have hpl:ps.length<=N.length:=by have:=OE List.length S.pre;rw[O5]at this;omega
 obtain⟨h1,tk,rfl,hk⟩:=x.done;have noA:∀b:Addr,b∉(qx CX P w K mg base N qual scope f cd A outer s H E).ex:=fun b z=>absurd (show b∈([]:List Addr) from z) (by simp)
 refine⟨⟨e0.mod,S.kind,rfl,rfl,OR _,fun y z c h1 h2=>?_,fun y hy=>?_,fun y c _ h=>?_,fun _=>hd,Around.frames_deeper e0.frames,.inr ⟨rfl,rfl⟩,fun b z=>absurd z (noA b),e0.bs,e0.bsz,fun b _ _=>noA b,fun b z=>absurd z (noA b),e0.funs,e0.frf⟩,
  rfl,e0.bare,Un.kept hk,⟨_,x.toInCall.ns,fun i y v h1 h2 h3=>?_⟩,fun y c h=>⟨_,x.cell y c h⟩,e0.hok.fresh (OR _),fun y c h=>?_,fun p hp=>absurd (show p∈([]:List (Addr×Obj)) from hp) (by simp),e0.hok.kept hk,?_⟩
 ·exact name_of_addr x.apart (O6 h1) (O6 h2)
 ·have hy : scope.names.lookup y = some .cell \/ scope.names.lookup y = some .free := hy;rcases hy with hy|hy
  ·exact nr hy
  ·exact absurd rfl (S.nofree _ (O6 hy))
 ·exact Om (x.above y c (O6 h))
 ·have hi:i<vs.length:=by
   unfold start at h2;by_cases hi:i<vs.length
   ·exact hi
   ·rw[O7 (by simpa using hi)]at h2;rw[O8]at h2;split at h2 <;> cases h2
  have ha:vs[i]?=some v:=by
   unfold start at h2;rw[O9 (by simpa using hi),Pb]at h2;cases e:vs[i]? with
   |none=>rw[e]at h2;cases h2
   |some a=>rw[e]at h2;cases h2;rfl
  obtain⟨u,hu,rv⟩:=r.get ha
  have hp:ps[i]?=some y:=by
   rw[<- S.pre,Pc (by omega)];exact h1
  have ndP:ps.Nodup:=by rw[<- S.pre];exact S.nd.sublist (List.take_sublist _ _)
  refine⟨u,rv,?_⟩;rcases S.par y (Pd hp) with k|k
  ·exact .inl ⟨k,oG ndP hp hu k⟩
  ·obtain⟨c,e⟩:=nr (n:=s.heap.objs.size+1) k;refine .inr ⟨.inl k,c,e,?_⟩;have q:=x.cell y c e;rw[oH ndP hp hu (by show scope.names.lookup y≠_;rw[k];decide)]at q;exact q
 ·exact e0.hok.fresh (Om (x.above y c (O6 h)))
 ·unfold start;show _=N.length;rw[Pe,Pf,Pg];omega
theorem Hg{CX:vv}{P:Program}{w:World}{K:W.Frag}{mg:Str->Option Value}{base:Heap}{k:Nat}{f:Addr}{name qual:Str}{params:Arguments}{body:List Stmt}{scope:Scope}{dV kV doc pm cdv ct oc:Value}{an od:Option Addr}
  {osl:Array (Option Value)}{N ps:List Str}{sp:Sp} (lk:K.lookup f=some ⟨oc,od,.func (W.fnOf name qual params body scope dV kV doc pm an cdv ct),osl⟩) (hcd:W.codeIn K cdv qual=true) (S:aV N ps scope)
  (len:∀vs H Q E,sp vs H Q E->vs.length=ps.length)
  (hbody : ∀ (A : Around) (outer : List Env) (s : Shared) (H : Hp) (vs : List V) (Q : VK) (E : XK), gr k (A.deeper (envOfC qual scope s.heap.objs.size f cdv)) -> sp vs H Q E ->
   ∃t,jt (qx CX P w K mg base N qual scope f cdv A outer s H E) body t/\t {nx:=fun _ H'=>Q .non H',rt:=Q} (start N vs) H) :
  qB P w K mg base CX (k+1) f (W.fnOf name qual params body scope dV kV doc pm an cdv ct) ps sp:=by
 refine⟨len,fun A outer s H args us vs Q E hr e0 hb r hsp=>?_⟩;have hl:=len _ _ _ _ hsp;have KX:K.In s.heap:=e0.mod.kin.keeps fun b o e=>(e0.bs b o e).1;have lim:s.heap.NoLimit:=e0.mod.nolimit.keeps fun b o e=>(e0.bs b o e).1
 have hkind:∀y∈ps.zip us,scope.names.lookup y.1=some .local\/(scope.names.lookup y.1=some .cell/\((cellsFrom (s.heap.objs.size+1) scope.names []).lookup y.1).isSome=true):=fun⟨n,v⟩ hy=>by
  rcases S.par n (O3 hy).1 with q|q
  ·exact .inl q
  ·exact .inr ⟨q,W.cellsFrom_some _ _ _ (.inl q)⟩
 refine codeAny_call_function hr.depth (KX _ _ lk) rfl S.co S.gen rfl (W.codeRec_of KX hcd) (hb _ _ _ _ ?_);refine wpAny_newFunctionEnv_cells S.kind hkind fun env he s1 x=>?_;subst he;refine⟨lim.keeps x.toInCall.keep,codeAny_func ?_⟩;obtain⟨t,ht,hq⟩:=hbody A outer s H vs Q E (hr.deeper _) hsp;have I:aY (qx CX P w K mg base N qual scope f cdv A outer s H E) [] (start N vs) H s1:=A3 S hr.hd e0 hl r x;refine OB (ht [] s1 (start N vs) H _ I hq) (fun fl s' hs=>?_) fun e s' hs=>hs
 have fin:∀{σ':St}{H':Hp}{v:V}{u:Value},aY (qx CX P w K mg base N qual scope f cdv A outer s H E) [] σ' H' s'->ck v u->Q v H'->CE outer P w H s Q u s':=
  fun {σ' H' v u} J rv q=>⟨v,H',J.os,J.bare,J.base,J.hok,rv,q⟩
 cases fl with
 |ret u=>
  obtain⟨v,σ',H',J,rv,q⟩:=hs;exact fin J rv q
 |next=>
  obtain⟨σ',H',J,q⟩:=hs;exact fin (v:=V.non) (u:=Value.none) J rfl q
 |brk=>
  obtain⟨_,_,_,q⟩:=hs;exact False.elim q
 |cont=>
  obtain⟨_,_,_,q⟩:=hs;exact False.elim q
end L2
namespace L2
open PySem PySem.Spec PyProof.Rows
section
variable{X:Cx}{x:Str}{p pos:Pos}{e:Expr}{es:List Expr}{t:TA}{id T:String}{r:List V->Hp->VK->Prop}
def NC(r:List V->Hp->VK->Prop)(t:TA):TE:=fun σ H Q=>t σ H fun vs H1=>r vs H1 Q
theorem m8 (hc:c6 X (.builtin id) r) (hg:Gl X x) (hm:X.mg x=none) (hv:bootBuiltins x=some (.builtin id)) (ha:PA X (e::es) t) (hn:x ≠ "__name__" := by decide) (hdb:(x == ("__debug__" : Str))=false:=by decide)
  (he:starEach (e::es) X.env=(false,eval e X.env)::starEach es X.env:=by rfl) (hpl:(backTo pos (starEach es X.env)).any (·.1)=false:=by rfl):PE X (.Call (.Name x p) (e::es) [] pos) (NC r t):=by
 intro pins s σ H Q I h;refine O1 (qQ I hg hm hv ?_ hn hdb);exact PyProof.Rows.callWith_builtin1 (dr (ha pos pins s σ H _ I h) fun us s1 ⟨vs,H1,I1,r1,q1⟩=>hc pins s1 σ H1 vs us Q I1 r1 q1) he hpl
theorem AM (hc:c6 X (.type T) r) (hg:Gl X x) (hm:X.mg x=none) (hv:bootBuiltins x=some (.type T)) (ha:PA X (e::es) t) (hn:x ≠ "__name__" := by decide) (hdb:(x == ("__debug__" : Str))=false:=by decide)
  (he:starEach (e::es) X.env=(false,eval e X.env)::starEach es X.env:=by rfl) (hpl:(backTo pos (starEach es X.env)).any (·.1)=false:=by rfl):PE X (.Call (.Name x p) (e::es) [] pos) (NC r t):=by
 intro pins s σ H Q I h;refine O1 (qQ I hg hm hv ?_ hn hdb);exact OS (dr (ha pos pins s σ H _ I h) fun us s1 ⟨vs,H1,I1,r1,q1⟩=>hc pins s1 σ H1 vs us Q I1 r1 q1) he hpl
end
end L2
namespace HT
open PySem PyProof.Rows
section
open PySem.SeqAt
open PySem.AutoSeq1 (wpAny_loadPart')
open PySem.MeetsSeq PySem.MeetsSeq2 PySem.MeetsSeq3
end
section
variable{prog:Program}{w:World}{A:Around}{E:Value->Shared->Prop}{s:Shared}
theorem cat_tup{t b:Addr}{vs ws:List Value}{Q:Value->Shared->Prop}(ht:IsTup s.heap t vs.toArray)(hb:IsTup s.heap b ws.toArray)(hv:vs≠[])
  (h1:ws=[]->Q (.ref t) s) (h2:ws≠[]->Q (.ref s.heap.objs.size) {s with heap:=s.heap.push {cls:=.type "tuple",data:=.seq (vs++ws).toArray}})
  (hsz:vs.length+ws.length<=sizeLine):wpAny (model prog w) A (binaryOp .Add (.ref t) (.ref b)) Q E s:=by
 obtain⟨⟨cls,dd,data,sl⟩,ho,hc,n,hd⟩:=id ht;obtain⟨⟨cls2,dd2,data2,sl2⟩,ho2,hc2,n2,hd2⟩:=id hb;simp only at hc hd hc2 hd2;subst hc hd hc2 hd2;have e:vs.toArray++ws.toArray=(vs++ws).toArray:=by simp
 by_cases hw:ws=[]
 ·exact concat_meets ⟨_,ho,rfl⟩ ⟨_,ho2,rfl⟩ Ph seq_tuple_add Pi Pj (Pl _ _)
   (tuple_addW1 t b vs.toArray ws.toArray n n2 dd dd2 sl sl2 (by simpa using hv) (by simp[hw])) ⟨ho,ho2,h1 hw⟩
 ·refine concat_meets ⟨_,ho,rfl⟩ ⟨_,ho2,rfl⟩ Ph seq_tuple_add Pi Pj (Pl _ _)
   (tuple_addW2 t b vs.toArray ws.toArray n n2 dd dd2 sl sl2 (by simpa using hv) (by simpa using hw) (by rw[OX,OX];exact hsz)) ⟨ho,ho2,?_⟩
  rw[e];exact h2 hw
def sIx(n d:Nat):Option Int->Nat
 |none=>d
 |some v=>if v<0 then (v+(n:Int)).toNat else min v.toNat n
theorem sIx_none(n d:Nat):sIx n d none=d:=rfl
theorem sIx_nat(n d k:Nat):sIx n d (some (k:Int))=min k n:=by
 show (if (k:Int)<0 then ((k:Int)+(n:Int)).toNat else min (k:Int).toNat n)=min k n;rw[Oc (by omega),Pm]
theorem IH(n d:Nat)(hd:d<=n)(o:Option Int):sIx n d o<=n:=by
 cases o with
 |none=>exact hd
 |some v=>
  show (if v<0 then (v+(n:Int)).toNat else min v.toNat n)<=n;by_cases hv:v<0
  ·rw[Ob hv];omega
  ·rw[Oc hv];exact Po _ _
theorem zY(v:Int)(n d:Nat):(if v<0 then max (v+(n:Int)) 0 else min v (n:Int))=((sIx n d (some v):Nat):Int):=by
 show (if v<0 then max (v+(n:Int)) 0 else min v (n:Int))=(((if v<0 then (v+(n:Int)).toNat else min v.toNat n):Nat):Int);by_cases hv:v<0
 ·simp only[Ob hv];omega
 ·simp only[Oc hv];omega
theorem za(lo hi:Option Int)(n:Nat):Builtin.Slice.sliceAdjust lo hi 1 (n:Int)=(((sIx n 0 lo:Nat):Int),((sIx n n hi:Nat):Int)):=by
 have h1:¬ ((1:Int)<0):=by omega
 unfold Builtin.Slice.sliceAdjust;simp only[h1,Pp];refine Prod.ext ?_ ?_
 ·cases lo with
  |none=>rfl
  |some v=>exact zY v n 0
 ·cases hi with
  |none=>rfl
  |some v=>exact zY v n n
theorem yM(i j:Nat):Builtin.Slice.slicePlaces (i:Int) (j:Int) 1=j-i:=by
 unfold Builtin.Slice.slicePlaces;have h1:(1:Int)>0:=by omega
 simp only[h1,Pq,Int.ediv_one];split <;> omega
theorem rK{v:Value}{o:Option Int}{Q:Option Int->Shared->Prop}(p:IsPart v o)(h:Q o s):wpAny (model prog w) A (Builtin.Slice.slicePartIndex v) Q E s:=by
 cases p with
 |none=>exact Pr h
 |int i t=>exact slicePart_int h
theorem sliceApplied_gen{sl:Addr}{vl vu:Value}{lo hi:Option Int}{n:Nat}{Q:Int×Int×Nat->Shared->Prop}(hs:s.heap.IsSliceOf sl vl vu .none)(pl:IsPart vl lo)(pu:IsPart vu hi)
  (h:Q (((sIx n 0 lo:Nat):Int),1,sIx n n hi-sIx n 0 lo) s):wpAny (model prog w) A (Builtin.Slice.sliceApplied (.ref sl) (pure (n:Int))) Q E s:=by
 obtain⟨os,hos,hcs,hds⟩:=id hs;unfold Builtin.Slice.sliceApplied Builtin.Slice.sliceFields;refine OG (OG (Pt hos hds (x:=vl) rfl (OG (Pt hos hds (x:=vu) rfl (OG (Pt hos hds (x:=.none) rfl (OM ?_)))))));refine OG (Pr ?_);show wpAny _ _ (if ((1:Int) == 0)=true then _ else _) _ _ s;rw[Oc (by decide)];refine OG (rK pl (OG (rK pu (OG (OM ?_)))));show wpAny _ _ (match Builtin.Slice.sliceAdjust lo hi 1 (n:Int) with|(lo,hi)=>pure (lo,(1:Int),Builtin.Slice.slicePlaces lo hi 1)) _ _ s;rw[za lo hi n];show wpAny _ _ (pure (((sIx n 0 lo:Nat):Int),(1:Int),Builtin.Slice.slicePlaces ((sIx n 0 lo:Nat):Int) ((sIx n n hi:Nat):Int) 1)) _ _ s;rw[yM];exact OM h
theorem Dw(xs:Array Value)(i k:Nat):((List.range k).filterMap fun(m:Nat)=>xs[((i:Int)+(m:Int)*1).toNat]?).toArray=((xs.toList.drop i).take k).toArray:=by
 have e:(fun(m:Nat)=>xs[((i:Int)+(m:Int)*1).toNat]?)=fun m=>xs[i+m]?:=by
  funext m;have:((i:Int)+(m:Int)*1).toNat=i+m:=by omega
  rw[this]
 rw[e];have:=pick_run xs i k;rw[Pu]at this;have e2:((fun x=>xs[x]?) ∘ fun x=>i+x)=fun m=>xs[i+m]?:=rfl;rw[e2]at this;rw[this]
theorem getItem_tuple_cut{t sl:Addr}{items:Array Value}{vl vu:Value}{lo hi:Option Int}{Q:Value->Shared->Prop}(ht:IsTup s.heap t items)(hs:s.heap.IsSliceOf sl vl vu .none)(pl:IsPart vl lo)(pu:IsPart vu hi)
  (hw:¬ (sIx items.size 0 lo=0/\sIx items.size items.size hi=items.size))
  (h:Q (.ref s.heap.objs.size) {s with heap:=s.heap.push {cls:=.type "tuple",data:=.seq ((items.toList.drop (sIx items.size 0 lo)).take (sIx items.size items.size hi-sIx items.size 0 lo)).toArray}})
  (hsz:items.size<=sizeLine):wpAny (model prog w) A (getItem (.ref t) (.ref sl)) Q E s:=by
 have htake:sizeOk (.seq ((items.toList.drop (sIx items.size 0 lo)).take (sIx items.size items.size hi-sIx items.size 0 lo)).toArray):=by
  show ((items.toList.drop (sIx items.size 0 lo)).take (sIx items.size items.size hi-sIx items.size 0 lo)).toArray.size<=sizeLine;rw[OX,O5,Pv,OD];omega
 have hj:sIx items.size items.size hi<=items.size:=IH _ _ (OR _) hi;obtain⟨os,hos,hcs,hds⟩:=id hs;have hTs:s.TypeIs (.ref sl) "slice" := ⟨os,hos,hcs⟩;unfold getItem
 try with_reducible refine OH ?_
 first|refine OG (OM ?_)|skip
 refine OG (Pw ht.typeIs (by decide) ?_)
 refine OG (Px (name:=Str.ofString "__getitem__") ht.typeIs Py
  (Pz Py ht.typeIs PB ?_ (PD _ _)))
 show wpAny _ _ (Builtin.Tuple.tupleItemsOf (.ref t) >>= _) _ _ s;refine OG (tupleItemsOf_ ht ?_);refine OG (PF hTs ?_);rw[Ob (by decide)];refine OG (sliceApplied_gen hs pl pu ?_)
 have hno:¬ ((((sIx items.size 0 lo:Nat):Int) == 0&&(1:Int) == 1&&(sIx items.size items.size hi-sIx items.size 0 lo) == items.size)=true):=by
  intro q;rw[PH,PH]at q;have q1:((sIx items.size 0 lo:Nat):Int)=0:=eq_of_beq q.1.1;have q2:sIx items.size items.size hi-sIx items.size 0 lo=items.size:=eq_of_beq q.2;exact hw ⟨by omega,by omega⟩
 show wpAny _ _ (if (((sIx items.size 0 lo:Nat):Int) == 0&&(1:Int) == 1&&(sIx items.size items.size hi-sIx items.size 0 lo) == items.size)=true then _ else _) _ _ s;rw[Oc hno,Dw]
 first
  |exact OG (m:=Builtin.Tuple.tupleExact _) (PJ (OM ⟨_,rfl,OM h⟩) htake)
  |exact OG (m:=Builtin.Tuple.tupleExact _) (PJ (OG (OM (OM ⟨_,rfl,OM h⟩))) htake)
  |exact OG (OG (m:=Builtin.Tuple.tupleExact _) (PJ (OM (OM ⟨_,rfl,OM h⟩)) htake))
  |exact OG (OG (m:=Builtin.Tuple.tupleExact _) (PJ (OM ⟨_,rfl,OM h⟩) htake))
end
end HT
namespace L2
open PySem PySem.Spec PyProof.Rows
abbrev TO:=St->Hp->(Option Int->Hp->Prop)->Prop
def PO(X:Cx)(e:Option Expr)(t:TO):Prop:=
 ∀(pins:List (Addr×Obj))(s:Shared)(σ:St)(H:Hp)(Q:Option Int->Hp->Prop),aY X pins σ H s->t σ H Q ->
  wpAny (model X.prog X.w) X.A (evalPart e X.env) (fun u s'=>∃o H',aY X pins σ H' s'/\IsPart u o/\Q o H') X.xe s
def ER:TO:=fun _ H Q=>Q none H
def Lo(t:TE):TO:=fun σ H Q=>t σ H fun x H1=>∃i,x=.int i/\Q (some i) H1
theorem f7{ns:List Int}:∀{us:List Value},bh (ns.map V.int) us->IntsAre us ns:=by
 induction ns with
 |nil=>intro us r;rw[PL]at r;cases r;exact .nil
 |cons n ns ih=>
  intro us r;rw[PM]at r;cases r with
  |cons r1 r2=>
   obtain⟨t,e⟩:=r1;subst e;exact .cons n t (ih r2)
section
variable{X:Cx}{e:Expr}{te:TE}{lo hi:Option Expr}{tl th:TO}{pos p2:Pos}
theorem FG:PO X none ER:=by
 intro pins s σ H Q I h;rw[evalPart_none];exact OM ⟨none,H,I,.none,h⟩
theorem FF(h:PE X e te):PO X (some e) (Lo te):=by
 intro pins s σ H Q I hw;rw[evalPart_some];refine dr (h pins s σ H _ I hw) fun u s1 ⟨x,H1,I1,r1,q1⟩=>?_;obtain⟨i,rfl,q⟩:=q1;obtain⟨t,rfl⟩:=r1;exact⟨some i,H1,I1,.int i t,q⟩
def Er(X:Cx)(r:V->Option Int->Option Int->Hp->VK->Prop):Prop:=
 ∀(pins:List (Addr×Obj))(s:Shared)(σ:St)(H:Hp)(x:V)(v vl vu:Value)(lo hi:Option Int)(sl:Addr)(Q:VK),aY X pins σ H s->ck x v->s.heap.IsSliceOf sl vl vu .none->IsPart vl lo->IsPart vu hi->r x lo hi H Q ->
  ∃T id,typeLookup (.type T) "__getitem__" = pure (some (.builtin id))/\s.TypeIs v T/\wpAny (model X.prog X.w) X.A (getItem v (.ref sl)) (EP X pins σ Q) X.xe s
theorem Er.or{r r':V->Option Int->Option Int->Hp->VK->Prop}(h:Er X r)(h':Er X r'):Er X (fun x lo hi H Q=>r x lo hi H Q\/r' x lo hi H Q):=by
 intro pins s σ H x v vl vu lo hi sl Q I rx hs pl pu q;rcases q with q|q
 ·exact h pins s σ H x v vl vu lo hi sl Q I rx hs pl pu q
 ·exact h' pins s σ H x v vl vu lo hi sl Q I rx hs pl pu q
def NT(r:V->Option Int->Option Int->Hp->VK->Prop)(te:TE)(tl th:TO):TE:=fun σ H Q=>te σ H fun x H1=>tl σ H1 fun l H2=>th σ H2 fun u H3=>r x l u H3 Q
theorem Dy{r:V->Option Int->Option Int->Hp->VK->Prop}(hr:Er X r)(he:PE X e te)(hl:PO X lo tl)(hu:PO X hi th):PE X (.Subscript e (.Slice lo hi none p2) pos) (NT r te tl th):=by
 intro pins s σ H Q I h;refine Subscript_ (dr (he pins s σ H _ I h) fun v s1 ⟨x,H1,I1,r1,q1⟩=>?_);refine wpAny_Slice (dr (hl pins s1 σ H1 _ I1 q1) fun vl s2 ⟨l,H2,I2,pl,q2⟩=>dr (hu pins s2 σ H2 _ I2 q2) fun vu s3 ⟨u,H3,I3,pu,q3⟩=>?_);rw[evalPart_none];refine OM ?_;have I4:aY X pins σ H3 {s3 with heap:=s3.heap.push {cls:=.type "slice",data:=.fields #[vl,vu,.none]}}:=I3.kept (t':=s3.toks) fun b ob q=>OP _ q;obtain⟨T,id,hT,ht,hg⟩:=hr pins {s3 with heap:=s3.heap.push {cls:=.type "slice",data:=.fields #[vl,vu,.none]}} σ H3 x v vl vu l u s3.heap.objs.size Q I4 r1 (PN ..) pl pu q3;show wpAny (model X.prog X.w) X.A (subscriptTail e (.Slice lo hi none p2) v (.ref s3.heap.objs.size)) (EP X pins σ Q) X.xe {s3 with heap:=s3.heap.push {cls:=.type "slice",data:=.fields #[vl,vu,.none]}};exact tail_any (ops:=[.ref s3.heap.objs.size,v]) ht hT hg (by with_unfolding_all rfl)
def vG(xs:List V)(lo hi:Option Int):List V:=(xs.drop (HT.sIx xs.length 0 lo)).take (HT.sIx xs.length xs.length hi-HT.sIx xs.length 0 lo)
theorem pk(xs:List V)(lo hi:Option Int):(vG xs lo hi).length<=xs.length:=by
 unfold vG;rw[O5,Pv];omega
def KN(K:W.Frag):V->Option Int->Option Int->Hp->VK->Prop:=fun x lo hi H Q=>∃a xs,x=.ref a/\gP K H a xs /\
 ¬ (HT.sIx xs.length 0 lo=0/\HT.sIx xs.length xs.length hi=xs.length)/\∀p,H p=none->Q (.ref p) (dg H p (.tup (vG xs lo hi)))
theorem Iq:Er X (KN X.K):=by
 intro pins s σ H x v vl vu lo hi sl Q I rx hs pl pu h;obtain⟨a,xs,rfl,hx,hw,q⟩:=h;cases rx;obtain⟨its,r,ht,hz⟩:=I.tuple hx;have hlen:its.toArray.size=xs.length:=by rw[OX];exact r.length.symm
 refine⟨"tuple",_,Py.lookup,ht.typeIs,?_⟩;refine HT.getItem_tuple_cut ht hs pl pu (by rw[hlen];exact hw) ?_ (by rw[hlen];exact hz);rw[hlen];refine⟨.ref s.heap.objs.size,_,I.laid (t':=s.toks) (o:=.tup (vG xs lo hi)) (fun b ob q=>OP _ q) (OR _) ?_,rfl,q _ (I.hok.fresh (OR _))⟩;exact⟨Ol (pk xs lo hi) hz,_,(r.drop (HT.sIx xs.length 0 lo)).take (HT.sIx xs.length xs.length hi-HT.sIx xs.length 0 lo),IsTup.new _ _⟩
def LJ(K:W.Frag):R2:=fun x y H Q=>∃a b xs ys,x=.ref a/\y=.ref b/\gP K H a xs/\gP K H b ys/\xs≠[]/\xs.length+ys.length<=sizeLine /\
 (ys=[]->Q (.ref a) H)/\(ys≠[]->∀p,H p=none->Q (.ref p) (dg H p (.tup (xs++ys))))
theorem bh.nil_iff{xs:List V}{us:List Value}(r:bh xs us):us=[]↔xs=[]:=by
 cases r with
 |nil=>simp
 |cons _ _=>simp
theorem FV:iP X (binaryOp .Add) (LJ X.K):=by
 intro pins s σ H x y v u Q I rx ry h;obtain⟨a,b,xs,ys,rfl,rfl,ha,hb,hx,hz,q1,q2⟩:=h;cases rx;cases ry;obtain⟨its,r1,p1,_⟩:=I.tuple ha;obtain⟨its2,r2,p2,_⟩:=I.tuple hb;refine HT.cat_tup p1 p2 (fun z=>hx (r1.nil_iff.mp z)) (fun z=>⟨.ref a,H,I,rfl,q1 (r2.nil_iff.mp z)⟩) (fun z=>?_) (by rw[<- r1.length,<- r2.length];exact hz);refine⟨.ref s.heap.objs.size,_,I.laid (t':=s.toks) (o:=.tup (xs++ys)) (fun b ob q=>OP _ q) (OR _) ?_,rfl,q2 (fun w=>z (r2.nil_iff.mpr w)) _ (I.hok.fresh (OR _))⟩;exact⟨by rw[Pe];exact hz,_,r1.append r2,IsTup.new _ _⟩
end
end L2
namespace L2
open PySem PySem.Spec PyProof.Rows
def zc(n:Nat)(i:Int):Option Nat:=if 0<=i then (if i<n then some i.toNat else none) else if -(n:Int)<=i then some (i+n).toNat else none
def atI{α:Type}(xs:List α)(i:Int):Option α:=(zc xs.length i).bind fun j=>xs[j]?
theorem zN{n:Nat}{i:Int}{j:Nat}(h:zc n i=some j):seqIndex? i n=some j/\j<n/\-(n:Int)<=i/\i<n:=by
 unfold zc at h;by_cases h0:0<=i
 ·rw [Ob h0] at h;by_cases h1:i<n
  ·rw[Ob h1]at h;have e:i.toNat=j:=Od h;exact⟨by rw[seqIndex_of h0 h1,e],by omega,by omega,h1⟩
  ·rw[Oc h1]at h;cases h
 ·rw [Oc h0] at h;by_cases h1:-(n:Int)<=i
  ·rw[Ob h1]at h;have e:(i+n).toNat=j:=Od h;exact⟨by rw[seqIndex_neg (by omega) h1,e],by omega,h1,by omega⟩
  ·rw[Oc h1]at h;cases h
theorem uT{α:Type}{xs:List α}{i:Int}{v:α}(h:atI xs i=some v):∃j,seqIndex? i xs.length=some j/\xs[j]?=some v/\j<xs.length/\-(xs.length:Int)<=i/\i<xs.length:=by
 unfold atI at h;cases e:zc xs.length i with
 |none=>rw[e]at h;cases h
 |some j=>
  rw[e]at h;obtain⟨h1,h2,h3,h4⟩:=zN e;exact⟨j,h1,h,h2,h3,h4⟩
theorem jZ{α:Type}{xs:List α}{j:Nat}{v:α}(h:xs[j]?=some v):atI xs (j:Int)=some v:=by
 have hj:j<xs.length:=(Ow.mp h).1
 have e:zc xs.length (j:Int)=some j:=by
  unfold zc;rw[Ob (by omega),Ob (by omega)];simp
 unfold atI;rw[e];exact h
def uV(b:Expr):Prop:=∀o i,subscripted b false o i=operate [o,i] (getItem o i)
def Et(X:Cx)(r:R2):Prop:=
 ∀(value slice:Expr)(pins:List (Addr×Obj))(s:Shared)(σ:St)(H:Hp)(x y:V)(v u:Value)(Q:VK),aY X pins σ H s->ck x v->ck y u->r x y H Q ->
  subscripted slice false v u=operate [v,u] (getItem v u)->wpAny (model X.prog X.w) X.A (subscriptTail value slice v u) (EP X pins σ Q) X.xe s
def NJ(X:Cx)(id:String)(r:V->List V->Hp->VK->Prop):Prop:=
 ∀(pins:List (Addr×Obj))(s:Shared)(σ:St)(H:Hp)(x:V)(xs:List V)(v:Value)(us:List Value)(Q:VK),aY X pins σ H s->ck x v->bh xs us->r x xs H Q ->
  wpAny (model X.prog X.w) X.A (call (.builtin id) (v::us)) (EP X pins σ Q) X.xe s
section
variable{X:Cx}{a b:Expr}{ta tb:TE}{pos:Pos}
theorem Et.or{r r':R2}(h:Et X r)(h':Et X r'):Et X (fun x y H Q=>r x y H Q\/r' x y H Q):=by
 intro value slice pins s σ H x y v u Q I rx ry q hs;rcases q with q|q
 ·exact h value slice pins s σ H x y v u Q I rx ry q hs
 ·exact h' value slice pins s σ H x y v u Q I rx ry q hs
theorem G8{r:R2}(hr:Et X r)(ha:PE X a ta)(hb:PE X b tb)(hs:uV b):PE X (.Subscript a b pos) (Kx r ta tb):=by
 intro pins s σ H Q I h;exact Subscript_ (HA ha hb I h fun v u s2 x y H2 I2 rx ry q=>hr a b pins s2 σ H2 x y v u Q I2 rx ry q (hs _ _))
def Ht(K:W.Frag):R2:=fun x y H Q=>∃p xs i v,x=.ref p/\y=.int i/\gu K H p xs/\atI xs i=some v/\Q v H
def KS(K:W.Frag):R2:=fun x y H Q=>∃p xs i v,x=.ref p/\y=.int i/\gP K H p xs/\atI xs i=some v/\Q v H
def KU:R2:=fun x y H Q=>∃z i c,x=.str z/\y=.int i/\z.length<=sizeLine/\atI z.cps.toList i=some c/\Q (.str ⟨#[c]⟩) H
theorem zM:Et X (Ht X.K):=by
 intro value slice pins s σ H x y v u Q I rx ry h hs;obtain⟨p,xs,i,z,rfl,rfl,hq,he,q⟩:=h;cases rx;obtain⟨t,rfl⟩:=ry;obtain⟨its,r,pl,hz⟩:=I.list hq;obtain⟨j,h1,h2,h3,h4,h5⟩:=uT he;obtain⟨w,ew,rw'⟩:=r.get h2;have hl:=r.length;have hn:=nV;have fin:EP X pins σ Q w s:=⟨z,H,I,rw',q⟩;by_cases h0:0<=i
 ·have hj:i.toNat=j:=by
   rw[seqIndex_of h0 h5]at h1;exact Od h1
  exact item_listR pl.isList h0 (by omega) (by rw[hj];simpa using ew) fin hs
 ·have hj:(i+(its.toArray.size:Int)).toNat=j:=by
   rw[seqIndex_neg (by omega) h4]at h1;rw[OX,<- hl];exact Od h1
  exact subscriptTail_builtinR (x:=w) pl.isList.typeIs PQ.lookup
   (wpAny_getItem_list_neg (Q:=fun r s'=>r=w/\EP X pins σ Q r s') pl.isList (by omega) (by rw[OX] <;> omega) (by omega) (by rw[hj];simpa using ew) ⟨rfl,fin⟩) hs
theorem JU:Et X (KS X.K):=by
 intro value slice pins s σ H x y v u Q I rx ry h hs;obtain⟨p,xs,i,z,rfl,rfl,hq,he,q⟩:=h;cases rx;obtain⟨t,rfl⟩:=ry;obtain⟨its,r,pl,hz⟩:=I.tuple hq;obtain⟨j,h1,h2,h3,h4,h5⟩:=uT he;obtain⟨w,ew,rw'⟩:=r.get h2;have hl:=r.length;have hn:=nV;have fin:EP X pins σ Q w s:=⟨z,H,I,rw',q⟩
 exact subscriptTail_builtinR (x:=w) pl.typeIs slot_tuple_getitem.lookup
  (getItem_tuple (j:=j) (Q:=fun r s'=>r=w/\EP X pins σ Q r s') pl (by omega) (by omega) (by rw[OX,<- hl];exact h1) (by simpa using ew) ⟨rfl,fin⟩) hs
theorem JV:Et X KU:=by
 intro value slice pins s σ H x y v u Q I rx ry h hs;obtain⟨z,i,c,rfl,rfl,hz,he,q⟩:=h;obtain⟨t,rfl⟩:=rx;obtain⟨t',rfl⟩:=ry;obtain⟨j,h1,h2,h3,h4,h5⟩:=uT he;have hl:z.cps.toList.length=z.length:=by simp[Str.length]
 rw[hl]at h1 h4 h5;have hn:=nV
 exact tail_any (typeIs_str s z t) slot_str_getitem.lookup (getItem_str (c:=c) (by
  have e1:decide (i < -(2^63:Int))=false:=N8 (by omega);have e2:decide (i ≥ 2^63)=false:=N8 (by omega)
  rw[e1,e2,Bool.or_false]) (by rw[h1];simpa using h2) ⟨.str ⟨#[c]⟩,H,I.tok _,⟨_,rfl⟩,q⟩) hs
def ND(K:W.Frag):R2:=fun x y H Q=>Ht K x y H Q\/KS K x y H Q\/KU x y H Q
theorem JW:Et X (ND X.K):=zM.or (JU.or JV)
theorem yR (its:List Value) (n j:Nat) (u:Value):Obj.mapSeq (·.setIfInBounds j u) {cls:=.type "list",data:=.seq its.toArray n}={cls:=.type "list",data:=.seq (its.set j u).toArray n}:=by
 simp[Obj.mapSeq]
theorem aY.lst{pins:List (Addr×Obj)}{σ:St}{H:Hp}{s:Shared}{p:Addr}{xs:List V}(I:aY X pins σ H s)(h:H p=some (.lst xs)) :
  ∃(its:List Value) (n:Nat),bh xs its/\s.heap.get? p=some {cls:=.type "list",data:=.seq its.toArray n}/\xs.length<=sizeLine:=by
 obtain⟨z,its,n,r,e⟩:=I.hok p _ h;exact⟨its,n,r,e,z⟩
theorem aY.lstUpd{pins:List (Addr×Obj)}{σ:St}{H:Hp}{s:Shared}{p:Addr}{xs ys:List V}{its its':List Value}{n n':Nat}{f:Obj->Obj}(I:aY X pins σ H s)(h:H p=some (.lst xs))
  (ho:s.heap.get? p=some {cls:=.type "list",data:=.seq its.toArray n}) (hf:f {cls:=.type "list",data:=.seq its.toArray n}={cls:=.type "list",data:=.seq its'.toArray n'}) (r:bh ys its') (hz:ys.length<=sizeLine) (t:Nat) :
  aY X pins σ (dg H p (.lst ys)) {s with heap:=s.heap.update p f,toks:=t}:=by
 have e:(s.heap.update p f).get? p=some {cls:=.type "list",data:=.seq its'.toArray n'}:=by
  rw[PR f ho (by rw[hf] <;> rfl),hf]
 refine I.write (x:=p) (e:=p) (by rw[h];trivial) (.inl rfl) (fun b u hb q=>(PU _ _ (Ot hb)).trans q) ⟨_,e⟩ ?_;exact⟨hz,its',n',r,e⟩
def GY:V->V->V->Hp->(Hp->Prop)->Prop:=fun o i v H Q=>∃p xs k j,o=.ref p/\i=.int k/\H p=some (.lst xs)/\zc xs.length k=some j/\Q (dg H p (.lst (xs.set j v)))
theorem Df:La X GY:=by
 intro pins s σ H o i v ov iv u Q I ro ri rv h;obtain⟨p,xs,k,j,rfl,rfl,hp,hj,q⟩:=h;cases ro;obtain⟨t,rfl⟩:=ri;obtain⟨its,n,r,ho,hz⟩:=I.lst hp;obtain⟨h1,h2,h3,h4⟩:=zN hj;have hl:=r.length;have hn:=nV
 have I':aY X pins σ (dg H p (.lst (xs.set j v))) {s with heap:=s.heap.update p (Obj.mapSeq (·.setIfInBounds j u))}:=
  I.lstUpd hp ho (yR its n j u) (r.set rv j) (by rw[PV];exact hz) s.toks
 by_cases h0:0<=k
 ·have hk:k.toNat=j:=by
   rw[seqIndex_of h0 h4]at h1;exact Od h1
  exact W.ki_setAt ho h0 (by omega) (by rw[OX,<- hl];exact h4) (by rw[hk];exact⟨_,I',q⟩)
 ·have hk:(k+(its.toArray.size:Int)).toNat=j:=by
   rw[seqIndex_neg (by omega) h3]at h1;rw[OX,<- hl];exact Od h1
  exact W.ki_setBack ho (by omega) (by rw[OX,<- hl];exact h3) (by omega) (by rw[hk];exact⟨_,I',q⟩)
theorem u5(lo hi:Option Int)(n:Nat):(sliceBounds lo hi none n).1=((HT.sIx n 0 lo:Nat):Int)/\(sliceBounds lo hi none n).2.1=((HT.sIx n n hi:Nat):Int)/\(sliceBounds lo hi none n).2.2=1:=by
 refine⟨?_,?_,rfl⟩
 ·cases lo with
  |none=>simp[sliceBounds,HT.sIx]
  |some i=>
   simp only[sliceBounds,HT.sIx,Option.getD_none,show (1:Int)>0 by decide,Pq];by_cases h:i<0
   ·simp only[h,Pq] <;> omega
   ·simp only[h,Pp] <;> omega
 ·cases hi with
  |none=>simp[sliceBounds,HT.sIx]
  |some i=>
   simp only[sliceBounds,HT.sIx,Option.getD_none,show (1:Int)>0 by decide,Pq];by_cases h:i<0
   ·simp only[h,Pq] <;> omega
   ·simp only[h,Pp] <;> omega
theorem sE(its:List Value)(lo hi:Option Int):slicePick its.toArray lo hi none=((its.drop (HT.sIx its.length 0 lo)).take (HT.sIx its.length its.length hi-HT.sIx its.length 0 lo)).toArray:=by
 obtain⟨h1,h2,h3⟩:=u5 lo hi its.toArray.size;unfold slicePick;rw[h1,h2,h3];simp only[sliceRange_one,pick_run,OX] <;> rfl
def KO(K:W.Frag):V->Option Int->Option Int->Hp->VK->Prop:=fun x lo hi H Q=>∃a xs,x=.ref a/\gu K H a xs/\∀p,H p=none->Q (.ref p) (dg H p (.lst (vG xs lo hi)))
theorem Fe:Er X (KO X.K):=by
 intro pins s σ H x v vl vu lo hi sl Q I rx hs pl pu h;obtain⟨a,xs,rfl,hx,q⟩:=h;cases rx;obtain⟨its,r,ht,hz⟩:=I.list hx;have hlen:=r.length;refine⟨"list",_,PQ.lookup,ht.isList.typeIs,?_⟩;refine wpAny_getItem_list_slice ht.isList hs pl pu .none (by simp) ?_ (by rw[OX] <;> omega);rw[sE,<- hlen];refine⟨.ref s.heap.objs.size,_,I.laid (t':=s.toks) (o:=.lst (vG xs lo hi)) (fun b ob q=>OP _ q) (OR _) ?_,rfl,q _ (I.hok.fresh (OR _))⟩;exact⟨Ol (pk xs lo hi) hz,_,0,(r.drop (HT.sIx xs.length 0 lo)).take (HT.sIx xs.length xs.length hi-HT.sIx xs.length 0 lo),OQ _ rfl⟩
def kK:V->Bool
 |.non=>true
 |.bl _=>true
 |.int _=>true
 |.str _=>true
 |_=>false
def zd:V->V->Bool
 |.non,.non=>true
 |.bl a,.bl b=>a == b
 |.bl a,.int b=>(if a then 1 else 0) == b
 |.int a,.bl b=>a == (if b then 1 else 0)
 |.int a,.int b=>a == b
 |.str a,.str b=>a == b
 |_,_=>false
theorem Ki{A:Around}{s:Shared}{y x:V}{u v:Value}(ry:ck y u)(rx:ck x v)(fy:kK y=true)(fx:kK x=true):SeqAt.EqAt A s u v (zd y x):=by
 cases y with
 |non=>
  cases ry;cases x with
  |non=>cases rx;exact SeqAt.EqAt.same _
  |bl b=>cases rx;exact SeqAt.EqAt.none_bool b
  |int b=>obtain⟨t,rfl⟩:=rx;exact SeqAt.EqAt.none_int b t
  |str b=>obtain⟨t,rfl⟩:=rx;exact SeqAt.EqAt.none_str b t
  |_=>exact absurd (show false=true from fx) OK
 |bl a=>
  cases ry;cases x with
  |non=>cases rx;exact SeqAt.EqAt.bool_none a
  |bl b=>cases rx;exact SeqAt.EqAt.bool_bool a b
  |int b=>obtain⟨t,rfl⟩:=rx;exact SeqAt.EqAt.bool_int a b t
  |str b=>obtain⟨t,rfl⟩:=rx;exact SeqAt.EqAt.bool_str a b t
  |_=>exact absurd (show false=true from fx) OK
 |int a=>
  obtain⟨t',rfl⟩:=ry;cases x with
  |non=>cases rx;exact SeqAt.EqAt.int_none a t'
  |bl b=>cases rx;exact SeqAt.EqAt.int_bool a t' b
  |int b=>obtain⟨t,rfl⟩:=rx;exact SeqAt.EqAt.int_int a t' b t
  |str b=>obtain⟨t,rfl⟩:=rx;exact SeqAt.EqAt.int_str a t' b t
  |_=>exact absurd (show false=true from fx) OK
 |str a=>
  obtain⟨t',rfl⟩:=ry;cases x with
  |non=>cases rx;exact SeqAt.EqAt.str_none a t'
  |bl b=>cases rx;exact SeqAt.EqAt.str_bool a t' b
  |int b=>obtain⟨t,rfl⟩:=rx;exact SeqAt.EqAt.str_int a t' b t
  |str b=>obtain⟨t,rfl⟩:=rx;exact SeqAt.EqAt.str_str a t' b t
  |_=>exact absurd (show false=true from fx) OK
 |_=>exact absurd (show false=true from fy) OK
def Hn(x:V)(u:Value):Bool:=match u with
 |.none=>zd .non x
 |.bool b=>zd (.bl b) x
 |.int i _=>zd (.int i) x
 |.str z _=>zd (.str z) x
 |_=>false
theorem yo{x y:V}{u:Value}(r:ck y u)(f:kK y=true):Hn x u=zd y x:=by
 cases y with
 |non=>cases r;rfl
 |bl b=>cases r;rfl
 |int i=>obtain⟨t,rfl⟩:=r;rfl
 |str z=>obtain⟨t,rfl⟩:=r;rfl
 |_=>exact absurd (show false=true from f) OK
theorem rn{A:Around}{s:Shared}{x:V}{v:Value}(rx:ck x v)(fx:kK x=true):∀{xs:List V}{us:List Value},bh xs us->xs.all kK=true->∀u∈us,SeqAt.EqAt A s u v (Hn x u)
 |_,_,.nil,_=>fun u hu=>by cases hu
 |y::xs,u::us,.cons r t,f=>fun u' hu=>by
  rw[PX,PH]at f;rcases Os.mp hu with rfl|hu
  ·rw[yo r f.1];exact Ki r rx f.1 fx
  ·exact rn rx fx t f.2 u' hu
theorem c6.or{f:Value}{r r':List V->Hp->VK->Prop}(h:c6 X f r)(h':c6 X f r'):c6 X f (fun xs H Q=>r xs H Q\/r' xs H Q):=by
 intro pins s σ H xs us Q I rs q;rcases q with q|q
 ·exact h pins s σ H xs us Q I rs q
 ·exact h' pins s σ H xs us Q I rs q
theorem vn:c6 X (.type "list") (fun xs H Q=>∃p ys,xs=[.ref p]/\(gu X.K H p ys\/gP X.K H p ys)/\∀l,H l=none->Q (.ref l) (dg H l (.lst ys))):=by
 intro pins s σ H xs us Q I r h;obtain⟨p,ys,rfl,hq,q⟩:=h;obtain⟨u,rfl,rx⟩:=fI r;cases rx
 have fin:∀(its:List Value),bh ys its->ys.length<=sizeLine->∀(h':Heap)(c':Nat),(∀b o',s.heap.get? b=some o'->h'.get? b=some o') ->
   h'.get? s.heap.objs.size=some {cls:=.type "list",dict:=none,data:=.seq its.toArray c',slots:=#[]}->EP X pins σ Q (.ref s.heap.objs.size) {s with heap:=h'}:=fun its r' hz h' c' kp e=>
  ⟨.ref s.heap.objs.size,_,I.laid (t':=s.toks) kp (OR _) (show fA X.prog X.w _ h' _ (.lst ys) from⟨hz,its,c',r',e⟩),rfl,q _ (I.hok.fresh (OR _))⟩
 rcases hq with hq|hq
 ·obtain⟨its,r',pl,hz⟩:=I.list hq;have hlen:=r'.length;obtain⟨o,ho,hc,n,hd⟩:=pl.isList;exact call_list_seq p (.inl rfl) ho hc hd (fun h' c' kp e=>fin its r' hz h' c' kp e) (by simp only[OX] <;> omega)
 ·obtain⟨its,r',pl,hz⟩:=I.tuple hq;have hlen:=r'.length;obtain⟨o,ho,hc,n,hd⟩:=pl;exact call_list_seq p (.inr rfl) ho hc hd (fun h' c' kp e=>fin its r' hz h' c' kp e) (by simp only[OX] <;> omega)
theorem sL:c6 X (.type "tuple") (fun xs H Q=>∃p ys,xs=[.ref p]/\((gu X.K H p ys/\∀l,H l=none->Q (.ref l) (dg H l (.tup ys)))\/(gP X.K H p ys/\Q (.ref p) H))):=by
 intro pins s σ H xs us Q I r h;obtain⟨p,ys,rfl,h⟩:=h;obtain⟨u,rfl,rx⟩:=fI r;cases rx;rcases h with⟨hq,q⟩|⟨hq,q⟩
 ·obtain ⟨its, r', pl, hz⟩ := I.list hq;have hlen:=r'.length;refine call_tuple_list pl.isList (fun h' kp=>?_) (by simp only[OX] <;> omega);have I1:aY X pins σ H {s with heap:=h'}:=I.kept (t':=s.toks) kp
  have I2:aY X pins σ (dg H h'.objs.size (.tup ys)) {s with heap:=h'.push {cls:=.type "tuple",data:=.seq its.toArray}}:=
   I1.laid (t':=s.toks) (fun b o e=>OP _ e) (OR _) (show fA X.prog X.w _ _ _ (.tup ys) from⟨hz,its,r',IsTup.new _ _⟩)
  exact⟨.ref h'.objs.size,_,I2,rfl,q _ (I1.hok.fresh (OR _))⟩
 ·obtain⟨its,r',pl,hz⟩:=I.tuple hq;exact call_tuple_same pl ⟨.ref p,H,I,rfl,q⟩
def Mz(K:W.Frag)(T:String)(x:V)(H:Hp):Prop:=match x with
 |.str _=>T = "str"
 |.int _=>T = "int"
 |.ref p=>(T = "list" /\ ∃xs,gu K H p xs)\/(T = "tuple" /\ ∃o,K.lookup p=some o/\o.cls=.type "tuple" /\ o.dict=none) \/
   (T = "dict" /\ ((∃kvs,H p=some (.dK kvs))\/∃kvs,H p=some (.dT kvs)))\/(T = "set" /\ ∃S n,H p=some (.set S n))
 |_=>False
theorem HP{pins:List (Addr×Obj)}{σ:St}{H:Hp}{s:Shared}{T:String}{x:V}{v:Value}(I:aY X pins σ H s)(r:ck x v)(ty:Mz X.K T x H) :
  s.TypeIs v T/\∀a,v=.ref a->∃ob,s.heap.get? a=some ob/\ob.dict=none:=by
 cases x with
 |str z=>
  obtain⟨t,rfl⟩:=r;cases (show T = "str" from ty);exact⟨typeIs_str s z t,fun _ e=>nomatch e⟩
 |int i=>
  obtain⟨t,rfl⟩:=r;cases (show T = "int" from ty);exact⟨typeIs_int s i t,fun _ e=>nomatch e⟩
 |ref p=>
  cases r;rcases ty with⟨rfl,xs,hq⟩|⟨rfl,o,hk,hc,hd⟩|⟨rfl,hk⟩|⟨rfl,S,n,hk⟩
  ·obtain⟨its,_,pl,_⟩:=I.list hq;refine⟨pl.isList.typeIs,fun a e=>?_⟩;cases e;obtain⟨o,n,e,c,hd,_⟩:=pl;exact⟨o,e,hd⟩
  ·refine⟨⟨o,I.kIn p o hk,hc⟩,fun a e=>?_⟩;cases e;exact⟨o,I.kIn _ o hk,hd⟩
  ·have z:∃o,s.heap.get? p=some o/\o.ExactDict:=by
    rcases hk with⟨kvs,hk⟩|⟨kvs,hk⟩
    ·obtain⟨_,_,_,_,o,_,_,e,ex,_⟩:=I.hok p _ hk;exact⟨o,e,ex⟩
    ·obtain⟨_,_,_,_,o,_,_,e,ex,_⟩:=I.hok p _ hk;exact⟨o,e,ex⟩
   obtain⟨o,e,ex⟩:=z;refine⟨⟨o,e,ex.1⟩,fun a e2=>?_⟩;cases e2;exact⟨o,e,ex.2.1⟩
  ·obtain⟨o,_,_,_,e,ex,_⟩:=I.hok p _ hk;refine⟨⟨o,e,ex.1⟩,fun a e2=>?_⟩;cases e2;exact⟨o,e,ex.2.1⟩
 |_=>exact False.elim ty
def NW(K:W.Frag)(T:String)(r:V->List V->Hp->VK->Prop)(to:TE)(t:TA):TE:=fun σ H Q=>to σ H fun x H1=>Mz K T x H1/\t σ H1 fun xs H2=>r x xs H2 Q
variable{o e:Expr}{es:List Expr}{to:TE}{t:TA}{name:Str}{apos cpos:Pos}{T id:String}{r:V->List V->Hp->VK->Prop}
theorem LP (pa:PlainAttrs T) (slot:Slot T name id) (hty:typeOf (.builtin id)=pure (.type "method_descriptor")) (hm:NJ X id r) (ho:PE X o to) (ha:PA X (e::es) t)
  (hbase:attributeBase o name X.env (eval o X.env)=eval o X.env:=by rfl)
  (hfew : ((backTo cpos (starEach (e :: es) X.env)).all (fun x => !x.1) && (backToKw cpos (keywordEach [] X.env)).all (fun x => x.1.isSome)
   && decide ((e::es).length+([]:List Keyword).length+(if ([]:List Keyword).isEmpty then 0 else 1)<30))=true:=by rfl)
  (hline:(apos.endLine == cpos.line)=true:=by rfl) (hs:starEach (e::es) X.env=(false,eval e X.env)::starEach es X.env:=by rfl) (hplain:(backTo cpos (starEach es X.env)).any (·.1)=false:=by rfl) :
  PE X (.Call (.Attribute o name apos) (e::es) [] cpos) (NW X.K T r to t):=by
 intro pins s σ H Q I h;refine wpAny_Call_method_late hbase hfew hline rfl (dr (ho pins s σ H _ I h) fun v s1 ⟨x,H1,I1,r1,ty,q1⟩=>?_);obtain⟨h1,h2⟩:=HP I1 r1 ty;refine⟨T,id,pa,slot,hty,h1,h2,?_⟩;have hA:=ha cpos pins s1 σ H1 _ I1 q1;rw[hs]at hA⊢;refine Calls.callWith_builtin (by show (false || (backTo cpos (starEach es X.env)).any (·.1))=false;rw[hplain] <;> rfl) (Calls.evalArgs_plain ?_);exact dr hA fun us s2 ⟨vs,H2,I2,r2,q2⟩=>hm pins s2 σ H2 x vs v us Q I2 r1 r2 q2
end
end L2
namespace L2
open PySem PySem.Spec PyProof.Rows
def Mu(X:Cx)(id:String)(r:V->List V->Hp->VK->Prop):Prop:=
 ∀(pins:List (Addr×Obj))(s:Shared)(σ:St)(H:Hp)(x:V)(xs:List V)(v:Value)(us:List Value)(Q:VK),aY X pins σ H s->ck x v->bh xs us->r x xs H Q ->
  wpAny (model X.prog X.w) X.A (call (.builtin id) (v::us)) (EP X pins σ Q) X.xe s
theorem bh.one:∀{x:V}{us:List Value},bh [x] us->∃u,us=[u]/\ck x u
 |_,_,.cons r .nil=>⟨_,rfl,r⟩
theorem bh.reverse{xs:List V}{us:List Value}(h:bh xs us):bh xs.reverse us.reverse:=by
 induction h with
 |nil=>exact .nil
 |cons r t ih=>rw[PY,PY];exact bh.append ih (.cons r .nil)
theorem bh.rep{xs:List V}{us:List Value}(h:bh xs us):∀k:Nat,bh (List.replicate k xs).flatten (List.replicate k us).flatten
 |0=>.nil
 |k+1=>by
  rw[PZ,PZ,P0,P0];exact bh.append h (bh.rep h k)
theorem tQ(its:List Value):∀(k:Nat)(acc:List Value),
  List.foldl (fun x1 x2=>x1++x2) acc.toArray (List.replicate k its.toArray)=(acc++(List.replicate k its).flatten).toArray
 |0,acc=>by simp
 |k+1,acc=>by
  have e:acc.toArray++its.toArray=(acc++its).toArray:=by simp
  have e2:(acc++its)++(List.replicate k its).flatten=acc++(List.replicate (k+1) its).flatten:=by
   rw[PZ,P0,Qa]
  rw[<- e2,<- tQ its k (acc++its),<- e,PZ,Qb]
section
variable{X:Cx}{pins:List (Addr×Obj)}{σ:St}{H:Hp}{s:Shared}{l b:Addr}{xs ys zs:List V}
theorem aY.lset{its its':List Value}{n:Nat}{f:Array Value->Array Value}{t':Nat}(I:aY X pins σ H s)(hH:H l=some (.lst xs))
  (e:s.heap.get? l=some {cls:=.type "list",data:=.seq its.toArray n}) (hf:f its.toArray=its'.toArray) (hv:bh ys its') (hz:ys.length<=sizeLine) :
  aY X pins σ (dg H l (.lst ys)) {s with heap:=s.heap.update l (Obj.mapSeq f),toks:=t'}:=by
 have q:=PySem.IsL.update e f;rw[hf]at q;refine I.write (x:=l) (e:=l) (by rw[hH];exact trivial) (.inl rfl) (fun b' u hb hu=>(PU s.heap (Obj.mapSeq f) (Ot hb)).trans hu) ⟨_,q⟩ ?_;exact⟨hz,its',_,hv,q⟩
theorem aY.lnew{its:List Value}{t':Nat}(I:aY X pins σ H s)(hv:bh ys its)(hz:ys.length<=sizeLine) :
  aY X pins σ (dg H s.heap.objs.size (.lst ys)) {s with heap:=s.heap.push {cls:=.type "list",data:=.seq its.toArray},toks:=t'}:=
 I.laid (fun _ _ q=>OP _ q) (OR _) ⟨hz,its,0,hv,OQ _ rfl⟩
theorem aY.fresh(I:aY X pins σ H s):H s.heap.objs.size=none:=I.hok.fresh (OR _)
theorem aY.lstM (I:aY X pins σ H s) (hH:H l=some (.lst xs)):xs.length<=sizeLine/\∃(its:List Value) (n:Nat),bh xs its/\xs.length=its.length/\s.heap.get? l=some {cls:=.type "list",data:=.seq its.toArray n}:=by
 obtain⟨z,its,n,r,e⟩:=I.hok l _ hH;exact⟨z,its,n,r,r.length,e⟩
theorem rm{n:Nat}(h:n<=sizeLine):Builtin.List.listTooLong n=false:=by
 unfold Builtin.List.listTooLong;exact N8 (by omega)
end
section
variable{X:Cx}
def zE:V->List V->Hp->VK->Prop:=fun x vs H Q=>∃l xs y,x=.ref l/\vs=[y]/\H l=some (.lst xs)/\xs.length<sizeLine/\Q .non (dg H l (.lst (xs++[y])))
theorem tE:Mu X "list.append" zE:=by
 intro pins s σ H x vs v us Q I rx rv h;obtain⟨l,xs,y,rfl,rfl,hH,hz,q⟩:=h;cases rx;obtain⟨u,rfl,ru⟩:=rv.one;obtain⟨z,its,n,r,hl,e⟩:=I.lstM hH;refine Qc F.slot_list_append ⟨_,e,rfl⟩ F.entry_list_append (F.args_list_append_2 _ _) (PySem.list_append l its.toArray n u (by rw[OX];omega)) ⟨e,?_⟩;refine⟨.non,_,I.lset (its':=its++[u]) hH e (by simp) (r.append (.cons ru .nil)) ?_,rfl,q⟩;rw[Pe,Qd];omega
def zD:V->List V->Hp->VK->Prop:=fun x vs H Q=>∃l b xs zs,x=.ref l/\vs=[.ref b]/\H l=some (.lst xs)/\H b=some (.lst zs)/\xs.length+zs.length<=sizeLine/\Q .non (dg H l (.lst (xs++zs)))
theorem AW:Mu X "list.extend" zD:=by
 intro pins s σ H x vs v us Q I rx rv h;obtain⟨l,b,xs,zs,rfl,rfl,hH,hB,hz,q⟩:=h;cases rx;obtain⟨u,rfl,ru⟩:=rv.one;cases ru;obtain⟨z,its,n,r,hl,e⟩:=I.lstM hH;obtain⟨z2,its2,n2,r2,hl2,e2⟩:=I.lstM hB;have hsz:its.toArray.size+its2.toArray.size<=sizeLine:=by rw[OX,OX];omega
 have hlong:¬ (!its.toArray.isEmpty&&Builtin.List.listTooLong (its.toArray.size+its2.toArray.size))=true:=by
  rw[rm hsz,Qe];exact OK
 refine Qc F.slot_list_extend ⟨_,e,rfl⟩ F.entry_list_extend (F.args_list_extend_2 _ _)
  (AutoSeq1.list_extend_list_list_0 l its.toArray n b its2.toArray n2 hlong (by rw[OX];omega) (by omega)) ⟨e,e2,?_⟩
 refine⟨.non,_,I.lset (its':=its++its2) hH e (by simp) (r.append r2) ?_,rfl,q⟩;rw[Pe];omega
def KZ:R2:=fun x y H Q=>∃l b xs zs,x=.ref l/\y=.ref b/\H l=some (.lst xs)/\H b=some (.lst zs)/\xs.length+zs.length<=sizeLine/\∀p,H p=none->Q (.ref p) (dg H p (.lst (xs++zs)))
theorem Jr:iP X (binaryOp .Add) KZ:=by
 intro pins s σ H x y v u Q I rx ry h;obtain⟨l,b,xs,zs,rfl,rfl,hH,hB,hz,q⟩:=h;cases rx;cases ry;obtain⟨z,its,n,r,hl,e⟩:=I.lstM hH;obtain⟨z2,its2,n2,r2,hl2,e2⟩:=I.lstM hB;refine PySem.P.add_list e e2 ?_ (by rw[OX,OX];omega);have ea:its.toArray++its2.toArray=(its++its2).toArray:=by simp
 rw[ea];exact⟨.ref _,_,I.lnew (t':=s.toks) (r.append r2) (by rw[Pe];omega),rfl,q _ I.fresh⟩
def KR:R2:=fun x y H Q=>∃l k xs,x=.ref l/\y=.int k/\H l=some (.lst xs)/\-(2^63)<=k/\k<2^63/\xs.length*k.toNat<=sizeLine /\
 ∀p,H p=none->Q (.ref p) (dg H p (.lst (List.replicate k.toNat xs).flatten))
theorem Gf{α:Type}(xs:List α)(k:Nat):(List.replicate k xs).flatten.length=k*xs.length:=by
 induction k with
 |zero=>simp
 |succ k ih=>rw[PZ,P0,Pe,ih,Qf,Nat.add_comm]
theorem Jj:iP X (binaryOp .Mult) KR:=by
 intro pins s σ H x y v u Q I rx ry h;obtain⟨l,k,xs,rfl,rfl,hH,h1,h2,hz,q⟩:=h;cases rx;obtain⟨t,rfl⟩:=ry;obtain⟨z,its,n,r,hl,e⟩:=I.lstM hH;have hlen:its.toArray.size*k.toNat<=sizeLine:=by rw[OX,<- hl];exact hz
 have hcap:¬ its.toArray.size*k.toNat>(2^63-1) / 8:=by
  have:(sizeLine:Nat)<=(2^63-1) / 8:=by decide
  omega
 have hfit:¬ (!Builtin.List.listFitsIndex k)=true:=by
  rw[fitsIndex_both h1 h2];exact OK
 have hlong:¬ Builtin.List.listTooLong (its.toArray.size*k.toNat)=true:=by
  rw[rm hlen];exact OK
 have hnew:List.foldl (fun x1 x2=>x1++x2) #[] (List.replicate (if its.toArray.isEmpty=true then 0 else k.toNat) its.toArray)=(List.replicate k.toNat its).flatten.toArray:=by
  have f0:∀m:Nat,List.foldl (fun x1 x2=>x1++x2) #[] (List.replicate m its.toArray)=(List.replicate m its).flatten.toArray:=fun m=>by
   have:=tQ its m [];rw[Qg]at this;exact this
  rw[f0];cases its with
  |nil=>simp
  |cons a r'=>rw[Oc (by simp)]
 refine wpAny_binaryOp_repeat_ref (T:="list") (U:="int") (by decide) ⟨_,e,rfl⟩ (fun s'=>typeIs_int s' k t) noFill_list_mul F.fills_int_mul F.slot_int_rmul repeat_list F.slot_int_index.lookup
  (Qc F.slot_int_rmul (typeIs_int s k t) F.entry_int_rmul (F.args_int_rmul_2 _ _) (int___rmul___int_list k t l its.toArray n)
   ⟨e,rfl,⟨_,e,rfl⟩,Qc F.slot_list_mul ⟨_,e,rfl⟩ F.entry_list_mul (F.args_list_mul_2 _ _) (AutoListH.list___mul___list_int_3 l its.toArray n k t hfit hcap hlong) ⟨e,?_⟩⟩)
 rw[hnew];exact⟨.ref _,_,I.lnew (t':=s.toks) (r.rep k.toNat) (by rw[Gf,Nat.mul_comm];exact hz),rfl,q _ I.fresh⟩
end
section
variable{prog:Program}{w:World}{A:Around}{E:Value->Shared->Prop}{s:Shared}
end
section
variable{X:Cx}
end
end L2
namespace Att
open PySem PySem.W PySem.Calls PyProof.Rows
theorem pY{P:Params}{h:Heap}:∀(ns:List Int)(vs:List Value),WellAll P h vs (ns.map WData.int)->IntsAre vs ns:=by
 intro ns
 induction ns with
 |nil=>
  intro vs w;rw[PL]at w;cases w;exact .nil
 |cons n ns ih=>
  intro vs w;rw[PM]at w;cases w with
  |cons a b=>
   cases a;exact .cons _ _ (ih _ b)
theorem AC{l:OpenLaw}{n:Nat}(hn:l.most=some n){P:Params}{h:Heap}{args:List WData}{vals:List Value}
  (hpre:l.row.toRowW.claim.pre args=true) (hwl:WellAll P h vals args) :
  ∃a vs ns,vals=[Value.ref a]/\args=[WData.list (ns.map WData.int)]/\h.get? a=some {cls:=.type "list",data:=.seq vs.toArray}/\IntsAre vs ns/\ns.length<=n:=by
 have hsh:WShape.hasAll [] args [.list .int]=true:=(pre_splitW hpre).1;have hc:l.pre.holds [] {args:=args}=true:=(pre_splitW hpre).2;obtain⟨d,r,rfl,h1,h2⟩:=hasAllW_cons hsh;obtain rfl:=hasAllW_nil h2;obtain⟨xs,rfl,h3⟩:=hasW_list h1;obtain⟨ns,rfl⟩:=items_int h3
 have hlen:ns.length<=n:=by
  unfold OpenLaw.pre at hc
  have h4:(WTm.not (.lt (.lit (.int (n:Int))) (.len (.arg 0)))).holds [] {args:=[.list (ns.map .int)]}=true:=by
   have h4:=(holds_andW hc).1;rw[hn]at h4;exact h4
  have h5:=condW_of h4 (w_not (w_lt w_lit (w_len_list (w_arg rfl))));rw[Pf]at h5;refine Qh fun q=>?_;have q':(n:Int)<((ns.length:Nat):Int):=by omega
  first
   |(rw[Qi q']at h5;exact absurd h5 (by decide))
   |(simp at h5;omega)
 cases hwl with
 |cons w1 w2=>
  cases w2;cases w1 with
  |list ho hall=>exact⟨_,_,ns,rfl,rfl,ho,pY ns _ hall,hlen⟩
theorem AI(l:OpenLaw)(args:List WData):l.row.toRowW.claim.post args (.bool true) args=true:=
 postW_of (r:=l.row.toRowW) (X:=(true == true))
  (show WShape.has [] (.bool true) .bool=true by first|rfl|decide|simp[WShape.has,WShape.arms,WShape.armsAll])
  (show (WTm.eq .res (.lit (.bool true))).value [] {args:=args,res:=some (.bool true),after:=args}=some (.bool (true == true)) from w_eq_bool (w_res rfl) w_lit) rfl
theorem attach_call{l:OpenLaw}{n:Nat}{q:Program}{loose:List Str}{XP:(Str->Option Value)->Heap->Prop}{YP:World->Heap->Prop}{d:DefRec}
  (hn:l.most=some n) (hdf:d.params.defaults=[])
  (call : ∀ (w : World) (s₀ s₁ : Shared) (mg mb : Str -> Option Value) (fa : Addr) (o : Obj) (pm cd doc : Value) (a : Addr) (vs : List Value) (ns : List Int),
   Ground q loose [] XP w s₀ mg mb s₁.heap->YP w s₁.heap ->
   s₁.heap.get? fa=some o->o.data=.func (docDef d.name d.params d.body d.scope pm cd doc)->s₁.heap.CodeRec cd d.name->mg d.name=some (.ref fa) ->
   s₁.heap.get? a=some {cls:=.type "list",data:=.seq vs.toArray}->IntsAre vs ns->ns.length<=n->s₁.gens=#[] ->
   codeAny (model l.prog w) callerA (.call (.ref fa) ⟨[.ref a],[]⟩) (fun r s'=>r=.ok (.ret (.bool true))/\OldK s₁.heap s'.heap/\s'.os=s₁.os/\AllBare s'.gens) s₁) :
  WalkO q loose XP YP l.row.toRowW d [] (fun f vs=>PySem.call f vs):=by
 intro w s₀ s₁ mg mb G Y fa o pm cd doc dV kV ho hd hcd hD hmg hg args vals as hpre hlay hrd hwl hlo;obtain rfl:dV=.none:=Dflts.none hD hdf;obtain rfl:kV=.none:=Dflts.noKw hD;obtain⟨a,vs,ns,rfl,rfl,hobj,hints,hlen⟩:=AC hn hpre hwl;refine enter_call (O0 (call w s₀ s₁ mg mb fa o pm cd doc a vs ns G Y ho (fd_plain hd) hcd hmg hobj hints hlen hg) fun r s' hq=>?_);obtain⟨rfl,h2,h3,h4⟩:=hq;exact⟨.inl ⟨.bool true,.bool true,[],rfl,fun _=>rfl,.bool true,AI l _,fun _=>⟨List.Pairwise.nil,fun _ hm=>(nomatch hm)⟩⟩,h2,h3,h4⟩
section
variable{prog:Program}{w:World}{A:Around}{E:Value->Shared->Prop}{s:Shared}{K:Frag}
end
end Att
namespace L2
open PySem PySem.Spec PyProof.Rows
theorem sU:∀{vs:List Value}{ns:List Int},IntsAre vs ns->bh (ns.map V.int) vs
 |_,_,.nil=>.nil
 |_,_,.cons n t h=>.cons ⟨t,rfl⟩ (sU h)
def Ez(H:Hp):Prop:=∀b,H b=none\/∃o xs,H b=some (.frz o (.lst xs))
theorem DR{P:Program}{w:World}{K:W.Frag}{mg mb:Str->Option Value}{CX:vv}{k:Nat}{fa a:Addr}{fd:FuncData}{x:Str}{sp:Sp}{s₁:Shared}{vs:List Value}{ns:List Int}
  (KX:K.In s₁.heap) (hns:s₁.heap.Ns mainGlobals mg) (hb:s₁.heap.Ns builtinsNs mb) (hbb:∀x:Str,x ≠ "__name__" -> mb x=bootBuiltins x) (hlim:s₁.heap.NoLimit) (hg:s₁.gens=#[])
  (ha:s₁.heap.get? a=some {cls:=.type "list",data:=.seq vs.toArray}) (hi:IntsAre vs ns) (hl:ns.length<=sizeLine) (hr:gr k callerA)
  (F:∀base:Heap,K.In base->base.Ns mainGlobals mg->qB P w K mg base CX k fa fd [x] sp) (hbind:∀(s:Shared)(u:Value),BindsTo s fd ⟨[u],[]⟩ [(x,u)])
  (hsp:∀H:Hp,Ez H->gu K H a (ns.map V.int)->sp [.ref a] H (fun v _=>v=.bl true) fun _ _ _=>False)
  (hCX:∀H e s',CX [] H s₁ (fun _ _ _=>False) e s'->False) :
  codeAny (model P w) callerA (.call (.ref fa) ⟨[.ref a],[]⟩) (fun r s'=>r=.ok (.ret (.bool true))/\OldK s₁.heap s'.heap/\s'.os=s₁.os/\AllBare s'.gens) s₁:=by
 have rv:=sU hi;have lenV:=hi.length
 have core:∀H:Hp,Ez H->gu K H a (ns.map V.int)->nL P w H s₁.heap->(∀b,H b≠none->b=a)->(H a≠none->K.lookup a=none) ->
   codeAny (model P w) callerA (.call (.ref fa) ⟨[.ref a],[]⟩) (fun r s'=>r=.ok (.ret (.bool true))/\OldK s₁.heap s'.heap/\s'.os=s₁.os/\AllBare s'.gens) s₁:=by
  intro H hO hS hok hA hK;have base_of:∀{b:Addr}{o:Obj},s₁.heap.get? b=some o->H b=none->(ub s₁.heap H).get? b=some o:=fun e n=>DY e n
  have noA:∀{b:Addr}{o:Obj}{es:Array DictEntry}{ep:Nat},s₁.heap.get? b=some o->o.data=.dict es ep->H b=none:=fun {b o es ep} e d=>by
   cases q:H b with
   |none=>rfl
   |some u=>
    have e':b=a:=hA b (by rw[q];simp);subst e';rw[ha]at e;cases e;have d':Data.seq vs.toArray _=Data.dict es ep:=d;cases d'
  have nsK:∀{b:Addr}{m:Str->Option Value},s₁.heap.Ns b m->(ub s₁.heap H).Ns b m:=fun {b m} ⟨o,es,ep,e,d,r⟩=>⟨o,es,ep,base_of e (noA e d),d,r⟩
  have hKb:K.In (ub s₁.heap H):=fun b o e=>base_of (KX b o e) (by
   cases q:H b with
   |none=>rfl
   |some u=>
    have e':b=a:=hA b (by rw[q];simp);subst e'
    rw[hK (by rw[q];simp)]at e;cases e)
  have hM:Mod K mg (ub s₁.heap H):=⟨hKb,nsK hns,⟨mb,nsK hb,hbb⟩,let ⟨mc,h1,h2⟩:=hlim;⟨mc,nsK h1,h2⟩⟩;have e0:Ak P w K mg (ub s₁.heap H) callerA [] s₁ H:=⟨rfl,hM,fun b o e=>F2 e,Nat.le_of_eq (A5 _ _),trivial,fun b hb=>absurd (show b∈([]:List Addr) from hb) (by simp),hok,.of_eq hg⟩;refine O0 ((F _ hKb (nsK hns)).run callerA [] s₁ H ⟨[.ref a],[]⟩ [.ref a] [.ref a] _ _ hr e0 (hbind s₁ (.ref a)) (.cons rfl .nil) (hsp H hO hS)) fun r s' h=>?_;cases r with
  |error e=>exact(hCX H e s' h).elim
  |ok fl=>
   cases fl with
   |next=>exact False.elim h
   |brk=>exact False.elim h
   |cont=>exact False.elim h
   |ret u=>
    obtain⟨v,H',os,bare,un,hok',r',q⟩:=h;have q':v=.bl true:=q;subst q';obtain rfl:u=Value.bool true:=r';refine⟨rfl,OldK.of_keep fun b o e=>?_,os,bare⟩;cases q:H b with
    |none=>exact un.keep b o e q (by intro z;exact absurd (show b∈([]:List Addr) from z) (by simp)) (by simp)
    |some u=>
     rcases hO b with z|⟨ob,xs,z⟩
     ·rw[q]at z;cases z
     ·have z2:=un.frzs b ob _ z;obtain⟨e1,_⟩:=hok b _ z;obtain⟨e2,_⟩:=hok' b _ z2;rw[e]at e1;cases e1;exact e2
 cases hk:K.lookup a with
 |some o=>
  have e:=KX a o hk;rw[ha]at e;cases e;refine core (fun _=>none) (fun _=>.inl rfl) (.inr ⟨_,vs.toArray,_,hk,rfl,rfl,rfl,by rw[OX,lenV];exact hl,by simpa using rv⟩) (fun b u z=>by have z':(none:Option HO)=some u:=z;cases z') (fun b z=>absurd rfl z) fun z=>absurd rfl z
 |none=>
  refine core (fun b=>if b=a then some (.frz {cls:=.type "list",data:=.seq vs.toArray} (.lst (ns.map V.int))) else none) (fun b=>?_) (.inl (.inr ⟨{cls:=.type "list",data:=.seq vs.toArray},Ob rfl⟩)) (fun b u z=>?_) (fun b z=>?_) fun _=>hk
  ·by_cases hb : b = a
   ·exact .inr ⟨_,_,Ob hb⟩
   ·exact .inl (Oc hb)
  ·by_cases hb : b = a
   ·have z':=(Ob hb).symm.trans z;cases z';subst hb;exact⟨ha,by rw[Pf];exact hl,vs,_,rv,ha⟩
   ·have z':=(Oc hb).symm.trans z;cases z'
  ·by_cases hb : b = a
   ·exact hb
   ·exact absurd (Oc hb) z
end L2
namespace L2
open PySem PySem.Spec PyProof.Rows
theorem walk_of{l:W.OpenLaw}{n k:Nat}{q:Program}{loose:List Str}{XP:(Str->Option Value)->Heap->Prop}{YP:World->Heap->Prop}{d:DefRec}{K:Params->W.Frag}{CX:World->vv}{sp:World->Sp}{x:Str}
  (hn:l.most=some n) (hn2:n<=sizeLine) (hdf:d.params.defaults=[]) (hr:gr k callerA)
  (hY:∀(w:World)(h:Heap),YP w h->(K w.params).In h)
  (F : ∀ (w : World) (mg : Str -> Option Value) (fa : Addr) (h : Heap), (K w.params).In h -> h.Ns mainGlobals mg -> mg d.name = some (.ref fa) ->
   ∃fd:FuncData,(∀(s:Shared)(u:Value),BindsTo s fd ⟨[u],[]⟩ [(x,u)]) /\
    ∀base:Heap,(K w.params).In base->base.Ns mainGlobals mg->qB l.prog w (K w.params) mg base (CX w) k fa fd [x] (sp w))
  (hsp:∀(w:World)(H:Hp)(a:Addr)(ns:List Int),ns.length<=n->Ez H->gu (K w.params) H a (ns.map V.int)->sp w [.ref a] H (fun v _=>v=.bl true) fun _ _ _=>False)
  (hCX:∀(w:World)(H:Hp)(s:Shared)(e:Value)(s':Shared),CX w [] H s (fun _ _ _=>False) e s'->False) :
  W.WalkO q loose XP YP l.row.toRowW d [] (fun f vs=>PySem.call f vs):=by
 refine Att.attach_call hn hdf fun w s₀ s₁ mg mb fa o pm cd doc a vs ns G Y ho hd hcd hmg hobj hints hlen hg=>?_;have KX:=hY w _ Y;obtain⟨fd,hb,hF⟩:=F w mg fa _ KX G.T.g hmg;exact DR KX G.T.g G.T.b G.T.builtins G.T.nolimit hg hobj hints (Ol hlen hn2) hr hF hb (fun H hO hS=>hsp w H a ns hlen hO hS) fun H e s'=>hCX w H s₁ e s'
end L2
namespace L2
open PySem PySem.Spec PyProof.Rows
def eY(s:Stmt):Arguments:=match s with
 |.FunctionDef _ a _ _ _ _ _ _ _ _=>a
 |_=>{posonlyargs:=[],args:=[],vararg:=none,kwonlyargs:=[],kw_defaults:=[],kwarg:=none,defaults:=[]}
def cG(s:Stmt):List Stmt:=match s with
 |.FunctionDef _ _ b _ _ _ _ _ _ _=>b
 |_=>[]
def au(s:Stmt):Scope:=match s with
 |.FunctionDef _ _ _ _ _ _ sc _ _ _=>sc
 |_=>{kind:=.function,names:=[],isGenerator:=false,isCoroutine:=false}
abbrev xQ:vv:=fun _ _ _ _ _ _=>False
abbrev E0:XK:=fun _ _ _=>False
theorem BY{X:Cx}:jv xQ X E0:=fun _ _ _ _ _ _ _ h=>h.elim
structure h7(K:W.Frag)(x qual:Str)(st:Stmt)(f:Addr)(fd:FuncData):Prop where
 ex:∃(oc:Value)(od:Option Addr)(kV doc pm:Value)(an:Option Addr)(cdv ct:Value)(osl:Array (Option Value)),
  fd=W.fnOf x qual (eY st) (cG st) (au st) .none kV doc pm an cdv ct/\K.lookup f=some ⟨oc,od,.func fd,osl⟩/\W.codeIn K cdv qual=true
 kp:W.keepIn K (.ref f)=true
section
variable{P:Program}{w:World}{K:W.Frag}{mg:Str->Option Value}{base:Heap}
theorem h7.ok{x qual:Str}{st:Stmt}{f:Addr}{fd:FuncData}{N ps:List Str}{k:Nat}{sp:Sp}(F:h7 K x qual st f fd)(S:aV N ps (au st))(len:∀vs H Q E,sp vs H Q E->vs.length=ps.length)
  (hbody : ∀ (cdv : Value) (A : Around) (outer : List Env) (s : Shared) (H : Hp) (vs : List V) (Q : VK) (E : XK), gr k (A.deeper (envOfC qual (au st) s.heap.objs.size f cdv)) -> sp vs H Q E ->
   ∃t,jt (qx xQ P w K mg base N qual (au st) f cdv A outer s H E).nox (cG st) t/\t {nx:=fun _ H'=>Q .non H',rt:=Q} (start N vs) H):qB P w K mg base xQ (k+1) f fd ps sp:=by
 obtain⟨oc,od,kV,doc,pm,an,cdv,ct,osl,rfl,lk,hcd⟩:=F.ex;refine Hg lk hcd S len fun A outer s H vs Q E hr hsp=>?_;obtain⟨t,h,q⟩:=hbody cdv A outer s H vs Q E hr hsp;exact⟨t,h.nox,q⟩
theorem h7.binds{x qual:Str}{st:Stmt}{f:Addr}{fd:FuncData}{ps:List Str}(F:h7 K x qual st f fd)
  (h:∀(kV doc pm:Value)(an:Option Addr)(cdv ct:Value)(us:List Value),us.length=ps.length->bindArgs (W.fnOf x qual (eY st) (cG st) (au st) .none kV doc pm an cdv ct) ⟨us,[]⟩=pure (ps.zip us)):ix K fd ps []:=by
 obtain⟨oc,od,kV,doc,pm,an,cdv,ct,osl,rfl,lk,hcd⟩:=F.ex;exact .all (h kV doc pm an cdv ct)
theorem J9{x qual:Str}{st:Stmt}{f:Addr}{oc:Value}{od an:Option Addr}{osl:Array (Option Value)}{kV doc pm cdv ct:Value}(l:K.lookup f=some ⟨oc,od,.func (W.fnOf x qual (eY st) (cG st) (au st) .none kV doc pm an cdv ct),osl⟩)
  (c:W.codeIn K cdv qual=true) (k:W.keepIn K (.ref f)=true):h7 K x qual st f (W.fnOf x qual (eY st) (cG st) (au st) .none kV doc pm an cdv ct):=⟨⟨oc,od,kV,doc,pm,an,cdv,ct,osl,rfl,l,c⟩,k⟩
end
section
variable{X:Cx}
end
theorem Ng{A B:Prop}(h:B):if false=true then A else B:=by
 rw[Oc OK];exact h
theorem Nf{A B:Prop}(h:A):if true=true then A else B:=by
 rw[Ob rfl];exact h
end L2
namespace Lw
open PySem PySem.Spec PyProof.Rows L2
def top(i:Nat):Stmt:=PySem.Challenge.pw_rootwebs_k09_roots_looked_at.main.body.getD i (.Pass ⟨0,0,0,0⟩)
abbrev jm:Stmt:=top 11
abbrev ff:Stmt:=top 12
abbrev jn:Stmt:=top 13
abbrev gE:Stmt:=top 14
abbrev gD:Stmt:=top 15
abbrev j5:Stmt:=top 20
abbrev j4:Stmt:=top 23
abbrev lD:Stmt:=top 22
abbrev i4:Stmt:=top 21
abbrev jj:Stmt:=top 19
abbrev dw:Stmt:=top 25
abbrev gF:Stmt:=top 24
abbrev gC:Stmt:=top 26
abbrev jk:Stmt:=top 27
abbrev iL:Stmt:=top 29
abbrev gH:Stmt:=top 30
abbrev dy:Stmt:=top 31
abbrev gG:Stmt:=top 32
abbrev fV:Stmt:=top 34
abbrev iM:Stmt:=top 35
abbrev gI:Stmt:=top 36
abbrev iN:Stmt:=top 37
abbrev ij:Stmt:=top 38
abbrev fU:Stmt:=top 39
abbrev eQ:Stmt:=top 40
abbrev de:Stmt:=top 41
abbrev dQ:Stmt:=top 42
abbrev dA:Stmt:=top 43
abbrev dR:Stmt:=top 44
abbrev fg:Stmt:=top 45
abbrev fj:Stmt:=top 46
abbrev cU:Stmt:=top 47
abbrev fT:Stmt:=top 48
abbrev bX:Stmt:=top 49
abbrev jS:Stmt:=top 50
def en(P:Params)(n:Str)(t:Tok)(v:Value):DictEntry:=⟨PyData.keyHash P n,.str n t,v⟩
def fo (n:Str) (st:Stmt) (m:Str) (t:Tok) (c:Addr):Obj:=⟨.type "function",none,.func (W.fnOf n n (eY st) (cG st) (au st) .none .none .none (.str m t) none (.ref c) .none),#[]⟩
def co (n:Str) (t:Tok) (l k i:Int) (a:Addr) (p:Bool) (u:Nat):Obj:=⟨.type "code",none,.fields #[.str n t,.str n (t+1),.str "/claim/cut.py" (t+2),.int l 0,.int k 0,.int 0 0,.int 0 0,.int 3 0,.ref a,.bool true,.int i 0,.ref (a+1),.none,bif p then .ref (a+2) else .none,bif p then .ref (a+3) else .none,.ref (bif p then a+4 else a+2),.int u 0,.int l 0,.str "/claim/cut.py" (u+1)],#[]⟩
def Kz (P:Params):W.Frag:=[(3,⟨.type "dict",none,.dict #[en P "__name__" 165 (.str "law_rootwebs_k09_roots_looked_at" 508),en P "__doc__" 166 .none,en P "__package__" 167 .none,en P "__loader__" 168 (.builtin "__main__.__loader__#opaque"),en P "__spec__" 169 .none,en P "__annotations__" 170 (.ref 6),en P "__builtins__" 171 (.ref 4),en P "__file__" 173 (.str "/claim/cut.py" 172),en P "__cached__" 174 .none,en P "RootError" 206 (.ref 24),en P "NoPlace" 222 (.ref 37),en P "NoNumber" 238 (.ref 49),en P "NoLine" 254 (.ref 61),en P "NoRoot" 270 (.ref 73),en P "NoTree" 286 (.ref 85),en P "NoWeb" 311 (.ref 104),en P "NoText" 336 (.ref 123),en P "TooGreat" 363 (.ref 142),en P "is_whole" 372 (.ref 151),en P "is_whole_from" 381 (.ref 158),en P "is_place" 389 (.ref 165),en P "is_places" 395 (.ref 170),en P "is_rising" 401 (.ref 175),en P "MOST_PLACES" 405 (.int 6 404),en P "MOST_STEPS" 407 (.int 6 406),en P "web_good" 416 (.ref 182),en P "is_many" 423 (.ref 189),en P "is_ties" 429 (.ref 194),en P "is_tie" 437 (.ref 201),en P "is_pair" 445 (.ref 208),en P "fars_from" 451 (.ref 213),en P "next_places" 457 (.ref 218),en P "steps_web" 463 (.ref 223),en P "two_step" 470 (.ref 230),en P "root_good" 480 (.ref 237),en P "check_other" 488 (.ref 244),en P "differences" 494 (.ref 249),en P "first_wrong" 507 (.ref 256),en P "_law_cell_at" 517 (.ref 263),en P "_law_next" 524 (.ref 270),en P "_law_pen_of" 532 (.ref 277),en P "_law_draw" 541 (.ref 284),en P "_law_whole" 548 (.ref 291),en P "_law_kind_of" 556 (.ref 298),en P "_law_web_of" 562 (.ref 303),en P "_law_drawn_web" 568 (.ref 308),en P "_law_near_of" 574 (.ref 313),en P "_law_two_step" 580 (.ref 318),en P "_law_any_web" 586 (.ref 323),en P "_law_web_like" 595 (.ref 330),en P "_law_bent_web" 611 (.ref 337),en P "_law_tuples_are" 617 (.ref 342),en P "_law_told_of" 627 (.ref 349),en P "_law_right" 633 (.ref 354),en P "law" 639 (.ref 359)] 55,#[]⟩),
 (23,⟨.type "dict",none,.dict #[en P "__module__" 196 (.str "rootwebs.errors" 187),en P "__firstlineno__" 200 (.int 2 199),en P "__static_attributes__" 201 (.ref 22),en P "__weakref__" 203 (.ref 25),en P "__doc__" 204 .none] 3,#[]⟩),
 (24,⟨.type "type",none,.cls ⟨"RootError",[(.type "ValueError")],[(.ref 24),(.type "ValueError"),(.type "Exception"),(.type "BaseException"),(.type "object")],23, "RootError",true,[],[(.ref 37),(.ref 49),(.ref 61),(.ref 73),(.ref 85),(.ref 104),(.ref 123),(.ref 142)],false,none,false⟩,#[some (.ref 15),none,some (.str "RootError" 189),some (.str "RootError" 197),some (.builtin "ValueError.__new__"),some (.bool true)]⟩),
 (36,⟨.type "dict",none,.dict #[en P "__module__" 214 (.str "rootwebs.errors" 187),en P "__firstlineno__" 218 (.int 4 217),en P "__static_attributes__" 219 (.ref 35),en P "__doc__" 220 .none] 2,#[]⟩),
 (37,⟨.type "type",none,.cls ⟨"NoPlace",[(.ref 24)],[(.ref 37),(.ref 24),(.type "ValueError"),(.type "Exception"),(.type "BaseException"),(.type "object")],36, "NoPlace",true,[],[],false,none,false⟩,#[some (.ref 28),none,some (.str "NoPlace" 207),some (.str "NoPlace" 215),some (.builtin "ValueError.__new__"),some (.bool true)]⟩),
 (48,⟨.type "dict",none,.dict #[en P "__module__" 230 (.str "rootwebs.errors" 187),en P "__firstlineno__" 234 (.int 6 233),en P "__static_attributes__" 235 (.ref 47),en P "__doc__" 236 .none] 2,#[]⟩),
 (49,⟨.type "type",none,.cls ⟨"NoNumber",[(.ref 24)],[(.ref 49),(.ref 24),(.type "ValueError"),(.type "Exception"),(.type "BaseException"),(.type "object")],48, "NoNumber",true,[],[],false,none,false⟩,#[some (.ref 40),none,some (.str "NoNumber" 223),some (.str "NoNumber" 231),some (.builtin "ValueError.__new__"),some (.bool true)]⟩),
 (60,⟨.type "dict",none,.dict #[en P "__module__" 246 (.str "rootwebs.errors" 187),en P "__firstlineno__" 250 (.int 8 249),en P "__static_attributes__" 251 (.ref 59),en P "__doc__" 252 .none] 2,#[]⟩),
 (61,⟨.type "type",none,.cls ⟨"NoLine",[(.ref 24)],[(.ref 61),(.ref 24),(.type "ValueError"),(.type "Exception"),(.type "BaseException"),(.type "object")],60, "NoLine",true,[],[],false,none,false⟩,#[some (.ref 52),none,some (.str "NoLine" 239),some (.str "NoLine" 247),some (.builtin "ValueError.__new__"),some (.bool true)]⟩),
 (72,⟨.type "dict",none,.dict #[en P "__module__" 262 (.str "rootwebs.errors" 187),en P "__firstlineno__" 266 (.int 10 265),en P "__static_attributes__" 267 (.ref 71),en P "__doc__" 268 .none] 2,#[]⟩),
 (73,⟨.type "type",none,.cls ⟨"NoRoot",[(.ref 24)],[(.ref 73),(.ref 24),(.type "ValueError"),(.type "Exception"),(.type "BaseException"),(.type "object")],72, "NoRoot",true,[],[],false,none,false⟩,#[some (.ref 64),none,some (.str "NoRoot" 255),some (.str "NoRoot" 263),some (.builtin "ValueError.__new__"),some (.bool true)]⟩),
 (84,⟨.type "dict",none,.dict #[en P "__module__" 278 (.str "rootwebs.errors" 187),en P "__firstlineno__" 282 (.int 12 281),en P "__static_attributes__" 283 (.ref 83),en P "__doc__" 284 .none] 2,#[]⟩),
 (85,⟨.type "type",none,.cls ⟨"NoTree",[(.ref 24)],[(.ref 85),(.ref 24),(.type "ValueError"),(.type "Exception"),(.type "BaseException"),(.type "object")],84, "NoTree",true,[],[],false,none,false⟩,#[some (.ref 76),none,some (.str "NoTree" 271),some (.str "NoTree" 279),some (.builtin "ValueError.__new__"),some (.bool true)]⟩),
 (103,⟨.type "dict",none,.dict #[en P "__module__" 294 (.str "rootwebs.errors" 187),en P "__firstlineno__" 298 (.int 14 297),en P "__init__" 306 (.ref 101),en P "__static_attributes__" 308 (.ref 102),en P "__doc__" 309 .none] 2,#[]⟩),
 (104,⟨.type "type",none,.cls ⟨"NoWeb",[(.ref 24)],[(.ref 104),(.ref 24),(.type "ValueError"),(.type "Exception"),(.type "BaseException"),(.type "object")],103, "NoWeb",true,[],[],false,none,false⟩,#[some (.ref 88),none,some (.str "NoWeb" 287),some (.str "NoWeb" 295),some (.builtin "ValueError.__new__"),some (.bool true)]⟩),
 (122,⟨.type "dict",none,.dict #[en P "__module__" 319 (.str "rootwebs.errors" 187),en P "__firstlineno__" 323 (.int 18 322),en P "__init__" 331 (.ref 120),en P "__static_attributes__" 333 (.ref 121),en P "__doc__" 334 .none] 2,#[]⟩),
 (123,⟨.type "type",none,.cls ⟨"NoText",[(.ref 24)],[(.ref 123),(.ref 24),(.type "ValueError"),(.type "Exception"),(.type "BaseException"),(.type "object")],122, "NoText",true,[],[],false,none,false⟩,#[some (.ref 107),none,some (.str "NoText" 312),some (.str "NoText" 320),some (.builtin "ValueError.__new__"),some (.bool true)]⟩),
 (141,⟨.type "dict",none,.dict #[en P "__module__" 344 (.str "rootwebs.errors" 187),en P "__firstlineno__" 348 (.int 22 347),en P "__init__" 357 (.ref 139),en P "__static_attributes__" 360 (.ref 140),en P "__doc__" 361 .none] 2,#[]⟩),
 (142,⟨.type "type",none,.cls ⟨"TooGreat",[(.ref 24)],[(.ref 142),(.ref 24),(.type "ValueError"),(.type "Exception"),(.type "BaseException"),(.type "object")],141, "TooGreat",true,[],[],false,none,false⟩,#[some (.ref 126),none,some (.str "TooGreat" 337),some (.str "TooGreat" 345),some (.builtin "ValueError.__new__"),some (.bool true)]⟩),
 (150,co "is_whole" 366 28 1 181 145 true 370),
 (151,fo "is_whole" jm "rootwebs.kinds" 364 150),
 (157,co "is_whole_from" 373 30 3 181 152 true 379),
 (158,fo "is_whole_from" ff "rootwebs.kinds" 364 157),
 (164,co "is_place" 382 32 2 181 159 true 387),
 (165,fo "is_place" jn "rootwebs.kinds" 364 164),
 (169,co "is_places" 390 34 2 181 166 false 393),
 (170,fo "is_places" gE "rootwebs.kinds" 364 169),
 (174,co "is_rising" 396 36 1 181 171 false 399),
 (175,fo "is_rising" gD "rootwebs.kinds" 364 174),
 (181,co "web_good" 408 41 1 181 176 true 414),
 (182,fo "web_good" jj "rootwebs.webs" 402 181),
 (188,co "is_many" 417 46 1 181 183 true 421),
 (189,fo "is_many" j5 "rootwebs.webs" 402 188),
 (193,co "is_ties" 424 48 2 181 190 false 427),
 (194,fo "is_ties" i4 "rootwebs.webs" 402 193),
 (200,co "is_tie" 430 50 2 181 195 true 435),
 (201,fo "is_tie" lD "rootwebs.webs" 402 200),
 (207,co "is_pair" 438 52 2 181 202 true 443),
 (208,fo "is_pair" j4 "rootwebs.webs" 402 207),
 (212,co "fars_from" 446 54 2 181 209 false 449),
 (213,fo "fars_from" gF "rootwebs.webs" 402 212),
 (217,co "next_places" 452 66 2 181 214 false 455),
 (218,fo "next_places" dw "rootwebs.webs" 402 217),
 (222,co "steps_web" 458 68 2 181 219 false 461),
 (223,fo "steps_web" gC "rootwebs.webs" 402 222),
 (229,co "two_step" 464 77 1 181 224 true 468),
 (230,fo "two_step" jk "rootwebs.webs" 402 229),
 (236,co "root_good" 473 80 2 181 231 true 478),
 (237,fo "root_good" iL "rootwebs.looks" 471 236),
 (243,co "check_other" 481 82 2 181 238 true 486),
 (244,fo "check_other" gH "rootwebs.looks" 471 243),
 (248,co "differences" 489 85 2 181 245 false 492),
 (249,fo "differences" dy "rootwebs.looks" 471 248),
 (255,co "first_wrong" 495 92 2 181 250 true 505),
 (256,fo "first_wrong" gG "rootwebs.looks" 471 255),
 (262,co "_law_cell_at" 510 100 2 181 257 true 515),
 (263,fo "_law_cell_at" fV "law_rootwebs_k09_roots_looked_at" 508 262),
 (269,co "_law_next" 518 104 1 181 264 true 522),
 (270,fo "_law_next" iM "law_rootwebs_k09_roots_looked_at" 508 269),
 (276,co "_law_pen_of" 525 107 1 181 271 true 530),
 (277,fo "_law_pen_of" gI "law_rootwebs_k09_roots_looked_at" 508 276),
 (283,co "_law_draw" 533 110 2 181 278 true 539),
 (284,fo "_law_draw" iN "law_rootwebs_k09_roots_looked_at" 508 283),
 (290,co "_law_whole" 542 117 1 181 285 true 546),
 (291,fo "_law_whole" ij "law_rootwebs_k09_roots_looked_at" 508 290),
 (297,co "_law_kind_of" 549 119 1 181 292 true 554),
 (298,fo "_law_kind_of" fU "law_rootwebs_k09_roots_looked_at" 508 297),
 (302,co "_law_web_of" 557 125 2 181 299 false 560),
 (303,fo "_law_web_of" eQ "law_rootwebs_k09_roots_looked_at" 508 302),
 (307,co "_law_drawn_web" 563 127 2 181 304 false 566),
 (308,fo "_law_drawn_web" de "law_rootwebs_k09_roots_looked_at" 508 307),
 (312,co "_law_near_of" 569 134 2 181 309 false 572),
 (313,fo "_law_near_of" dQ "law_rootwebs_k09_roots_looked_at" 508 312),
 (317,co "_law_two_step" 575 136 1 181 314 false 578),
 (318,fo "_law_two_step" dA "law_rootwebs_k09_roots_looked_at" 508 317),
 (322,co "_law_any_web" 581 143 2 181 319 false 584),
 (323,fo "_law_any_web" dR "law_rootwebs_k09_roots_looked_at" 508 322),
 (329,co "_law_web_like" 587 157 1 181 324 true 593),
 (330,fo "_law_web_like" fg "law_rootwebs_k09_roots_looked_at" 508 329),
 (336,co "_law_bent_web" 596 170 2 181 331 true 609),
 (337,fo "_law_bent_web" fj "law_rootwebs_k09_roots_looked_at" 508 336),
 (341,co "_law_tuples_are" 612 180 2 181 338 false 615),
 (342,fo "_law_tuples_are" cU "law_rootwebs_k09_roots_looked_at" 508 341),
 (348,co "_law_told_of" 618 184 3 181 343 true 625),
 (349,fo "_law_told_of" fT "law_rootwebs_k09_roots_looked_at" 508 348),
 (353,co "_law_right" 628 189 2 181 350 false 631),
 (354,fo "_law_right" bX "law_rootwebs_k09_roots_looked_at" 508 353),
 (358,co "law" 634 210 1 181 355 false 637),
 (359,fo "law" jS "law_rootwebs_k09_roots_looked_at" 508 358)]
def Qz:Program:=W.view PySem.Challenge.pw_rootwebs_k09_roots_looked_at [1,2,3,4,5,6,7,8,9,11,12,13,14,15,17,18,19,20,21,22,23,24,25,26,27,29,30,31,32,34,35,36,37,38,39,40,41,42,43,44,45,46,47,48,49,50]
noncomputable abbrev Hz:W.Hook:=W.kHook Kz [3,23,24,36,37,48,49,60,61,72,73,84,85,103,104,122,123,141,142,150,151,157,158,164,165,169,170,174,175,181,182,188,189,193,194,200,201,207,208,212,213,217,218,222,223,229,230,236,237,243,244,248,249,255,256,262,263,269,270,276,277,283,284,290,291,297,298,302,303,307,308,312,313,317,318,322,323,329,330,336,337,341,342,348,349,353,354,358,359] fun _=>by kernel_rfl
theorem HG:PySem.Challenge.rw_rootwebs_k09_roots_looked_at.wellSaid=true:=by kernel_rfl
noncomputable abbrev Xz(s:Shared):Bool:=W.xlAt Qz [] s&&W.recOk (W.RowW.records (W.OpenRow.toRowW (W.OpenLaw.row PySem.Challenge.rw_rootwebs_k09_roots_looked_at))) s
theorem yB{σ α β γ δ ε:Type _}{o:Option σ}(F:σ->α×β×γ×δ)(G:σ->ε)(g:α×β×γ×δ)(v:ε)
  (h1:o.map (fun s=>(F s).1)=some g.1) (h2:o.map (fun s=>((F s).2.1,(F s).2.2.1))=some (g.2.1,g.2.2.1)) (h3:o.map (fun s=>(F s).2.2.2)=some g.2.2.2)
  (h4:o.map G=some v):o.map (fun s=>(F s,G s))=some (g,v):=by
 cases o with
 |none=>cases h4
 |some s=>
  have e1:(F s).1=g.1:=Od h1;have e2:((F s).2.1,(F s).2.2.1)=(g.2.1,g.2.2.1):=Od h2;have e3:(F s).2.2.2=g.2.2.2:=Od h3;have e4:G s=v:=Od h4;have e5:(F s).2.1=g.2.1:=(Prod.mk.inj e2).1;have e6:(F s).2.2.1=g.2.2.1:=(Prod.mk.inj e2).2;have e:F s=g:=Prod.ext e1 (Prod.ext e5 (Prod.ext e6 e3));show some (F s,G s)=some (g,v);rw[e,e4]
noncomputable abbrev Oz(w:World):=W.openEnds PySem.treeTable PySem.Challenge.rw_rootwebs_k09_roots_looked_at.row.prog w 6236
noncomputable abbrev Sz:=W.openSeen Qz [] (PySem.importedModules PySem.Challenge.rw_rootwebs_k09_roots_looked_at.row.prog.main.body) Xz true
noncomputable abbrev Tz:=W.openGood Qz []
theorem EG:∀w,(Oz w).map (fun s=>(Sz s).1)=some Tz.1:=fun w=>by kernel_rfl
theorem EF:∀w,(Oz w).map (fun s=>((Sz s).2.1,(Sz s).2.2.1))=some (Tz.2.1,Tz.2.2.1):=fun w=>by kernel_rfl
theorem EE:∀w,(Oz w).map (fun s=>(Sz s).2.2.2)=some Tz.2.2.2:=fun w=>by kernel_rfl
theorem ED:∀w,(Oz w).map (W.Hook.obs Hz)=some (W.Hook.val Hz w):=fun w=>by kernel_rfl
theorem HH:W.LeftO PySem.Challenge.rw_rootwebs_k09_roots_looked_at.row.prog Qz [] Xz (W.Hook.obs Hz) (W.Hook.val Hz) 6236:=fun w=>yB Sz (W.Hook.obs Hz) Tz (W.Hook.val Hz w) (EG w) (EF w) (EE w) (ED w)
end Lw
namespace L2
open PySem PySem.Spec PyProof.Rows
theorem fW{x:Str}:∀{names:List (Str×NameKind)}{k:NameKind},names.lookup x=some k->(x,k)∈names
 |[],_,h=>by simp at h
 |(n,j)::r,k,h=>by
  rw[Qj]at h;cases hx:x == n with
  |true=>
   rw[hx]at h;have e:x=n:=eq_of_beq hx;cases h;rw[e];exact Oo
  |false=>rw[hx]at h;exact Oq _ (fW h)
theorem i5{env:Env}{x:Str}:∀{names:List (Str×NameKind)},
  (names.map fun (n, k) => if (k == NameKind.free && env.scope.kind == .function && env.kindOf n == some .cell) then (n, NameKind.cell) else (n, k)).lookup x =
   (names.lookup x).map fun k=>if (k == NameKind.free&&env.scope.kind == .function&&env.kindOf x == some .cell) then NameKind.cell else k
 |[]=>rfl
 |(n,k)::r=>by
  have ih:=i5 (env:=env) (x:=x) (names:=r);rw[PM];show List.lookup x ((if (k == NameKind.free&&env.scope.kind == .function&&env.kindOf n == some .cell)=true then (n,NameKind.cell) else (n,k))::_)=_;cases hx:x == n with
  |true=>
   have e:x=n:=eq_of_beq hx;subst e;by_cases hc:(k == NameKind.free&&env.scope.kind == .function&&env.kindOf x == some .cell)=true
   ·rw[Ob hc,Qj,hx,Qj,hx];show some NameKind.cell=some (if _ then _ else _);rw[Ob hc]
   ·rw[Oc hc,Qj,hx,Qj,hx];show some k=some (if _ then _ else _);rw[Oc hc]
  |false=>
   by_cases hc:(k == NameKind.free&&env.scope.kind == .function&&env.kindOf n == some .cell)=true
   ·rw[Ob hc,Qj,hx,Qj,hx];exact ih
   ·rw[Oc hc,Qj,hx,Qj,hx];exact ih
theorem mf{env:Env}{f:Str×NameKind->List (Str×Addr)->Sem (ForInStep (List (Str×Addr)))}
  (h1:∀n c acc,env.cells.lookup n=some c->f (n,.free) acc=pure (.yield ((n,c)::acc))) (h2:∀n k acc,k≠.free->f (n,k) acc=pure (.yield acc)) :
  ∀(names:List (Str×NameKind))(acc:List (Str×Addr)),(∀y∈names,y.2=.free->∃c,env.cells.lookup y.1=some c)->(∀x c,acc.lookup x=some c->env.cells.lookup x=some c) ->
   ∃cl,forIn names acc f=(pure cl:Sem (List (Str×Addr)))/\(∀x c,cl.lookup x=some c->env.cells.lookup x=some c)/\(∀x,(acc.lookup x).isSome=true->(cl.lookup x).isSome=true)/\(∀y∈names,y.2=.free->(cl.lookup y.1).isSome=true)
 |[],acc,_,ha=>⟨acc,rfl,ha,fun _ h=>h,fun y hy=>by simp at hy⟩
 |(n,k)::r,acc,hn,ha=>by
  by_cases hk:k=.free
  ·subst hk;obtain⟨c,hc⟩:=hn (n,.free) Oo rfl
   obtain⟨cl,e1,e2,e3,e4⟩:=mf h1 h2 r ((n,c)::acc) (fun y hy=>hn y (Oq _ hy)) (fun x d h=>by
    rw[Qj]at h;cases hx:x == n with
    |true=>rw[hx]at h;cases h;rw[eq_of_beq hx];exact hc
    |false=>rw[hx]at h;exact ha x d h)
   refine⟨cl,?_,e2,fun x h=>e3 x ?_,fun y hy hf=>?_⟩
   ·rw[List.forIn_cons,h1 n c acc hc];exact e1
   ·rw[Qj];cases hx:x == n <;> simp[h]
   ·rcases Os.mp hy with z | z
    ·subst z;exact e3 n (by simp[Qj])
    ·exact e4 y z hf
  ·obtain ⟨cl, e1, e2, e3, e4⟩ := mf h1 h2 r acc (fun y hy => hn y (Oq _ hy)) ha;refine⟨cl,?_,e2,e3,fun y hy hf=>?_⟩
   ·rw[List.forIn_cons,h2 n k acc hk];exact e1
   ·rcases Os.mp hy with z | z
    ·subst z;exact absurd hf hk
    ·exact e4 y z hf
theorem xG{env:Env}{n:Str}{c:Addr}(h:env.cells.lookup n=some c):cellOf env n=pure c:=by
 unfold cellOf;rw[h]
def zq(env:Env)(x:Str×NameKind)(r:List (Str×Addr)):Sem (ForInStep (List (Str×Addr))):=
 match x with|(name,kind)=>if kind == .free then do let c <- cellOf env name;pure (.yield ((name,c)::r)) else pure (.yield r)
theorem yZ{scope:Scope}{env:Env}(hn:∀y∈scope.names,y.2=.free->∃c,env.cells.lookup y.1=some c) :
  ∃cl,closureFor scope env=pure cl/\(∀x c,cl.lookup x=some c->env.cells.lookup x=some c)/\(∀y∈scope.names,y.2=.free->(cl.lookup y.1).isSome=true):=by
 obtain⟨cl,e1,e2,_,e4⟩:=mf (env:=env) (f:=zq env)
  (fun n c acc h=>by unfold zq;simp only[Qk,Pq];rw[xG h];rfl)
  (fun n k acc h => by
   unfold zq;have:(k == NameKind.free)=false:=by simpa using h
   simp only[this,Ql,Pp]) scope.names [] hn (fun x c h=>by simp at h)
 refine⟨cl,?_,e2,e4⟩;show (forIn scope.names [] (zq env) >>= fun s=>pure s)=pure cl;rw[e1];rfl
def kx(X:Cx)(Nc:List Str)(scope:Scope)(cl:List (Str×Addr))(C:Addr)(s:Shared)(H:Hp)(fp:List Addr):Cx where
 prog:=X.prog
 w:=X.w
 K:=X.K
 mg:=X.mg
 base:=X.base
 A:=X.A
 N:=Nc
 s₀:=s
 H₀:=H
 env:=compEnvC scope (cellsFrom (C+1) scope.names cl) C X.env
 outer:=X.stack
 stack:=X.stack
 ex:=fp
 fn:=fun x=>scope.names.lookup x == some .cell
 calm:=X.calm
 pn:=[]
 xe:=fun _ _=>False
def qI(cap:List (Option Nat))(σ:St):St:=cap.map fun o=>o.bind fun j=>(σ[j]?).join
def gS(N:List Str)(env:Env)(scope:Scope):List Str->List (Option Nat)->Bool
 |[],[]=>true
 |_::Nc,none::cap=>gS N env scope Nc cap
 |x::Nc,some j::cap=>(N[j]? == some x)&&(scope.names.lookup x == some .free)&&gS N env scope Nc cap
 |_,_=>false
theorem oE{N:List Str}{env:Env}{scope:Scope}:∀{Nc:List Str}{cap:List (Option Nat)},gS N env scope Nc cap=true->cap.length=Nc.length
 |[],[],_=>rfl
 |[],_::_,h=>by simp[gS]at h
 |_::_,[],h=>by simp[gS]at h
 |_::Nc,none::cap,h=>by rw[Qm,Qm,oE (Nc:=Nc) (cap:=cap) h]
 |x::Nc,some j::cap,h=>by
  have h':gS N env scope Nc cap=true:=by unfold gS at h;simp only[PH]at h;exact h.2
  rw[Qm,Qm,oE h']
theorem rC{N:List Str}{env:Env}{scope:Scope}:∀{Nc:List Str}{cap:List (Option Nat)}{i j:Nat}{x:Str},gS N env scope Nc cap=true->cap[i]?=some (some j)->Nc[i]?=some x->N[j]?=some x/\scope.names.lookup x=some .free
 |[],_,_,_,_,_,_,e=>by simp at e
 |_::_,[],_,_,_,h,_,_=>by simp[gS]at h
 |y::Nc,none::cap,0,j,x,h,e,_=>by simp at e
 |y::Nc,some k::cap,0,j,x,h,e,e2=>by
  simp at e e2;subst e;subst e2;unfold gS at h;simp only[PH]at h;exact⟨eq_of_beq h.1.1,eq_of_beq h.1.2⟩
 |y::Nc,none::cap,i+1,j,x,h,e,e2=>rC (Nc:=Nc) (cap:=cap) (i:=i) h (by simpa using e) (by simpa using e2)
 |y::Nc,some k::cap,i+1,j,x,h,e,e2=>by
  have h':gS N env scope Nc cap=true:=by unfold gS at h;simp only[PH]at h;exact h.2
  exact rC (Nc:=Nc) (cap:=cap) (i:=i) h' (by simpa using e) (by simpa using e2)
structure cR(N:List Str)(env:Env)(scope:Scope)(Nc:List Str)(cap:List (Option Nat)):Prop where
 kind:scope.kind=.function
 nd:∀y∈scope.names,scope.names.lookup y.1=some y.2
 free:∀y∈scope.names,y.2=.free->env.kindOf y.1=some .cell\/env.kindOf y.1=some .free
 cap:gS N env scope Nc cap=true
theorem lG{n0:Nat}{x:Str}{c:Addr}:∀{names:List (Str×NameKind)}{cl:List (Str×Addr)}{n:Nat},n0<=n->((x,NameKind.cell)∈names\/∃c',cl.lookup x=some c'/\n0<=c')->(cellsFrom n names cl).lookup x=some c->n0<=c
 |[],cl,n,_,h,e=>by
  rcases h with z|⟨c',z1,z2⟩
  ·simp at z
  ·have e':cl.lookup x=some c:=e;rw[z1]at e';cases e';exact z2
 |(y,k)::r,cl,n,hn,h,e=>by
  unfold cellsFrom at e;split at e
  ·rename_i hk;refine lG (n:=n+1) (by omega) ?_ e;cases hx:x == y with
   |true=>exact .inr ⟨n,by rw[Qj,hx],hn⟩
   |false=>
    rcases h with z|⟨c',z1,z2⟩
    ·rcases Os.mp z with q | q
     ·have:x=y:=OE Prod.fst q;rw[this]at hx;simp at hx
     ·exact .inl q
    ·exact .inr ⟨c',by rw[Qj,hx];exact z1,z2⟩
  ·rename_i hk;refine lG hn ?_ e;rcases h with z|z
   ·rcases Os.mp z with q | q
    ·have:k=.cell:=(OE Prod.snd q).symm;exact absurd (by rw[this];rfl) hk
    ·exact .inl q
   ·exact .inr z
theorem jL{x:Str}:∀{names:List (Str×NameKind)}{cl:List (Str×Addr)}{n:Nat},(x,NameKind.cell)∉names->(cellsFrom n names cl).lookup x=cl.lookup x
 |[],cl,n,_=>rfl
 |(y,k)::r,cl,n,hn=>by
  unfold cellsFrom;have hr:(x,NameKind.cell)∉r:=fun z=>hn (Oq _ z);split
  ·rename_i hk;rw[jL hr,Qj];cases hx:x == y with
   |true=>exact absurd (by rw[eq_of_beq hx,(eq_of_beq hk:k=.cell)];exact Oo) hn
   |false=>rfl
  ·exact jL hr
theorem oD{n0:Nat}:∀{names:List (Str×NameKind)}{cl:List (Str×Addr)}{n:Nat},n0<=n->(∀x y c,cl.lookup x=some c->cl.lookup y=some c->n0<=c->x=y)->(∀x c,cl.lookup x=some c->c<n) ->
  ∀x y c,(cellsFrom n names cl).lookup x=some c->(cellsFrom n names cl).lookup y=some c->n0<=c->x=y
 |[],cl,n,_,h,_=>h
 |(z,k)::r,cl,n,hn,h,hb=>by
  unfold cellsFrom;split
  ·refine oD (n := n + 1) (by omega) (fun x y c e1 e2 hc => ?_) (fun x c e => ?_)
   ·rw [Qj] at e1 e2;cases hx:x == z with
    |true=>
     cases hy:y == z with
     |true=>rw[eq_of_beq hx,eq_of_beq hy]
     |false=>
      rw[hx]at e1;rw[hy]at e2;cases e1;exact absurd (hb y _ e2) (Og _)
    |false=>
     cases hy:y == z with
     |true=>
      rw[hx]at e1;rw[hy]at e2;cases e2;exact absurd (hb x _ e1) (Og _)
     |false=>rw[hx]at e1;rw[hy]at e2;exact h x y c e1 e2 hc
   ·rw [Qj] at e;cases hx:x == z with
    |true=>rw[hx]at e;cases e;exact Qn _
    |false=>rw[hx]at e;exact Qo (hb x c e)
  ·exact oD hn h hb
theorem kT{x:Str}{c:Addr}:∀{names:List (Str×NameKind)}{cl:List (Str×Addr)}{h:Heap},(cellsFrom h.objs.size names cl).lookup x=some c->cl.lookup x=some c\/(pushCells h names).IsCell c none
 |[],cl,h,e=>.inl e
 |(y,k)::r,cl,h,e=>by
  unfold cellsFrom at e;unfold pushCells;split at e
  ·rename_i hk;rw[Ob hk];have e':(cellsFrom (h.push {cls:=.type "cell",data:=.cell none}).objs.size r ((y,h.objs.size)::cl)).lookup x=some c:=by rw[Qp];exact e
   rcases kT e' with q|q
   ·rw [Qj] at q;cases hx:x == y with
    |true=>
     rw[hx]at q;cases q;exact .inr ⟨_,Qq _ _ _ _ (OQ _ rfl),rfl⟩
    |false=>rw[hx]at q;exact .inl q
   ·exact .inr q
  ·rename_i hk;rw[Oc hk];exact kT e
theorem A4{X:Cx}{pins:List (Addr×Obj)}{σ:St}{H:Hp}{s:Shared}{h':Heap}{t':Nat}{fp:List Addr}{Nc:List Str}{scope:Scope}{cl:List (Str×Addr)}{cap:List (Option Nat)}
  (I:aY X pins σ H s) (hf:∀b∈fp,pJ X pins H b) (hfs:∀b∈fp,b<s.heap.objs.size) (S:cR X.N X.env scope Nc cap)
  (hcl:∀x c,cl.lookup x=some c->X.env.cells.lookup x=some c) (hall:∀y∈scope.names,y.2=.free->(cl.lookup y.1).isSome=true)
  (hn:h'.Ns s.heap.objs.size (fun _=>none)) (hk:∀b o,s.heap.get? b=some o->h'.get? b=some o) (hce:∀x c,(cellsFrom (s.heap.objs.size+1) scope.names cl).lookup x=some c->cl.lookup x=some c\/h'.IsCell c none) :
  aY (kx X Nc scope cl s.heap.objs.size s H fp) [] (qI cap σ) H {s with heap:=h',toks:=t'}:=by
 have hrl:∀x,(kx X Nc scope cl s.heap.objs.size s H fp).env.kindOf x=(scope.names.lookup x).map fun k=>if (k == NameKind.free&&X.env.scope.kind == .function&&X.env.kindOf x == some .cell) then NameKind.cell else k:=fun x=>i5
 have hcf:∀x,((kx X Nc scope cl s.heap.objs.size s H fp).env.kindOf x=some .cell\/(kx X Nc scope cl s.heap.objs.size s H fp).env.kindOf x=some .free)->scope.names.lookup x=some .free\/scope.names.lookup x=some .cell:=fun x hx=>by
  rw[hrl]at hx;cases e:scope.names.lookup x with
  |none=>rw[e]at hx;rcases hx with z|z <;> cases z
  |some k=>
   rw[e]at hx;by_cases hkf:k=.free
   ·rw[hkf];exact .inl rfl
   ·have : (k == NameKind.free) = false := by simpa using hkf
    simp only[this,OO,Option.map_some]at hx;rcases hx with z|z
    ·have z' : k = .cell := by simpa using z
     rw[z'];exact .inr rfl
    ·have z' : k = .free := by simpa using z
     exact absurd z' hkf
 have hclx:∀x,scope.names.lookup x=some .free->∃c,cl.lookup x=some c:=fun x e=>O4.mp (hall (x,.free) (fW e) rfl)
 have hcb:∀x c,cl.lookup x=some c->c<s.heap.objs.size:=fun x c e=>by
  obtain⟨v,q⟩:=I.cell x c (hcl x c e);exact q.lt
 have hcell:∀x c,(cellsFrom (s.heap.objs.size+1) scope.names cl).lookup x=some c->(cl.lookup x=some c/\c<s.heap.objs.size)\/(s.heap.objs.size+1<=c/\h'.IsCell c none):=fun x c e=>by
  by_cases hm:(x,NameKind.cell)∈scope.names
  ·have h1 := lG (OR _) (.inl hm) e;rcases hce x c e with z|z
   ·have:=hcb x c z;exact absurd (Of (Qo this) h1) (Og _)
   ·exact .inr ⟨h1,z⟩
  ·rw[jL hm]at e;exact .inl ⟨e,hcb x c e⟩
 have hinj:∀x y c,(cellsFrom (s.heap.objs.size+1) scope.names cl).lookup x=some c->(cellsFrom (s.heap.objs.size+1) scope.names cl).lookup y=some c->x=y:=fun x y c e1 e2=>by
  rcases hcell x c e1 with⟨a1,a2⟩|⟨a1,a2⟩
  ·rcases hcell y c e2 with ⟨b1, b2⟩ | ⟨b1, b2⟩
   ·exact I.ok.inj x y c (hcl x c a1) (hcl y c b1)
   ·exact absurd (Of (Qo a2) b1) (Og _)
  ·exact oD (OR _) (fun x y c q _ hc=>absurd (Of (Qo (hcb x c q)) hc) (Og _)) (fun x c q=>Qo (hcb x c q)) x y c e1 e2 a1
 refine⟨⟨I.ok.mod,S.kind,I.ok.glob,I.ok.blt,OR _,fun x y c e1 e2=>hinj x y c e1 e2,fun x hx=>?_,fun x c e e2=>?_,I.ok.hd,I.ok.frames,.inl rfl,
  fun b hb=>⟨Oh (hfs b hb),fun x c e=>?_⟩,I.bs,Ol I.ok.bsz I.sz,fun b o e hb=>?_,fun b hb z=>?_,I.stack,I.stkFree⟩,
  rfl,I.bare,Un.kept hk,⟨_,hn,fun i x v e1 e2 e3=>?_⟩,fun x c e=>?_,I.hok.fresh (OR _),fun x c e=>?_,fun p hp=>absurd (show p∈([]:List (Addr×Obj)) from hp) (by simp),I.hok.kept hk,?_⟩
 ·rcases hcf x hx with q | q
  ·by_cases hm : (x, NameKind.cell) ∈ scope.names
   ·rcases O4.mp (W.cellsFrom_some scope.names (s.heap.objs.size + 1) cl (.inl (S.nd (x, .cell) hm))) with ⟨c, e⟩
    exact⟨c,e⟩
   ·obtain⟨c,e⟩:=hclx x q;exact⟨c,(jL hm).trans e⟩
  ·obtain⟨c,e⟩:=O4.mp (W.cellsFrom_some scope.names (s.heap.objs.size+1) cl (.inl q));exact⟨c,e⟩
 ·have hm:(x,NameKind.cell)∈scope.names:=fW (eq_of_beq (show (scope.names.lookup x == some .cell)=true from e));exact Nat.le_of_succ_le (lG (OR _) (.inl hm) e2)
 ·rcases hcell x c e with ⟨a1, a2⟩ | ⟨a1, a2⟩
  ·exact(hf b hb).2.2.2.2.1 x c (hcl x c a1)
  ·exact fun z=>absurd (Of (Qo (hfs b hb)) (by rw[<- z];exact a1)) (Og _)
 ·rcases (hf b hb).2.2.2.1 with z | z
  ·exact I.ok.noex b o e z
  ·exact absurd (Of (Of (Oe e) I.ok.bsz) z) (Og _)
 ·rcases Os.mp (I.stkSub b z) with q | q
  ·exact(hf b hb).2.1 q
  ·exact(hf b hb).2.2.1 q
 ·have e2':∃j,cap[i]?=some (some j)/\σ[j]?=some (some v):=by
   unfold qI at e2;rw[Pb]at e2;cases hc:cap[i]? with
   |none=>rw[hc]at e2;cases e2
   |some o=>
    rw[hc]at e2;cases o with
    |none=>cases e2
    |some j=>
     refine⟨j,rfl,?_⟩;simp only[Option.map_some,Qr]at e2;cases hj:σ[j]? with
     |none=>rw[hj]at e2;cases e2
     |some q=>
      rw[hj]at e2;simp only[Option.join_some]at e2;rw[Od e2]
  obtain⟨j,hj,hv⟩:=e2';obtain⟨hN,hx⟩:=rC S.cap hj e1;have hkx:=S.free (x,.free) (fW hx) rfl;obtain⟨m,hm,hl⟩:=I.loc;obtain⟨u,r,l⟩:=hl j x v hN hv (hkx.elim (fun z=>.inr (.inl z)) (fun z=>.inr (.inr z)));refine⟨u,r,.inr ⟨?_,?_⟩⟩
  ·rw [hrl, hx];show some (if _ then _ else _)=_\/some (if _ then _ else _)=_;by_cases hc:(NameKind.free == NameKind.free&&X.env.scope.kind == .function&&X.env.kindOf x == some .cell)=true
   ·rw[Ob hc];exact .inl rfl
   ·rw[Oc hc];exact .inr rfl
  ·obtain ⟨c, ec⟩ := hclx x hx
   have hm:(x,NameKind.cell)∉scope.names:=fun z=>by
    have:=S.nd (x,.cell) z;rw[hx]at this;cases this
   refine⟨c,(jL hm).trans ec,?_⟩;rcases l with⟨k,_⟩|⟨k,c',ec',z⟩
   ·rcases hkx with q|q <;> (rw[k]at q;cases q)
   ·have q:=hcl x c ec;rw[ec']at q;cases q;obtain⟨o,ho,hd⟩:=z;exact⟨o,hk _ o ho,hd⟩
 ·rcases hcell x c e with ⟨a1, a2⟩ | ⟨a1, a2⟩
  ·obtain⟨v,o,ho,hd⟩:=I.cell x c (hcl x c a1);exact⟨v,o,hk _ o ho,hd⟩
  ·exact⟨none,a2⟩
 ·rcases hcell x c e with ⟨a1, a2⟩ | ⟨a1, a2⟩
  ·exact I.freeC x c (hcl x c a1)
  ·exact I.hok.fresh (Nat.le_of_succ_le a1)
 ·show (cap.map _).length=Nc.length;rw[Pf,oE S.cap]
abbrev Bt:Value->Shared->Prop:=fun _ _=>False
def uB(ifs:List Expr)(env:Env):Sem Bool:=forIn ifs true fun c r=>if r=true then do let ok <- isTrue c env (eval c env);pure (ForInStep.yield ok) else pure (ForInStep.yield r)
def xK(X:Cx)(ifs:List Expr)(t:TT):Prop:=
 ∀(pins:List (Addr×Obj))(s:Shared)(σ:St)(H:Hp)(Q:Bool->Hp->Prop),aY X pins σ H s->t σ H Q->wpAny (model X.prog X.w) X.A (uB ifs X.env) (TP X pins σ Q) X.xe s
def Lm:TT:=fun _ H Q=>Q true H
theorem Fy{X:Cx}:xK X [] Lm:=fun _ _ _ H _ I h=>OM ⟨H,I,h⟩
theorem Fw{X:Cx}{c:Expr}{t:TT}(h:PT X c t):xK X [c] t:=fun pins s σ H Q I q=>wpAny_tests_one (h pins s σ H Q I q)
def Kl(e:Expr)(acc:Value)(env:Env):Sem Unit:=match e with
 |.ListComp elt _ _ _=>do let _ <- call (.builtin "list.append") [acc,<- eval elt env]
 |.SetComp elt _ _ _=>do let v <- eval elt env;standAt elt.pos;let _ <- call (.builtin "set.add") [acc,v]
 |_=>unsupported "internal:not-a-comprehension"
def qR:Expr->Bool
 |.ListComp ..=>true
 |.SetComp ..=>true
 |_=>false
def pb(M:Model)(A:Around)(e:Expr)(k:Nat)(acc:Value)(env:Env)(C:Shared->Prop)(E:Value->Shared->Prop)(s:Shared):Prop:=match (clausesOf e)[k]? with
 |some g=>wpAny M A (eval g.iter env) (fun x s1=>wpAny M A (foldedSetIterable g.iter env x) (fun x s2=>wpAny M A (pyIter x) (fun it s3=>
   codeAny M A (.compStart e k it acc env) (fun r s4=>(∃f,r=.ok f)/\C s4) s3) E s2) E s1) E s
 |none=>wpAny M A (Kl e acc env) (fun _ s1=>C s1) E s
theorem xi{M:Model}{A:Around}{e:Expr}{k:Nat}{acc:Value}{env:Env}{C C':Shared->Prop}{E:Value->Shared->Prop}{s:Shared}(hC:∀s,C s->C' s)(h:pb M A e k acc env C Bt s):pb M A e k acc env C' E s:=by
 unfold pb at h⊢;split at h
 ·exact OB h (fun _ _ h=>OB h (fun _ _ h=>OB h (fun _ _ h=>O0 h fun _ _ h=>⟨h.1,hC _ h.2⟩) fun _ _ z=>z.elim) fun _ _ z=>z.elim) fun _ _ z=>z.elim
 ·exact OB h (fun _ _ h=>hC _ h) fun _ _ z=>z.elim
theorem EH{M:Model}{A:Around}{E:Value->Shared->Prop}{s:Shared}{e:Expr}{d:Nat}{g:Comprehension}{it acc:Value}{env:Env}{Q:Fin->Shared->Prop}(he:qR e=true)(hz:∀g∈clausesOf e,g.is_async=0)(hg:(clausesOf e)[d]?=some g)
  (h : wpAny M A (pyNext it) (fun r s₁ => match r with
   |none=>Q (.done .next) s₁
   |some v=>wpAny M A (letOwnedTupleGo g.target it v) (fun _ s₁'=>wpAny M A (assign g.target env v) (fun _ s₂=>wpAny M A (uB g.ifs env) (fun ok s₃=>
     if ok=true then pb M A e (d+1) acc env (fun s₄=>wpAny M A (again (.compLoop e d it acc env)) Q E s₄) E s₃ else wpAny M A (again (.compLoop e d it acc env)) Q E s₃) E s₂) E s₁') E s₁) E s) :
  wpAny M A (compTurn e d it acc env) Q E s:=by
 have h0:=hz g (Pd hg);have h1:∀g',(clausesOf e)[d+1]?=some g'->g'.is_async=0:=fun g' h=>hz g' (Pd h);unfold compTurn
 cases e <;> first
  |exact absurd (show false=true from he) OK
  | (rename_i elt gens sc pos
     have hg':gens[d]?=some g:=hg;have h1':∀g',gens[d+1]?=some g'->g'.is_async=0:=h1;dsimp only;rw[hg'];dsimp only;rw[h0];refine OG (OI ?_);show wpAny M A (pyNext it >>= _) Q E s;refine OG (OB h (fun r s₁ h₁=>?_) fun _ _ z=>z);cases r with
     |none=>exact OM h₁
     |some v=>
      refine OG (OB h₁ (fun _ s₁' h₁'=>?_) fun _ _ z=>z);refine OG (OB h₁' (fun _ s₂ h₂=>?_) fun _ _ z=>z);refine OG (OB h₂ (fun ok s₃ h₃=>?_) fun _ _ z=>z);cases ok with
      |false=>exact h₃
      |true=>
       simp only[Pq]at h₃⊢;unfold pb at h₃;dsimp only[clausesOf]at h₃;cases e2:gens[d+1]? with
       |none=>
        rw[e2]at h₃;exact OG h₃
       |some g'=>
        rw[e2]at h₃;have e3:=h1' g' e2;simp only[e3];refine OG (OB h₃ (fun x s₄ h₄=>?_) fun _ _ z=>z);refine OG (OI ?_);show wpAny M A (foldedSetIterable g'.iter env x >>= _) Q E s₄;refine OG (OB h₄ (fun x s₅ h₅=>?_) fun _ _ z=>z);refine OG (OH ?_);show wpAny M A (pyIter x) _ E s₅;refine OB h₅ (fun it' s₆ h₆=>?_) fun _ _ z=>z;refine OG (wpAny_runOwn (O0 h₆ fun r s₇ h₇=>?_));obtain⟨⟨f,rfl⟩,hc⟩:=h₇
        exact hc)
section
variable{prog:Program}{w:World}{A:Around}{R:Result->Shared->Prop}{s:Shared}
theorem Ao{e:Expr}{k:Nat}{g:Comprehension}{it acc:Value}{env:Env}(he:qR e=true)(hz:∀g∈clausesOf e,g.is_async=0)(hg:(clausesOf e)[k]?=some g)
  (h0:codeAny (model prog w) A (.compLoop e k it acc env) R s) (h:wpAny (model prog w) A (pyIter it) (fun it' s'=>codeAny (model prog w) A (.compLoop e k it' acc env) R s') Bt s) :
  codeAny (model prog w) A (.compStart e k it acc env) R s:=by
 have ha:=hz g (Pd hg)
 cases e <;> first
  |exact absurd (show false=true from he) OK
  | (refine Qs ?_
     show wpAny _ _ ((compStart _ k it acc env).onRaise (fun x=>do noteFrame x env;standAt theWindowsPlace)) _ _ s;refine wpAny_notedAt ?_;unfold compStart;rw[hg];have e1:((some g).elim false fun x=>x.is_async != 0)=false:=by show (g.is_async != 0)=false;rw[ha];rfl
     rw[e1];simp only[Ql,Pp];refine OG (Qt (wpAny_ite ?_));split
     ·exact OM (And.intro rfl h0)
     ·refine OG (Qu ?_);refine OG (OI ?_)
      exact OG (OB h (fun it' s' h'=>OM (And.intro rfl h')) fun _ _ z=>z.elim))
theorem AY{e:Expr}{d:Nat}{g:Comprehension}{it acc:Value}{env:Env}(he:qR e=true)(hz:∀g∈clausesOf e,g.is_async=0)(hg:(clausesOf e)[d]?=some g)(I:Nat->Shared->Prop)
  (turn : ∀ n s, I n s -> wpAny (model prog w) A (pyNext it) (fun r s₁ => match r with
   |none=>R (.ok .next) s₁
   |some v=>wpAny (model prog w) A (letOwnedTupleGo g.target it v) (fun _ s₁'=>wpAny (model prog w) A (assign g.target env v) (fun _ s₂=>
     wpAny (model prog w) A (uB g.ifs env) (fun ok s₃=>
      if ok=true then pb (model prog w) A e (d+1) acc env (fun s₅=>∃m,m<n/\I m s₅) Bt s₃
      else ∃m,m<n/\I m s₃) Bt s₂) Bt s₁') Bt s₁) Bt s)
  (n:Nat) (h:I n s):codeAny (model prog w) A (.compLoop e d it acc env) R s:=by
 refine codeAny_loop (by cases e <;> first|exact absurd (show false=true from he) OK|rfl) I (fun n s hI=>?_) n h
 cases e <;> first
  |exact absurd (show false=true from he) OK
  | (show wpAny _ A ((compTurn _ d it acc env).onRaise (fun x => do noteFrame x env; theTreesLotGoes x)) _ _ s
     refine wpAny_noted (EH he hz hg (OB (turn n s hI) (fun r s₁ h₁=>?_) fun _ _ z=>z.elim));cases r with
     |none=>exact h₁
     |some v=>
      refine OB h₁ (fun _ s₂ h₂=>OB h₂ (fun _ s₃ h₃=>OB h₃ (fun ok s₄ h₄=>?_) fun _ _ z=>z.elim) fun _ _ z=>z.elim) fun _ _ z=>z.elim;cases ok with
      |false=>exact OM ⟨rfl,h₄⟩
      |true=>
       simp only[Pq]at h₄⊢
       exact xi (fun s₅ h₅=>OM ⟨rfl,h₅⟩) h₄)
end
abbrev Ho:=St->Hp->(St->Hp->Prop)->Prop
def KG(X:Cx)(e:Expr)(k:Nat)(acc:Addr)(t:Ho):Prop:=
 ∀(pins:List (Addr×Obj))(s:Shared)(σ:St)(H:Hp)(N:St->Hp->Prop),aY X pins σ H s->t σ H N->pb (model X.prog X.w) X.A e k (.ref acc) X.env (fun s'=>∃σ' H',aY X pins σ' H' s'/\N σ' H') Bt s
def NB(J:It)(g:TG)(tt:TT)(tb:Ho)(N:St->Hp->Prop)(σ:St)(H:Hp):Prop:=∃W:Nat->Nat->St->Hp->Prop,(∃m,W 0 m σ H)/\∀i m σ1 H,W i m σ1 H ->
 (J.stop i H/\N σ1 H)\/(J.go i H/\∃N':St->Hp->Prop,(∀σ' H',N' σ' H'->∃m',m'<m/\W (i+1) m' σ' H')/\∀x H',J.yld i H x H'->g x σ1 H' fun σ2 H2=>tt σ2 H2 fun b H3=>if b=true then tb σ2 H3 N' else N' σ2 H3)
section
variable{X:Cx}{e:Expr}{d:Nat}{cl:Comprehension}{g:TG}{tt:TT}{tb:Ho}{acc:Addr}
theorem xF{J:It}{fp:List Addr}{it:Addr}{tn:Nat->Heap->Prop}{pins:List (Addr×Obj)}{N:St->Hp->Prop}{σ:St}{H:Hp}{s:Shared}(he:qR e=true)(hz:∀g∈clausesOf e,g.is_async=0)(hg:(clausesOf e)[d]?=some cl)(hxe:X.xe=Bt)(hc:X.calm=true)
  (T:BI X.prog X.w X.K cl.target J fp it tn) (hgc:PG X cl.target g) (htc:xK X cl.ifs tt) (hb:KG X e (d+1) acc tb) (I:aY X pins σ H s) (st:tn 0 s.heap) (fr:∀b∈fp,pJ X pins H b) (h:NB J g tt tb N σ H) :
  codeAny (model X.prog X.w) X.A (.compLoop e d (.ref it) (.ref acc) X.env) (fun r s'=>r=.ok .next/\∃σ' H',aY X pins σ' H' s'/\N σ' H') s:=by
 obtain⟨W,⟨m0,w0⟩,turn⟩:=h;have stat:∀{H':Hp},(∀b∈fp,H' b=none)->∀b∈fp,pJ X pins H' b:=fun hn b hb=>⟨hn b hb,(fr b hb).2⟩;refine AY he hz hg (fun n s'=>∃i σ' H',aY X pins σ' H' s'/\tn i s'.heap/\(∀b∈fp,H' b=none)/\W i n σ' H') ?_ m0 ⟨0,_,_,I,st,fun b hb=>(fr b hb).1,w0⟩
 rintro n s5 ⟨i,σ5,H5,I5,st5,fr5,w5⟩
 rcases turn i n σ5 H5 w5 with⟨stop,qn⟩|⟨go,N',hN,step⟩
 ·refine dr (T.done X rfl rfl rfl hc i pins s5 σ5 H5 Bt I5 (stat fr5) st5 stop) fun r s6 ⟨hr,I6⟩=>?_;subst hr;exact⟨rfl,_,_,I6,qn⟩
 ·refine dr (T.item X rfl rfl rfl hc i pins s5 σ5 H5 Bt I5 (stat fr5) st5 go) fun r s6 ⟨u, hr, h6⟩ => ?_;subst hr;refine dr h6 fun _ s7 ⟨x,H7,I7,r7,y7,st7,fr7⟩=>?_;have I7':=I7.pinned (stat fr7) (T.obj _ _ st7);have z1:=hgc _ s7 σ5 H7 x u _ I7' r7 (step x H7 y7);rw[hxe]at z1;refine dr z1 fun _ s8 ⟨σ8,H8,I8,q8⟩=>?_;have z2:=htc _ s8 σ8 H8 _ I8 q8;rw[hxe]at z2;refine dr z2 fun b s9 ⟨H9,I9,q9⟩=>?_
  have again:∀{σa:St}{Ha:Hp}{sa:Shared},aY X (pins++qO fp s7.heap) σa Ha sa->N' σa Ha->∃m,m<n/\∃i σ' H',aY X pins σ' H' sa/\tn i sa.heap/\(∀b∈fp,H' b=none)/\W i m σ' H':=fun {σa Ha sa} Ia na=>by
   obtain⟨m',hm,wa⟩:=hN σa Ha na;refine⟨m',hm,i+1,σa,Ha,Ia.unpinned,T.keep _ _ _ st7 fun b hb o e=>(Ia.pin (b,o) (OU _ (OU _ (j6 hb e)))).1,fun b hb=>?_,wa⟩;obtain⟨o,e,d⟩:=T.obj _ _ st7 b hb;exact(Ia.pin (b,o) (OU _ (OU _ (j6 hb e)))).2.1
  cases b with
  |false=>
   rw[Oc OK]at q9⊢;exact again I9 q9
  |true=>
   rw[Ob rfl]at q9⊢;exact xi (fun s' ⟨σ',H',I',n'⟩=>again I' n') (hb _ s9 σ8 H9 _ I9 q9)
def GS(te:TE)(acc:Addr):Ho:=fun σ H N=>te σ H fun y H4=>∃ys,H4 acc=some (.lst ys)/\ys.length<sizeLine/\N σ (dg H4 acc (.lst (ys++[y])))
theorem wB{te:TE}{elt:Expr}{gens:List Comprehension}{scope:Scope}{pos:Pos}(hg:gens[d]?=none)(hxe:X.xe=Bt)(hel:PE X elt te):KG X (.ListComp elt gens scope pos) d acc (GS te acc):=by
 intro pins s σ H N I h;unfold pb;show (match gens[d]? with|some g=>_|none=>_:Prop);rw[hg];show wpAny _ _ (do let _ <- call (.builtin "list.append") [.ref acc,<- eval elt X.env]) _ _ _;have z:=hel pins s σ H _ I h;rw[hxe]at z;refine OG (dr z fun v10 s10 ⟨y,H10,I10,r10,ys,hy,hz,nn⟩=>?_);have z4:=tE (X:=X) pins s10 σ H10 (.ref acc) [y] (.ref acc) [v10] (fun _ H'=>N σ H') I10 rfl (.cons r10 .nil) ⟨_,ys,y,rfl,rfl,hy,hz,nn⟩;rw[hxe]at z4;exact OG (dr z4 fun v11 s11 ⟨y',H11,I11,r11,n11⟩=>OM ⟨_,_,I11,n11⟩)
end
theorem D3{M:Model}{A:Around}{E:Value->Shared->Prop}{s:Shared}{scope:Scope}{cl:List (Str×Addr)}{env:Env}{Q:Env->Shared->Prop}
  (hQ : ∀ h', h'.Ns s.heap.objs.size (fun _ => none) -> (∀ b o, s.heap.get? b = some o -> h'.get? b = some o) -> (∀ x c, (cellsFrom (s.heap.objs.size + 1) scope.names cl).lookup x = some c -> cl.lookup x = some c \/ h'.IsCell c none) ->
   ∀cenv:Env,({cenv with scope:=relabel scope env}:Env)=compEnvC scope (cellsFrom (s.heap.objs.size+1) scope.names cl) s.heap.objs.size env->cenv.locals=s.heap.objs.size->Q cenv {s with heap:=h'}) :
  wpAny M A (newFunctionEnv scope env.globals cl [] env.qual none .none (some env)) Q E s:=by
 simp only[newFunctionEnv,Option.isSome_some,Pq];refine OG (wpAny_alloc ?_);refine OG (wpAny_layCells _ (fun name kind cells=>by cases hkc:kind == NameKind.cell <;> simp[hkc]) _ _ _ _ ?_);have hsz:(s.heap.push {cls:=.type "dict",data:=.dict #[]}).objs.size=s.heap.objs.size+1:=Qp ..;refine OG (OM (OM ?_));show Q _ {s with heap:=pushCells (s.heap.push {cls:=.type "dict",data:=.dict #[]}) scope.names};refine hQ _ ((Heap.Ns.new s.heap (.type "dict")).keeps (Qq _ _)) (fun b o e=>Qq _ _ b o (OP _ e)) (fun x c e=>?_) _ ?_ rfl
 ·rw[<- hsz]at e;exact kT e
 ·show _=_;unfold compEnvC;rw[<- hsz]
def uf(o0:Addr->HO)(wi:TI)(cap:List (Option Nat))(g:TG)(tt:TT)(tb:Addr->Ho):TE:=fun σ H Q=>wi σ H fun J H1=>∀acc,H1 acc=none->NB J g tt (tb acc) (fun _ H'=>Q (.ref acc) H') (qI cap σ) (dg H1 acc (o0 acc))
def BR(wi:TI)(cap:List (Option Nat))(g:TG)(tt:TT)(te:TE):TE:=uf (fun _=>.lst []) wi cap g tt (GS te)
def NK(X:Cx)(newAcc:Sem Value)(o0:Addr->HO):Prop:=∀(pins:List (Addr×Obj))(s:Shared)(σ:St)(H:Hp)(Q:Value->Shared->Prop),aY X pins σ H s ->
 (∀s',aY X pins σ (dg H s.heap.objs.size (o0 s.heap.objs.size)) s'->(∀b o,s.heap.get? b=some o->s'.heap.get? b=some o)->s.heap.objs.size<s'.heap.objs.size->Q (.ref s.heap.objs.size) s')->wpAny (model X.prog X.w) X.A newAcc Q X.xe s
theorem wI{X:Cx}:NK X (newList []) (fun _=>.lst []):=fun pins s σ H Q I h=>
 PJ (h _ (I.lnew (t':=s.toks) (ys:=[]) (its:=[]) .nil (Qv _)) (fun b o e=>OP _ e) (by rw[Qp];exact Qn _))
section
variable{X:Cx}{e:Expr}{cl0:Comprehension}{rest:List Comprehension}{scope:Scope}{Nc:List Str}{cap:List (Option Nat)}{wi:TI}{g:TG}{tt:TT}{tb:Addr->Ho}{pos':Pos}{o0:Addr->HO}{newAcc:Sem Value}
theorem tV{use:Option (Value->Sem Unit)}{pins:List (Addr×Obj)}{s:Shared}{σ:St}{H:Hp}{Q:VK}{QQ:Value->Shared->Prop}
  (he:qR e=true) (hz:∀g∈clausesOf e,g.is_async=0) (hcl0:clausesOf e=cl0::rest) (hmk:NK X newAcc o0)
  (hc:X.calm=true) (S:cR X.N X.env scope Nc cap) (hi:PI X cl0.target cl0.iter wi)
  (hg:∀cl C s H fp,PG (kx X Nc scope cl C s H fp) cl0.target g) (ht:∀cl C s H fp,xK (kx X Nc scope cl C s H fp) cl0.ifs tt) (hb:∀cl C s H fp acc,KG (kx X Nc scope cl C s H fp) e 1 acc (tb acc))
  (I:aY X pins σ H s) (h:uf o0 wi cap g tt tb σ H Q)
  (hfin:∀C acc s' H',aY X pins σ H' s'->pJ X pins H' C->(∃m,s'.heap.Ns C m)->Q (.ref acc) H'->compPost (model X.prog X.w) X.A X.xe use QQ (.ref acc) C (.ok .next) s')
  (hs:∀x,foldedSetIterable cl0.iter X.env x=pure x) :
  wpAny (model X.prog X.w) X.A (comprehension e scope X.env pos' newAcc false (eval cl0.iter X.env) use) QQ X.xe s:=by
 obtain⟨cl,hclos,hcl,hall⟩:=yZ (scope:=scope) (env:=X.env) (fun y hy hf=>I.ok.has y.1 (S.free y hy hf));have hg0:(clausesOf e)[0]?=some cl0:=by rw[hcl0];rfl
 refine wpAny_comprehension_free hcl0 hs hclos S.kind (fun x hx e=>by rw[S.nd x hx,e]) ?_;refine dr (hi pins s σ H _ I h) fun v s1 h1=>dr h1 fun itv s2 h2=>?_;obtain⟨it,fp,tn,J,H2,e',I2,T,st2,f2,rd⟩:=h2;subst e';have rd:=rd _ I2.fresh;refine hmk pins s2 σ H2 _ I2 fun s3 I3 hk3 hsz3=>?_;have st3:tn 0 s3.heap:=T.keep _ _ _ st2 fun b _ o e=>hk3 b o e
 have fpn:∀b∈fp,b≠s2.heap.objs.size:=fun b hb=>by
  obtain⟨o,eo,_⟩:=T.obj _ _ st2 b hb;exact Oh (Oe eo)
 have f3:∀b∈fp,pJ X pins (dg H2 s2.heap.objs.size (o0 s2.heap.objs.size)) b:=fun b hb=>⟨by rw[bG (fpn b hb)];exact(f2 b hb).1,(f2 b hb).2⟩
 have hfs:∀b∈fp,b<s3.heap.objs.size:=fun b hb=>by
  obtain⟨o,eo,_⟩:=T.obj _ _ st3 b hb;exact Oe eo
 refine D3 fun h1 hns1 hk1 hce cenv ecenv elc=>?_;rw[ecenv]
 have IB:aY (kx X Nc scope cl s3.heap.objs.size s3 (dg H2 s2.heap.objs.size (o0 s2.heap.objs.size)) fp) [] (qI cap σ) (dg H2 s2.heap.objs.size (o0 s2.heap.objs.size)) {s3 with heap:=h1,toks:=s3.toks}:=
  A4 I3 f3 hfs S hcl hall hns1 hk1 hce
 have stB:tn 0 h1:=T.keep _ _ _ st3 fun b _ o e=>hk1 b o e;rw[elc]
 have frB:∀b∈fp,pJ (kx X Nc scope cl s3.heap.objs.size s3 (dg H2 s2.heap.objs.size (o0 s2.heap.objs.size)) fp) [] (dg H2 s2.heap.objs.size (o0 s2.heap.objs.size)) b:=fun b hb=>
  ⟨(f3 b hb).1,(IB.ok.exf b hb).1,IB.ok.exfs b hb,.inl hb,(IB.ok.exf b hb).2,fun p hp=>absurd (show p∈([]:List (Addr×Obj)) from hp) (by simp)⟩
 have loop:=xF (X:=kx X Nc scope cl s3.heap.objs.size s3 (dg H2 s2.heap.objs.size (o0 s2.heap.objs.size)) fp) he hz hg0 rfl hc T (hg _ _ _ _ _) (ht _ _ _ _ _) (hb _ _ _ _ _ _) IB stB frB rd
 have fin:∀r s',(r=.ok .next/\∃σ' H',aY (kx X Nc scope cl s3.heap.objs.size s3 (dg H2 s2.heap.objs.size (o0 s2.heap.objs.size)) fp) [] σ' H' s'/\Q (.ref s2.heap.objs.size) H')->compPost (model X.prog X.w) X.A X.xe use QQ (.ref s2.heap.objs.size) s3.heap.objs.size r s':=by
  rintro r s' ⟨rfl,σ',H',J',q⟩
  have I5:aY X pins σ H' s':=I3.call' (ch:=fp) J'.os J'.base J'.hok J'.bare fun b hbf=>⟨(f3 b hbf).2.2.2.1,(f3 b hbf).2.1,(f3 b hbf).2.2.2.2.1,(f3 b hbf).2.2.2.2.2⟩;obtain⟨mm,hnn,_⟩:=J'.loc;exact hfin _ _ s' H' I5 (I3.fpOk (OR _) J'.free) ⟨mm,hnn⟩ q
 exact Ao he hz hg0 (O0 loop fin) (T.self _ 0 _ _ _ stB (O0 loop fin))
variable{elt:Expr}{pos:Pos}
theorem DA(hc:X.calm=true)(hz:∀g∈cl0::rest,g.is_async=0)(S:cR X.N X.env scope Nc cap)(hi:PI X cl0.target cl0.iter wi)
  (hg:∀cl C s H fp,PG (kx X Nc scope cl C s H fp) cl0.target g) (ht:∀cl C s H fp,xK (kx X Nc scope cl C s H fp) cl0.ifs tt) (hb:∀cl C s H fp acc,KG (kx X Nc scope cl C s H fp) (.ListComp elt (cl0::rest) scope pos) 1 acc (tb acc))
  (hs:∀x,foldedSetIterable cl0.iter X.env x=pure x):PE X (.ListComp elt (cl0::rest) scope pos) (uf (fun _=>.lst []) wi cap g tt tb):=by
 intro pins s σ H Q I h;have h0:=hz cl0 Oo;obtain⟨tg0,it0,if0,as0⟩:=cl0;have h0':as0=0:=h0;subst h0';rw[arm_eval_ListComp];refine tV (e:=.ListComp elt (_::rest) scope pos) (Q:=Q) rfl hz rfl wI hc S hi hg ht hb I h (fun C acc s' H' I' hf hn q=>?_) hs;obtain⟨m,hn⟩:=hn;refine⟨m,hn,fun h' sb=>⟨.ref acc,H',?_,rfl,q⟩⟩;exact I'.turned (t':=s'.toks) (it:=C) (fun b o hb e=>(sb.2 b hb).trans e) hf.1 hf.2.1 hf.2.2.2.1 hf.2.2.2.2.1 hf.2.2.2.2.2
theorem Du{i:Nat}{x:Str}{pos1:Pos}{pos2:Pos}(hc:X.calm=true)(hz:∀g∈cl0::rest,g.is_async=0)(hN:X.N.Nodup)(hix:X.N[i]?=some x)(hx:X.env.scope.names.lookup x=some .local)(S:cR X.N X.env scope Nc cap)(hi:PI X cl0.target cl0.iter wi)
  (hg:∀cl C s H fp,PG (kx X Nc scope cl C s H fp) cl0.target g) (ht:∀cl C s H fp,xK (kx X Nc scope cl C s H fp) cl0.ifs tt) (hb:∀cl C s H fp acc,KG (kx X Nc scope cl C s H fp) (.ListComp elt (cl0::rest) scope pos) 1 acc (tb acc))
  (hsw:swapsWith (.ListComp elt (cl0::rest) scope pos) (some (.Name x pos1)) pos2.line X.env=pure true) (hs:∀x,foldedSetIterable cl0.iter X.env x=pure x) :
  PS X (.Assign [.Name x pos1] (.ListComp elt (cl0::rest) scope pos) pos2) (BA (uf (fun _=>.lst []) wi cap g tt tb) (vR i)):=by
 intro pins s σ H D I h;have h0:=hz cl0 Oo;obtain⟨tg0,it0,if0,as0⟩:=cl0;have h0':as0=0:=h0;subst h0';rw[exec_Assign_Name_used _ _ _ _ hsw];refine OG (OI (OG ?_));show wpAny _ X.A (do let _ <- comprehension (.ListComp elt (⟨tg0,it0,if0,0⟩::rest) scope pos) scope X.env _ (newList []) false (eval it0 X.env) (some (assign (.Name x pos1) X.env))) _ _ s
 refine OG (OB (tV (e:=.ListComp elt (_::rest) scope pos) (use:=some (assign (.Name x pos1) X.env)) (Q:=fun v H1=>D.nx (σ.set i (some v)) H1) (QQ:=fun _ s'=>SP X pins D .next s') rfl hz rfl wI hc S hi hg ht hb I h (fun C acc s' H' I' hf hn q=>?_) hs)
  (fun _ s' hq=>OM (OM hq)) fun _ _ e=>e)
 obtain⟨m,hn⟩:=hn;show wpAny _ X.A (assign (.Name x pos1) X.env (.ref acc)) _ _ _;refine wpAny_assign_Name (sX I' hN hix (.inl hx) (show ck (.ref acc) (.ref acc) from rfl) (fun s'' I'' hsb=>?_) (.inr hx));obtain⟨a,sb,ha⟩:=hsb
 have hCa:C≠a:=by
  rcases ha with z|z
  ·rw[z];exact hf.2.1
  ·exact fun e=>hf.2.2.2.2.1 x a z e.symm
 refine⟨m,hn.sameBut sb hCa,fun h' sb'=>⟨_,H',?_,q⟩⟩;exact I''.turned (t':=s''.toks) (it:=C) (fun b o hb e=>(sb'.2 b hb).trans e) hf.1 hf.2.1 hf.2.2.2.1 hf.2.2.2.2.1 hf.2.2.2.2.2
variable{tg iter:Expr}{ifs:List Expr}{te:TE}
theorem tx:∀g∈([⟨tg,iter,ifs,0⟩]:List Comprehension),g.is_async=0:=fun g hg=>by rw[Qw.mp hg]
theorem FM(hc:X.calm=true)(S:cR X.N X.env scope Nc cap)(hi:PI X tg iter wi)
  (hg:∀cl C s H fp,PG (kx X Nc scope cl C s H fp) tg g) (ht:∀cl C s H fp,xK (kx X Nc scope cl C s H fp) ifs tt) (he:∀cl C s H fp,PE (kx X Nc scope cl C s H fp) elt te)
  (hs:∀x,foldedSetIterable iter X.env x=pure x:=by intro _;rfl):PE X (.ListComp elt [⟨tg,iter,ifs,0⟩] scope pos) (BR wi cap g tt te):=
 DA (cl0:=⟨tg,iter,ifs,0⟩) hc tx S hi hg ht (fun cl C s H fp acc=>wB rfl rfl (he cl C s H fp)) hs
theorem FD{i:Nat}{x:Str}{pos1:Pos}{pos2:Pos}(hc:X.calm=true)(hN:X.N.Nodup)(hix:X.N[i]?=some x)(hx:X.env.scope.names.lookup x=some .local)(S:cR X.N X.env scope Nc cap)(hi:PI X tg iter wi)
  (hg:∀cl C s H fp,PG (kx X Nc scope cl C s H fp) tg g) (ht:∀cl C s H fp,xK (kx X Nc scope cl C s H fp) ifs tt) (he:∀cl C s H fp,PE (kx X Nc scope cl C s H fp) elt te)
  (hsw:swapsWith (.ListComp elt [⟨tg,iter,ifs,0⟩] scope pos) (some (.Name x pos1)) pos2.line X.env=pure true) (hs:∀x,foldedSetIterable iter X.env x=pure x:=by intro _;rfl) :
  PS X (.Assign [.Name x pos1] (.ListComp elt [⟨tg,iter,ifs,0⟩] scope pos) pos2) (BA (BR wi cap g tt te) (vR i)):=
 Du (cl0:=⟨tg,iter,ifs,0⟩) hc tx hN hix hx S hi hg ht (fun cl C s H fp acc=>wB rfl rfl (he cl C s H fp)) hsw hs
end
end L2
namespace RS
open PySem PySem.W PyProof.Rows
open AutoSeq1 (wpAny_loadPart')
section
variable{prog:Program}{w:World}{A:Around}{E:Value->Shared->Prop}{s:Shared}
end
section
variable{prog:Program}{w:World}{A:Around}{E:Value->Shared->Prop}{s:Shared}
end
end RS
namespace L2
open PySem PySem.Spec PyProof.Rows RS
section
variable{X:Cx}{tg:Expr}
end
end L2
namespace RS
open PySem
def z9(mask:Nat):Nat->Nat->Nat->List Nat
 |0,_,_=>[]
 |n+1,i,pe=>(List.range (SetTable.runEnd mask i+1-i)).map (i+·)++z9 mask n (SetTable.leap mask i pe).1 (SetTable.leap mask i pe).2
def cY(mask:Nat)(h:Int):List Nat:=z9 mask (SetTable.turns mask) (SetTable.bits h%(mask+1)) (SetTable.bits h)
def iU(t:SetTable):Nat->SetTable.Probe->List Nat
 |0,_=>[]
 |n+1,p=>p.j::iU t n (t.advance p)
def mO(mask i pe:Nat)(d:Option Nat):SetTable.Probe:={j:=i,more:=SetTable.runEnd mask i-i,i,perturb:=pe,dummy:=d}
theorem v5(t:SetTable):∀(m n:Nat)(p:SetTable.Probe),p.more=m ->
  iU t (m+1+n) p=(List.range (m+1)).map (p.j+·)++iU t n (mO t.mask (SetTable.leap t.mask p.i p.perturb).1 (SetTable.leap t.mask p.i p.perturb).2 p.dummy)
 |0,n,p,h=>by
  have e:0+1+n=n+1:=by omega
  rw[e];show p.j::iU t n (t.advance p)=_
  have ea:t.advance p=mO t.mask (SetTable.leap t.mask p.i p.perturb).1 (SetTable.leap t.mask p.i p.perturb).2 p.dummy:=by
   unfold SetTable.advance;rw[Oc (by omega)];rfl
  rw[ea];simp
 |m+1,n,p,h=>by
  have e:m+1+1+n=(m+1+n)+1:=by omega
  rw[e];show p.j::iU t (m+1+n) (t.advance p)=_
  have ea:t.advance p={p with j:=p.j+1,more:=p.more-1}:=by
   unfold SetTable.advance;rw[Ob (by omega)]
  rw[ea,v5 t m n {p with j:=p.j+1,more:=p.more-1} (by show p.more-1=m;omega)];rw[Qx (n:=m+1),PM,Qy];show p.j::((List.range (m+1)).map (p.j+1+·)++_)=(p.j+0)::(List.map _ _)++_;rw[Nat.add_zero];show p.j::(_++_)=p.j::(_++_);congr 2;apply QA;intro a _;show p.j+1+a=p.j+(a+1);omega
theorem Cf(mask i:Nat):i<=SetTable.runEnd mask i/\SetTable.runEnd mask i<=i+9:=by
 unfold SetTable.runEnd;split <;> omega
theorem qU(t:SetTable):∀(n i pe:Nat)(d:Option Nat),iU t (z9 t.mask n i pe).length (mO t.mask i pe d)=z9 t.mask n i pe
 |0,_,_,_=>rfl
 |n+1,i,pe,d=>by
  have hr:=Cf t.mask i;show iU t ((List.range (SetTable.runEnd t.mask i+1-i)).map (i+·)++_).length _=_;rw[Pe,Pf,QB];have e:SetTable.runEnd t.mask i+1-i=(SetTable.runEnd t.mask i-i)+1:=by omega
  rw[e,v5 t (SetTable.runEnd t.mask i-i) _ (mO t.mask i pe d) rfl];show _++iU t (z9 t.mask n (SetTable.leap t.mask i pe).1 (SetTable.leap t.mask i pe).2).length (mO t.mask (SetTable.leap t.mask i pe).1 (SetTable.leap t.mask i pe).2 d)=_;rw[qU t n];show _=(List.range (SetTable.runEnd t.mask i+1-i)).map (i+·)++_;rw[e];rfl
theorem uC(mask:Nat):∀(n i pe:Nat),(z9 mask n i pe).length<=10*n
 |0,_,_=>Qv _
 |n+1,i,pe=>by
  have hr:=Cf mask i;have ih:=uC mask n (SetTable.leap mask i pe).1 (SetTable.leap mask i pe).2;show ((List.range (SetTable.runEnd mask i+1-i)).map (i+·)++_).length<=_;rw[Pe,Pf,QB];omega
theorem uN(t:SetTable)(hashAt:Nat->Int)(h:Int):∀(pre:List Nat)(j:Nat)(post:List Nat)(fuel:Nat)(p:SetTable.Probe),iU t (pre.length+1+post.length) p=pre++j::post->pre.length<fuel->p.dummy=none ->
  (∀k∈pre,∃i,t.slot k=.live i/\hashAt i≠h) ->
  (t.slot j=.empty->SetTable.probe.go t hashAt h fuel p=some (.empty j none))/\(∀i,t.slot j=.live i->hashAt i=h->∃nx,SetTable.probe.go t hashAt h fuel p=some (.candidate j i nx))
 |[],j,post,0,p,_,hf,_,_=>by simp at hf
 |[],j,post,fuel+1,p,hw,_,hd,_=>by
  have ew:iU t (([]:List Nat).length+1+post.length) p=p.j::iU t post.length (t.advance p):=by
   rw[QC,show 0+1+post.length=post.length+1 from by omega];rfl
  rw[ew,Qg]at hw;have ej:p.j=j:=(QD hw).1;refine⟨fun he=>?_,fun i hl hh=>?_⟩
  ·show (match t.slot p.j with | .empty=>_ | .dummy=>_ | .live i=>_)=_;rw[ej,he,hd]
  ·refine⟨t.advance p,?_⟩;show (match t.slot p.j with | .empty=>_ | .dummy=>_ | .live i=>_)=_;rw[ej,hl];show (if (hashAt i == h)=true then _ else _)=_;rw[Ob (by simpa using hh)]
 |x::pre,j,post,0,p,_,hf,_,_=>by simp at hf
 |x::pre,j,post,fuel+1,p,hw,hf,hd,hp=>by
  have ew:iU t ((x::pre).length+1+post.length) p=p.j::iU t (pre.length+1+post.length) (t.advance p):=by
   rw[Qm,show pre.length+1+1+post.length=(pre.length+1+post.length)+1 from by omega];rfl
  rw[ew,QE]at hw;have ej:p.j=x:=(QD hw).1;have er:=(QD hw).2;obtain⟨i,hl,hne⟩:=hp x Oo
  have hda:(t.advance p).dummy=none:=by
   unfold SetTable.advance;split
   ·exact hd
   ·exact hd
  have ih:=uN t hashAt h pre j post fuel (t.advance p) er (by rw[Qm]at hf;omega) hda (fun k hk=>hp k (Oq _ hk))
  have eg:SetTable.probe.go t hashAt h (fuel+1) p=SetTable.probe.go t hashAt h fuel (t.advance p):=by
   show (match t.slot p.j with | .empty=>_ | .dummy=>_ | .live i=>_)=_;rw[ej,hl];show (if (hashAt i == h)=true then _ else _)=_;rw[Oc (by simpa using hne)]
  rw[eg];exact ih
def Ek(xs:List Nat):Prop:=xs.Pairwise (·<·)
theorem rE(xs:Array Nat)(j:Nat):∀(fuel lo hi:Nat),lo<=hi->hi<=xs.size->hi-lo<=fuel->(∀i k,i<k->k<xs.size->xs.getD i j<xs.getD k j)->(∀i,i<lo->xs.getD i j<j)->(∀i,hi<=i->i<xs.size->j<=xs.getD i j) ->
  let b:=SetTable.below.go xs j fuel lo hi
  b<=xs.size/\(∀i,i<b->xs.getD i j<j)/\(∀i,b<=i->i<xs.size->j<=xs.getD i j)
 |0,lo,hi,h1,h2,h3,hr,ha,hb=>by
  have e:lo=hi:=by omega
  subst e;exact⟨h2,ha,hb⟩
 |fuel+1,lo,hi,h1,h2,h3,hr,ha,hb=>by
  by_cases hlt:lo<hi
  ·simp only [SetTable.below.go, hlt, Pq];by_cases hc:xs.getD ((lo+hi) / 2) j<j
   ·rw [Ob hc];refine rE xs j fuel _ hi (by omega) h2 (by omega) hr (fun i hi'=>?_) hb;by_cases e:i=(lo+hi) / 2
    ·rw[e];exact hc
    ·have:=hr i ((lo+hi) / 2) (by omega) (by omega);omega
   ·rw [Oc hc];refine rE xs j fuel lo _ (by omega) (by omega) (by omega) hr ha (fun i hi' hs=>?_);by_cases e:i=(lo+hi) / 2
    ·rw[e];omega
    ·have:=hr ((lo+hi) / 2) i (by omega) hs;omega
  ·have e : lo = hi := by omega
   subst e;simp only[SetTable.below.go,hlt,Pp];exact⟨h2,ha,hb⟩
theorem uF{xs:Array Nat}(h:Ek xs.toList)(j:Nat):∀i k,i<k->k<xs.size->xs.getD i j<xs.getD k j:=fun i k hik hk=>by
 have hi:i<xs.size:=by omega
 have:=QF.mp h i k (by simpa using hi) (by simpa using hk) hik;simpa[Array.getD,hi,hk] using this
theorem mh{xs:Array Nat}(h:Ek xs.toList)(j:Nat):SetTable.below xs j<=xs.size/\(∀i,i<SetTable.below xs j->xs.getD i j<j)/\(∀i,SetTable.below xs j<=i->i<xs.size->j<=xs.getD i j):=
 rE xs j xs.size 0 xs.size (Qv _) (OR _) (by omega) (uF h j) (fun i hi=>by omega) (fun i h1 h2=>by omega)
theorem Bo{xs:Array Nat}(h:Ek xs.toList){i j:Nat}(e:xs[i]?=some j):SetTable.below xs j=i:=by
 obtain⟨h1,h2,h3⟩:=mh h j
 have hi:i<xs.size:=by
  rcases QG.mp e with⟨q,_⟩;exact q
 have ei:xs.getD i j=j:=by
  rcases QG.mp e with⟨q,z⟩
  simp[Array.getD,hi,z]
 by_cases hlt:SetTable.below xs j<i
 ·have a:=h3 (SetTable.below xs j) (OR _) (by omega);have b:=uF h j (SetTable.below xs j) i hlt hi;omega
 ·by_cases hgt : i < SetTable.below xs j
  ·have:=h2 i hgt;omega
  ·omega
theorem kg{α:Type}(xs:Array α)(p:Nat)(x:α):(SetTable.insertAt xs p x).toList=xs.toList.take p++x::xs.toList.drop p:=by
 unfold SetTable.insertAt;simp[QH]
theorem j7{α:Type}(p:α->Prop):∀(l:List α),(∃x∈l,p x)->∃pre x post,l=pre++x::post/\p x/\∀y∈pre,¬ p y
 |[],h=>by obtain⟨x,hx,_⟩:=h;simp at hx
 |a::l,h=>by
  by_cases ha:p a
  ·exact⟨[],a,l,rfl,ha,fun y hy=>by simp at hy⟩
  ·obtain ⟨x, hx, px⟩ := h;rcases Os.mp hx with z|z
   ·rw[z]at px;exact absurd px ha
   ·obtain ⟨pre, y, post, e, py, hp⟩ := j7 p l ⟨x, z, px⟩;refine⟨a::pre,y,post,by rw[e];rfl,py,fun w hw=>?_⟩;rcases Os.mp hw with q|q
    ·rw[q];exact ha
    ·exact hp w q
structure sN(t:SetTable)(es:Array (Int×Value))(Z:List (Nat×Int×Value)):Prop where
 place:t.place.toList=Z.map (·.1)
 ents:es.toList=Z.map (·.2)
 ris:Ek (Z.map (·.1))
 top:∀z∈Z,z.1<=t.mask
 dum:t.dummies=#[]
 reach:∀z∈Z,∃pre post,cY t.mask z.2.1=pre++z.1::post/\∀k∈pre,k∈Z.map (·.1)
theorem sN.size{t:SetTable}{es:Array (Int×Value)}{Z:List (Nat×Int×Value)}(T:sN t es Z):t.place.size=Z.length/\es.size=Z.length:=by
 have a:=OE List.length T.place;have b:=OE List.length T.ents;simp at a b;exact⟨a,b⟩
theorem sN.fill{t:SetTable}{es:Array (Int×Value)}{Z:List (Nat×Int×Value)}(T:sN t es Z):t.fill=Z.length:=by
 unfold SetTable.fill;rw[T.size.1,T.dum];rfl
theorem tL(j:Nat):SetTable.has #[] j=false:=by
 unfold SetTable.has;simp
theorem sN.slot_empty{t:SetTable}{es:Array (Int×Value)}{Z:List (Nat×Int×Value)}(T:sN t es Z){j:Nat}(h:j∉Z.map (·.1)):t.slot j=.empty:=by
 unfold SetTable.slot
 have hn:¬ (t.place[SetTable.below t.place j]? == some j)=true:=by
  intro e;have e':t.place[SetTable.below t.place j]?=some j:=by simpa using e
  apply h;rw[<- T.place];rw[<- QI]at e';exact Pd e'
 simp only[hn,T.dum,tL];rfl
theorem sN.slot_live{t:SetTable}{es:Array (Int×Value)}{Z:List (Nat×Int×Value)}(T:sN t es Z){i:Nat}{z:Nat×Int×Value}(h:Z[i]?=some z):t.slot z.1=.live i:=by
 have e:t.place[i]?=some z.1:=by
  rw[<- QI,T.place,Pb,h];rfl
 have r:Ek t.place.toList:=by rw[T.place];exact T.ris
 have eb:=Bo r e;unfold SetTable.slot;have hc:(t.place[SetTable.below t.place z.1]? == some z.1)=true:=by rw[eb,e];simp
 simp only[hc,Pq];rw[eb]
theorem sN.hashAt{t:SetTable}{es:Array (Int×Value)}{Z:List (Nat×Int×Value)}(T:sN t es Z){i:Nat}{z:Nat×Int×Value}(h:Z[i]?=some z):es[i]?=some z.2:=by
 rw[<- QI,T.ents,Pb,h];rfl
theorem jE{α:Type}:∀{l1 l2:List α},l1.Nodup->(∀x∈l1,x∈l2)->l1.length<=l2.length
 |[],_,_,_=>Qv _
 |a::r,l2,hn,hs=>by
  obtain⟨s,t,e⟩:=List.append_of_mem (hs a Oo);have hn':=O2.mp hn
  have ih:=jE (l1:=r) (l2:=s++t) hn'.2 (fun x hx=>by
   have hx2:=hs x (Oq _ hx);rw[e]at hx2;rcases Ou.mp hx2 with q|q
   ·exact Ov _ q
   ·rcases Os.mp q with q | q
    ·rw[q]at hx;exact absurd hx hn'.1
    ·exact OU _ q)
  rw[e,Pe,Qm,Qm];rw[Pe]at ih;omega
theorem zx(mask:Nat):∀(n i pe:Nat),i<=mask->∀j∈z9 mask n i pe,j<=mask
 |0,_,_,_,j,h=>by simp[z9]at h
 |n+1,i,pe,hi,j,h=>by
  rcases Ou.mp h with q|q
  ·obtain ⟨k, hk, e⟩ := QJ.mp q;have hk':=Oj.mp hk;have:SetTable.runEnd mask i<=mask:=by unfold SetTable.runEnd;split <;> omega
   have e':i+k=j:=e;omega
  ·refine zx mask n _ _ ?_ j q;show (i*5+1+pe / 32)%(mask+1)<=mask;exact Nat.le_of_lt_succ (Nat.mod_lt _ (Nat.succ_pos mask))
theorem jK{mask:Nat}{h:Int}{j:Nat}(e:j∈cY mask h):j<=mask:=by
 refine zx mask _ _ _ ?_ j e;exact Nat.le_of_lt_succ (Nat.mod_lt _ (Nat.succ_pos mask))
theorem tN{m:Nat}{l:List Nat}(h:l.length<=m):∃j,j<=m/\j∉l:=by
 refine QK fun hn=>?_
 have hall:∀j∈List.range (m+1),j∈l:=fun j hj=>by
  refine QK fun hj'=>hn ⟨j,?_,hj'⟩;have:=Oj.mp hj;omega
 have:=jE (QL (n:=m+1)) hall;rw[QB]at this;omega
theorem sN.search{t:SetTable}{es:Array (Int×Value)}{Z:List (Nat×Int×Value)}(T:sN t es Z){h:Int}(cov:∀j,j<=t.mask->j∈cY t.mask h)(hz:Z.length<=t.mask)(hA:Nat->Int)(hAe:∀i z,Z[i]?=some z->hA i=z.2.1) :
  (∃i z nx,Z[i]?=some z/\z.2.1=h/\t.probe hA h (t.probeStart h)=some (.candidate z.1 i nx)) \/
  ((∀z∈Z,z.2.1≠h)/\∃j pre post,t.probe hA h (t.probeStart h)=some (.empty j none)/\j<=t.mask/\j∉Z.map (·.1)/\cY t.mask h=pre++j::post/\∀k∈pre,k∈Z.map (·.1)):=by
 obtain⟨j0,hj0,hn0⟩:=tN (m:=t.mask) (l:=Z.map (·.1)) (by rw[Pf];exact hz);obtain⟨pre,j,post,e,hs,hp⟩:=j7 (fun j=>j∉Z.map (·.1)\/∃z∈Z,z.1=j/\z.2.1=h) (cY t.mask h) ⟨j0,cov j0 hj0,.inl hn0⟩
 have hw:iU t (pre.length+1+post.length) (t.probeStart h)=pre++j::post:=by
  have q:=qU t (SetTable.turns t.mask) (SetTable.bits h%(t.mask+1)) (SetTable.bits h) none
  have el:(z9 t.mask (SetTable.turns t.mask) (SetTable.bits h%(t.mask+1)) (SetTable.bits h)).length=pre.length+1+post.length:=by
   show (cY t.mask h).length=_;rw[e,Pe,Qm];omega
  rw[el]at q;exact q.trans e
 have hlen:pre.length<10*SetTable.turns t.mask:=by
  have q:=uC t.mask (SetTable.turns t.mask) (SetTable.bits h%(t.mask+1)) (SetTable.bits h)
  have el:(z9 t.mask (SetTable.turns t.mask) (SetTable.bits h%(t.mask+1)) (SetTable.bits h)).length=pre.length+1+post.length:=by
   show (cY t.mask h).length=_;rw[e,Pe,Qm];omega
  omega
 have occ:∀k∈pre,k∈Z.map (·.1):=fun k hk=>by
  refine QK fun q=>hp k hk (.inl q)
 have hpre:∀k∈pre,∃i,t.slot k=.live i/\hA i≠h:=fun k hk=>by
  obtain⟨z,hzm,ez⟩:=QJ.mp (occ k hk);obtain⟨i,hi⟩:=QM hzm;refine⟨i,ez ▸ T.slot_live hi,fun q=>hp k hk (.inr ⟨z,hzm,ez,?_⟩)⟩;rw[<- hAe i z hi];exact q
 obtain⟨g1,g2⟩:=uN t hA h pre j post (10*SetTable.turns t.mask) (t.probeStart h) hw hlen rfl hpre;by_cases hany:∃z∈Z,z.2.1=h
 ·obtain ⟨z, hzm, ez⟩ := hany;obtain⟨pz,qz,ezz,hoz⟩:=T.reach z hzm;rw[ez]at ezz
  have hjo:j∈Z.map (·.1):=by
   have e2:pre++j::post=pz++z.1::qz:=by rw[<- e,<- ezz]
   rcases List.append_eq_append_iff.mp e2 with⟨a,h1,h2⟩|⟨c,h1,h2⟩
   ·cases a with
    |nil=>
     simp only[Qg]at h2;rw[(QD h2).1];exact QN hzm
    |cons x a=>
     rw[QE]at h2;have:j∈pz:=by rw[h1,(QD h2).1];simp
     exact hoz j this
   ·cases c with
    |nil=>
     simp only[Qg]at h2;rw[<- (QD h2).1];exact QN hzm
    |cons x c=>
     rw[QE]at h2;have:z.1∈pre:=by rw[h1,(QD h2).1];simp
     exact absurd (.inr ⟨z,hzm,rfl,ez⟩) (hp z.1 this)
  rcases hs with q|⟨z',hz',e1,e2⟩
  ·exact absurd hjo q
  ·obtain⟨i,hi⟩:=QM hz';obtain⟨nx,en⟩:=g2 i (e1 ▸ T.slot_live hi) (by rw[hAe i z' hi];exact e2);exact .inl ⟨i,z',nx,hi,e2,by rw[e1];exact en⟩
 ·have hno : ∀ z ∈ Z, z.2.1 ≠ h := fun z hz' e' => hany ⟨z, hz', e'⟩;rcases hs with q|⟨z',hz',e1,e2⟩
  ·have hjm:j<=t.mask:=jK (h:=h) (by rw[e];simp);exact .inr ⟨hno,j,pre,post,g1 (T.slot_empty q),hjm,q,e,occ⟩
  ·exact absurd e2 (hno z' hz')
theorem yK{l:List Nat}{j p:Nat}(h:Ek l)(h1:∀x∈l.take p,x<j)(h2:∀x∈l.drop p,j<x):Ek (l.take p++j::l.drop p):=by
 unfold Ek at *;have h':(l.take p++l.drop p).Pairwise (·<·):=by rw[QO];exact h
 rw[List.pairwise_append]at h'⊢;refine⟨h'.1,QP.mpr ⟨fun x hx=>h2 x hx,h'.2.1⟩,fun a ha b hb=>?_⟩;rcases Os.mp hb with q|q
 ·rw[q];exact h1 a ha
 ·exact h'.2.2 a ha b q
theorem sN.put{t:SetTable}{es:Array (Int×Value)}{Z:List (Nat×Int×Value)}(T:sN t es Z){j:Nat}{h:Int}{x:Value}{pre post:List Nat}(hj:j<=t.mask)(hn:j∉Z.map (·.1))(e:cY t.mask h=pre++j::post)(hp:∀k∈pre,k∈Z.map (·.1)) :
  ∃Z',sN (t.put j).1 (SetTable.insertAt es (t.put j).2 (h,x)) Z'/\Z'.Perm ((j,h,x)::Z)/\(t.put j).1={t with place:=SetTable.insertAt t.place (SetTable.below t.place j) j}:=by
 have e1:(t.put j).1={t with place:=SetTable.insertAt t.place (SetTable.below t.place j) j}:=by
  unfold SetTable.put;simp only[T.dum,tL];rw[Oc OK]
 have e2:(t.put j).2=SetTable.below t.place j:=rfl;have r:Ek t.place.toList:=by rw[T.place];exact T.ris
 obtain⟨b1,b2,b3⟩:=mh r j;generalize hb:SetTable.below t.place j=p at *;refine⟨Z.take p++(j,h,x)::Z.drop p,⟨?_,?_,?_,fun z hz=>?_,by rw[e1];exact T.dum,fun z hz=>?_⟩,?_,e1⟩
 ·rw[e1];show (SetTable.insertAt t.place p j).toList=_;rw[kg,T.place,QR,PM,QS,QT]
 ·rw[e2,kg,T.ents,QR,PM,QS,QT]
 ·rw [QR, PM, QS, QT];have hlen:t.place.size=(Z.map (·.1)).length:=by rw[<- T.place];simp
  refine yK T.ris (fun y hy=>?_) (fun y hy=>?_)
  ·obtain ⟨i, hi⟩ := QM hy;rw[List.getElem?_take]at hi;split at hi
   ·rename_i hlt;have q:=b2 i hlt;rw[<- T.place,QI]at hi;simp only[QU,hi,QV]at q;exact q
   ·cases hi
  ·obtain⟨i,hi⟩:=QM hy;rw[QW]at hi;have hmem:y∈Z.map (·.1):=Pd hi;rw[<- T.place,QI]at hi;have hlt:p+i<t.place.size:=(QG.mp hi).1;have q:=b3 (p+i) (by omega) hlt;simp only[QU,hi,QV]at q;have:y≠j:=fun ey=>hn (ey ▸ hmem);omega
 ·rw [e1];show z.1<=t.mask;rcases Ou.mp hz with q|q
  ·exact T.top z (QX q)
  ·rcases Os.mp q with q | q
   ·rw[q];exact hj
   ·exact T.top z (QY q)
 ·rw [e1];show ∃pre post,cY t.mask z.2.1=pre++z.1::post/\_
  have sub:∀k∈Z.map (·.1),k∈(Z.take p++(j,h,x)::Z.drop p).map (·.1):=fun k hk=>by
   rw[<- QO p Z,QR]at hk;rw[QR,PM];rcases Ou.mp hk with q|q
   ·exact Ov _ q
   ·exact OU _ (Oq _ q)
  have old:∀z∈Z,∃pre post,cY t.mask z.2.1=pre++z.1::post/\∀k∈pre,k∈(Z.take p++(j,h,x)::Z.drop p).map (·.1):=fun z hz=>by
   obtain⟨a,b,c,d⟩:=T.reach z hz;exact⟨a,b,c,fun k hk=>sub k (d k hk)⟩
  rcases Ou.mp hz with q|q
  ·exact old z (QX q)
  ·rcases Os.mp q with q | q
   ·rw[q];exact⟨pre,post,e,fun k hk=>sub k (hp k hk)⟩
   ·exact old z (QY q)
 ·have q:(Z.take p++(j,h,x)::Z.drop p).Perm ((j,h,x)::(Z.take p++Z.drop p)):=List.perm_middle;rw[QO]at q;exact q
theorem tO(mask:Nat)(owner:Array (Option Nat)):∀(n i pe:Nat),
  SetTable.layClean.free mask owner n i pe=(z9 mask n i pe).find? fun j=>(owner.getD j (some 0)).isNone
 |0,_,_=>rfl
 |n+1,i,pe=>by
  show (match (List.range (SetTable.runEnd mask i+1-i)).find? fun k=>(owner.getD (i+k) (some 0)).isNone with|some k=>_|none=>_)=_;show _=((List.range (SetTable.runEnd mask i+1-i)).map (i+·)++z9 mask n (SetTable.leap mask i pe).1 (SetTable.leap mask i pe).2).find? _;rw[List.find?_append,List.find?_map,<- tO mask owner n];have ec:((fun j=>(owner.getD j (some 0)).isNone) ∘ fun x=>i+x)=fun k=>(owner.getD (i+k) (some 0)).isNone:=rfl;rw[ec];cases (List.range (SetTable.runEnd mask i+1-i)).find? fun k=>(owner.getD (i+k) (some 0)).isNone with
  |some k=>rfl
  |none=>rfl
structure Hq(mask:Nat)(hs:List Int)(owner:Array (Option Nat)):Prop where
 size:owner.size=mask+1
 all:∀(i:Nat)(h:Int),hs[i]?=some h->∃j:Nat,j<=mask/\owner[j]?=some (some i)/\∃pre post,cY mask h=pre++j::post/\∀k∈pre,∃i':Nat,owner[k]?=some (some i')
 lt:∀(j i:Nat),owner[j]?=some (some i)->i<hs.length
 inj:∀(j j' i:Nat),owner[j]?=some (some i)->owner[j']?=some (some i)->j=j'
theorem FP(mask:Nat):Hq mask [] (Array.replicate (mask+1) none):=by
 have hno:∀(j i:Nat),(Array.replicate (mask+1) (none:Option Nat))[j]?≠some (some i):=fun j i e=>by
  rw[Array.getElem?_replicate]at e;split at e <;> cases e
 exact⟨by simp,fun i h e=>by simp at e,fun j i e=>absurd e (hno j i),fun j j' i e=>absurd e (hno j i)⟩
theorem DE{mask:Nat}{hs:List Int}{owner:Array (Option Nat)}(O:Hq mask hs owner)(hl:hs.length<=mask):∃j,j<=mask/\owner[j]?=some none:=by
 refine QK fun hn=>?_
 have hall:∀j,j<=mask->∃i,owner[j]?=some (some i):=fun j hj=>by
  have hs':j<owner.size:=by rw[O.size];omega
  cases e:owner[j]? with
  |none=>rw[QZ]at e;omega
  |some o=>
   cases o with
   |none=>exact absurd ⟨j,hj,e⟩ hn
   |some i=>exact⟨i,rfl⟩
 have key:∀n,n<=mask+1->∃l:List Nat,l.length=n/\l.Nodup/\(∀i∈l,i<hs.length)/\∀i∈l,∃j,j<n/\owner[j]?=some (some i):=by
  intro n
  induction n with
  |zero=>exact fun _=>⟨[],rfl,Q0,fun _ h=>by simp at h,fun _ h=>by simp at h⟩
  |succ n ih=>
   intro hn';obtain⟨l,h1,h2,h3,h4⟩:=ih (by omega);obtain⟨i,hi⟩:=hall n (by omega);refine⟨i::l,by rw[Qm,h1],O2.mpr ⟨fun hm=>?_,h2⟩,fun x hx=>?_,fun x hx=>?_⟩
   ·obtain⟨j,hj,ej⟩:=h4 i hm;have:=O.inj j n i ej hi;omega
   ·rcases Os.mp hx with q | q
    ·rw[q];exact O.lt n i hi
    ·exact h3 x q
   ·rcases Os.mp hx with q | q
    ·rw[q];exact⟨n,by omega,hi⟩
    ·obtain⟨j,hj,ej⟩:=h4 x q;exact⟨j,by omega,ej⟩
 obtain⟨l,h1,h2,h3,_⟩:=key (mask+1) (OR _);have:=jE h2 (l2:=List.range hs.length) (fun x hx=>Oj.mpr (h3 x hx));rw[QB,h1]at this;omega
theorem DD{mask:Nat}{hs:List Int}{owner:Array (Option Nat)}{h:Int}(O:Hq mask hs owner)(hl:hs.length<=mask)(cov:∀j,j<=mask->j∈cY mask h) :
  ∃j,SetTable.layClean.free mask owner (SetTable.turns mask) (SetTable.bits h%(mask+1)) (SetTable.bits h)=some j/\Hq mask (hs++[h]) (owner.setIfInBounds j (some hs.length)):=by
 obtain⟨j0,hj0,e0⟩:=DE O hl
 have none_iff:∀j,((owner.getD j (some 0)).isNone=true)↔owner[j]?=some none:=fun j=>by
  rw[QU];cases owner[j]? with
  |none=>simp
  |some o=>cases o <;> simp
 obtain⟨pre,j,post,e,hs',hp⟩:=j7 (fun j=>owner[j]?=some none) (cY mask h) ⟨j0,cov j0 hj0,e0⟩;have hjm:j<=mask:=jK (h:=h) (by rw[e];simp);have hjs:j<owner.size:=by rw[O.size];omega
 have hocc:∀k∈pre,∃i',owner[k]?=some (some i'):=fun k hk=>by
  have hkm:k<=mask:=jK (h:=h) (by rw[e];simp[hk]);cases q:owner[k]? with
  |none=>
   rw[QZ,O.size]at q;omega
  |some o=>
   cases o with
   |none=>exact absurd q (hp k hk)
   |some i=>exact⟨i,rfl⟩
 have hset:∀k,(owner.setIfInBounds j (some hs.length))[k]?=if j=k then some (some hs.length) else owner[k]?:=fun k=>by
  rw[Array.getElem?_setIfInBounds];by_cases q:j=k
  ·rw[Ob q,Ob q,Ob hjs]
  ·rw[Oc q,Oc q]
 have keep:∀k i',owner[k]?=some (some i')->(owner.setIfInBounds j (some hs.length))[k]?=some (some i'):=fun k i' q=>by
  rw[hset,Oc]
  ·exact q
  ·intro ej;rw[<- ej,hs']at q;cases q
 refine⟨j,?_,by simp[O.size],fun i h' ei=>?_,fun k i ei=>?_,fun k k' i e1 e2=>?_⟩
 ·rw [tO];show (cY mask h).find? _=some j;rw[e,List.find?_append]
  have e1:pre.find? (fun j=>(owner.getD j (some 0)).isNone)=none:=by
   rw[List.find?_eq_none];intro k hk q;exact hp k hk ((none_iff k).mp q)
  simp only[e1,Option.none_or,List.find?_cons,(none_iff j).mpr hs']
 ·by_cases hi : i < hs.length
  ·rw[O9 hi]at ei;obtain⟨j',a1,a2,pr,po,a3,a4⟩:=O.all i h' ei;exact⟨j',a1,keep j' i a2,pr,po,a3,fun k hk=>(a4 k hk).elim fun i' q=>⟨i',keep k i' q⟩⟩
  ·have hi':i=hs.length:=by
    have:=(Ow.mp ei).1;simp at this;omega
   subst hi';rw[O7 (OR _),Q2]at ei;have eh:h=h':=by simpa using ei
   subst eh;exact⟨j,hjm,by rw[hset,Ob rfl],pre,post,e,fun k hk=>(hocc k hk).elim fun i' q=>⟨i',keep k i' q⟩⟩
 ·rw [hset] at ei;rw[Pe,Qd];split at ei
  ·cases ei;omega
  ·have:=O.lt k i ei;omega
 ·rw [hset] at e1 e2;split at e1
  ·rename_i q1;cases e1;split at e2
   ·rename_i q2;rw[<- q1,q2]
   ·have:=O.lt k' _ e2;omega
  ·split at e2
   ·cases e2;have:=O.lt k _ e1;omega
   ·exact O.inj k k' i e1 e2
theorem wD{mask:Nat}:∀(hs0 hs1:List Int)(owner:Array (Option Nat)),Hq mask hs0 owner->hs0.length+hs1.length<=mask+1->(∀h∈hs1,∀j,j<=mask->j∈cY mask h) ->
  ∃owner',hs1.foldl (fun(acc:Option (Array (Option Nat)×Nat)) h=>do
   let (owner,k) <- acc
   let j <- SetTable.layClean.free mask owner (SetTable.turns mask) (SetTable.bits h%(mask+1)) (SetTable.bits h)
   pure (owner.setIfInBounds j (some k),k+1)) (some (owner,hs0.length))=some (owner',(hs0++hs1).length)/\Hq mask (hs0++hs1) owner'
 |hs0,[],owner,O,_,_=>⟨owner,by simp,by simpa using O⟩
 |hs0,h::hs1,owner,O,hl,cov=>by
  rw[Qm]at hl;obtain⟨j,ej,O'⟩:=DD (h:=h) O (by omega) (cov h Oo);obtain⟨ow,e1,e2⟩:=wD (hs0++[h]) hs1 _ O' (by rw[Pe,Qd];omega) (fun x hx=>cov x (Oq _ hx));rw[Qa,List.singleton_append]at e1 e2;refine⟨ow,?_,e2⟩;rw[Qb];show List.foldl _ ((SetTable.layClean.free mask owner (SetTable.turns mask) (SetTable.bits h%(mask+1)) (SetTable.bits h)).bind fun j=>some (owner.setIfInBounds j (some hs0.length),hs0.length+1)) hs1=_;rw[ej];show List.foldl _ (some (owner.setIfInBounds j (some hs0.length),hs0.length+1)) hs1=_;rw[Pe,Qd]at e1;exact e1
theorem wy{α:Type}:∀l:List α,(List.range l.length).filterMap (fun i=>l[i]?)=l
 |[]=>rfl
 |a::l=>by
  rw[Qm,Qx,On];show a::List.filterMap _ _=_;rw[Pu];show a::List.filterMap (fun i=>l[i]?) _=_;rw[wy l]
theorem Gg{mask:Nat}{hs:List Int}(hl:hs.length<=mask+1)(cov:∀h∈hs,∀j,j<=mask->j∈cY mask h):∃owner,SetTable.layClean mask hs.toArray=some owner/\Hq mask hs owner:=by
 obtain⟨ow,e1,e2⟩:=wD [] hs _ (FP mask) (by rw[QC,Nat.zero_add];exact hl) cov;refine⟨ow,?_,by simpa using e2⟩;unfold SetTable.layClean;rw[List.foldl_toArray']
 ·show Option.map (·.1) (hs.foldl _ (some (Array.replicate (mask+1) none,([]:List Int).length)))=_;rw[e1];rfl
 ·simp
theorem rL{t:SetTable}{es:Array (Int×Value)}{wanted mask:Nat}(hm:SetTable.sizeAbove wanted-1=mask)(hl:es.size<=mask)(cov:∀e∈es.toList,∀j,j<=mask->j∈cY mask e.1) :
  ∃t' order Z',t.relaid (es.map (·.1)) wanted=some (t',order)/\sN t' (order.filterMap (es[·]?)) Z'/\(Z'.map (·.2)).Perm es.toList/\t'.mask=mask/\t'.led=t.led/\t'.plain=t.plain/\order.toList.Perm (List.range es.size):=by
 have ea:es.map (·.1)=(es.toList.map (·.1)).toArray:=by rw[<- Array.toList_map]
 obtain⟨ow,e1,O⟩:=Gg (mask:=mask) (hs:=es.toList.map (·.1)) (by simp;omega) (fun h hh=>by
  obtain⟨e,he,q⟩:=QJ.mp hh
  rw[<- q];exact cov e he)
 let live:List (Nat×Nat):=(List.range (mask+1)).filterMap fun j=>(ow.getD j none).map (j,·)
 have hlive:∀j i,(j,i)∈live↔(j<=mask/\ow[j]?=some (some i)):=fun j i=>by
  simp only[live,OT,Oj];constructor
  ·rintro ⟨k, hk, q⟩
   rw[QU]at q;cases e:ow[k]? with
   |none=>rw[e]at q;cases q
   |some o=>
    rw[e]at q;cases o with
    |none=>cases q
    |some i'=>
     simp only[QV,Option.map_some,Q3,Prod.mk.injEq]at q;obtain⟨q1,q2⟩:=q;subst q1;subst q2;exact⟨by omega,e⟩
  ·rintro ⟨hj, e⟩
   refine⟨j,by omega,?_⟩;rw[QU,e];rfl
 have hfst:(live.map (·.1)).Pairwise (·<·):=by
  have gen:∀(l:List Nat),l.Pairwise (·<·)->((l.filterMap fun j=>(ow.getD j none).map (j,·)).map (·.1)).Pairwise (·<·)/\∀x∈((l.filterMap fun j=>(ow.getD j none).map (j,·)).map (·.1)),x∈l:=by
   intro l
   induction l with
   |nil=>intro _;exact⟨List.Pairwise.nil,fun x hx=>by simp at hx⟩
   |cons a l ih=>
    intro hp;obtain⟨h1,h2⟩:=QP.mp hp;obtain⟨i1,i2⟩:=ih h2;rw[On];cases q:(ow.getD a none).map (a,·) with
    |none=>exact⟨i1,fun x hx=>Oq _ (i2 x hx)⟩
    |some p=>
     have ep:p.1=a:=by
      cases hq:ow.getD a none with
      |none=>rw[hq]at q;cases q
      |some i=>rw[hq]at q;cases q;rfl
     show (p.1::List.map _ _).Pairwise _/\∀x∈p.1::List.map _ _,x∈a::l;rw[ep]
     exact⟨QP.mpr ⟨fun x hx=>h1 x (i2 x hx),i1⟩,fun x hx=>by
      rcases Os.mp hx with z|z
      ·rw[z];exact Oo
      ·exact Oq _ (i2 x z)⟩
  exact(gen _ Q4).1
 have hnd:live.Nodup:=by
  have:=hfst.imp (fun h=>Oh h);exact List.Pairwise.of_map (·.1) (fun a b h e=>h (by rw[e])) this
 have hsz:∀j i,(j,i)∈live->i<es.size:=fun j i h=>by
  have:=O.lt j i ((hlive j i).mp h).2;simpa using this
 have hsnd:(live.map (·.2)).Perm (List.range es.size):=by
  refine(List.perm_ext_iff_of_nodup ?_ QL).mpr fun i=>?_
  ·refine List.Pairwise.map _ (fun a b h=>?_) (List.Pairwise.and_mem.mp hnd);obtain⟨ha,hb,hne⟩:=h;intro e;have q1:=((hlive a.1 a.2).mp ha).2;have q2:=((hlive b.1 b.2).mp hb).2;rw[<- e]at q2;exact hne (Prod.ext (O.inj _ _ _ q1 q2) e)
  ·rw [Oj, QJ];constructor
   ·rintro⟨p,hp,e⟩;rw[<- e];exact hsz p.1 p.2 hp
   ·intro hi;obtain⟨j,hj,q,_⟩:=O.all i (es[i].1) (by rw[Pb,QI,Q5 hi];rfl);exact⟨(j,i),(hlive j i).mpr ⟨hj,q⟩,rfl⟩
 let Z':List (Nat×Int×Value):=live.filterMap fun p=>(es[p.2]?).map fun e=>(p.1,e)
 have hZ1:Z'.map (·.1)=live.map (·.1):=by
  have gen:∀l:List (Nat×Nat),(∀p∈l,p.2<es.size)->(l.filterMap fun p=>(es[p.2]?).map fun e=>(p.1,e)).map (·.1)=l.map (·.1):=by
   intro l
   induction l with
   |nil=>intro _;rfl
   |cons p l ih=>
    intro h;rw[On,Q5 (h p Oo)];show p.1::List.map _ _=p.1::List.map _ _;rw[ih fun q hq=>h q (Oq _ hq)]
  exact gen live fun p hp=>hsz p.1 p.2 hp
 have hZ2:Z'.map (·.2)=(live.map (·.2)).filterMap (es[·]?):=by
  have gen:∀l:List (Nat×Nat),(l.filterMap fun p=>(es[p.2]?).map fun e=>(p.1,e)).map (·.2)=(l.map (·.2)).filterMap (es[·]?):=by
   intro l
   induction l with
   |nil=>rfl
   |cons p l ih=>
    rw[On,PM,On];cases es[p.2]? with
    |none=>exact ih
    |some e=>show e::List.map _ _=e::_;rw[ih]
  exact gen live
 have hes:(List.range es.size).filterMap (es[·]?)=es.toList:=by
  have q:=wy es.toList;rw[OD]at q;simpa only[QI] using q
 refine⟨{mask,place:=(live.map (·.1)).toArray,dummies:=#[],finger:=t.finger,led:=t.led,moves:=t.movedTo mask,plain:=t.plain},(live.map (·.2)).toArray,Z',?_,⟨?_,?_,?_,fun z hz=>?_,rfl,fun z hz=>?_⟩,?_,rfl,rfl,rfl,hsnd⟩
 ·unfold SetTable.relaid SetTable.laid;rw[hm,ea,e1];rfl
 ·show (live.map (·.1))=_;rw[hZ1]
 ·rw[hZ2];simp
 ·rw[hZ1];exact hfst
 ·have : z.1 ∈ live.map (·.1) := by rw [<- hZ1]; exact QN hz
  obtain⟨p,hp,q⟩:=QJ.mp this;rw[<- q];exact((hlive p.1 p.2).mp hp).1
 ·obtain⟨p,hp,q⟩:=OT.mp hz;rw[Q5 (hsz p.1 p.2 hp)]at q;have ez:z=(p.1,es[p.2]'(hsz p.1 p.2 hp)):=(Od q).symm;obtain⟨hj,ho⟩:=(hlive p.1 p.2).mp hp;obtain⟨j,a1,a2,pre,post,a3,a4⟩:=O.all p.2 (es[p.2]'(hsz p.1 p.2 hp)).1 (by rw[Pb,QI,Q5 (hsz p.1 p.2 hp)];rfl);have ejp:j=p.1:=O.inj _ _ _ a2 ho;refine⟨pre,post,by rw[ez];rw[ejp]at a3;exact a3,fun k hk=>?_⟩;obtain⟨i',hi'⟩:=a4 k hk;rw[hZ1];have hkm:k<=mask:=jK (h:=(es[p.2]'(hsz p.1 p.2 hp)).1) (by rw[a3];simp[hk]);exact QJ.mpr ⟨(k,i'),(hlive k i').mpr ⟨hkm,hi'⟩,rfl⟩
 ·rw[hZ2,<- hes];exact hsnd.filterMap _
def prs:List (List Int):=((List.range 36).filter fun n=>n / 6<n%6).map fun n=>[((n / 6:Nat):Int),((n%6:Nat):Int)]
def hsh(ks:List Int):Int:=reduceHash (Builtin.Tuple.tupleHashOf (ks.map hashInt))
theorem J2{prog:Program}{w:World}(ks:List Int):tupleKeyHash (intKind prog w) ks=hsh ks:=rfl
def Hy(mask:Nat):Bool:=prs.all fun ks=>(List.range (mask+1)).all fun j=>(cY mask (hsh ks)).contains j
theorem Nr:Hy 7=true:=by decide +kernel
theorem Hj:Hy 31=true:=by decide +kernel
theorem LZ:(prs.map hsh).Nodup:=by decide +kernel
theorem zF:prs.length=15:=by decide +kernel
theorem yr{mask:Nat}(h:Hy mask=true){ks:List Int}(hk:ks∈prs):∀j,j<=mask->j∈cY mask (hsh ks):=fun j hj=>by
 have a:=Q6.mp h ks hk;have b:=Q6.mp a j (Oj.mpr (by omega));simpa using b
theorem J0{l:List (List Int)}(h:(l.map hsh).Nodup){a b:List Int}(ha:a∈l)(hb:b∈l)(e:hsh a=hsh b):a=b:=by
 induction l with
 |nil=>simp at ha
 |cons c l ih=>
  rw[PM]at h;obtain⟨h1,h2⟩:=O2.mp h;rcases Os.mp ha with qa|qa <;> rcases Os.mp hb with qb|qb
  ·rw[qa,qb]
  ·exact absurd (by rw[<- qa,e];exact QN qb) h1
  ·exact absurd (by rw[<- qb,<- e];exact QN qa) h1
  ·exact ih h2 qa qb
theorem Gp{a b:List Int}(ha:a∈prs)(hb:b∈prs)(e:hsh a=hsh b):a=b:=J0 LZ ha hb e
theorem uG{a b:Int}(h1:0<=a)(h2:a<b)(h3:b<6):[a,b]∈prs:=by
 have key:∀x:Nat,x<6->∀y:Nat,y<6->x<y->[(x:Int),(y:Int)]∈prs:=by decide +kernel
 have:=key a.toNat (by omega) b.toNat (by omega) (by omega);rw[Q7 h1,Q7 (by omega)]at this;exact this
end RS
namespace RS
open PySem PyProof.Rows
abbrev KP:=List Int×Addr
structure eF(w:World)(h:Heap)(a:Addr)(qs:List (Int×Value))(o:Obj)(es:Array (Int×Value))(ep:Nat)(t:SetTable)(Z:List (Nat×Int×Value)):Prop where
 ho:h.get? a=some o
 ex:o.ExactSet
 hd:o.data=.set es ep t
 tab:sN t es Z
 plain:t.plain=true
 led:t.led=!w.params.followText "set-order"
 big:(t.mask=7/\Z.length<=4)\/(t.mask=31/\Z.length<=18)
 perm:(Z.map (·.2)).Perm qs
def xX(p:KP):Int×Value:=(hsh p.1,Value.ref p.2)
def fL(w:World)(h:Heap)(a:Addr)(ps:List KP):Prop:=∃o es ep t Z,eF w h a (ps.map xX) o es ep t Z/\(∀p∈ps,p.1∈prs)/\(ps.map (·.1)).Nodup
theorem eF.len{w:World}{h:Heap}{a:Addr}{ps:List (Int×Value)}{o es ep t Z}(S:eF w h a ps o es ep t Z):Z.length=ps.length:=by
 have:=S.perm.length_eq;simpa using this
theorem lu{ps:List KP}(hk:∀p∈ps,p.1∈prs)(hn:(ps.map (·.1)).Nodup):ps.length<=15:=by
 have:=jE hn (l2:=prs) (fun x hx=>by obtain⟨p,hp,e⟩:=QJ.mp hx;rw[<- e];exact hk p hp);rw[Pf,zF]at this;exact this
theorem eF.fits{w:World}{h:Heap}{a:Addr}{ps:List (Int×Value)}{o es ep t Z}(S:eF w h a ps o es ep t Z):t.fits es.size=true:=by
 unfold SetTable.fits;rw[S.tab.fill,S.tab.size.1,S.tab.size.2];rcases S.big with⟨h1,h2⟩|⟨h1,h2⟩ <;> simp[h1] <;> omega
theorem eF.cov{w:World}{h:Heap}{a:Addr}{ps:List (Int×Value)}{o es ep t Z}(S:eF w h a ps o es ep t Z){k:List Int}(hk:k∈prs):∀j,j<=t.mask->j∈cY t.mask (hsh k):=by
 rcases S.big with⟨h1,h2⟩|⟨h1,h2⟩ <;> rw[h1]
 ·exact yr Nr hk
 ·exact yr Hj hk
theorem fL.keeps{w:World}{h h':Heap}{a:Addr}{ps:List KP}(S:fL w h a ps)(k:∀o,h.get? a=some o->h'.get? a=some o):fL w h' a ps:=by
 obtain⟨o,es,ep,t,Z,S,hk,hn⟩:=S;exact⟨o,es,ep,t,Z,⟨k o S.ho,S.ex,S.hd,S.tab,S.plain,S.led,S.big,S.perm⟩,hk,hn⟩
section
variable{prog:Program}{w:World}{A:Around}{E:Value->Shared->Prop}{s:Shared}
abbrev Tk(prog:Program)(w:World)(h:Heap)(k:List Int)(r:Addr):Prop:=IsTupleKey (intKind prog w) h k r
theorem items_int{k:List Int}{vs:List Value}(h:ItemsAre (intKind prog w) k vs):∀v∈vs,∃i t,v=.int i t:=by
 induction h with
 |nil=>intro v hv;simp at hv
 | @cons k v' ks vs h1 _ ih=>
  intro v hv;rcases Os.mp hv with q|q
  ·obtain⟨t,e⟩:=N7 (k:=k) (v:=v') h1;exact⟨k,t,by rw[q,e]⟩
  ·exact ih v q
theorem wF{k:List Int}{r:Addr}{Q:Bool->Shared->Prop}(hk:Tk prog w s.heap k r)(h:Q false s):wpAny (model prog w) A (ofAClassStatement 8 (.ref r)) Q E s:=by
 have hT:=hk.typeIs;obtain⟨o,items,n,ho,hc,hd,hi⟩:=hk;unfold ofAClassStatement;refine OG (PF hT ?_);dsimp only;simp only[Qk,Pq];refine OG (OM ?_);simp only[Q8,Ql,Pp];refine OG (Q9 ho hd ?_);dsimp only;refine OG ?_;show wpAny _ _ (forIn items _ _) _ _ s;rw[<- Array.forIn_toList];refine Ra _ (fun rest r s'=>r.1=none/\s'=s/\∀v∈rest,∃i t,v=.int i t) _ ?_ ?_ _ _ ⟨rfl,rfl,items_int hi⟩
 ·rintro v rest r s' ⟨hr, rfl, hall⟩
  obtain⟨i,t,e⟩:=hall v Oo;subst e;unfold ofAClassStatement;refine OG (OM ?_);simp only[Ql,Pp];exact OM ⟨rfl,rfl,fun u hu'=>hall u (Oq _ hu')⟩
 ·rintro ⟨r1, r2⟩ s' ⟨hr, rfl, _⟩
  simp only at hr;subst hr;exact OM h
theorem sJ{k:List Int}{r:Addr}{Q:Bool->Shared->Prop}(hk:Tk prog w s.heap k r)(h:Q true s):wpAny (model prog w) A (hashByValue 8 (.ref r)) Q E s:=by
 have hT:=hk.typeIs;obtain⟨o,items,n,ho,hc,hd,hi⟩:=hk;unfold hashByValue;refine OG (wpAny_specialOf hT F.slot_tuple_hash.lookup ?_);dsimp only;refine OG (Q9 ho hd ?_);refine OG ?_;show wpAny _ _ (forIn items _ _) _ _ s;rw[<- Array.forIn_toList];refine Ra _ (fun rest r s'=>r.1=none/\s'=s/\∀v∈rest,∃i t,v=.int i t) _ ?_ ?_ _ _ ⟨rfl,rfl,items_int hi⟩
 ·rintro v rest r s' ⟨hr, rfl, hall⟩
  obtain⟨i,t,e⟩:=hall v Oo;subst e;unfold hashByValue;refine OG (OM ?_);simp only[Q8,Ql,Pp];exact OM ⟨rfl,rfl,fun u hu'=>hall u (Oq _ hu')⟩
 ·rintro ⟨r1, r2⟩ s' ⟨hr, rfl, _⟩
  simp only at hr;subst hr;exact OM h
theorem DJ{k:List Int}{r:Addr}{ys:List Value}{Q:Bool->Shared->Prop}(hk:Tk prog w s.heap k r)(hy:∀y∈ys,∃k' r',y=.ref r'/\Tk prog w s.heap k' r')(h:Q false s):wpAny (model prog w) A (searchCouldBeSeen (.ref r) ys) Q E s:=by
 unfold searchCouldBeSeen;refine OG ?_;refine Ra _ (fun rest r' s'=>r'.1=none/\s'=s/\∀y∈rest,∃k' r',y=.ref r'/\Tk prog w s.heap k' r') _ ?_ ?_ _ _ ⟨rfl,rfl,hy⟩
 ·rintro v rest q s' ⟨hr, rfl, hall⟩
  obtain⟨k',r',e,hk'⟩:=hall v Oo;subst e;have hrest:=fun u hu'=>hall u (Oq _ hu');dsimp only;by_cases hv:(r == r' || carriedByValue (Value.ref r)&&carriedByValue (Value.ref r'))=true
  ·rw[Ob hv];exact OM ⟨rfl,rfl,hrest⟩
  ·rw[Oc hv];refine OG (wpAny_eqIsQuiet_tuple hk ?_);simp only[Q8,Ql,Pp];refine OG (wpAny_eqIsQuiet_tuple hk' ?_);simp only[Q8,Ql,Pp];refine OG (wF hk ?_);simp only[Ql,Pp];refine OG (wF hk' ?_);simp only[Ql,Pp];exact OM ⟨rfl,rfl,hrest⟩
 ·rintro ⟨r1, r2⟩ s' ⟨hr, rfl, _⟩
  simp only at hr;subst hr;exact OM h
end
end RS
namespace RS
open PySem PyProof.Rows
section
variable{prog:Program}{w:World}{A:Around}{E:Value->Shared->Prop}{s:Shared}
theorem CN{h:Heap}{a:Addr}{ps:List KP}{o es ep t Z}(S:eF w h a (ps.map xX) o es ep t Z){z:Nat×Int×Value}(hz:z∈Z):∃p∈ps,z.2=(hsh p.1,Value.ref p.2):=by
 have:z.2∈Z.map (·.2):=QN hz;obtain⟨p,hp,e⟩:=QJ.mp (S.perm.mem_iff.mp this);exact⟨p,hp,e.symm⟩
theorem Kj{h:Heap}{a:Addr}{ps:List KP}{o es ep t Z}(S:eF w h a (ps.map xX) o es ep t Z){p:KP}(hp:p∈ps):∃z∈Z,z.2=(hsh p.1,Value.ref p.2):=by
 have:xX p∈ps.map xX:=QN hp;obtain⟨z,hz,e⟩:=QJ.mp (S.perm.mem_iff.mpr this);exact⟨z,hz,e⟩
theorem Al{a r:Addr}{k:List Int}{ps:List KP}{o es ep t Z}{Q:SetFound->Shared->Prop}(S:eF w s.heap a (ps.map xX) o es ep t Z)(hks:∀p∈ps,p.1∈prs)(hk:k∈prs)(hr:Tk prog w s.heap k r)(hps:∀p∈ps,Tk prog w s.heap p.1 p.2)(hu:A.units<cLine)
  (h1:k∈ps.map (·.1)->Q (.there none) s)
  (h2:k∉ps.map (·.1)->∀j pre post,j<=t.mask->j∉Z.map (·.1)->cY t.mask (hsh k)=pre++j::post->(∀x∈pre,x∈Z.map (·.1))->Q (.free j false) s) :
  wpAny (model prog w) A (setSearch a (.ref r) (hsh k) true) Q E s:=by
 have hodd:t.gaveWay=false:=by
  unfold SetTable.gaveWay;rcases S.big with⟨q,_⟩|⟨q,_⟩ <;> rw[q] <;> decide
 have hz:Z.length<=t.mask:=by rcases S.big with⟨q,q2⟩|⟨q,q2⟩ <;> omega
 unfold setSearch setSearchFrom;refine OG (Rb S.ho S.hd S.fits ?_);dsimp only;rw[hodd];simp only[Ql,Pp];generalize hpr:SetTable.probe t _ (hsh k) (Option.getD none (t.probeStart (hsh k)))=pr
 have key:∀(hA:Nat->Int) pr,(∀i z,Z[i]?=some z->hA i=z.2.1)->t.probe hA (hsh k) (t.probeStart (hsh k))=pr ->
   (∃i z nx,Z[i]?=some z/\z.2.1=hsh k/\pr=some (.candidate z.1 i nx)) \/
   ((∀z∈Z,z.2.1≠hsh k)/\∃j pre post,pr=some (.empty j none)/\j<=t.mask/\j∉Z.map (·.1)/\cY t.mask (hsh k)=pre++j::post/\∀x∈pre,x∈Z.map (·.1)):=fun hA pr hAe e=>by
  subst e;exact S.tab.search (S.cov hk) hz hA hAe
 rcases key _ pr (fun i z hi=>by show (Option.map (·.1) es[i]?).getD 0=_;rw[S.tab.hashAt hi];rfl) hpr with⟨i,z,nx,hi,ez,e⟩|⟨hno,j,pre,post,e,hj,hn,e2,hp⟩
 ·subst e;dsimp only;have hzm:z∈Z:=Pd hi;obtain⟨p,hp,ep'⟩:=CN S hzm;have ek:p.1=k:=Gp (hks p hp) hk (by rw[<- ez,ep']);have hin:k∈ps.map (·.1):=by rw[<- ek];exact QN hp
  have rest:wpAny (model prog w) A (do
    let some (_,y):=es[i]? | unsupported "internal:set-entry"
    let equal <- holding [y] (eqBool y (.ref r))
    let (es',_,t') <- setState a
    if true&&equal then return SetFound.there none
    let some same:=t'.sameMemory t.moves t.mask|unsupported "set.changed-during-lookup:is-the-new-block-at-the-old-address"
    let still <- match (if same then t'.slot z.1 else .empty) with
     |.live i'=>match es'[i']? with
      |some (_,y')=>do pure (if <- isSame y' y then some i' else none)
      |none=>pure none
     |_=>pure none
    match still with
    |none=>rule "set.search.anew";setSearchFrom a (.ref r) (hsh k) true 99999 none
    |some i'=>if equal then return .there (some i') else setSearchFrom a (.ref r) (hsh k) true 99999 (some nx)) Q E s:=by
   rw[S.tab.hashAt hi,ep'];dsimp only;refine OG (OH (wpAny_eqBool_tuple hu (hps p hp) hr ?_));refine OG (Rb S.ho S.hd S.fits ?_);dsimp only;rw[ek,Qi rfl];simp only[Rc,Pq];exact OM (h1 hin)
  by_cases hl:(!t.led)=true
  ·rw [Ob hl];refine OG (DJ hr (fun y hy=>?_) ?_)
   ·obtain ⟨e', he', q⟩ := QJ.mp hy
    have he2:e'∈es.toList:=by
     have:=Array.mem_filter.mp (Re.mp he');exact Re.mpr this.1
    rw[S.tab.ents]at he2;obtain⟨z',hz',q2⟩:=QJ.mp he2;obtain⟨p',hp',q3⟩:=CN S hz';exact⟨p'.1,p'.2,by rw[<- q,<- q2,q3],hps p' hp'⟩
   ·simp only[Ql,Pp];exact rest
  ·rw[Oc hl];exact rest
 ·subst e;dsimp only;refine OM (h2 (fun hin=>?_) j pre post hj hn e2 hp);obtain⟨p,hpm,ek⟩:=QJ.mp hin;obtain⟨z,hzm,ez⟩:=Kj S hpm;exact hno z hzm (by rw[ez,<- ek])
end
end RS
namespace RS
open PySem PyProof.Rows
def mF(ps:List KP)(k:List Int)(r:Addr):List KP:=if k∈ps.map (·.1) then ps else ps++[(k,r)]
section
variable{prog:Program}{w:World}{A:Around}{E:Value->Shared->Prop}{s:Shared}
theorem HJ{a r:Addr}{k:List Int}{ps:List KP}{Q:Bool->Shared->Prop}(S:fL w s.heap a ps)(hk:k∈prs)(hr:Tk prog w s.heap k r)(hps:∀p∈ps,Tk prog w s.heap p.1 p.2)(hu:A.units<cLine)
  (h:∀b h',Heap.SameBut a s.heap h'->fL w h' a (mF ps k r)->Q b {s with heap:=h'}):wpAny (model prog w) A (setAddHashed a (.ref r) (hsh k)) Q E s:=by
 obtain⟨o,es,ep,t,Z,S,hk0,hn0⟩:=S;unfold setAddHashed setAddHashedIn;refine OH (OG (Rb S.ho S.hd S.fits ?_));dsimp only;have hsc:byScan (Value.ref r) es=false:=rfl;rw[hsc];simp only[Ql,Pp];refine OG (Al S hk0 hk hr hps hu (fun hin=>?_) fun hin j pre post hj hn e hp=>?_)
 ·dsimp only;refine OM ?_;have q:=h false s.heap (Heap.SameBut.refl a s.heap) (by unfold mF;rw[Ob hin];exact⟨o,es,ep,t,Z,S,hk0,hn0⟩);cases s;exact q
 ·dsimp only;refine OG (Rb S.ho S.hd S.fits ?_);dsimp only;obtain⟨Z',T',hperm,et⟩:=S.tab.put (x:=Value.ref r) hj hn e hp;have e2:(t.put j).2=SetTable.below t.place j:=rfl;have hpl:(t.put j).1.plain=true:=by rw[et];exact S.plain
  have hled:(t.put j).1.led=t.led:=by rw[et]
  have hmask:(t.put j).1.mask=t.mask:=by rw[et]
  have hperm':(Z'.map (·.2)).Perm ((ps++[(k,r)]).map xX):=by
   have q1:=hperm.map (·.2);refine q1.trans ?_;rw[PM,QR];refine List.Perm.trans (List.Perm.cons _ S.perm) ?_;exact(List.perm_append_singleton _ _).symm
  have hkeys:∀p∈ps++[(k,r)],p.1∈prs:=fun p hp'=>by
   rcases Ou.mp hp' with q|q
   ·exact hk0 p q
   ·rw[Qw]at q;rw[q];exact hk
  have hnd:((ps++[(k,r)]).map (·.1)).Nodup:=by
   rw[QR];refine Rf.mpr ⟨hn0,by simp,fun x hx y hy=>?_⟩;simp at hy;rw[hy];rintro rfl;exact hin hx
  have hlen15:=lu hkeys hnd;have hZ':Z'.length=ps.length+1:=by rw[hperm.length_eq,Qm,S.len,Pf]
  have hesz:(SetTable.insertAt es (t.put j).2 (hsh k,Value.ref r)).size=Z'.length:=T'.size.2;have hadd:mF ps k r=ps++[(k,r)]:=by unfold mF;rw[Oc hin]
  rw[hadd]at h;rw[Pe,Qd]at hlen15;generalize ht1:(t.put j).1=t1 at *;generalize hes1:SetTable.insertAt es (t.put j).2 (hsh k,Value.ref r)=es1 at *;have hline:es1.size<=sizeLine:=by rw[hesz,hZ'];exact Ol hlen15 (by decide)
  rw[hpl];simp only[Pq];refine OG (sJ hr ?_);simp only[Pq];refine OG (Rg S.ho S.hd ?_ hline)
  have hg:(s.heap.update a (Obj.putSet es1 t1)).get? a=some {o with data:=.set es1 (ep+1) t1}:=by
   have:=PR (Obj.putSet es1 t1) S.ho (by rw[Rh es1 t1 S.hd];rfl);rw[Rh es1 t1 S.hd]at this;exact this
  have hsb1:=Ri s.heap a (Obj.putSet es1 t1);have hfill:t1.fill=ps.length+1:=by rw[T'.fill,hZ']
  by_cases hfull:t1.tooFull=true
  ·simp only [hfull, Rj, Rc, Pq]
   have hm7:t.mask=7/\ps.length=4:=by
    unfold SetTable.tooFull at hfull;rw[hfill,hmask]at hfull;have hf:(ps.length+1)*5 ≥ t.mask*3:=by simpa using hfull
    have hl:=S.len;rw[Pf]at hl;rcases S.big with⟨q,q2⟩|⟨q,q2⟩
    ·rw[q]at hf;exact⟨q,by omega⟩
    ·rw[q]at hf;omega
   have hes0:es.size=4:=by rw[S.tab.size.2,S.len,Pf,hm7.2]
   have hsz1:es1.size=5:=by rw[hesz,hZ',hm7.2]
   have hgr:SetTable.grown (es.size+1)=20:=by rw[hes0];rfl
   rw[hgr];unfold setRelay
   have hfits1:t1.fits es1.size=true:=by
    unfold SetTable.fits;rw[T'.fill,T'.size.1,hesz,hmask,hm7.1,hZ',hm7.2];rfl
   refine OG (OG (Rb hg rfl hfits1 ?_));dsimp only;rw[Oc (by decide)]
   obtain⟨t2,order,Z2,er,T2,hp2,hm2,hl2,hpl2,_⟩:=rL (t:=t1) (es:=es1) (wanted:=20) (mask:=31) (by rfl) (by rw[hsz1];decide) (fun e' he'=>by
    rw[T'.ents]at he';obtain⟨p,hp',q⟩:=QJ.mp (hperm'.mem_iff.mp he');rw[<- q]
    exact yr Hj (hkeys p hp'))
   rw[er]
   have hZ2:Z2.length=5:=by
    have:=hp2.length_eq;simp at this;omega
   have hes2:(order.filterMap (es1[·]?)).size=5:=by rw[T2.size.2,hZ2]
   have hne:((order.filterMap (es1[·]?)).size != es1.size)=false:=by rw[hes2,hsz1];rfl
   refine OG ?_;show wpAny _ A (if ((order.filterMap (es1[·]?)).size != es1.size)=true then _ else _) _ _ _;rw[hne];simp only[Ql,Pp];refine OM ?_;refine Rg hg rfl ?_ (by rw[hes2];decide)
   have hg2:((s.heap.update a (Obj.putSet es1 t1)).update a (Obj.putSet (order.filterMap (es1[·]?)) t2)).get? a=some {o with data:=.set (order.filterMap (es1[·]?)) (ep+1+1) t2}:=by
    have:=PR (Obj.putSet (order.filterMap (es1[·]?)) t2) hg (by rw[Rh _ t2 rfl];rfl);rw[Rh _ t2 rfl]at this;exact this
   refine OM ?_;refine h true _ (hsb1.trans (Ri _ a _)) ⟨_,_,_,t2,Z2,⟨hg2,S.ex,rfl,T2,by rw[hpl2];exact hpl,by rw[hl2,hled];exact S.led,.inr ⟨hm2,by omega⟩,?_⟩,hkeys,hnd⟩;refine hp2.trans ?_;rw[T'.ents];exact hperm'
  ·have hf : t1.tooFull = false := by simpa using hfull
   simp only[hf,Qe,Ql,Pp];refine OM ?_;refine h true _ hsb1 ⟨_,_,_,t1,Z',⟨hg,S.ex,rfl,T',hpl,by rw[hled];exact S.led,?_,hperm'⟩,hkeys,hnd⟩;unfold SetTable.tooFull at hf;rw[hfill,hmask]at hf;have hf':¬ ((ps.length+1)*5 ≥ t.mask*3):=by simpa using hf
   rw[hmask,hZ'];rcases S.big with⟨q,q2⟩|⟨q,q2⟩
   ·rw[q]at hf'⊢;exact .inl ⟨rfl,by omega⟩
   ·rw[q]at hf'⊢;exact .inr ⟨rfl,by omega⟩
end
def f6(qs:List KP):List KP:=qs.foldl (fun ps p=>mF ps p.1 p.2) []
theorem xH(qs:List KP)(p:KP):f6 (qs++[p])=mF (f6 qs) p.1 p.2:=by unfold f6;rw[Rk];rfl
theorem Ed{ps:List KP}{k:List Int}{r:Addr}{p:KP}(h:p∈mF ps k r):p∈ps\/p=(k,r):=by
 unfold mF at h;split at h
 ·exact .inl h
 ·rcases Ou.mp h with q | q
  ·exact .inl q
  ·exact .inr (Qw.mp q)
theorem pA:∀{qs ps:List KP}{p:KP},p∈qs.foldl (fun ps p=>mF ps p.1 p.2) ps->p∈ps\/p∈qs
 |[],_,_,h=>.inl h
 |q::qs,ps,p,h=>by
  rw[Qb]at h;rcases pA h with z|z
  ·rcases Ed z with z | z
   ·exact .inl z
   ·exact .inr (by rw[z];exact Oo)
  ·exact .inr (Oq _ z)
theorem mi{qs:List KP}{p:KP}(h:p∈f6 qs):p∈qs:=(pA h).elim (fun z=>by simp at z) id
theorem zb{ps:List KP}{k:List Int}{r:Addr}(h:(ps.map (·.1)).Nodup):((mF ps k r).map (·.1)).Nodup:=by
 unfold mF;split
 ·exact h
 ·rename_i hn;rw[QR];refine Rf.mpr ⟨h,by simp,fun x hx y hy=>?_⟩;simp at hy;rw[hy];rintro rfl;exact hn hx
theorem lQ:∀{qs ps:List KP},(ps.map (·.1)).Nodup->((qs.foldl (fun ps p=>mF ps p.1 p.2) ps).map (·.1)).Nodup
 |[],_,h=>h
 |q::qs,ps,h=>by rw[Qb];exact lQ (zb h)
theorem vp{qs:List KP}:((f6 qs).map (·.1)).Nodup:=lQ (ps:=[]) Q0
def mI (w:World):Bool:=!w.params.followText "set-order"
theorem pf {w:World}{h:Heap}{a:Addr} (e:h.get? a=some {cls:=.type "set",dict:=none,data:=.set #[] 0 (.fresh 0 0 (mI w))}):fL w h a []:=
 ⟨_,_,_,_,[],⟨e,⟨rfl,rfl,rfl⟩,rfl,⟨rfl,rfl,List.Pairwise.nil,fun z hz=>by simp at hz,rfl,fun z hz=>by simp at hz⟩,rfl,rfl,.inl ⟨rfl,by decide⟩,List.Perm.nil⟩,fun p hp=>by simp at hp,Q0⟩
section
variable{prog:Program}{w:World}{A:Around}{R:Result->Shared->Prop}{I:Addr}{fp wr:List Addr}{G:Array GenState->Array GenState->Prop}{P:Nat->Value->Prop}{St:Nat->Shared->Prop}
structure BL(prog:Program)(w:World)(u:Nat)(S:Addr)(vs:List Value)(J:Nat->Heap->Prop):Prop where
 keep:∀i h h',(∀b o,b<=S->h.get? b=some o->h'.get? b=some o)->J i h->J i h'
 add:∀(A:Around)(i:Nat)(v:Value)(s:Shared)(E:Value->Shared->Prop)(Q:Bool->Shared->Prop),A.units<=u->vs[i]?=some v->J i s.heap ->
  (∀b h' tk,s.toks<=tk->Heap.SameBut S s.heap h'->J (i+1) h'->Q b {s with heap:=h',toks:=tk})->wpAny (model prog w) A (setAdd S v) Q E s
theorem wK{u:Nat}{vs:List Value}{J:Nat->Heap->Prop}(W:WalksS prog w A.in1 I fp wr G vs.length P St)(S:Addr)(hSf:S∉fp)(hwr:∀b∈wr,S<b)(hP:∀(i:Nat) v,P i v->vs[i]?=some v)(hJ:BL prog w u S vs J)(hu:A.units+1<=u) :
  ∀(k i:Nat)(s:Shared),vs.length-i=k->i<=vs.length->St i s->J i s.heap ->
   (∀s',Moved (S::wr) G s s'->J vs.length s'.heap->R (.ok (.ret .none)) s') ->
   codeAny (model prog w) A (.builtin "set.update.loop" ⟨[.ref S,.ref I],[]⟩) R s:=by
 have hSw:S∉wr:=fun h=>hSf (W.sub _ h);have hsub:∀b∈wr,b∈S::wr:=fun b hb=>Oq _ hb;have hle:∀b,b<=S->b∉wr:=fun b hb z=>Og _ (Of (hwr b z) hb);intro k
 induction k with
 |zero=>
  intro i s ek hi hst hS hR;have hin:i=vs.length:=by omega
  subst hin;refine Rm F.entry_set_update_loop ?_;rw[Rn Rp _];show wpAny _ A.in1 (pyNext (.ref I) >>= _) _ _ s;refine OG (W.done s _ _ hst fun s' hm=>?_);show wpAny _ A.in1 (ret Value.none) _ _ s';exact OM (hR s' (hm.mono hsub) (hJ.keep _ _ _ (fun b o hb e=>hm.heap b o (hle b hb) e) hS))
 |succ k ih=>
  intro i s ek hi hst hS hR;have hlt:i<vs.length:=by omega
  refine Rm F.entry_set_update_loop ?_;rw[Rn Rp _];show wpAny _ A.in1 (pyNext (.ref I) >>= _) _ _ s;refine OG (W.item i s _ _ hlt hst fun v s' hPv hst' hm=>?_);have hv:=hP i v hPv;have hS':=hJ.keep i _ s'.heap (fun b o hb e=>hm.heap b o (hle b hb) e) hS;show wpAny _ A.in1 (holding [v] (setAdd S v) >>= _) _ _ s';refine OG (OH ?_);refine hJ.add A.in1 i v s' _ _ (by show A.units+1<=u;exact hu) hv hS' fun b h' tk ht hsb hS2=>?_;have hkeep:∀b o,b≠S->s'.heap.get? b=some o->h'.get? b=some o:=fun b o hb e=>(hsb.2 b hb).trans e;refine OM ⟨Rq Rp _,ih (i+1) _ (by omega) hlt (W.frame _ s' _ _ hst' ht fun b hb o e=>hkeep b o (fun z=>hSf (by rw[<- z];exact hb)) e) hS2 fun s'' hm'' hS''=>?_⟩;refine hR s'' (Moved.trans W.gtrans ((hm.mono hsub).then_heap ht fun b o hb e=>?_) hm'') hS'';exact hkeep b o (fun z=>hb (by rw[z];exact Oo)) e
end
section
variable{prog:Program}{w:World}{A:Around}{E:Value->Shared->Prop}{s:Shared}
theorem nC(a:Value){Q1:Value->Shared->Prop}
  (h:Q1 (.ref s.heap.objs.size) {s with heap:=s.heap.push {cls:=.type "set",dict:=none,data:=.set #[] 0 (.fresh 0 0 (mI w))}}) :
  codeAny (model prog w) A (.call (.builtin "set.__new__") ⟨[.type "set",a],[]⟩) (wants Q1 E) s:=by
 refine Qs ?_;show wpAny _ A.in1 (do checkBuiltinCall "set.__new__" ⟨[.type "set",a],[]⟩;again (.builtin "set.__new__" ⟨[.type "set",a],[]⟩)) _ _ s;refine OG (Rt (F.newCall_set_1 a) (OM ⟨Rq F.plain_set_new _,Rm F.entry_set_new ?_⟩));rw[Rn F.plain_set_new _];unfold Builtin.«set.__new__» Builtin.Frozenset.newClass;have hsub:=sub_set_self;obtain⟨hp,g,d,tk,os⟩:=s;dsimp only
 wp_walk
 refine Qt (OM ?_);dsimp only;simp only[newObj];refine OG (wpAny_alloc (OM ?_));exact OM h
namespace F
theorem sub_list_set:isSubtype (.type "list") (.type "set")=pure false:=by rw[Ru];kernel_rfl
theorem sub_list_frozenset:isSubtype (.type "list") (.type "frozenset")=pure false:=by rw[Ru];kernel_rfl
end F
theorem nv{l:Addr}{items:Array Value}{J:Nat->Heap->Prop}{Q:Value->Shared->Prop}
  (hh:A.handled=none) (hl:s.heap.IsList l items) (hJ:BL prog w (A.units+20) s.heap.objs.size items.toList J)
  (h0:∀h',(∀b o,s.heap.get? b=some o->h'.get? b=some o)->h'.get? s.heap.objs.size=some {cls:=.type "set",dict:=none,data:=.set #[] 0 (.fresh 0 0 (mI w))}->J 0 h')
  (h:∀(h':Heap)(tk:Nat),J items.size h'->(∀b o,b<s.heap.objs.size->s.heap.get? b=some o->h'.get? b=some o)->Q (.ref s.heap.objs.size) {s with heap:=h',toks:=tk}) :
  wpAny (model prog w) A (call (.type "set") [.ref l]) Q E s:=by
 obtain⟨c,tl,hmro⟩:=Rv.mro;have hmade:=Rv.made;have hsub:=Rv.sub;refine OZ (Qs ?_);show wpAny _ _ (callAny (.type "set") _) _ _ _;refine OM ⟨Rw _ (by decide +kernel),Rm PySem.F.entry_type_call ?_⟩;rw[Around.under_plain (weight_type_call_type "set" [.ref l] []) rfl];have h1:=Rv.notType;have h2:=Rv.canCreate;have hct:=PySem.F.typeCall_set_1 (.ref l)
 repeat (any_goals (first|assumption|wp_step))
 refine O0 (nC (.ref l) (E:=E) (Q1:=fun obj s1=>obj=.ref s.heap.objs.size/\s1={s with heap:=s.heap.push {cls:=.type "set",dict:=none,data:=.set #[] 0 (.fresh 0 0 (mI w))}}) ⟨rfl,rfl⟩) fun r s1 hr=>?_;cases r with
 |error e=>exact hr
 |ok fl=>
  cases fl with
  |ret obj=>
   obtain⟨rfl,rfl⟩:=hr;generalize hled:mI w=led;have hS:(s.heap.push {cls:=.type "set",dict:=none,data:=.set #[] 0 (.fresh 0 0 led)}).get? s.heap.objs.size=some {cls:=.type "set",dict:=none,data:=.set #[] 0 (.fresh 0 0 led)}:=OQ _ rfl;have hTy:Shared.TypeIs {s with heap:=s.heap.push {cls:=.type "set",dict:=none,data:=.set #[] 0 (.fresh 0 0 led)}} (.ref s.heap.objs.size) "set" := ⟨_,hS,rfl⟩;have hli:=Rv.init.lookup;have hbi:=Rv.init.bind (.ref s.heap.objs.size)
   repeat (any_goals (first|assumption|wp_step))
   refine O0 (Rx (R:=wants (fun r s2=>r=.none/\∃h' tk,s2={s with heap:=h',toks:=tk}/\J items.size h' /\
     (∀b o,b<s.heap.objs.size->s.heap.get? b=some o->h'.get? b=some o)) E) Rv.init.plain PySem.F.entry_set_init (check_set_init_1 hTy ?_)) fun r2 s2 hr2=>?_
   ·obtain ⟨ol, hol, hcl, nl, hdl⟩ := hl;obtain⟨ocls,odict,odata,oslots⟩:=ol;simp only at hcl hdl;subst hcl;subst hdl;have hol':(s.heap.push {cls:=.type "set",dict:=none,data:=.set #[] 0 (.fresh 0 0 led)}).get? l=some {cls:=.type "list",dict:=odict,data:=.seq items nl,slots:=oslots}:=OP _ hol;have hsls:=F.sub_list_set;have hslf:=F.sub_list_frozenset;have hne:(Value.type "list" == Value.type "dict")=false:=by decide
    have hl1:(s.heap.push {cls:=.type "set",dict:=none,data:=.set #[] 0 (.fresh 0 0 led)}).IsList l items:=⟨_,hol',rfl,nl,rfl⟩;unfold Builtin.«set.__init__» noKeywords Builtin.Frozenset.updateFrom;generalize hPI:pyIter=PI
    wp_walk
    subst hPI;refine Ry hl1 ?_;refine OG (Rz ?_);have hlS:l<s.heap.objs.size:=Oe hol;have hh3:A.in1.in1.in1.handled=none:=by simp[hh]
    have hneI:l≠(s.heap.push {cls:=.type "set",dict:=none,data:=.set #[] 0 (.fresh 0 0 led)}).objs.size:=by
     rw[Qp];exact Oh (Qo hlS)
    have hSf:s.heap.objs.size ∉ [(s.heap.push {cls:=.type "set",dict:=none,data:=.set #[] 0 (.fresh 0 0 led)}).objs.size,l]:=by
     rw[Qp];simp only[Os,Qw,RA,RB,not_or];exact⟨Oh (Qn _),OL hlS⟩
    have W:=(RC (prog:=prog) (w:=w) hh3 (s.heap.push {cls:=.type "set",dict:=none,data:=.set #[] 0 (.fresh 0 0 led)}).objs.size l hneI items).toS;rw[show items.size=items.toList.length by rw[OD]]at W
    refine wK W s.heap.objs.size hSf (fun b hb=>?_) (fun i v hv=>by rw[QI];exact hv) hJ (by simp only[Around.in1];omega) (items.toList.length-0) 0 _ (by omega) (Qv _)
     ⟨⟨_,OQ _ rfl,rfl,rfl⟩,?hL⟩ ?hS0 ?hR
    case hL=>
     obtain⟨o,ho,rest⟩:=hl1;exact⟨o,OP _ ho,rest⟩
    case hS0=>
     refine h0 _ (fun b o e=>OP _ (OP _ e)) ?_;rw[hled];exact OP _ hS
    case hR=>
     intro s' hm hS';obtain⟨h',g',d',tk',os'⟩:=s';have eg:g'=s.gens:=hm.gens;have ed:d'=s.drawn:=hm.drawn;have eo:os'=s.os:=hm.os;subst eg;subst ed;subst eo;show wpAny _ _ _ _ _ _;refine OM ?_;show wpAny _ _ (ret Value.none) _ _ _;refine OM ⟨rfl,h',tk',rfl,by rw[OD]at hS';exact hS',fun b o hb e=>?_⟩;have hb1:b≠s.heap.objs.size:=Oh hb
     have hb2:b≠(s.heap.push {cls:=.type "set",dict:=none,data:=.set #[] 0 (.fresh 0 0 led)}).objs.size:=by
      rw[Qp];exact Oh (Qo hb)
     exact hm.heap b o (by simp only[Os,Qw,RA,RB,not_or];exact⟨hb1,hb2⟩) (OP _ (OP _ e))
    ·rw[Qp]at hb;rw[Qw.mp hb];exact Qn _
   ·cases r2 with
    |error e=>exact hr2
    |ok fl2=>
     cases fl2 with
     |ret r=>
      obtain⟨rfl,h',tk,rfl,hS',hk'⟩:=hr2
      repeat (any_goals (first|assumption|wp_step))
      exact h _ _ hS' hk'
     |_=>exact hr2.elim
  |_=>exact hr.elim
namespace F
theorem sub_tuple_set:isSubtype (.type "tuple") (.type "set")=pure false:=by rw[Ru];kernel_rfl
theorem sub_tuple_frozenset:isSubtype (.type "tuple") (.type "frozenset")=pure false:=by rw[Ru];kernel_rfl
end F
theorem lP{l:Addr}{items:Array Value}{J:Nat->Heap->Prop}{Q:Value->Shared->Prop}
  (hh:A.handled=none) (hl:s.heap.IsTuple l items) (hJ:BL prog w (A.units+20) s.heap.objs.size items.toList J)
  (h0:∀h',(∀b o,s.heap.get? b=some o->h'.get? b=some o)->h'.get? s.heap.objs.size=some {cls:=.type "set",dict:=none,data:=.set #[] 0 (.fresh 0 0 (mI w))}->J 0 h')
  (h:∀(h':Heap)(tk:Nat),J items.size h'->(∀b o,b<s.heap.objs.size->s.heap.get? b=some o->h'.get? b=some o)->Q (.ref s.heap.objs.size) {s with heap:=h',toks:=tk}) :
  wpAny (model prog w) A (call (.type "set") [.ref l]) Q E s:=by
 obtain⟨c,tl,hmro⟩:=Rv.mro;have hmade:=Rv.made;have hsub:=Rv.sub;refine OZ (Qs ?_);show wpAny _ _ (callAny (.type "set") _) _ _ _;refine OM ⟨Rw _ (by decide +kernel),Rm PySem.F.entry_type_call ?_⟩;rw[Around.under_plain (weight_type_call_type "set" [.ref l] []) rfl];have h1:=Rv.notType;have h2:=Rv.canCreate;have hct:=PySem.F.typeCall_set_1 (.ref l)
 repeat (any_goals (first|assumption|wp_step))
 refine O0 (nC (.ref l) (E:=E) (Q1:=fun obj s1=>obj=.ref s.heap.objs.size/\s1={s with heap:=s.heap.push {cls:=.type "set",dict:=none,data:=.set #[] 0 (.fresh 0 0 (mI w))}}) ⟨rfl,rfl⟩) fun r s1 hr=>?_;cases r with
 |error e=>exact hr
 |ok fl=>
  cases fl with
  |ret obj=>
   obtain⟨rfl,rfl⟩:=hr;generalize hled:mI w=led;have hS:(s.heap.push {cls:=.type "set",dict:=none,data:=.set #[] 0 (.fresh 0 0 led)}).get? s.heap.objs.size=some {cls:=.type "set",dict:=none,data:=.set #[] 0 (.fresh 0 0 led)}:=OQ _ rfl;have hTy:Shared.TypeIs {s with heap:=s.heap.push {cls:=.type "set",dict:=none,data:=.set #[] 0 (.fresh 0 0 led)}} (.ref s.heap.objs.size) "set" := ⟨_,hS,rfl⟩;have hli:=Rv.init.lookup;have hbi:=Rv.init.bind (.ref s.heap.objs.size)
   repeat (any_goals (first|assumption|wp_step))
   refine O0 (Rx (R:=wants (fun r s2=>r=.none/\∃h' tk,s2={s with heap:=h',toks:=tk}/\J items.size h' /\
     (∀b o,b<s.heap.objs.size->s.heap.get? b=some o->h'.get? b=some o)) E) Rv.init.plain PySem.F.entry_set_init (check_set_init_1 hTy ?_)) fun r2 s2 hr2=>?_
   ·obtain ⟨ol, hol, hcl, nl, hdl⟩ := hl;obtain⟨ocls,odict,odata,oslots⟩:=ol;simp only at hcl hdl;subst hcl;subst hdl;have hol':(s.heap.push {cls:=.type "set",dict:=none,data:=.set #[] 0 (.fresh 0 0 led)}).get? l=some {cls:=.type "tuple",dict:=odict,data:=.seq items nl,slots:=oslots}:=OP _ hol;have hsls:=F.sub_tuple_set;have hslf:=F.sub_tuple_frozenset;have hne:(Value.type "tuple" == Value.type "dict")=false:=by decide
    have hl1:(s.heap.push {cls:=.type "set",dict:=none,data:=.set #[] 0 (.fresh 0 0 led)}).IsTuple l items:=⟨_,hol',rfl,nl,rfl⟩;unfold Builtin.«set.__init__» noKeywords Builtin.Frozenset.updateFrom;generalize hPI:pyIter=PI
    wp_walk
    subst hPI;refine RD hl1 ?_;refine OG (Rz ?_);have hlS:l<s.heap.objs.size:=Oe hol;have hh3:A.in1.in1.in1.handled=none:=by simp[hh]
    have hneI:l≠(s.heap.push {cls:=.type "set",dict:=none,data:=.set #[] 0 (.fresh 0 0 led)}).objs.size:=by
     rw[Qp];exact Oh (Qo hlS)
    have hSf:s.heap.objs.size ∉ [(s.heap.push {cls:=.type "set",dict:=none,data:=.set #[] 0 (.fresh 0 0 led)}).objs.size,l]:=by
     rw[Qp];simp only[Os,Qw,RA,RB,not_or];exact⟨Oh (Qn _),OL hlS⟩
    have W:=(RE (prog:=prog) (w:=w) hh3 (s.heap.push {cls:=.type "set",dict:=none,data:=.set #[] 0 (.fresh 0 0 led)}).objs.size l hneI items).toS;rw[show items.size=items.toList.length by rw[OD]]at W
    refine wK W s.heap.objs.size hSf (fun b hb=>?_) (fun i v hv=>by rw[QI];exact hv) hJ (by simp only[Around.in1];omega) (items.toList.length-0) 0 _ (by omega) (Qv _)
     ⟨⟨_,OQ _ rfl,rfl,rfl⟩,?hL⟩ ?hS0 ?hR
    case hL=>
     obtain⟨o,ho,rest⟩:=hl1;exact⟨o,OP _ ho,rest⟩
    case hS0=>
     refine h0 _ (fun b o e=>OP _ (OP _ e)) ?_;rw[hled];exact OP _ hS
    case hR=>
     intro s' hm hS';obtain⟨h',g',d',tk',os'⟩:=s';have eg:g'=s.gens:=hm.gens;have ed:d'=s.drawn:=hm.drawn;have eo:os'=s.os:=hm.os;subst eg;subst ed;subst eo;show wpAny _ _ _ _ _ _;refine OM ?_;show wpAny _ _ (ret Value.none) _ _ _;refine OM ⟨rfl,h',tk',rfl,by rw[OD]at hS';exact hS',fun b o hb e=>?_⟩;have hb1:b≠s.heap.objs.size:=Oh hb
     have hb2:b≠(s.heap.push {cls:=.type "set",dict:=none,data:=.set #[] 0 (.fresh 0 0 led)}).objs.size:=by
      rw[Qp];exact Oh (Qo hb)
     exact hm.heap b o (by simp only[Os,Qw,RA,RB,not_or];exact⟨hb1,hb2⟩) (OP _ (OP _ e))
    ·rw[Qp]at hb;rw[Qw.mp hb];exact Qn _
   ·cases r2 with
    |error e=>exact hr2
    |ok fl2=>
     cases fl2 with
     |ret r=>
      obtain⟨rfl,h',tk,rfl,hS',hk'⟩:=hr2
      repeat (any_goals (first|assumption|wp_step))
      exact h _ _ hS' hk'
     |_=>exact hr2.elim
  |_=>exact hr.elim
theorem rS{qs:List KP}{S:Addr}{u:Nat}(hk:∀p∈qs,p.1∈prs)(hS:∀p∈qs,p.2<S)(hu:u<cLine):BL prog w u S (qs.map fun p=>Value.ref p.2) (fun i h=>fL w h S (f6 (qs.take i))/\∀p∈qs,Tk prog w h p.1 p.2):=by
 have keepT:∀{h1 h2:Heap}{q:KP},q∈qs->(∀b o,b<S->h1.get? b=some o->h2.get? b=some o)->Tk prog w h1 q.1 q.2->Tk prog w h2 q.1 q.2:=fun {h1 h2 q} hq kk t=>by
  obtain⟨o,items,n,ho,r⟩:=t;exact⟨o,items,n,kk _ o (hS q hq) ho,r⟩
 refine⟨fun i h h' hk' ⟨j1,j2⟩=>⟨j1.keeps fun o e=>hk' S o (OR _) e,fun p hp=>keepT hp (fun b o hb e=>hk' b o (Om hb) e) (j2 p hp)⟩,fun A i v s E Q hA hv ⟨j1,j2⟩ hQ=>?_⟩;rw[Pb]at hv;cases e:qs[i]? with
 |none=>rw[e]at hv;cases hv
 |some p=>
  rw[e]at hv;cases hv;have hpm:p∈qs:=Pd e;unfold setAdd;refine OH ?_;refine OG (wpAny_pyHash_tuple (by omega) (j2 p hpm) ?_);rw[J2];refine HJ (s:={s with toks:=s.toks+(p.1.length+1)}) j1 (hk p hpm) (j2 p hpm) (fun q hq=>j2 q (QX (mi hq))) (by omega) fun b h' hsb hS2=>?_;have etk:qs.take (i+1)=qs.take i++[p]:=by rw[RF,e];rfl
  refine hQ b h' _ (Nat.le_add_right _ _) hsb ⟨by rw[etk,xH];exact hS2,fun q hq=>keepT hq (fun b o hb e=>(hsb.2 b (Oh hb)).trans e) (j2 q hq)⟩
theorem CA{qs:List KP}(hT:∀p∈qs,Tk prog w s.heap p.1 p.2):∀p∈qs,p.2<s.heap.objs.size:=fun p hp=>by
 obtain⟨o,_,_,ho,_⟩:=hT p hp;exact Oe ho
theorem xn{l:Addr}{items:Array Value}{qs:List KP}{Q:Value->Shared->Prop}
  (hh:A.handled=none) (hl:s.heap.IsList l items) (hi:items.toList=qs.map fun p=>Value.ref p.2) (hk:∀p∈qs,p.1∈prs) (hT:∀p∈qs,Tk prog w s.heap p.1 p.2) (hu:A.units+20<cLine)
  (h:∀(h':Heap)(tk:Nat),fL w h' s.heap.objs.size (f6 qs)->(∀b o,b<s.heap.objs.size->s.heap.get? b=some o->h'.get? b=some o)->Q (.ref s.heap.objs.size) {s with heap:=h',toks:=tk}) :
  wpAny (model prog w) A (call (.type "set") [.ref l]) Q E s:=by
 have hlen:items.size=qs.length:=by rw[<- OD,hi,Pf]
 refine nv hh hl (hi ▸ rS hk (CA hT) hu) (fun h' k e=>⟨pf e,fun p hp=>?_⟩) fun h' tk ⟨j1,_⟩=>h h' tk ?_
 ·obtain⟨o,its,n,ho,rest⟩:=hT p hp;exact⟨o,its,n,k _ _ ho,rest⟩
 ·rw[hlen,RG]at j1;exact j1
theorem u6{l:Addr}{items:Array Value}{qs:List KP}{Q:Value->Shared->Prop}
  (hh:A.handled=none) (hl:s.heap.IsTuple l items) (hi:items.toList=qs.map fun p=>Value.ref p.2) (hk:∀p∈qs,p.1∈prs) (hT:∀p∈qs,Tk prog w s.heap p.1 p.2) (hu:A.units+20<cLine)
  (h:∀(h':Heap)(tk:Nat),fL w h' s.heap.objs.size (f6 qs)->(∀b o,b<s.heap.objs.size->s.heap.get? b=some o->h'.get? b=some o)->Q (.ref s.heap.objs.size) {s with heap:=h',toks:=tk}) :
  wpAny (model prog w) A (call (.type "set") [.ref l]) Q E s:=by
 have hlen:items.size=qs.length:=by rw[<- OD,hi,Pf]
 refine lP hh hl (hi ▸ rS hk (CA hT) hu) (fun h' k e=>⟨pf e,fun p hp=>?_⟩) fun h' tk ⟨j1,_⟩=>h h' tk ?_
 ·obtain⟨o,its,n,ho,rest⟩:=hT p hp;exact⟨o,its,n,k _ _ ho,rest⟩
 ·rw[hlen,RG]at j1;exact j1
end
end RS
namespace RS
open PySem PySem.W PyProof.Rows
structure fN(n:Nat)(p:Array Nat):Prop where
 size:p.size=n
 perm:p.toList.Perm (List.range n)
def at'(key:Nat->Int)(p:Array Nat)(k:Nat):Int:=key (p.getD k 0)
def El(key:Nat->Int)(p:Array Nat)(m:Nat):Prop:=∀i j,i<j->j<m->at' key p i<at' key p j
def EA(key:Nat->Int)(p:Array Nat)(m:Nat):Prop:=∀i j,i<j->j<m->at' key p j<at' key p i
section
variable{n:Nat}{key:Nat->Int}{cmp:Nat->Nat->(Bool->Shared->Prop)->Shared->Prop}{s:Shared}{p:Array Nat}
theorem fN.lt(g:fN n p){k:Nat}(hk:k<n):p.getD k 0<n:=by
 have hs:k<p.size:=by rw[g.size];exact hk
 have:p[k]∈p.toList:=by rw[Re];exact Array.getElem_mem hs
 have:=g.perm.mem_iff.mp this;rw[Oj]at this;simpa[Array.getD,hs] using this
theorem fN.inj(g:fN n p){k k':Nat}(hk:k<n)(hk':k'<n)(e:p.getD k 0=p.getD k' 0):k=k':=by
 have hs:k<p.toList.length:=by rw[OD,g.size];exact hk
 have hs':k'<p.toList.length:=by rw[OD,g.size];exact hk'
 have nd:p.toList.Nodup:=g.perm.nodup_iff.mpr QL;refine(Ox (h₀:=hs) (h₁:=hs') nd).mp ?_;have h1:k<p.size:=by rw[g.size];exact hk
 have h2:k'<p.size:=by rw[g.size];exact hk'
 simpa[Array.getD,h1,h2] using e
variable(hkey:∀i j,i<n->j<n->key i=key j->i=j)(hc:∀i j,i<n->j<n->∀C:Bool->Shared->Prop,C (decide (key i<key j)) s->cmp i j C s)
include hkey in
theorem B6(g:fN n p){k k':Nat}(hk:k<n)(hk':k'<n)(h:k≠k'):at' key p k≠at' key p k':=fun e=>h (g.inj hk hk' (hkey _ _ (g.lt hk) (g.lt hk') e))
include hkey hc
theorem yw(g:fN n p):∀(f m:Nat)(Q:Nat->Shared->Prop),1<=m->m+f<=n->El key p m->(∀m',m<=m'->m'<=m+f->El key p m'->(m'=m+f\/at' key p m'<at' key p (m'-1))->Q m' s)->(kas_asc p f m).kasWp cmp Q s
 |0,m,Q,h1,h2,ha,hQ=>hQ m (OR _) (OR _) ha (.inl rfl)
 |f+1,m,Q,h1,h2,ha,hQ=>by
  show cmp (p.getD m 0) (p.getD (m-1) 0) _ s;refine hc _ _ (g.lt (by omega)) (g.lt (by omega)) _ ?_;by_cases hlt:key (p.getD m 0)<key (p.getD (m-1) 0)
  ·rw[Qi hlt];(show (if true=true then _ else _:KasT _).kasWp cmp _ s);rw[Ob rfl];exact hQ m (OR _) (by omega) ha (.inr hlt)
  ·rw [N8 hlt]; (show (if false = true then _ else _ : KasT _).kasWp cmp _ s); rw [Oc OK];have hne:=B6 hkey g (k:=m) (k':=m-1) (by omega) (by omega) (by omega);have hgt:at' key p (m-1)<at' key p m:=by unfold at' at *;omega
   refine yw g f (m+1) Q (by omega) (by omega) (fun i j hij hj=>?_) (fun m' a b c d=>hQ m' (by omega) (by omega) c (d.elim (fun e=>.inl (by omega)) .inr));by_cases ej:j=m
   ·subst ej;by_cases ei:i=j-1
    ·rw[ei];exact hgt
    ·have:=ha i (j-1) (by omega) (by omega);omega
   ·exact ha i j hij (by omega)
theorem zW(g:fN n p):∀(f m:Nat)(Q:Array Nat×Nat×Nat->Shared->Prop),1<=m->m+f<=n->EA key p m->(∀m',m<=m'->m'<=m+f->EA key p m'->Q (p,m',0) s)->(kas_desc f p m 0).kasWp cmp Q s
 |0,m,Q,h1,h2,ha,hQ=>hQ m (OR _) (OR _) ha
 |f+1,m,Q,h1,h2,ha,hQ=>by
  show cmp (p.getD m 0) (p.getD (m-1) 0) _ s;refine hc _ _ (g.lt (by omega)) (g.lt (by omega)) _ ?_;by_cases hlt:key (p.getD m 0)<key (p.getD (m-1) 0)
  ·rw [Qi hlt]; (show (if true = true then _ else _ : KasT _).kasWp cmp _ s); rw [Ob rfl, Oc (by omega)];refine zW g f (m+1) Q (by omega) (by omega) (fun i j hij hj=>?_) (fun m' a b c=>hQ m' (by omega) (by omega) c);by_cases ej:j=m
   ·subst ej;by_cases ei:i=j-1
    ·rw[ei];exact hlt
    ·have:=ha i (j-1) (by omega) (by omega);have:at' key p j<at' key p (j-1):=hlt;omega
   ·exact ha i j hij (by omega)
  ·rw [N8 hlt]; (show (if false = true then _ else _ : KasT _).kasWp cmp _ s); rw [Oc OK];show cmp (p.getD (m-1) 0) (p.getD m 0) _ s;refine hc _ _ (g.lt (by omega)) (g.lt (by omega)) _ ?_;have hne:=B6 hkey g (k:=m) (k':=m-1) (by omega) (by omega) (by omega);have hgt:key (p.getD (m-1) 0)<key (p.getD m 0):=by unfold at' at hne;omega
   rw[Qi hgt];(show (if true=true then _ else _:KasT _).kasWp cmp _ s);rw[Ob rfl];exact hQ m (OR _) (by omega) ha
omit hkey hc in
theorem qT{p p':Array Nat}{k k':Nat}(h:p[k]?=p'[k']?):at' key p k=at' key p' k':=by
 unfold at';rw[QU,QU,h]
omit hkey hc in
theorem tM{p':Array Nat}(g:fN n p)(h:p'.Perm p)(hs:p'.size=p.size):fN n p':=⟨hs.trans g.size,(Array.perm_iff_toList_perm.mp h).trans g.perm⟩
omit hkey hc in
theorem Fu(g:fN n p){m:Nat}(hm:m<=n)(hd:EA key p m):fN n (kas_rev p 0 m)/\El key (kas_rev p 0 m) m:=by
 have hs:m<=p.size:=by rw[g.size];exact hm
 refine⟨tM g (mirror_perm _ _ _ _) (mirror_size _ _ _ _),fun i j hij hj=>?_⟩;have ei:at' key (kas_rev p 0 m) i=at' key p (0+m-1-i):=qT (by unfold kas_rev;rw[getElem?_mirror_all hs,Ob ⟨Qv _,by omega⟩]);have ej:at' key (kas_rev p 0 m) j=at' key p (0+m-1-j):=qT (by unfold kas_rev;rw[getElem?_mirror_all hs,Ob ⟨Qv _,by omega⟩]);rw[ei,ej];exact hd _ _ (by omega) (by omega)
theorem C1(g:fN n p){m:Nat}(h1:1<=m)(hm:m<=n)(hd:EA key p m)(Q:Nat×Array Nat->Shared->Prop)(hQ:∀m' p',fN n p'->1<=m'->m'<=n->El key p' m'->Q (m',p') s):(kas_tail3 m n p).kasWp cmp Q s:=by
 obtain⟨g',ha⟩:=Fu (key:=key) g hm hd;unfold kas_tail3;rw[RH];exact yw hkey hc g' (n-m) m _ h1 (by omega) ha fun m' a b c d=>hQ m' _ g' (by omega) (by omega) c
theorem D5(g:fN n p)(h2:2<=n)(Q:Nat×Array Nat->Shared->Prop)(hQ:∀m' p',fN n p'->1<=m'->m'<=n->El key p' m'->Q (m',p') s):(kas_count n p).kasWp cmp Q s:=by
 unfold kas_count;rw[RH];refine yw hkey hc g (n-1) 1 _ (OR _) (by omega) (fun i j hij hj=>by omega) fun m a b c d=>?_;by_cases e:m=n
 ·rw[Ob (by simpa using e)];exact hQ m p g a (by omega) c
 ·rw [Oc (by simpa using e)];by_cases h1:m>1
  ·rw[Ob h1];show cmp (p.getD 0 0) (p.getD (m-1) 0) _ s;refine hc _ _ (g.lt (by omega)) (g.lt (by omega)) _ ?_;have:at' key p 0<at' key p (m-1):=c 0 (m-1) (by omega) (by omega);rw[Qi (show key (p.getD 0 0)<key (p.getD (m-1) 0) from this)];(show (if true=true then _ else _:KasT _).kasWp cmp _ s);rw[Ob rfl];exact hQ m p g a (by omega) c
  ·rw [Oc h1];have em:m=1:=by omega
   subst em;unfold kas_descPart;rw[RH];have hlt:at' key p 1<at' key p 0:=d.elim (fun e'=>by omega) id;refine zW hkey hc g (n-(1+1)) (1+1) _ (by omega) (by omega) (fun i j hij hj=>?_) fun m' a' b' c'=>?_
   ·have ei : i = 0 := by omega
    have ej:j=1:=by omega
    rw[ei,ej];exact hlt
   ·show (if (0:Nat)>0 then _ else _:KasT (Nat×Array Nat)).kasWp cmp Q s;rw[Oc (by omega)];exact C1 hkey hc g (by omega) (by omega) c' Q hQ
theorem rk(g:fN n p){k:Nat}(hk:k<n)(ha:El key p k):∀(f l r:Nat)(Q:Nat->Shared->Prop),l<=r->r<=k->r-l<=f->(∀i,i<l->at' key p i<at' key p k)->(∀i,r<=i->i<k->at' key p k<at' key p i) ->
  (∀l',l'<=k->(∀i,i<l'->at' key p i<at' key p k)->(∀i,l'<=i->i<k->at' key p k<at' key p i)->Q l' s)->(kas_place p k f l r).kasWp cmp Q s
 |0,l,r,Q,h1,h2,h3,ha1,hb1,hQ=>by
  have e:l=r:=by omega
  subst e;exact hQ l h2 ha1 hb1
 |f+1,l,r,Q,h1,h2,h3,ha1,hb1,hQ=>by
  unfold kas_place;by_cases e:l ≥ r
  ·rw [Ob e];have e':l=r:=by omega
   subst e';exact hQ l h2 ha1 hb1
  ·rw [Oc e];show cmp (p.getD k 0) (p.getD ((l+r) / 2) 0) _ s;refine hc _ _ (g.lt hk) (g.lt (by omega)) _ ?_;by_cases hlt:key (p.getD k 0)<key (p.getD ((l+r) / 2) 0)
   ·rw [Qi hlt]; (show (if true = true then _ else _ : KasT _).kasWp cmp _ s); rw [Ob rfl];refine rk g hk ha f l ((l+r) / 2) Q (by omega) (by omega) (by omega) ha1 (fun i hi hik=>?_) hQ;by_cases ei:i=(l+r) / 2
    ·rw[ei];exact hlt
    ·have:=ha ((l+r) / 2) i (by omega) hik;have:at' key p k<at' key p ((l+r) / 2):=hlt;omega
   ·rw [N8 hlt]; (show (if false = true then _ else _ : KasT _).kasWp cmp _ s); rw [Oc OK];have hne:=B6 hkey g (k:=k) (k':=(l+r) / 2) hk (by omega) (by omega);have hgt:at' key p ((l+r) / 2)<at' key p k:=by unfold at' at *;omega
    refine rk g hk ha f ((l+r) / 2+1) r Q (by omega) h2 (by omega) (fun i hi=>?_) hb1 hQ;by_cases ei:i=(l+r) / 2
    ·rw[ei];exact hgt
    ·have:=ha i ((l+r) / 2) (by omega) (by omega);omega
theorem CU:∀(f:Nat)(p:Array Nat)(k:Nat)(Q:Array Nat->Shared->Prop),fN n p->k+f=n->El key p k->(∀p',fN n p'->El key p' n->Q p' s)->(kas_bin f p k).kasWp cmp Q s
 |0,p,k,Q,g,hk,ha,hQ=>by
  have e:k=n:=by omega
  rw[e]at ha;exact hQ p g ha
 |f+1,p,k,Q,g,hk,ha,hQ=>by
  unfold kas_bin;rw[RH];refine rk hkey hc g (by omega) ha k 0 k _ (Qv _) (OR _) (by omega) (fun i hi=>by omega) (fun i h1 h2=>by omega) fun l hl ha1 hb1=>?_;have hs:k<p.size:=by rw[g.size];omega
  refine CU f _ (k+1) Q (tM g (bubble_perm _ _ _) (bubble_size _ _ _)) (by omega) (fun i j hij hj=>?_) hQ
  have hb:∀x,at' key (bubble p k (k-l)) x=if x=l then at' key p k else if l<x/\x<=k then at' key p (x-1) else at' key p x:=fun x=>by
   have e:=getElem?_bubble hs (k-l) (by omega) x;have el:k-(k-l)=l:=by omega
   rw[el]at e;by_cases e1:x=l
   ·rw[Ob e1]at e⊢;exact qT e
   ·rw [Oc e1] at e ⊢;by_cases e2:l<x/\x<=k
    ·rw[Ob e2]at e⊢;exact qT e
    ·rw[Oc e2]at e⊢;exact qT e
  rw[hb i,hb j];by_cases i1:i=l
  ·rw[Ob i1,Oc (by omega),Ob ⟨by omega,by omega⟩];exact hb1 (j-1) (by omega) (by omega)
  ·rw [Oc i1];by_cases i2:l<i/\i<=k
   ·rw[Ob i2,Oc (by omega),Ob ⟨by omega,by omega⟩];exact ha (i-1) (j-1) (by omega) (by omega)
   ·rw [Oc i2];have hi:i<l:=by omega
    by_cases j1:j=l
    ·rw[Ob j1];exact ha1 i hi
    ·rw [Oc j1];by_cases j2:l<j/\j<=k
     ·rw [Ob j2];by_cases ej:i=j-1
      ·omega
      ·exact ha i (j-1) (by omega) (by omega)
     ·rw[Oc j2];exact ha i j hij (by omega)
theorem E9(h2:2<=n)(Q:Array Nat->Shared->Prop)(hQ:∀p',fN n p'->El key p' n->Q p' s):(kas_sort n).kasWp cmp Q s:=by
 unfold kas_sort;rw[RH];have g0:fN n (List.toArray (List.range n)):=⟨by simp,by simp⟩;refine D5 hkey hc g0 h2 _ fun m p' g h1 hm ha=>?_;show (if m<n then _ else _:KasT (Array Nat)).kasWp cmp Q s;by_cases e:m<n
 ·rw [Ob e];have em:max m 1=m:=by omega
  rw[em];exact CU hkey hc (n-m) p' m Q g (by omega) ha hQ
 ·rw [Oc e];have em:m=n:=by omega
  rw[em]at ha;exact hQ p' g ha
end
def lV(k:List Int):Int:=k.getD 0 0*6+k.getD 1 0
theorem gk{k:List Int}(h:k∈prs):∃a b:Int,k=[a,b]/\0<=a/\a<b/\b<6:=by
 have key:∀k∈prs,0<=k.getD 0 0/\k.getD 0 0<k.getD 1 0/\k.getD 1 0<6/\k=[k.getD 0 0,k.getD 1 0]:=by decide +kernel
 obtain⟨h1,h2,h3,h4⟩:=key k h;exact⟨_,_,h4,h1,h2,h3⟩
theorem Gz{k k':List Int}(h:k∈prs)(h':k'∈prs)(e:lV k=lV k'):k=k':=by
 obtain⟨a,b,rfl,h1,h2,h3⟩:=gk h;obtain⟨c,d,rfl,h4,h5,h6⟩:=gk h';have e':a*6+b=c*6+d:=e;have:a=c:=by omega
 have:b=d:=by omega
 subst_vars;rfl
section
variable{prog:Program}{w:World}{A:Around}{E:Value->Shared->Prop}{s:Shared}
theorem x6 {h:Heap}{a b:Int}{r:Addr} (t:Tk prog w h [a,b] r):∃o n t1 t2,h.get? r=some o/\o.cls=.type "tuple" /\ o.data=.seq #[.int a t1,.int b t2] n:=by
 obtain⟨o,items,n,ho,hc,hd,hi⟩:=t;cases hi':items.toList with
 |nil=>rw[hi']at hi;cases hi
 |cons v1 r1=>
  rw[hi']at hi;cases hi with
  |cons h1 t1=>
   cases t1 with
   |cons h2 t2=>
    cases t2;obtain⟨x1,e1⟩:=N7 (k:=a) h1;obtain⟨x2,e2⟩:=N7 (k:=b) h2
    have e:items=#[.int a x1,.int b x2]:=by
     apply Array.toList_inj.mp;rw[hi',e1,e2]
    exact⟨o,n,x1,x2,ho,hc,by rw[hd,e]⟩
theorem FO{x y:Addr}{k k':List Int}{Q:Bool->Shared->Prop}(hx:Tk prog w s.heap k x)(hy:Tk prog w s.heap k' y)(hk:k∈prs)(hk':k'∈prs)(h:Q (decide (lV k<lV k')) s) :
  wpAny (model prog w) A (keyLt' (tuples' true) (.ref x) (.ref y)) Q E s:=by
 obtain⟨a,b,rfl,h1,h2,h3⟩:=gk hk;obtain⟨c,d,rfl,h4,h5,h6⟩:=gk hk';obtain⟨o,n,t1,t2,ho,_,hd⟩:=x6 hx;obtain⟨o',n',t1',t2',ho',_,hd'⟩:=x6 hy;have h':Q (decide (a*6+b<c*6+d)) s:=h;refine kat_lt ho hd ho' hd' ?_;show KatLex prog w A true (decide (2<2)) Q [(.int a t1,.int c t1'),(.int b t2,.int d t2')] 0 s;refine kat_cons (Oa ?_);by_cases e1:a=c
 ·rw [show (a == c) = true by simpa using e1];refine kat_yes (kat_cons (Oa ?_));by_cases e2:b=d
  ·rw [show (b == d) = true by simpa using e2];refine kat_yes (kat_nil ?_);have:decide (a*6+b<c*6+d)=decide (2<2):=by rw[RI];omega
   rw[<- this];exact h'
  ·rw [show (b == d) = false by simpa using e2];refine kat_no ?_;show wpAny _ A (oneLt' false _ _) Q _ s;refine kat_one _ _ (lt_int ?_);have:decide (a*6+b<c*6+d)=decide (b<d):=by rw[RI];omega
   show Q _ s;rw[<- this];exact h'
 ·rw [show (a == c) = false by simpa using e1];refine kat_no ?_;show wpAny _ A (keyLt' oneType' _ _) Q _ s;refine kat_lt_int ?_;have:decide (a*6+b<c*6+d)=decide (a<c):=by rw[RI];omega
  rw[<- this];exact h'
end
def iY(ps:List KP):Prop:=ps.Pairwise fun p q=>lV p.1<lV q.1
def ba(ps:List KP):List Value:=ps.map fun p=>Value.ref p.2
section
variable{prog:Program}{w:World}{A:Around}{E:Value->Shared->Prop}{s:Shared}
theorem zw{h:Heap}:∀{ps:List KP},(∀p∈ps,p.1∈prs)->(∀p∈ps,Tk prog w h p.1 p.2)->∃fs,KatTups h (ba ps) fs/\fs.length=ps.length/\∀v∈fs,∃i t,v=Value.int i t
 |[],_,_=>⟨[],KatTups.nil,rfl,fun v hv=>by simp at hv⟩
 |p::ps,hk,ht=>by
  obtain⟨fs,h1,h2,h3⟩:=zw (ps:=ps) (fun q hq=>hk q (Oq _ hq)) (fun q hq=>ht q (Oq _ hq));obtain⟨a,b,e,_⟩:=gk (hk p Oo);have t:=ht p Oo;rw[e]at t;obtain⟨o,n,t1,t2,ho,hc,hd⟩:=x6 t;refine⟨.int a t1::fs,KatTups.cons ho hc hd rfl h1,by rw[Qm,Qm,h2],fun v hv=>?_⟩;rcases Os.mp hv with q|q
  ·exact⟨a,t1,q⟩
  ·exact h3 v q
theorem Jh{ps:List KP}(hk:∀p∈ps,p.1∈prs)(hn:(ps.map (·.1)).Nodup){p:Array Nat}(g:fN ps.length p)(ha:El (fun i=>lV (ps.getD i ([],0)).1) p ps.length) :
  ∃out:List KP,(p.toList.map fun i=>(ba ps).getD i Value.none)=ba out/\out.Perm ps/\iY out:=by
 refine⟨p.toList.map fun i=>ps.getD i ([],0),?_,?_,?_⟩
 ·unfold ba;rw[Qy];refine QA fun i hi=>?_;have hi':i<ps.length:=Oj.mp (g.perm.mem_iff.mp hi);simp[RJ,hi']
 ·refine (g.perm.map _).trans ?_
  have:(List.range ps.length).map (fun i=>ps.getD i ([],0))=ps:=by
   apply RK;intro i;rw[Pb];by_cases hi:i<ps.length
   ·rw[RL hi];simp[hi]
   ·rw[RM (by simpa using hi),RM (by omega)];rfl
  rw[this]
 ·unfold iY;rw[RN];refine QF.mpr fun i j hi hj hij=>?_;have hi':i<p.size:=by simpa using hi
  have hj':j<p.size:=by simpa using hj
  have:=ha i j hij (by rw[<- g.size];exact hj');unfold at' at this;simpa[Array.getD,hi',hj'] using this
theorem yG {a:Addr}{ps:List KP}{n:Nat}{P:PySem.Fin->Shared->Prop} (ho:s.heap.get? a=some (seqObj "list" (ba ps).toArray n)) (hk:∀p∈ps,p.1∈prs) (hn:(ps.map (·.1)).Nodup) (hT:∀p∈ps,Tk prog w s.heap p.1 p.2)
  (h:∀out:List KP,out.Perm ps->iY out->P (.done (.ret .none)) {s with heap:=sortedHeap s.heap a (ba ps) (ba out).toArray}) :
  wpAny (model prog w) A (Builtin.«list.sort» ⟨[.ref a],[]⟩) P E s:=by
 have hlen:=lu hk hn;have hvl:(ba ps).length=ps.length:=by unfold ba;rw[Pf]
 rw[list_sort_plain];have hal:a<s.heap.objs.size:=Oe ho;refine OG (listItems_at ho rfl ?_);refine OG (RO ho rfl ?_ (by rw[OX,hvl];exact Ol hlen (by decide)) (Qv _));obtain⟨e1,ho1⟩:∃e1,(s.heap.update a (Obj.mapSeq fun _=>#[])).get? a=some (seqObj "list" #[] e1):=⟨_,RP ho (fun _=>#[])⟩;refine OG (seqEpoch_at ho1 rfl ?_);refine OG (wpAny_newTuple ?_);refine OG (RQ ?_);refine OH ?_
 have ho6:(((s.heap.update a (Obj.mapSeq fun _=>#[])).push (seqObj "tuple" (ba ps).toArray 0)).push (seqObj "list" #[] 0)).get? a=some (seqObj "list" #[] e1):=by
  rw[Heap.get?_push_ne _ _ _ (by rw[RR,RT];exact Oh (Qo hal)),Heap.get?_push_ne _ _ _ (by rw[RT];exact Oh hal)];exact ho1
 show wpAny (model prog w) A _ P E {s with heap:=((s.heap.update a (Obj.mapSeq fun _=>#[])).push (seqObj "tuple" (ba ps).toArray 0)).push (seqObj "list" #[] 0)};dsimp only
 have hna:∀p∈ps,p.2≠a:=fun p hp e=>by
  obtain⟨o,items,m,ho',hc',_⟩:=hT p hp;rw[e,ho]at ho';have:=Od ho';subst this;exact absurd (show Value.type "list" = Value.type "tuple" from hc') (by decide)
 generalize hS:({s with heap:=((s.heap.update a (Obj.mapSeq fun _=>#[])).push (seqObj "tuple" (ba ps).toArray 0)).push (seqObj "list" #[] 0)}:Shared)=s1;have eh1:s1.heap=((s.heap.update a (Obj.mapSeq fun _=>#[])).push (seqObj "tuple" (ba ps).toArray 0)).push (seqObj "list" #[] 0):=by rw[<- hS]
 have hT1:∀p∈ps,Tk prog w s1.heap p.1 p.2:=fun p hp=>by
  obtain⟨o,items,m,ho',rest⟩:=hT p hp;refine⟨o,items,m,?_,rest⟩;rw[eh1];refine OP _ (OP _ ?_);rw[RU _ _ _ _ (hna p hp)];exact ho'
 rw[<- eh1]at ho6
 have hfin:∀out:List KP,out.Perm ps->iY out->P (.done (.ret .none)) {s1 with heap:=s1.heap.update a (Obj.mapSeq fun _=>(ba out).toArray)}:=fun out h1 h2=>by
  have q:=h out h1 h2;rw[<- hS];exact q
 have hszv:(ba ps).toArray.size=ps.length:=by rw[OX,hvl]
 by_cases h2:(ba ps).toArray.size<2
 ·rw [Ob h2, Ob h2];refine OG (OM ?_);rw[StateT.run_pure];refine OG (OM ?_);dsimp only;refine OG (seqEpoch_at ho6 rfl ?_)
  have eo:(arrOf (SortSt.mk' general' ((ba ps).toArray.zip (ba ps).toArray) #[] 7 none)).map (·.2)=(ba ps).toArray:=by
   show (((ba ps).toArray.zip (ba ps).toArray)).map (·.2)=_;apply Array.toList_inj.mp;rw[Array.toList_map,Array.toList_zip];exact List.map_snd_zip (OR _)
  rw[eo];refine OG (RO ho6 rfl ?_ (Qv _) (by show (ba ps).toArray.size<=_;rw[hszv];exact Ol hlen (by decide)));simp only[RW,Ql,Pp];refine OM (hfin ps (List.Perm.refl _) ?_);rw[hszv]at h2
  match ps,h2 with
  |[],_=>exact List.Pairwise.nil
  |[_],_=>exact List.pairwise_singleton _ _
  |_::_::_,h=>rw[Qm,Qm]at h;omega
 ·rw [Oc h2, Oc h2];rw[hszv]at h2;obtain⟨fs,k1,k2,k3⟩:=zw hk hT1;refine OG (kat_kind (T:=Value.type "int") k1 (by omega) (fun v hv=>?_) (by rfl) ?_)
  ·obtain⟨i,t,e⟩:=k3 v hv;rw[e];exact .now
  ·have et : (Value.type "int" != Value.type "tuple") = true := by decide
   rw[et]
   refine OG (OB (kat_run (ks:=ba ps) (vs:=ba ps) (Q:=fun st' s'=>s'=s1/\failedOf st'=none/\∃out:List KP,out.Perm ps/\iY out/\(arrOf st').map (·.2)=(ba out).toArray)
    (G:=fun p s'=>s'=s1/\∃out:List KP,(p.toList.map fun i=>(ba ps).getD i Value.none)=ba out/\out.Perm ps/\iY out) rfl (by rw[hvl];omega) (by rw[hvl];omega) ?_ ?_) ?_ fun _ _ e=>e)
   ·rintro p st' s' hp har hf ⟨e, out, o1, o2, o3⟩
    exact⟨e,hf,out,o2,o3,by rw[kat_snds rfl har,o1]⟩
   ·rw [hvl];refine E9 (key:=fun i=>lV (ps.getD i ([],0)).1) (fun i j hi hj e=>?_) (fun i j hi hj C hC=>?_) (by omega) _ (fun p g ha=>⟨rfl,Jh hk hn g ha⟩)
    ·have hi' : ps.getD i ([], 0) = ps[i] := by simp [RJ, hi]
     have hj':ps.getD j ([],0)=ps[j]:=by simp[RJ,hj]
     simp only[hi',hj']at e;have e2:=Gz (hk _ (RX hi)) (hk _ (RX hj)) e;have hil:i<(ps.map (·.1)).length:=by rw[Pf];exact hi
     have hjl:j<(ps.map (·.1)).length:=by rw[Pf];exact hj
     exact(Ox (h₀:=hil) (h₁:=hjl) hn).mp (by simpa using e2)
    ·unfold kas_ask;have gi:(ba ps).getD i Value.none=.ref ps[i].2:=by unfold ba;simp[RJ,hi]
     have gj:(ba ps).getD j Value.none=.ref ps[j].2:=by unfold ba;simp[RJ,hj]
     have hi':ps.getD i ([],0)=ps[i]:=by simp[RJ,hi]
     have hj':ps.getD j ([],0)=ps[j]:=by simp[RJ,hj]
     rw[gi,gj];simp only[hi',hj']at hC;exact FO (hT1 _ (RX hi)) (hT1 _ (RX hj)) (hk _ (RX hi)) (hk _ (RX hj)) hC
   ·rintro ⟨⟨⟩, st'⟩ s' ⟨rfl, hf, out, o1, o2, o3⟩
    dsimp only;refine OG (seqEpoch_at ho6 rfl ?_);rw[o3];refine OG (RO ho6 rfl ?_ (Qv _) (by show (ba out).toArray.size<=_;rw[OX];unfold ba;rw[Pf,o1.length_eq];exact Ol hlen (by decide)));rw[hf];simp only[RW,Ql,Pp];exact OM (hfin out o1 o2)
end
end RS
namespace RS
open PySem PySem.W PyProof.Rows
namespace Fx
theorem slot_setiter_next:Slot "set_iterator" "__next__" "set_iterator.__next__" :=
 .of (owner:="set_iterator") (n:="__next__") (by rw[typeLookup_type,builtinLookup_eq_fast];kernel_rfl) (by decide +kernel) (by decide +kernel) (by decide +kernel)
  (by first|exact .inl (by decide +kernel)|exact .inr (by decide +kernel)) (by rw[Ru];kernel_rfl)
theorem entry_setiter_next:entryFor table "set_iterator.__next__" = some Builtin.«set_iterator.__next__»:=entryFor_of_fast (by kernel_rfl)
theorem args_setiter_next (a:Value):argsOk "set_iterator.__next__" ⟨[a],[]⟩:=by unfold argsOk;kernel_rfl
theorem entry_set_iter:entryFor table "set.__iter__" = some Builtin.«frozenset.__iter__»:=
 entryFor_alias (id':="frozenset.__iter__") (by kernel_rfl) rfl (by decide +kernel) (by kernel_rfl)
end Fx
def dU (h:Heap) (I S:Addr) (i n ep slot:Nat):Prop:=h.get? I=some {cls:=.type "set_iterator",dict:=none,data:=.fields #[.int (slot:Int) 0,.int (i:Int) 0,.ref S,.int (n:Int) 0,.int (ep:Int) 0],slots:=#[]}
def d0 (w:World) (S:Addr) (ep:Nat) (es:Array (Int×Value)):List (Int×Value):=if w.params.followText "set-order" then (pickOrder (w.params.setOrder S ep) es).toList else es.toList
def dF (w:World) (Z:List (Nat×Int×Value)) (i:Nat):Nat:=if w.params.followText "set-order" then 0 else if i=0 then 0 else (Z.getD (i-1) (0,0,.none)).1+1
theorem tm{α:Type}(next:Nat->Nat):∀(fuel k:Nat)(left:List α)(out:Array α),left.length=fuel->(pickOrder.go next fuel k left out).toList.Perm (out.toList++left)
 |0,k,left,out,h=>by
  have:left=[]:=RY.mp h;subst this;show out.toList.Perm (out.toList++[]);rw[OY]
 |fuel+1,k,left,out,h=>by
  have hlt:next k%left.length<left.length:=Nat.mod_lt _ (by omega)
  show (match left[next k%left.length]? with|some x=>_|none=>_:Array α).toList.Perm _;rw[RZ hlt];show (pickOrder.go next fuel (k+1) (left.eraseIdx (next k%left.length)) (out.push left[next k%left.length])).toList.Perm _;refine(tm next fuel (k+1) _ _ (by rw[List.length_eraseIdx_of_lt hlt];omega)).trans ?_;rw[Array.toList_push,Qa];refine List.Perm.append_left _ ?_;rw[List.singleton_append,List.eraseIdx_eq_take_drop_succ]
  have q:(left.take (next k%left.length)++left[next k%left.length]::left.drop (next k%left.length+1))=left:=by
   rw[List.getElem_cons_drop];exact QO _ _
  have q2:=(List.perm_middle (a:=left[next k%left.length]) (l₁:=left.take (next k%left.length)) (l₂:=left.drop (next k%left.length+1))).symm;rw[q]at q2;exact q2
theorem kN{w:World}{S:Addr}{ep:Nat}{es:Array (Int×Value)}:(d0 w S ep es).Perm es.toList:=by
 unfold d0;split
 ·have:=tm (w.params.setOrder S ep) es.size 0 es.toList #[] (by simp);simpa[pickOrder] using this
 ·exact List.Perm.refl _
theorem Eb {t:SetTable}{es:Array (Int×Value)}{Z:List (Nat×Int×Value)} (T:sN t es Z) {w:World} (hb:w.params.followText "set-order" = false) {i:Nat} (hi:i<=Z.length):SetTable.below t.place (dF w Z i)=i:=by
 have r:Ek t.place.toList:=by rw[T.place];exact T.ris
 obtain⟨b1,b2,b3⟩:=mh r (dF w Z i);have hsz:=T.size.1
 have gz:∀k,k<Z.length->t.place.getD k (dF w Z i)=(Z.getD k (0,0,.none)).1:=fun k hk=>by
  have e:t.place[k]?=some (Z[k]).1:=by rw[<- QI,T.place,Pb,RZ hk];rfl
  rw[QU,e,RJ,RZ hk];rfl
 have hris:∀a b,a<b->b<Z.length->(Z.getD a (0,0,.none)).1<(Z.getD b (0,0,.none)).1:=fun a b hab hbz=>by
  rw[<- gz a (by omega),<- gz b hbz];exact uF r _ a b hab (by omega)
 have hs:dF w Z i=if i=0 then 0 else (Z.getD (i-1) (0,0,.none)).1+1:=by
  unfold dF;rw[hb,Oc OK]
 by_cases h0:i=0
 ·rw [Ob h0] at hs;rw[hs]at b2⊢;by_cases hz:SetTable.below t.place 0=0
  ·rw[hz,h0]
  ·have:=b2 0 (by omega);omega
 ·rw [Oc h0] at hs
  have hlo:¬ SetTable.below t.place (dF w Z i)<=i-1:=fun hle=>by
   have:=b3 (i-1) hle (by omega);rw[gz _ (by omega)]at this;omega
  have hhi:¬ i<SetTable.below t.place (dF w Z i):=fun hlt=>by
   have:=b2 i hlt;have hiz:i<Z.length:=by omega
   rw[gz i hiz]at this;have:=hris (i-1) i (by omega) hiz;omega
  omega
section
variable{prog:Program}{w:World}{A:Around}{E:Value->Shared->Prop}{s:Shared}
theorem wj{a:Addr}{ps:List (Int×Value)}{o es ep t Z}{i:Nat}{Q:Option (Value×Nat)->Shared->Prop}(S:eF w s.heap a ps o es ep t Z)(hi:i<=Z.length)
  (h:Q (((d0 w a ep es)[i]?).map fun e=>(e.2,dF w Z (i+1))) s):wpAny (model prog w) A (setNext a (dF w Z i) i ep) Q E s:=by
 unfold setNext;refine OG (Rb S.ho S.hd S.fits ?_);dsimp only;unfold setsByText;refine OG (OG (Qt (OM ?_)));cases hb:w.params.followText "set-order" with
 |true=>
  have e1:d0 w a ep es=(pickOrder (w.params.setOrder a ep) es).toList:=by unfold d0;rw[hb,Ob rfl]
  have e2:∀j,dF w Z j=0:=fun j=>by unfold dF;rw[hb,Ob rfl]
  rw[e1,e2]at h;show wpAny _ _ (if (w.params.followText "set-order")=true then _ else _) _ _ _;rw[hb,Ob rfl];rw[Oc (by simp)];refine OG ?_;unfold setWalk;refine OG (Rb S.ho S.hd S.fits ?_);dsimp only;unfold setsByText;refine OG (OG (Qt (OM ?_)));show wpAny _ _ (if (w.params.followText "set-order")=true then _ else _) _ _ _;rw[hb,Ob rfl];refine OG (Qt (OM (OM ?_)));rw[e2,<- QI];exact h
 |false=>
  have e1:d0 w a ep es=es.toList:=by unfold d0;rw[hb,Oc OK]
  have hled:t.led=true:=by rw[S.led,hb];rfl
  show wpAny _ _ (if (w.params.followText "set-order")=true then _ else _) _ _ _;rw[hb,Oc OK];have hdr:(!t.plain&&decide (es.size>1))=false:=by rw[S.plain];rfl
  show wpAny _ _ (if (!t.plain&&decide (es.size>1))=true then _ else _) _ _ _;rw[hdr,Oc OK];refine OG ?_;show wpAny _ _ (if (!t.led && !es.isEmpty)=true then _ else _) _ _ _;rw[hled];simp only[Q8,OO,Ql,Pp];refine OM (OM ?_);rw[Eb S.tab hb hi];rw[e1,QI]at h;by_cases hlt:i<Z.length
  ·have ez : Z[i]? = some Z[i] := RZ hlt;have ee:=S.tab.hashAt ez;have ep':t.place[i]?=some (Z[i]).1:=by rw[<- QI,S.tab.place,Pb,ez];rfl
   rw[ee,ep'];rw[ee]at h
   have es':dF w Z (i+1)=(Z[i]).1+1:=by
    unfold dF;rw[hb,Oc OK,Oc (by omega),Nat.add_sub_cancel,RJ,ez];rfl
   rw[es']at h;exact h
  ·have : es[i]? = none := by rw [QZ, S.tab.size.2]; omega
   rw[this];rw[this]at h;exact h
end
end RS
namespace RS
open PySem PySem.W PyProof.Rows
section
variable{prog:Program}{w:World}{A:Around}{E:Value->Shared->Prop}{s:Shared}
theorem dU.typeIs {I S:Addr}{i n ep slot:Nat} (h:dU s.heap I S i n ep slot):s.TypeIs (.ref I) "set_iterator" := ⟨_,h,rfl⟩
theorem g7 {a:Addr}{ps:List (Int×Value)}{o es ep t Z} (S:eF w s.heap a ps o es ep t Z):s.TypeIs (.ref a) "set" := ⟨o,S.ho,S.ex.1⟩
theorem Dg{a:Addr}{ps:List (Int×Value)}{o es ep t Z}{Q:Value->Shared->Prop}(S:eF w s.heap a ps o es ep t Z)
  (hQ:Q (.ref s.heap.objs.size) {s with heap:=s.heap.push {cls:=.type "set_iterator",data:=.fields #[.int ((0:Nat):Int) 0,.int ((0:Nat):Int) 0,.ref a,.int (Z.length:Int) 0,.int (ep:Int) 0]}}) :
  wpAny (model prog w) A (pyIter (.ref a)) Q E s:=by
 refine wpAny_pyIter_slot (g7 S) PySem.F.slot_set_iter (Pz PySem.F.slot_set_iter (g7 S) Fx.entry_set_iter ?_ (PySem.F.args_set_iter_1 _));unfold Builtin.«frozenset.__iter__» Builtin.Frozenset.sizeOf;refine OG (m:=Builtin.Frozenset.slot0 "__iter__" _) (Rt (a:=a) rfl ?_);refine OG (OG (R0 S.ho S.hd S.fits (OM ?_)));unfold setDrawn;refine OG (OG (Rb S.ho S.hd S.fits ?_));dsimp only;unfold setsByText;refine OG (OG (Qt (OM (OM ?_))));have hdr:(!w.params.followText "set-order" && (!t.plain&&decide (es.size>1)))=false:=by rw[S.plain];simp
 show wpAny _ _ (if (!w.params.followText "set-order" && (!t.plain&&decide (es.size>1)))=true then _ else _) _ _ _;rw[hdr,Oc OK];refine OG (OM ?_);refine OG (wpAny_setEpoch_of S.ho S.hd S.fits ?_);refine OG (PJ (OM ⟨_,rfl, "set_iterator",_,⟨_,OQ _ rfl,rfl⟩,Fx.slot_setiter_next.lookup,?_⟩));rw[S.tab.size.2];exact hQ
theorem Dh{I a:Addr}{ps:List (Int×Value)}{o es ep t Z}{i:Nat}{v:Int×Value}{Q:Option Value->Shared->Prop}(S:eF w s.heap a ps o es ep t Z)(hit:dU s.heap I a i Z.length ep (dF w Z i))(hv:(d0 w a ep es)[i]?=some v)
  (hQ:∀h',dU h' I a (i+1) Z.length ep (dF w Z (i+1))->Heap.SameBut I s.heap h'->Q (some v.2) {s with heap:=h'}):wpAny (model prog w) A (pyNext (.ref I)) Q E s:=by
 have hT:=hit.typeIs;have hoi:=hit;unfold dU at hoi
 have hil:i<Z.length:=by
  have:=(Ow.mp hv).1;rw[kN.length_eq,OD,S.tab.size.2]at this;exact this
 unfold pyNext;refine OG (wpAny_attempt (Px (name:=Str.ofString "__next__") hT Fx.slot_setiter_next (Pz Fx.slot_setiter_next hT Fx.entry_setiter_next ?_ (Fx.args_setiter_next _))));unfold Builtin.«set_iterator.__next__»;refine OG (m:=slotArgs "__next__" 0 _) (Rt (a:=(.ref I,[])) rfl ?_);dsimp only;unfold fieldsOf;refine OG (OG (ON hoi ?_));refine OM ?_;refine OG (R0 S.ho S.hd S.fits ?_);rw[S.tab.size.2];simp only[RW,Ql,Pp,Pm];refine OG (wj S (Om hil) ?_);rw[hv];dsimp only[Option.map_some];refine OG (R6 hoi (by simp) fun h1 e1 sb1=>?_);refine OG (R6 (s:={s with heap:=h1}) e1 (by simp) fun h2 e2 sb2=>?_);refine OM ⟨v.2,rfl,OM (hQ h2 ?_ (sb1.trans sb2))⟩;unfold dU;rw[e2];simp[rawInt]
theorem Fh{I a:Addr}{ps:List (Int×Value)}{o es ep t Z}{Q:Option Value->Shared->Prop}(hh:A.handled=none)(S:eF w s.heap a ps o es ep t Z)(hit:dU s.heap I a Z.length Z.length ep (dF w Z Z.length))
  (hQ:∀h',Heap.ExtBut I s.heap h'->Q none {s with heap:=h'}):wpAny (model prog w) A (pyNext (.ref I)) Q E s:=by
 have hT:=hit.typeIs;have hoi:=hit;unfold dU at hoi
 have hv:(d0 w a ep es)[Z.length]?=none:=by
  rw[List.getElem?_eq_none_iff,kN.length_eq,OD,S.tab.size.2];exact OR _
 unfold pyNext;refine OG (wpAny_attempt (Px (name:=Str.ofString "__next__") hT Fx.slot_setiter_next (Pz Fx.slot_setiter_next hT Fx.entry_setiter_next ?_ (Fx.args_setiter_next _))));unfold Builtin.«set_iterator.__next__»;refine OG (m:=slotArgs "__next__" 0 _) (Rt (a:=(.ref I,[])) rfl ?_);dsimp only;unfold fieldsOf;refine OG (OG (ON hoi ?_));refine OM ?_;refine OG (R0 S.ho S.hd S.fits ?_);rw[S.tab.size.2];simp only[RW,Ql,Pp,Pm];refine OG (wj S (OR _) ?_);rw[hv];dsimp only[Option.map_none];refine OG (R6 hoi (by simp) fun h1 e1 sb1=>?_);refine OG ?_;simp only[newExc,newTuple];refine OG (PJ ?_ (by size_fits));refine OG (m:=firstArgMember _ _) (Rt (a:=Value.none) (by first|rfl|(simp only[firstArgMember];rfl)) ?_);refine PJ ?_ (by size_fits);simp only[raiseNew];refine OG (wpAny_handled ?_);rw[show A.in1.handled=none from hh];refine OG (OM (wpAny_throw ?_));refine OG (wpAny_isInstance (T:="StopIteration") (b:=true) ⟨_,OQ _ rfl,rfl⟩ isSubtype_stop ?_);exact OM (hQ _ ((sb1.extBut.push _).push _))
end
end RS
namespace RS
open PySem PySem.W PyProof.Rows
namespace Fx
theorem entry_extend_loop:entryFor table "list.extend.loop" = some Builtin.«list.extend.loop»:=entryFor_of_fast (by kernel_rfl)
theorem plain_extend_loop:plainId "list.extend.loop" = true:=by decide +kernel
theorem split_set_len:splitId "set.__len__" = some ("set", "__len__"):=by decide +kernel
end Fx
section
variable{prog:Program}{w:World}{A:Around}{E:Value->Shared->Prop}{s:Shared}
theorem xA{a:Addr}{ps:List (Int×Value)}{o es ep t Z}{Q:Bool->Shared->Prop}(S:eF w s.heap a ps o es ep t Z)(h:Q false s):wpAny (model prog w) A (Builtin.List.listLengthHint (.ref a)) Q E s:=by
 unfold Builtin.List.listLengthHint;refine OG (wpAny_specialOf (g7 S) PySem.F.slot_set_len.lookup ?_);dsimp only;rw[Fx.split_set_len];dsimp only;refine OG (wpAny_isInstance (g7 S) sub_set_self ?_);simp only[Q8,Ql,Pp];rw[Ob (by rfl)];refine OG (PF (g7 S) ?_);exact OM h
theorem xB{R:Result->Shared->Prop}{I a L:Addr}{ps:List (Int×Value)}{o es ep t Z}(hh:A.handled=none)(hIa:I≠a)(hIL:I≠L)(hLa:L≠a)(hz:Z.length<=100) :
  ∀(k i n:Nat) (s:Shared),Z.length-i=k->i<=Z.length->eF w s.heap a ps o es ep t Z->dU s.heap I a i Z.length ep (dF w Z i)->s.heap.get? L=some (seqObj "list" (((d0 w a ep es).take i).map (·.2)).toArray n) ->
   (∀h' m,(∀b u,b≠I->b≠L->s.heap.get? b=some u->h'.get? b=some u)->h'.get? L=some (seqObj "list" ((d0 w a ep es).map (·.2)).toArray m)->R (.ok (.ret (.ref L))) {s with heap:=h'}) ->
   codeAny (model prog w) A (.builtin "list.extend.loop" ⟨[.ref L,.ref I,.ref L],[]⟩) R s:=by
 intro k
 induction k with
 |zero=>
  intro i n s ek hi S hit hL hR;have e:i=Z.length:=by omega
  subst e;refine Rm Fx.entry_extend_loop ?_;rw[Rn Fx.plain_extend_loop _];show wpAny _ A.in1 (pyNext (.ref I) >>= _) _ _ s;refine OG (Fh (by simpa using hh) S hit fun h' eb=>?_);show wpAny _ A.in1 (ret (.ref L)) _ _ _;refine OM (hR h' n (fun b u hb _ q=>eb b u hb q) ?_);rw[QH (by rw[kN.length_eq,OD,S.tab.size.2];exact OR _)]at hL;exact eb L _ (Ot hIL) hL
 |succ k ih=>
  intro i n s ek hi S hit hL hR;have hil:i<(d0 w a ep es).length:=by rw[kN.length_eq,OD,S.tab.size.2];omega
  refine Rm Fx.entry_extend_loop ?_;rw[Rn Fx.plain_extend_loop _];show wpAny _ A.in1 (pyNext (.ref I) >>= _) _ _ s;refine OG (Dh S hit (RZ hil) fun h' hit' sb=>?_);have hL':h'.get? L=some (seqObj "list" (((d0 w a ep es).take i).map (·.2)).toArray n):=(sb.2 L (Ot hIL)).trans hL
  have hsz:(((d0 w a ep es).take i).map (·.2)).toArray.size<=100:=by
   rw[OX,Pf,O5];omega
  show wpAny _ A.in1 (Builtin.List.listUpdate (.ref L) _ >>= _) _ _ _;refine OG (RO (s:={s with heap:=h'}) hL' rfl ?_ (Ol hsz (by decide)) (by rw[Array.size_push];exact Ol (Nat.succ_le_succ hsz) (by decide)));have hL2:=RP hL' (·.push ((d0 w a ep es)[i]).2)
  have eL:(((d0 w a ep es).take i).map (·.2)).toArray.push ((d0 w a ep es)[i]).2=(((d0 w a ep es).take (i+1)).map (·.2)).toArray:=by
   have q:(d0 w a ep es).take (i+1)=(d0 w a ep es).take i++[(d0 w a ep es)[i]]:=by rw[RF,RZ hil];rfl
   rw[q,QR,List.push_toArray];rfl
  rw[eL]at hL2;have hsb2:=Ri h' L (Obj.mapSeq (·.push ((d0 w a ep es)[i]).2));refine OM ⟨Rq Fx.plain_extend_loop _,ih (i+1) _ _ (by omega) (by omega) ?_ ?_ hL2 fun h'' m kk hm=>?_⟩
  ·refine⟨?_,S.ex,S.hd,S.tab,S.plain,S.led,S.big,S.perm⟩;exact(hsb2.2 a (Ot hLa)).trans ((sb.2 a (Ot hIa)).trans S.ho)
  ·exact(hsb2.2 I hIL).trans hit'
  ·refine hR h'' m (fun b u hb1 hb2 q=>kk b u hb1 hb2 ?_) hm;exact(hsb2.2 b hb2).trans ((sb.2 b hb1).trans q)
theorem nB{α β:Type}{f:α->β}{l m:List β}(h:l.Perm m):∀ps:List α,m=ps.map f->∃qs:List α,qs.Perm ps/\l=qs.map f:=by
 induction h with
 |nil=>
  intro ps e;have:ps=[]:=List.map_eq_nil_iff.mp e.symm;exact⟨[],by rw[this],rfl⟩
 |cons x _ ih=>
  intro ps e;cases ps with
  |nil=>cases e
  |cons p ps=>
   rw[PM]at e;obtain⟨qs,h1,h2⟩:=ih ps (QD e).2;exact⟨p::qs,h1.cons p,by rw[PM,<- h2,(QD e).1]⟩
 |swap x y l=>
  intro ps e
  match ps,e with
  |p::q::r,e=>
   rw[PM,PM]at e;obtain⟨e1,e2⟩:=QD e;obtain⟨e2,e3⟩:=QD e2;exact⟨q::p::r,List.Perm.swap _ _ _,by rw[PM,PM,e1,e2,e3]⟩
 |trans _ _ ih1 ih2=>
  intro ps e;obtain⟨qs,h1,h2⟩:=ih2 ps e;obtain⟨rs,h3,h4⟩:=ih1 qs h2;exact⟨rs,h3.trans h1,h4⟩
theorem pq{a:Addr}{ps:List (Int×Value)}{o es ep t Z}{Q:List Value->Shared->Prop}(hh:A.handled=none)(S:eF w s.heap a ps o es ep t Z)(hz:Z.length<=100)
  (h:∀qs:List (Int×Value),qs.Perm ps->∀h',(∀b u,s.heap.get? b=some u->h'.get? b=some u)->s.heap.objs.size<=h'.objs.size->Q (qs.map (·.2)) {s with heap:=h'}):wpAny (model prog w) A (collect (.ref a)) Q E s:=by
 have hal:a<s.heap.objs.size:=Oe S.ho;unfold collect;refine OG (Rz (Rm entry_proto_collect' ?_));show wpAny _ _ (do again (.builtin "list.__iadd__" ⟨[<- newList [],.ref a],[]⟩)) _ _ s;refine OG (RQ (OM ⟨Rw _ (by decide +kernel),Rm entry_list_iadd' ?_⟩));show wpAny _ _ (Builtin.List.listExtendWith (.ref s.heap.objs.size) (.ref a) (.ref s.heap.objs.size)) _ _ {s with heap:=s.heap.push (seqObj "list" #[] 0)};have S1:eF w (s.heap.push (seqObj "list" #[] 0)) a ps o es ep t Z:=⟨OP _ S.ho,S.ex,S.hd,S.tab,S.plain,S.led,S.big,S.perm⟩;unfold Builtin.List.listExtendWith;refine OG (PF (g7 (s:={s with heap:=s.heap.push (seqObj "list" #[] 0)}) S1) ?_)
 have hsame:Builtin.List.listSameRef (.ref s.heap.objs.size) (.ref a)=false:=by
  show (s.heap.objs.size == a)=false;simpa using OL hal
 rw[hsame,Oc (by decide)];refine OG (Dg (s:={s with heap:=s.heap.push (seqObj "list" #[] 0)}) S1 ?_);dsimp only;generalize hH:(s.heap.push (seqObj "list" #[] 0)).push {cls:=.type "set_iterator",data:=.fields #[.int ((0:Nat):Int) 0,.int ((0:Nat):Int) 0,.ref a,.int (Z.length:Int) 0,.int (ep:Int) 0]}=H2;have eI:(s.heap.push (seqObj "list" #[] 0)).objs.size=s.heap.objs.size+1:=by rw[RR]
 have hk2:∀b u,s.heap.get? b=some u->H2.get? b=some u:=fun b u q=>by rw[<- hH];exact OP _ (OP _ q)
 have S2:eF w H2 a ps o es ep t Z:=⟨hk2 a o S.ho,S.ex,S.hd,S.tab,S.plain,S.led,S.big,S.perm⟩;have hL2:H2.get? s.heap.objs.size=some (seqObj "list" #[] 0):=by rw[<- hH];exact OP _ (OQ _ rfl)
 have hI2:H2.get? (s.heap.objs.size+1)=some {cls:=.type "set_iterator",data:=.fields #[.int ((0:Nat):Int) 0,.int ((0:Nat):Int) 0,.ref a,.int (Z.length:Int) 0,.int (ep:Int) 0]}:=by
  rw[<- hH,<- eI];exact OQ _ rfl
 rw[eI];refine OG (OH (xA (s:={s with heap:=H2}) S2 ?_));rw[Ob (by rfl)];refine OG (Qu ?_);refine OG ?_;unfold Builtin.List.listTouch;refine OG (RO (s:={s with heap:=H2}) hL2 rfl ?_ (Qv _) (by decide));have hL3:=RP hL2 (·.push Value.none);refine RO (s:={s with heap:=H2.update s.heap.objs.size (Obj.mapSeq (·.push Value.none))}) hL3 rfl ?_ (by decide) (by decide);have hL4:=RP hL3 (·.pop);have sb3:=Ri H2 s.heap.objs.size (Obj.mapSeq (·.push Value.none));have sb4:=(sb3.trans (Ri (H2.update s.heap.objs.size (Obj.mapSeq (·.push Value.none))) s.heap.objs.size (Obj.mapSeq (·.pop))));generalize hH4:(H2.update s.heap.objs.size (Obj.mapSeq (·.push Value.none))).update s.heap.objs.size (Obj.mapSeq (·.pop))=H4 at hL4 sb4;have neL:a≠s.heap.objs.size:=Oh hal;have neI:s.heap.objs.size+1≠s.heap.objs.size:=Nat.succ_ne_self _;refine OM ⟨Rw _ (by decide +kernel),?_⟩
 refine xB (by simpa using hh) (OL (Qo hal)) neI (Ot neL) hz (Z.length-0) 0 _ {s with heap:=H4} (by omega) (Qv _)
  ⟨(sb4.2 a neL).trans S2.ho,S.ex,S.hd,S.tab,S.plain,S.led,S.big,S.perm⟩ ?_ (by rw[List.take_zero];exact hL4) fun h' m kk hm=>?_
 ·unfold dU;have e0:dF w Z 0=0:=by unfold dF;split <;> simp
  rw[e0];exact(sb4.2 _ neI).trans hI2
 ·dsimp only;refine OG (ON hm ?_);refine OM ?_;have hp:(d0 w a ep es).Perm ps:=kN.trans (by rw[S.tab.ents];exact S.perm)
  have fin:=h (d0 w a ep es) hp h' fun b u q=>by
   have hb:b<s.heap.objs.size:=Oe q;exact kk b u (Oh (Qo hb)) (Oh hb) ((sb4.2 b (Oh hb)).trans (hk2 b u q))
  exact fin (Om (Oe hm))
theorem xC{a:Addr}{ps:List KP}{Q:List Value->Shared->Prop}(hh:A.handled=none)(S:fL w s.heap a ps)
  (h:∀qs:List KP,qs.Perm ps->∀h',(∀b u,s.heap.get? b=some u->h'.get? b=some u)->s.heap.objs.size<=h'.objs.size->Q (ba qs) {s with heap:=h'}):wpAny (model prog w) A (collect (.ref a)) Q E s:=by
 obtain⟨o,es,ep,t,Z,S,hk,hn⟩:=S;have h15:=lu hk hn;refine pq hh S (by rw[S.len,Pf];omega) fun qs hq h' k1 k2=>?_;obtain⟨rs,q1,q2⟩:=nB hq ps rfl;have q3:qs.map (·.2)=ba rs:=by rw[q2,Qy];rfl
 rw[q3];exact h rs q1 h' k1 k2
theorem Ay{x:Value}{ps:List KP}{Q:Value->Shared->Prop}(hk:∀p∈ps,p.1∈prs)(hn:(ps.map (·.1)).Nodup)(hT:∀p∈ps,Tk prog w s.heap p.1 p.2)
  (hcol:∀Q':List Value->Shared->Prop,(∀qs:List KP,qs.Perm ps->∀h',(∀b u,s.heap.get? b=some u->h'.get? b=some u)->s.heap.objs.size<=h'.objs.size->Q' (ba qs) {s with heap:=h'})->wpAny (model prog w) A.in1 (collect x) Q' E s)
  (h:∀out:List KP,out.Perm ps->iY out->∀h' D,s.heap.objs.size<=D->(∀b u,s.heap.get? b=some u->h'.get? b=some u)->(∃n,h'.get? D=some (seqObj "list" (ba out).toArray n))->Q (.ref D) {s with heap:=h'}) :
  wpAny (model prog w) A (call (.builtin "sorted") [x]) Q E s:=by
 refine R7 kind_sorted plain_sorted entry_sorted (args_sorted1 _) ?_;unfold Builtin.«sorted»;refine OG (m:=checkCount "sorted" 1 1 _) (OM ?_);refine OG (hcol _ fun qs hqs h1 k1 hsz=>?_);have hkq:∀p∈qs,p.1∈prs:=fun p hp=>hk p (hqs.mem_iff.mp hp);have hnq:(qs.map (·.1)).Nodup:=(hqs.map _).nodup_iff.mpr hn;have hlen:=lu hkq hnq;have hvl:(ba qs).length<=15:=by unfold ba;rw[Pf];exact hlen
 refine OG (RQ ?_ (Ol hvl (by decide)));have hoL:(h1.push (seqObj "list" (ba qs).toArray 0)).get? h1.objs.size=some (seqObj "list" (ba qs).toArray 0):=OQ _ rfl;have hnn:∀b u,h1.get? b=some u->b≠h1.objs.size:=fun b u q=>Oh (Oe q);refine OG (OH (Pz slot_list_sort (s:={s with heap:=h1.push (seqObj "list" (ba qs).toArray 0)}) ⟨_,hoL,rfl⟩ R8 ?body (args_list_sort _)))
 case body=>
  refine yG (s:={s with heap:=h1.push (seqObj "list" (ba qs).toArray 0)}) hoL hkq hnq (fun p hp=>?_) fun out h2 h3=>?_
  ·obtain⟨o,its,n,ho,rest⟩:=hT p (hqs.mem_iff.mp hp);exact⟨o,its,n,OP _ (k1 _ _ ho),rest⟩
  ·refine ⟨_, rfl, OM ⟨_, rfl, h out (h2.trans hqs) h3 _ h1.objs.size hsz (fun b u q => ?_) ?_⟩⟩
   ·have hb:=hnn b u (k1 b u q);unfold sortedHeap;rw[RU _ _ _ _ hb];refine OP _ (OP _ ?_);rw[RU _ _ _ _ hb];exact OP _ (k1 b u q)
   ·unfold sortedHeap;have g1:=RP hoL (fun _=>#[]);have g2:=OP (seqObj "list" #[] 0) (OP (seqObj "tuple" (ba qs).toArray 0) g1);exact⟨_,RP g2 (fun _=>(ba out).toArray)⟩
theorem yF{a:Addr}{ps:List KP}{Q:Value->Shared->Prop}(hh:A.handled=none)(S:fL w s.heap a ps)(hT:∀p∈ps,Tk prog w s.heap p.1 p.2)
  (h:∀out:List KP,out.Perm ps->iY out->∀h' D,s.heap.objs.size<=D->(∀b u,s.heap.get? b=some u->h'.get? b=some u)->(∃n,h'.get? D=some (seqObj "list" (ba out).toArray n))->Q (.ref D) {s with heap:=h'}) :
  wpAny (model prog w) A (call (.builtin "sorted") [.ref a]) Q E s:=by
 obtain⟨o,es,ep,t,Z,S0,hk,hn⟩:=id S;exact Ay hk hn hT (fun Q' hq=>xC (by simpa using hh) S hq) h
end
end RS
namespace RS
open PySem PySem.W PyProof.Rows
theorem sN.free{t:SetTable}{es:Array (Int×Value)}{Z:List (Nat×Int×Value)}(T:sN t es Z){h:Int}(cov:∀j,j<=t.mask->j∈cY t.mask h)(hz:Z.length<=t.mask)(hA:Nat->Int)(hne:∀i,hA i≠h) :
  ∃j pre post,t.probe hA h (t.probeStart h)=some (.empty j none)/\j<=t.mask/\j∉Z.map (·.1)/\cY t.mask h=pre++j::post/\∀k∈pre,k∈Z.map (·.1):=by
 obtain⟨j0,hj0,hn0⟩:=tN (m:=t.mask) (l:=Z.map (·.1)) (by rw[Pf];exact hz);obtain⟨pre,j,post,e,hs,hp⟩:=j7 (fun j=>j∉Z.map (·.1)) (cY t.mask h) ⟨j0,cov j0 hj0,hn0⟩
 have el:(z9 t.mask (SetTable.turns t.mask) (SetTable.bits h%(t.mask+1)) (SetTable.bits h)).length=pre.length+1+post.length:=by
  show (cY t.mask h).length=_;rw[e,Pe,Qm];omega
 have hw:iU t (pre.length+1+post.length) (t.probeStart h)=pre++j::post:=by
  have q:=qU t (SetTable.turns t.mask) (SetTable.bits h%(t.mask+1)) (SetTable.bits h) none;rw[el]at q;exact q.trans e
 have hlen:pre.length<10*SetTable.turns t.mask:=by
  have q:=uC t.mask (SetTable.turns t.mask) (SetTable.bits h%(t.mask+1)) (SetTable.bits h);omega
 have occ:∀k∈pre,k∈Z.map (·.1):=fun k hk=>QK fun q=>hp k hk q
 have hpre:∀k∈pre,∃i,t.slot k=.live i/\hA i≠h:=fun k hk=>by
  obtain⟨z,hzm,ez⟩:=QJ.mp (occ k hk);obtain⟨i,hi⟩:=QM hzm;exact⟨i,ez ▸ T.slot_live hi,hne i⟩
 obtain⟨g1,g2⟩:=uN t hA h pre j post (10*SetTable.turns t.mask) (t.probeStart h) hw hlen rfl hpre;exact⟨j,pre,post,g1 (T.slot_empty hs),jK (h:=h) (by rw[e];simp),hs,e,occ⟩
abbrev KI:=Int×Tok
def BG(p:KI):Int×Value:=(hashInt p.1,Value.int p.1 p.2)
def ins:List Int:=[0,1,2,3,4,5]
theorem Gk{i:Int}:i∈ins↔0<=i/\i<6:=by
 unfold ins;simp only[Os,RA,RB];omega
def Hx(mask:Nat):Bool:=ins.all fun k=>(List.range (mask+1)).all fun j=>(cY mask (hashInt k)).contains j
theorem Ma:Hx 7=true:=by decide +kernel
theorem CP:Hx 31=true:=by decide +kernel
theorem uP{mask:Nat}(h:Hx mask=true){k:Int}(hk:k∈ins):∀j,j<=mask->j∈cY mask (hashInt k):=fun j hj=>by
 have a:=Q6.mp h k hk;have b:=Q6.mp a j (Oj.mpr (by omega));simpa using b
theorem tK{a b:Int}(ha:a∈ins)(hb:b∈ins)(e:hashInt a=hashInt b):a=b:=by
 have key:∀x∈ins,∀y∈ins,hashInt x=hashInt y->x=y:=by decide +kernel
 exact key a ha b hb e
def dt(w:World)(h:Heap)(a:Addr)(ps:List KI):Prop:=∃o es ep t Z,eF w h a (ps.map BG) o es ep t Z/\(∀p∈ps,p.1∈ins)/\(ps.map (·.1)).Nodup
theorem kO{ps:List KI}(hk:∀p∈ps,p.1∈ins)(hn:(ps.map (·.1)).Nodup):ps.length<=6:=by
 have:=jE hn (l2:=ins) (fun x hx=>by obtain⟨p,hp,e⟩:=QJ.mp hx;rw[<- e];exact hk p hp);rw[Pf]at this;exact this
theorem dt.keeps{w:World}{h h':Heap}{a:Addr}{ps:List KI}(S:dt w h a ps)(k:∀o,h.get? a=some o->h'.get? a=some o):dt w h' a ps:=by
 obtain⟨o,es,ep,t,Z,S,hk,hn⟩:=S;exact⟨o,es,ep,t,Z,⟨k o S.ho,S.ex,S.hd,S.tab,S.plain,S.led,S.big,S.perm⟩,hk,hn⟩
theorem Nq{w:World}{h:Heap}{a:Addr}{ps:List (Int×Value)}{o es ep t Z}(S:eF w h a ps o es ep t Z){k:Int}(hk:k∈ins):∀j,j<=t.mask->j∈cY t.mask (hashInt k):=by
 rcases S.big with⟨h1,h2⟩|⟨h1,h2⟩ <;> rw[h1]
 ·exact uP Ma hk
 ·exact uP CP hk
def vH(ps:List KI)(k:Int)(t:Tok):List KI:=if k∈ps.map (·.1) then ps else ps++[(k,t)]
section
variable{prog:Program}{w:World}{A:Around}{E:Value->Shared->Prop}{s:Shared}
theorem sZ{a:Addr}{k:Int}{tk:Tok}{ps0:List (Int×Value)}{o es ep t Z}(S:eF w s.heap a ps0 o es ep t Z){Q:ScanMet->Shared->Prop} :
  ∀(l:List (Int×Value))(n:Nat),(∀e∈l,∃p:KI,e=BG p/\p.1∈ins)->k∈ins->((∃e∈l,e.1=hashInt k)->∀i,Q (.found i) s)->((∀e∈l,e.1≠hashInt k)->Q .absent s)->wpAny (model prog w) A (setScanFrom a (.int k tk) (hashInt k) true l n) Q E s
 |[],n,_,_,h1,h2=>by
  unfold setScanFrom;exact OM (h2 fun e he=>by simp at he)
 |e::l,n,hl,hk,h1,h2=>by
  obtain⟨p,rfl,hp⟩:=hl e Oo;show wpAny _ _ (setScanFrom a _ _ true ((hashInt p.1,Value.int p.1 p.2)::l) n) _ _ _;unfold setScanFrom;by_cases he:hashInt p.1=hashInt k
  ·rw[Ob (by simpa using he)];have ek:=tK hp hk he;refine OG (m:=setEpoch a) (wpAny_setEpoch_of S.ho S.hd S.fits ?_);refine OG (Oa ?_);rw[ek];simp only[Qk,Rc,Pq];exact OM (h1 ⟨_,Oo,he⟩ _)
  ·rw [Oc (by simpa using he)];refine sZ S l (n+1) (fun x hx=>hl x (Oq _ hx)) hk (fun⟨x,hx,ex⟩=>h1 ⟨x,Oq _ hx,ex⟩) fun hx=>h2 fun x hxm=>?_;rcases Os.mp hxm with z|z
   ·rw[z];exact he
   ·exact hx x z
theorem GI{a:Addr}{k:Int}{tk:Tok}{ps:List KI}{Q:Bool->Shared->Prop}(S:dt w s.heap a ps)(hk:k∈ins)
  (h:∀b h',Heap.SameBut a s.heap h'->dt w h' a (vH ps k tk)->Q b {s with heap:=h'}):wpAny (model prog w) A (setAddHashed a (.int k tk) (hashInt k)) Q E s:=by
 obtain⟨o,es,ep,t,Z,S,hk0,hn0⟩:=S
 have hent:∀e∈es.toList,∃p∈ps,e=BG p:=fun e he=>by
  rw[S.tab.ents]at he;obtain⟨p,hp,q⟩:=QJ.mp (S.perm.mem_iff.mp he);exact⟨p,hp,q.symm⟩
 have hto:∀p∈ps,BG p∈es.toList:=fun p hp=>by
  rw[S.tab.ents];exact S.perm.mem_iff.mpr (QN hp)
 have hlen6:=kO hk0 hn0;have hZl:Z.length=ps.length:=by rw[S.len,Pf]
 have hesz0:es.size=ps.length:=by rw[S.tab.size.2,hZl]
 have hz:Z.length<=t.mask:=by rcases S.big with⟨q,q2⟩|⟨q,q2⟩ <;> omega
 unfold setAddHashed setAddHashedIn;refine OH (OG (Rb S.ho S.hd S.fits ?_));dsimp only
 have hsc:byScan (Value.int k tk) es=true:=by
  unfold byScan;have h1:decide (es.size<scanBound)=true:=Qi (by rw[hesz0];unfold scanBound;omega)
  have h2:es.all (fun x=>x.2.scannable)=true:=by
   rw[<- Array.all_toList,Q6];intro e he;obtain⟨p,_,rfl⟩:=hent e he;rfl
  rw[h1,h2];rfl
 rw[hsc];simp only[Pq];refine OG ?_;unfold setAddByScan;refine OG (Qu ?_);refine OG ?_;show wpAny _ _ (setScanFrom a (.int k tk) (hashInt k) true es.toList 0) _ _ _;refine sZ S es.toList 0 (fun e he=>by obtain⟨p,hp,e'⟩:=hent e he;exact⟨p,e',hk0 p hp⟩) hk (fun hex i=>?_) fun hno=>?_
 ·obtain ⟨e, he, q⟩ := hex;obtain⟨p,hp,rfl⟩:=hent e he;have ek:p.1=k:=tK (hk0 p hp) hk q;refine OM (OM ?_)
  have q:=h false s.heap (Heap.SameBut.refl a s.heap) (by
   unfold vH;rw[Ob (by rw[<- ek];exact QN hp)];exact⟨o,es,ep,t,Z,S,hk0,hn0⟩)
  cases s;exact q
 ·have hin:k∉ps.map (·.1):=fun hx=>by
   obtain⟨p,hp,e⟩:=QJ.mp hx;exact hno _ (hto p hp) (by rw[<- e];rfl)
  dsimp only;obtain⟨j,pre,post,epr,hj,hn,e,hp⟩:=S.tab.free (Nq S hk) hz (fun _=>hashInt k+1) (fun _=>by omega);obtain⟨Z',T',hperm,et⟩:=S.tab.put (x:=Value.int k tk) hj hn e hp
  have hfree:t.freeSlot (hashInt k)=some (j,false):=by
   unfold SetTable.freeSlot;rw[epr];rfl
  have hpl:(t.put j).1.plain=true:=by rw[et];exact S.plain
  have hled:(t.put j).1.led=t.led:=by rw[et]
  have hmask:(t.put j).1.mask=t.mask:=by rw[et]
  have hperm':(Z'.map (·.2)).Perm ((ps++[(k,tk)]).map BG):=by
   refine(hperm.map (·.2)).trans ?_;rw[PM,QR];refine List.Perm.trans (List.Perm.cons _ S.perm) ?_;exact(List.perm_append_singleton _ _).symm
  have hkeys:∀p∈ps++[(k,tk)],p.1∈ins:=fun p hp'=>by
   rcases Ou.mp hp' with q|q
   ·exact hk0 p q
   ·rw[Qw]at q;rw[q];exact hk
  have hnd:((ps++[(k,tk)]).map (·.1)).Nodup:=by
   rw[QR];refine Rf.mpr ⟨hn0,by simp,fun x hx y hy=>?_⟩;simp at hy;rw[hy];rintro rfl;exact hin hx
  have hlen:=kO hkeys hnd;have hZ':Z'.length=ps.length+1:=by rw[hperm.length_eq,Qm,hZl]
  have hesz:(SetTable.insertAt es (t.put j).2 (hashInt k,Value.int k tk)).size=Z'.length:=T'.size.2;have hadd:vH ps k tk=ps++[(k,tk)]:=by unfold vH;rw[Oc hin]
  rw[hadd]at h;rw[Pe,Qd]at hlen
  have hfit:(t.put j).1.fits (SetTable.insertAt es (t.put j).2 (hashInt k,Value.int k tk)).size=true:=by
   unfold SetTable.fits;rw[T'.fill,T'.size.1,hesz,hmask];rcases S.big with⟨q,q2⟩|⟨q,q2⟩ <;> simp[q] <;> omega
  have hlay:layNew t es (hashInt k) (.int k tk)=(SetTable.insertAt es (t.put j).2 (hashInt k,Value.int k tk),(t.put j).1,false,false):=by
   unfold layNew;rw[hfree];dsimp only;unfold SetTable.orStandIn;rw[hfit];rfl
  rw[hlay];dsimp only;generalize ht1:(t.put j).1=t1 at *;generalize hes1:SetTable.insertAt es (t.put j).2 (hashInt k,Value.int k tk)=es1 at *;have hline:es1.size<=sizeLine:=by rw[hesz,hZ'];exact Ol hlen (by decide)
  refine OG (OM ?_);refine OG (OM ?_);rw[hpl];simp only[Pq];refine OG (m:=hashByValue 8 (.int k tk)) (OM ?_);simp only[Pq];refine OG (Rg S.ho S.hd ?_ hline)
  have hg:(s.heap.update a (Obj.putSet es1 t1)).get? a=some {o with data:=.set es1 (ep+1) t1}:=by
   have:=PR (Obj.putSet es1 t1) S.ho (by rw[Rh es1 t1 S.hd];rfl);rw[Rh es1 t1 S.hd]at this;exact this
  have hsb1:=Ri s.heap a (Obj.putSet es1 t1);have hfill:t1.fill=ps.length+1:=by rw[T'.fill,hZ']
  by_cases hfull:t1.tooFull=true
  ·simp only [hfull, Rj, Rc, Pq]
   have hm7:t.mask=7/\ps.length=4:=by
    unfold SetTable.tooFull at hfull;rw[hfill,hmask]at hfull;have hf:(ps.length+1)*5 ≥ t.mask*3:=by simpa using hfull
    rcases S.big with⟨q,q2⟩|⟨q,q2⟩
    ·rw[q]at hf;exact⟨q,by omega⟩
    ·rw[q]at hf;omega
   have hsz1:es1.size=5:=by rw[hesz,hZ',hm7.2]
   have hgr:SetTable.grown es1.size=20:=by rw[hsz1];rfl
   rw[hgr]
   obtain⟨t2,order,Z2,er,T2,hp2,hm2,hl2,hpl2,hord⟩:=rL (t:=t1) (es:=es1) (wanted:=20) (mask:=31) (by rfl) (by rw[hsz1];decide) (fun e' he'=>by
    rw[T'.ents]at he';obtain⟨p,hp',q⟩:=QJ.mp (hperm'.mem_iff.mp he');rw[<- q]
    exact uP CP (hkeys p hp'))
   have hZ2:Z2.length=5:=by
    have:=hp2.length_eq;simp at this;omega
   have hes2:(order.filterMap (es1[·]?)).size=5:=by rw[T2.size.2,hZ2]
   have hrel:relayAll t1 es1 20=(order.filterMap (es1[·]?),t2,false):=by
    unfold relayAll;rw[er];dsimp only
    have c1:coversAll order es1.size=true:=by
     unfold coversAll;exact List.isPerm_iff.mpr hord
    have c2:t2.fits (order.filterMap (es1[·]?)).size=true:=by
     unfold SetTable.fits;rw[T2.fill,T2.size.1,hes2,hm2,hZ2];rfl
    rw[c1,c2];rfl
   rw[hrel];dsimp only;refine OG (OG (OM (OM ?_)));refine OG (Rg hg rfl ?_ (by rw[hes2];decide))
   have hg2:((s.heap.update a (Obj.putSet es1 t1)).update a (Obj.putSet (order.filterMap (es1[·]?)) t2)).get? a=some {o with data:=.set (order.filterMap (es1[·]?)) (ep+1+1) t2}:=by
    have:=PR (Obj.putSet (order.filterMap (es1[·]?)) t2) hg (by rw[Rh _ t2 rfl];rfl);rw[Rh _ t2 rfl]at this;exact this
   refine OM (OM ?_);refine h true _ (hsb1.trans (Ri _ a _)) ⟨_,_,_,t2,Z2,⟨hg2,S.ex,rfl,T2,by rw[hpl2];exact hpl,by rw[hl2,hled];exact S.led,.inr ⟨hm2,by omega⟩,?_⟩,hkeys,hnd⟩;refine hp2.trans ?_;rw[T'.ents];exact hperm'
  ·have hf : t1.tooFull = false := by simpa using hfull
   simp only[hf,Qe,Ql,Pp];refine OM (OM ?_);refine h true _ hsb1 ⟨_,_,_,t1,Z',⟨hg,S.ex,rfl,T',hpl,by rw[hled];exact S.led,?_,hperm'⟩,hkeys,hnd⟩;unfold SetTable.tooFull at hf;rw[hfill,hmask]at hf;have hf':¬ ((ps.length+1)*5 ≥ t.mask*3):=by simpa using hf
   rw[hmask,hZ'];rcases S.big with⟨q,q2⟩|⟨q,q2⟩
   ·rw[q]at hf'⊢;exact .inl ⟨rfl,by omega⟩
   ·rw[q]at hf'⊢;exact .inr ⟨rfl,by omega⟩
end
end RS
namespace L2
open PySem PySem.Spec PyProof.Rows
theorem fA.thr{P:Program}{w:World}{H:Hp}{h:Heap}{a:Addr}{o:HO}(x:fA P w H h a o):∃ob,h.get? a=some ob:=by
 cases o with
 |lst xs=>obtain⟨_,_,_,_,e⟩:=x;exact⟨_,e⟩
 |tup xs=>obtain⟨_,_,_,ob,e,_⟩:=x;exact⟨_,e⟩
 |dK kvs=>obtain⟨_,_,_,_,o,_,_,e,_⟩:=x;exact⟨_,e⟩
 |dT kvs=>obtain⟨_,_,_,_,o,_,_,e,_⟩:=x;exact⟨_,e⟩
 |set S n=>obtain⟨o,_,_,_,e,_⟩:=x;exact⟨_,e⟩
 |ins C dx fs=>obtain⟨_,_,_,e,_⟩:=x;exact⟨_,e⟩
 |own y=>obtain⟨_,e⟩:=x;exact⟨_,e⟩
 |xd fs=>obtain⟨_,⟨_,_,_,e,_⟩,_⟩:=x;exact⟨_,e⟩
 |rng lo hi=>obtain⟨_,_,_,e⟩:=x;exact⟨_,e⟩
 |frz ob u=>obtain⟨e,_⟩:=x;exact⟨_,e⟩
 |tbl ps=>exact⟨_,show h.get? a=some _ from x⟩
 |met f y=>exact⟨_,show h.get? a=some _ from x⟩
 |ext φ=>obtain⟨_,⟨_,e⟩,_⟩:=x;exact⟨_,e⟩
theorem BO{fs:List Addr}{H0 H':Hp}{h0 h1 h' B:Heap}(u:Un fs [] H0 H' h0 h1)(hB:∀b o,h0.get? b=some o->b∉fs->∃o',B.get? b=some o')(k1:B.StaysIn h1)(k2:B.StaysIn h')(up:h1.UpToSlots h')
  (hf:∀b∈fs,H0 b=none/\∃o,h0.get? b=some o/\∀vs,o.data≠.fields vs):Un fs [] H0 H' h0 h' where
 keep:=fun b o e n hb hx=>by
  obtain⟨o',q⟩:=hB b o e hb;have q1:=k1 b o' q;rw[u.keep b o e n hb hx]at q1;cases q1;exact k2 b o q
 slot:=fun b o e n hb hx=>by
  obtain⟨sl,q⟩:=u.slot b o e n hb hx;obtain⟨_,o1,e1,nf⟩:=hf b hb;rw[e]at e1;cases e1;obtain⟨sl',q'⟩:=up b _ q nf;exact⟨sl',q'⟩
 free:=u.free
 there:=fun b o e hx=>by
  by_cases hb:b∈fs
  ·obtain⟨n,o1,e1,nf⟩:=hf b hb;rw[e]at e1;cases e1;obtain⟨sl,q⟩:=u.slot b o e n hb hx;obtain⟨sl',q'⟩:=up b _ q nf;exact⟨_,q'⟩
  ·obtain⟨o',q⟩:=hB b o e hb;exact⟨o',k2 b o' q⟩
 tups:=u.tups
 frzs:=u.frzs
 tbls:=u.tbls
def Hr(P:Program)(w:World):vv:=fun outer H s E e s'=>
 ∃ea C a0 B H',e=.ref ea/\s'.os=s.os/\AllBare s'.gens/\Un (oV outer) [] H H' s.heap s'.heap/\nL P w H' B/\Heap.FlyingW B outer ea (.ref C) a0 s'.heap/\H' ea=none /\
  (∀b o,s.heap.get? b=some o->b∉oV outer->∃o',B.get? b=some o')/\E (.ref C) (some ea) H'
section
variable{P:Program}{w:World}{K:W.Frag}{mg:Str->Option Value}{base:Heap}{N:List Str}{qual:Str}{scope:Scope}{f:Addr}{cdv:Value}{A:Around}{outer:List Env}{s0:Shared}{H0:Hp}{E:XK}
abbrev Ei(P:Program)(w:World)(K:W.Frag)(mg:Str->Option Value)(base:Heap)(N:List Str)(qual:Str)(scope:Scope)(f:Addr)(cdv:Value)(A:Around)(outer:List Env)(s0:Shared)(H0:Hp)(E:XK):Cx:=qx (Hr P w) P w K mg base N qual scope f cdv A outer s0 H0 E
theorem Gr{b:Addr}(hb:b∈oV (envOfC qual scope s0.heap.objs.size f cdv::outer)):b=s0.heap.objs.size\/b∈oV outer:=by
 obtain⟨env,he,hf⟩:=OT.mp hb;rcases Os.mp he with rfl|he
 ·exact .inl (Od hf).symm
 ·exact .inr (OT.mpr ⟨env,he,hf⟩)
theorem pj{pins:List (Addr×Obj)}{σ:St}{H:Hp}{s:Shared}(I:aY (Ei P w K mg base N qual scope f cdv A outer s0 H0 E) pins σ H s){b:Addr}{o:Obj}(e:s0.heap.get? b=some o)(hb:b∉oV outer) :
  (∃o',s.heap.get? b=some o')/\b∉oV (envOfC qual scope s0.heap.objs.size f cdv::outer):=
 ⟨I.base.there b o e (fun z => by cases z), fun z => by
  rcases Gr z with z|z
  ·exact absurd (Oe e) (by rw[z];exact Og _)
  ·exact hb z⟩
theorem tP{pins:List (Addr×Obj)}{σ:St}{H:Hp}{s:Shared}(I:aY (Ei P w K mg base N qual scope f cdv A outer s0 H0 E) pins σ H s):∀b∈oV outer,H0 b=none/\∃o,s0.heap.get? b=some o/\∀vs,o.data≠.fields vs:=
 fun b hb=>⟨I.ok.frf b hb,(I.ok.funs.mem hb).2⟩
theorem zi:jv (Hr P w) (Ei P w K mg base N qual scope f cdv A outer s0 H0 E) E:=by
 intro pins σ H s e s' I hc;obtain⟨ea,C,a0,B,H',rfl,os,bare,un,hok,fl,hn,bk,q⟩:=hc;have J:=I.call' os un (hok.kept fl.1) bare (ch:=[]) (fun b z=>absurd z (by simp))
 have hB:∀b o,s0.heap.get? b=some o->b∉oV outer->∃o',B.get? b=some o':=fun b o e hb=>by
  obtain⟨⟨o1,e1⟩,nb⟩:=pj I e hb;exact bk b o1 e1 nb
 refine wpAny_leaves_onW I.ok.frames rfl fl fun h' fl' up=>?_;exact⟨ea,C,a0,B,H',rfl,J.os,bare,BO J.base hB fl.1 fl'.1 up (tP I),hok,fl',hn,hB,q⟩
theorem JL{pins:List (Addr×Obj)}{σ:St}{H:Hp}{s s':Shared}{ea C:Addr}{vs:List Value}(I:aY (Ei P w K mg base N qual scope f cdv A outer s0 H0 E) pins σ H s)(hs:s'={s with heap:=s'.heap})
  (hx:Heap.MadeExcOf s.heap s'.heap ea (.ref C) vs) (q:H ea=none->E (.ref C) (some ea) H):(Ei P w K mg base N qual scope f cdv A outer s0 H0 E).xe (.ref ea) s':=by
 have hn:H ea=none:=by
  cases z:H ea with
  |none=>rfl
  |some u=>
   obtain⟨o,e⟩:=(I.hok ea u z).thr;rw[hx.new]at e;cases e
 have hin:∀env∈(envOfC qual scope s0.heap.objs.size f cdv::outer),∀b,env.frame=some b->b∈oV (envOfC qual scope s0.heap.objs.size f cdv::outer):=fun env he b hb=>OT.mpr ⟨env,he,hb⟩;have hst:(W.hideAll s.heap (oV (envOfC qual scope s0.heap.objs.size f cdv::outer))).StaysIn s.heap:=fun b o q=>W.of_hideAll _ q
 have hB:∀b o,s0.heap.get? b=some o->b∉oV outer->∃o',(W.hideAll s.heap (oV (envOfC qual scope s0.heap.objs.size f cdv::outer))).get? b=some o':=fun b o e hb=>by
  obtain⟨⟨o1,e1⟩,nb⟩:=pj I e hb;exact⟨o1,W.hideAll_get _ e1 nb⟩
 have nfr:∀c u,H c=some u->c∉oV (envOfC qual scope s0.heap.objs.size f cdv::outer):=fun c u e z=>by rw[I.stkFree c z]at e;cases e
 have hok:nL P w H (W.hideAll s.heap (oV (envOfC qual scope s0.heap.objs.size f cdv::outer))):=fun b u e=>
  (I.hok b u e).stay (fun c v hc r => W.hideAll_get _ r (by
   rcases hc with rfl|hc
   ·exact nfr _ _ e
   ·exact nfr _ _ hc)) (fun _ r=>r) fun _ _ r=>r
 show wpAny _ _ (leaving _ (.ref ea)) _ _ s';refine wpAny_leaves_madeW I.ok.frames rfl hst (W.funFrames_hide I.stack hin) hx fun h' t fl _ _ up=>?_;rw[hs];exact⟨ea,C,.ref t,_,H,rfl,I.os,I.bare,BO I.base hB hst fl.1 ((Heap.UpToSlots.of_keeps hx.keeps).trans up) (tP I),hok,fl,hn,hB,q hn⟩
def vI(mg:Str->Option Value)(base:Heap)(c:Str)(C:Addr):Prop:=∃bm newId B initId,OwnCls c C bm newId mg base/\ExcBaseFacts B newId initId bm
theorem AH {c:Str}{C:Addr}{np cpos pos:Pos} (O:vI mg base c C) (hg:Gl (Ei P w K mg base N qual scope f cdv A outer s0 H0 E) c) (hd:(c == ("__debug__" : Str))=false) :
  PS (Ei P w K mg base N qual scope f cdv A outer s0 H0 E) (.Raise (some (.Call (.Name c np) [] [] cpos)) none pos) (fun _ _ H=>∀ea,H ea=none->E (.ref C) (some ea) H):=by
 intro pins s σ H D I q;obtain⟨bm,newId,B,initId,O,FB⟩:=O;obtain⟨tl,Nn,nm,qn,bs,hdct,sn,sub,ab,col,dd,k0,k1,k2,k3,k5,mN,hC,hN,hni,T⟩:=O.obj
 refine wpAny_Raise_call_subT (C:=C) (nm:=nm) (q:=qn) (N:=Nn) (bs:=bs) (bm:=tl) (hdct:=hdct) (sn:=sn) (sub:=sub) (ab:=ab) (col:=col) (dd:=dd) (k0:=k0) (k1:=k1) (k2:=k2) (k3:=k3) (k5:=k5)
  FB (mN:=mN) (T.hasType FB.hasBase) (I.ok.hd rfl) rfl hni (mS I hg O.bound ⟨rfl,?_⟩ hd)
 exact evalArgs_empty ⟨rfl,Qv _,I.bk _ _ hC,hN.keeps I.bk,T.keeps I.bk,fun h' e hm=>JL I rfl hm (q e)⟩
end
structure Cx.Fn(X:Cx):Prop where
 ex:X.ex=[]
 stk:X.stack=X.env::X.outer
 fr:X.env.frame=some X.env.locals
def Mh(X:Cx)(pins:List (Addr×Obj))(E:XK)(e:Value)(s':Shared):Prop:=
 ∃ea C a0 B σ H',e=.ref ea/\aY X pins σ H' s'/\nL X.prog X.w H' B/\Heap.FlyingW B X.stack ea (.ref C) a0 s'.heap/\H' ea=none /\
  (∀b o,X.s₀.heap.get? b=some o->b∉X.fs->∃o',B.get? b=some o')/\(∀p∈X.pn++pins,∃o',B.get? p.1=some o')/\E (.ref C) (some ea) H'
abbrev Cx.tri(X:Cx)(pins:List (Addr×Obj))(E:XK):Cx:={X with pn:=X.pn++pins,xe:=Mh X pins E}
theorem Cx.Ok.tri{X:Cx}{pins:List (Addr×Obj)}{E:XK}(ok:X.Ok):(X.tri pins E).Ok:=
 ⟨ok.mod,ok.kind,ok.glob,ok.blt,ok.above,ok.inj,ok.has,ok.cab,ok.hd,ok.frames,ok.stk,ok.exf,ok.bs,ok.bsz,ok.noex,ok.exfs,ok.funs,ok.frf⟩
theorem Cx.Ok.untri{X:Cx}{pins:List (Addr×Obj)}{E:XK}(ok:(X.tri pins E).Ok):X.Ok:=
 ⟨ok.mod,ok.kind,ok.glob,ok.blt,ok.above,ok.inj,ok.has,ok.cab,ok.hd,ok.frames,ok.stk,ok.exf,ok.bs,ok.bsz,ok.noex,ok.exfs,ok.funs,ok.frf⟩
section
variable{X:Cx}{pins pins':List (Addr×Obj)}{σ:St}{H:Hp}{s:Shared}{E:XK}
theorem aY.tri(I:aY X pins σ H s):aY (X.tri pins E) [] σ H s:=
 ⟨I.ok.tri,I.os,I.bare,I.base,I.loc,I.cell,I.free,I.freeC,fun p hp=>I.pin p (by simpa using hp),I.hok,I.len⟩
theorem aY.untri(I:aY (X.tri pins E) pins' σ H s):aY X pins σ H s:=
 ⟨I.ok.untri,I.os,I.bare,I.base,I.loc,I.cell,I.free,I.freeC,fun p hp=>I.pin p (Ov _ hp),I.hok,I.len⟩
theorem SP.untri{D:nT}{f:Flow}{s':Shared}(h:SP (X.tri pins E) pins' D f s'):SP X pins D f s':=by
 cases f with
 |next=>obtain⟨σ',H',I,q⟩:=h;exact⟨σ',H',I.untri,q⟩
 |brk=>obtain⟨σ',H',I,q⟩:=h;exact⟨σ',H',I.untri,q⟩
 |cont=>obtain⟨σ',H',I,q⟩:=h;exact⟨σ',H',I.untri,q⟩
 |ret u=>obtain⟨v,σ',H',I,r,q⟩:=h;exact⟨v,σ',H',I.untri,r,q⟩
end
theorem zS{X:Cx}(F:X.Fn){b:Addr}(hb:b∈oV X.stack):b=X.env.locals\/b∈X.fs:=by
 rw[F.stk]at hb;obtain⟨env,he,hf⟩:=OT.mp hb;rcases Os.mp he with rfl|he
 ·rw[F.fr]at hf;exact .inl (Od hf).symm
 ·exact .inr (OT.mpr ⟨env,he,hf⟩)
theorem G9{X:Cx}{pins:List (Addr×Obj)}{E:XK}(F:X.Fn):jv (Hr X.prog X.w) (X.tri pins E) E:=by
 intro pins' σ H s e s' I hc;obtain⟨ea,C,a0,B,H',rfl,os,bare,un,hok,fl,hn,bk,q⟩:=hc;have J:=I.call' os un (hok.kept fl.1) bare (ch:=[]) (fun b z=>absurd z (by simp));refine⟨ea,C,a0,B,σ,H',rfl,J.untri,hok,fl,hn,fun b o e hb=>?_,fun p hp=>?_,q⟩
 ·obtain ⟨o1, e1⟩ := I.base.there b o e (by show b ∉ X.ex; rw [F.ex]; exact fun z => by cases z);refine bk b o1 e1 fun z=>?_;rcases zS F z with z|z
  ·have:=I.ok.above;rw[z]at e;exact absurd (Oe e) (Nat.not_lt.mpr this)
  ·exact hb z
 ·obtain ⟨p1, p2, p3, p4, p5⟩ := I.pin p (Ov _ hp);refine bk p.1 p.2 p1 fun z=>?_;rcases zS F z with z|z
  ·exact p3 z
  ·exact p4 z
theorem zZ{h h':Heap}{c:Addr}{v:Option Value}(x:h.IsCell c v)(up:h.UpToSlots h'):h'.IsCell c v:=by
 obtain⟨o,ho,hd⟩:=x;obtain⟨sl,q⟩:=up c o ho fun vs z=>by rw[hd]at z;cases z
 exact⟨_,q,hd⟩
section
variable{X:Cx}{pins:List (Addr×Obj)}{σ:St}{H:Hp}{s:Shared}{h' B:Heap}{ea C:Addr}{a0:Value}
theorem aY.up(F:X.Fn)(I:aY X pins σ H s)(hok:nL X.prog X.w H B)(c1:∀b o,X.s₀.heap.get? b=some o->b∉X.fs->∃o',B.get? b=some o')(c2:∀p∈X.pn++pins,∃o',B.get? p.1=some o')
  (k1:B.StaysIn s.heap) (k2:B.StaysIn h') (up:s.heap.UpToSlots h'):aY X pins σ H {s with heap:=h'}:=by
 have hb:Un X.fs [] X.H₀ H X.s₀.heap h':=BO (by rw[<- F.ex];exact I.base) c1 k1 k2 up fun b hb=>⟨I.ok.frf b hb,(I.ok.funs.mem hb).2⟩;refine⟨I.ok,I.os,I.bare,by rw[F.ex];exact hb,?_,fun x c e=>?_,I.free,I.freeC,fun p hp=>?_,hok.kept k2,I.len⟩
 ·obtain ⟨m, hn, hl⟩ := I.loc;refine⟨m,up.ns hn,fun i x v a b c=>?_⟩;obtain⟨u,r,l⟩:=hl i x v a b c;refine⟨u,r,?_⟩;rcases l with l|⟨k,c,e,hc⟩
  ·exact .inl l
  ·exact .inr ⟨k,c,e,zZ hc up⟩
 ·obtain⟨v,hv⟩:=I.cell x c e;exact⟨v,zZ hv up⟩
 ·obtain⟨p1,p2⟩:=I.pin p hp;obtain⟨o',e⟩:=c2 p hp;have e1:=k1 _ _ e;rw[p1]at e1;cases e1;exact⟨k2 _ _ e,p2⟩
def vK(ea C:Addr):HO:=.ext fun h=>∃oe,h.get? ea=some oe/\oe.cls=.ref C
theorem Un.track{fs ex:List Addr}{H0:Hp}{h0 h:Heap}{o:HO}(u:Un fs ex H0 H h0 h)(hn:h0.get? ea=none)(hH:H ea=none):Un fs ex H0 (dg H ea o) h0 h where
 keep:=u.keep
 slot:=u.slot
 free:=fun b ob e n hx=>by rw[bG fun z=>by rw[z,hn]at e;cases e];exact u.free b ob e n hx
 there:=u.there
 tups:=fun b xs q=>by have:=u.tups b xs q;rw[bG (cu this hH)];exact this
 frzs:=fun b ob xs q=>by have:=u.frzs b ob xs q;rw[bG (cu this hH)];exact this
 tbls:=fun b ps q=>by obtain⟨m,this⟩:=u.tbls b ps q;exact⟨m,by rw[bG (cu this hH)];exact this⟩
theorem aY.track(F:X.Fn)(I:aY X pins σ H s)(c1:∀b o,X.s₀.heap.get? b=some o->b∉X.fs->∃o',B.get? b=some o')(c2:∀p∈X.pn++pins,∃o',B.get? p.1=some o')
  (fl:Heap.FlyingW B X.stack ea (.ref C) a0 s.heap) (hH:H ea=none):aY X pins σ (dg H ea (vK ea C)) s:=by
 obtain⟨f1,f2,f3,oe,vs,T,oT,ts,he,⟨hc,_⟩,hd,_⟩:=fl
 have hn:X.s₀.heap.get? ea=none:=by
  cases z:X.s₀.heap.get? ea with
  |none=>rfl
  |some o=>
   by_cases hf:ea∈X.fs
   ·obtain⟨_,o1,e1,nf⟩:=I.ok.funs.mem hf;obtain⟨sl,e2⟩:=I.base.slot ea o1 e1 (I.ok.frf ea hf) hf (by rw[F.ex];exact fun z=>by cases z);rw[he]at e2;cases e2;exact absurd hd (nf vs)
   ·obtain⟨o',e⟩:=c1 ea o z hf;rw[f2]at e;cases e
 have nl:X.env.locals≠ea:=fun z=>by
  obtain⟨m,⟨o',es,ep,ho',hd',_⟩,_⟩:=I.loc;rw[z,he]at ho';cases ho';rw[hd]at hd';cases hd'
 refine⟨I.ok,I.os,I.bare,I.base.track hn hH,I.loc,I.cell,by rw[bG nl];exact I.free,fun x c e=>?_,fun p hp=>?_,fun b u q=>?_,I.len⟩
 ·rw [bG fun z => ?_]
  ·exact I.freeC x c e
  ·obtain⟨v,o',ho',hd'⟩:=I.cell x c e;rw[z,he]at ho';cases ho';rw[hd]at hd';cases hd'
 ·obtain ⟨p1, p2, p3, p4, p5⟩ := I.pin p hp;refine⟨p1,?_,p3,p4,p5⟩;rw[bG fun z=>?_]
  ·exact p2
  ·obtain⟨o',e⟩:=c2 p hp;rw[z,f2]at e;cases e
 ·by_cases hb : b = ea
  ·subst hb;rw[cJ]at q;cases q;refine⟨⟨oe,he,hc⟩,⟨oe,he⟩,fun h1 h2 a k=>?_⟩;obtain⟨o,e,c⟩:=a;exact⟨o,k o e,c⟩
  ·rw[bG hb]at q;exact(I.hok b u q).stay (fun _ _ _ r=>r) (fun c r=>by rw[bG (cu r hH)];exact r) fun c xs r=>by rw[bG (cu r hH)];exact r
end
abbrev Cx.hnd(X:Cx)(ea:Addr):Cx:={X with A:=X.A.mark (some (.ref ea)),calm:=false,xe:=fun _ _=>False}
theorem aY.hnd{X:Cx}{pins:List (Addr×Obj)}{σ:St}{H:Hp}{s:Shared}{ea:Addr}(I:aY X pins σ H s):aY (X.hnd ea) pins σ H s:=
 ⟨⟨I.ok.mod, I.ok.kind, I.ok.glob, I.ok.blt, I.ok.above, I.ok.inj, I.ok.has, I.ok.cab, (fun z => by cases z), I.ok.frames, I.ok.stk, I.ok.exf, I.ok.bs, I.ok.bsz, I.ok.noex, I.ok.exfs, I.ok.funs, I.ok.frf⟩,
   I.os,I.bare,I.base,I.loc,I.cell,I.free,I.freeC,I.pin,I.hok,I.len⟩
theorem aY.unhnd{X:Cx}{pins:List (Addr×Obj)}{σ:St}{H:Hp}{s:Shared}{ea:Addr}(ok:X.Ok)(I:aY (X.hnd ea) pins σ H s):aY X pins σ H s:=
 ⟨ok,I.os,I.bare,I.base,I.loc,I.cell,I.free,I.freeC,I.pin,I.hok,I.len⟩
theorem aY.forget{X:Cx}{pins:List (Addr×Obj)}{σ:St}{H:Hp}{s:Shared}{h':Heap}{t':Nat}{m:Str->Option Value}(I:aY X pins σ H s)(hn:h'.Ns X.env.locals m)(sb:Heap.SameBut X.env.locals s.heap h') :
  aY X pins (List.replicate X.N.length none) H {s with heap:=h',toks:=t'}:=by
 have ne:∀b o,X.s₀.heap.get? b=some o->b≠X.env.locals:=fun b o e z=>by
  have:=I.ok.above;rw[z]at e;exact absurd (Oe e) (Nat.not_lt.mpr this)
 have same:∀b,b≠X.env.locals->h'.get? b=s.heap.get? b:=fun b hb=>sb.2 b hb;refine⟨I.ok,I.os,I.bare,⟨fun b o e n hb hx=>?_,fun b o e n hb hx=>?_,I.base.free,fun b o e hx=>?_,I.base.tups,I.base.frzs,I.base.tbls⟩,⟨m,hn,fun i x v _ e=>?_⟩,fun x c e=>?_,I.free,I.freeC,fun p hp=>?_,fun b u q=>?_,by simp⟩
 ·rw[same b (ne b o e)];exact I.base.keep b o e n hb hx
 ·rw[same b (ne b o e)];exact I.base.slot b o e n hb hx
 ·rw[same b (ne b o e)];exact I.base.there b o e hx
 ·rw[O8]at e;split at e <;> cases e
 ·obtain⟨v,o,ho,hd⟩:=I.cell x c e;exact⟨v,o,by rw[same c (I.cne x c e)];exact ho,hd⟩
 ·obtain⟨p1,p2,p3,p4⟩:=I.pin p hp;exact⟨by rw[same _ p3];exact p1,p2,p3,p4⟩
 ·have nb : ∀ c u, H c = some u -> c ≠ X.env.locals := fun c u e z => by rw [z, I.free] at e; cases e
  exact(I.hok b u q).stay (fun c v hc r=>by
   rw[same c]
   ·exact r
   ·rcases hc with rfl | hc
    ·exact nb _ _ q
    ·exact nb _ _ hc) (fun _ r=>r) fun _ _ r=>r
theorem IS{X:Cx}(F:X.Fn){r n:Str}{R:Addr}{i:Nat}{np hpos pos:Pos}{body suite:List Stmt}{b0:Stmt}{tb:XK->TS}{th:TS}
  (hN:X.N.Nodup) (hi:X.N[i]?=some n) (hx:Ab X.env.scope n) (hl:X.env.kindOf n=some .local) (hg:Gl X r) (hm:X.mg r=some (.ref R)) (hd:(r == ("__debug__" : Str))=false)
  (hb:∀pins E,jt (X.tri pins E) body (tb E)) (hs:∀ea,jt (X.hnd ea) (b0::suite) th) :
  PS X (.Try body [.ExceptHandler (some (.Name r np)) (some n) (b0::suite) hpos] [] [] pos) (fun D σ H=>∃E:XK,(∀C ea H',E (.ref C) (some ea) H'->H' ea=none->W.exmOne X.K (.ref C) (.ref R)=some true /\
   ∀σ':St,σ'.length=X.N.length->th {nx:=fun _ _=>False,rt:=D.rt} (σ'.set i (some (.ref ea))) (dg H' ea (vK ea C)))/\tb E D σ H):=by
 intro pins s σ H D I hq;obtain⟨E,hE,hq⟩:=hq;refine wpAny_Try_except (OB (hb pins E [] s σ H D I.tri hq) (fun f s1 h1=>?_) fun e s1 h1=>?_)
 ·cases f with
  |next=>exact OF (SP.untri h1)
  |brk=>exact SP.untri h1
  |cont=>exact SP.untri h1
  |ret u=>exact SP.untri h1
 ·obtain ⟨ea, C, a0, B, σ1, H1, rfl, I1, hok, fl, hn, c1, c2, q⟩ := h1;obtain⟨q1,q2⟩:=hE C ea H1 q hn;have fl0:=fl;rw[F.stk]at fl;refine wpAny_looks_onW (by rw[<- F.stk];exact I.ok.frames) F.fr fl fun h4 held4 up4=>?_;refine wpAny_landsW held4 fun h5 fl5 up5=>?_;have fl5':=fl5;rw[<- F.stk]at fl5';have I5:=I1.up F hok c1 c2 fl0.1 fl5.1 (up4.trans up5);have J5:aY (X.hnd ea) pins σ1 H1 {s1 with heap:=h5}:=I5.hnd;refine wpAny_handleBy_cons (codeAny_handlers_test (mS J5 hg hm ?_ hd)) (by intro q;cases q);obtain⟨ob,hob,hobc⟩:=fl5.there
  have LT:W.Looks (model X.prog X.w) h5 (typeOf (.ref ea)) (.ref C):=by
   rw[<- hobc];exact(W.Looks.ld hob).andThen .now
  refine(W.exm_one J5.kIn LT q1).here (codeAny_handlers_suite_as ?_);refine lands_againW fl5 fun h6 fl6 up6=>?_;have fl6':=fl6;rw[<- F.stk]at fl6';have I6:=I5.up F hok c1 c2 fl5.1 fl6.1 up6;have I6':=I6.track F c1 c2 fl6' hn;refine m5 (v:=.ref ea) I6' hN hi hx rfl (fun s7 I7=>?_) (.inr hl);refine OB (hs ea pins s7 _ _ _ I7.hnd (q2 σ1 I1.len)) (fun f s8 h8=>?_) fun _ _ z=>False.elim z;cases f with
  |next=>obtain⟨_,_,_,z⟩:=h8;exact False.elim z
  |brk=>obtain⟨_,_,_,z⟩:=h8;exact False.elim z
  |cont=>obtain⟨_,_,_,z⟩:=h8;exact False.elim z
  |ret u=>
   obtain⟨v,σ',H',I8,rv,z⟩:=h8;have I8':=I8.unhnd I.ok;obtain⟨m,hn8,_⟩:=I8'.loc;refine wpAny_nameGoes hl hn8 (by rw[I.ok.kind];rfl) fun h9 m9 hn9 sb=>?_;exact⟨v,_,H',I8'.forget hn9 sb,rv,z⟩
structure fM(k:Nat)(A:Around):Prop where
 dp:A.depth+3*k+5<recursionLimit
 un:A.units+16*k+200<cLine
 gd:A.guards=some []
theorem gr.h{k:Nat}{A:Around}(r:gr k A):fM k A:=⟨r.dp,r.un,r.gd⟩
theorem fM.mark{k:Nat}{A:Around}(r:fM k A)(e:Option Value):fM k (A.mark e):=⟨r.dp,r.un,r.gd⟩
theorem fM.mono{j k:Nat}{A:Around}(r:fM k A)(h:j<=k):fM j A:=⟨by have:=r.dp;omega,by have:=r.un;omega,r.gd⟩
theorem fM.deeper{k:Nat}{A:Around}(r:fM (k+1) A)(env:Env):fM k (A.deeper env):=
 ⟨by have:=r.dp;show A.depth+1+3*k+5<_;omega,by have:=r.un;show A.units+3+16*k+200<_;omega,r.gd⟩
theorem fM.depth{k:Nat}{A:Around}(r:fM k A):A.depth<recursionLimit:=by have:=r.dp;omega
theorem fM.units{k:Nat}{A:Around}(r:fM k A):A.units+64<cLine:=by have:=r.un;omega
structure vZ(P:Program)(w:World)(K:W.Frag)(mg:Str->Option Value)(base:Heap)(CX:vv)(k:Nat)(f:Addr)(fd:FuncData)(ps:List Str)(sp:Sp):Prop where
 len:∀vs H Q E,sp vs H Q E->vs.length=ps.length
 run:∀(A:Around)(outer:List Env)(s:Shared)(H:Hp)(args:Args)(us:List Value)(vs:List V)(Q:VK)(E:XK),fM k A->Ak P w K mg base A outer s H->BindsTo s fd args (ps.zip us)->bh vs us->sp vs H Q E ->
  codeAny (model P w) A (.call (.ref f) args) (CR CX outer P w H s Q E) s
section
variable{X:Cx}{CX:vv}{k:Nat}{f C:Addr}{fd:FuncData}{ps:List Str}{sp:Sp}{dvs:List V}{ds:List Value}{E:XK}{x m:Str}{p pos apos:Pos}{e o:Expr}{es:List Expr}{ta:TE}{t:TA}
theorem Fo{pins:List (Addr×Obj)}{σ:St}{H:Hp}{s:Shared}{Q:VK}{us:List Value}{vs:List V}(F:vZ X.prog X.w X.K X.mg X.base CX k f fd ps sp)(hr:fM k X.A)(hb:ix X.K fd ps ds)(hd:bh dvs ds)(hx:jv CX X E)
  (I:aY X pins σ H s) (r:bh vs us) (h:sp (vs++dvs) H Q E):wpAny (model X.prog X.w) X.A (call (.ref f) us) (EP X pins σ Q) X.xe s:=by
 have r2:bh (vs++dvs) (us++ds):=r.append hd;have hl:(us++ds).length=ps.length:=by rw[<- r2.length];exact F.len _ _ _ _ h
 refine OZ (O0 (F.run X.A X.stack s H ⟨us,[]⟩ (us++ds) (vs++dvs) Q E hr I.env0 (hb s us I.kIn hl) r2 h) fun r s' hq=>?_);cases r with
 |error e=>exact hx pins σ H s e s' I hq
 |ok fl=>
  cases fl with
  |ret u=>exact I.after hq
  |next=>exact False.elim hq
  |brk=>exact False.elim hq
  |cont=>exact False.elim hq
theorem DC(F:vZ X.prog X.w X.K X.mg X.base CX k f fd ps sp)(hr:fM k X.A)(hg:Gl X x)(hm:X.mg x=some (.ref f))(hk:W.keepIn X.K (.ref f)=true)(hb:ix X.K fd ps ds)(hd:bh dvs ds)(hx:jv CX X E)
  (ha:PA X (e::es) t) (hdb:(x == ("__debug__" : Str))=false:=by decide) (he:starEach (e::es) X.env=(false,eval e X.env)::starEach es X.env:=by rfl) (hpl:(backTo pos (starEach es X.env)).any (·.1)=false:=by rfl) :
  PE X (.Call (.Name x p) (e::es) [] pos) (GU sp dvs E t):=by
 intro pins s σ H Q I h;refine O1 (mS I hg hm ?_ hdb);refine W.callWith_K (h₀:=X.base) I.ok.mod.kin hk (dr (ha pos pins s σ H _ I h) fun us s1 ⟨vs,H1,I1,r,q⟩=>⟨I1.kIn,?_⟩) he hpl;exact Fo F hr hb hd hx I1 r q
end
def qH(CX:vv)(P:Program)(w:World)(K:W.Frag)(mg:Str->Option Value)(base:Heap)(N:List Str)(qual:Str)(scope:Scope)(f:Addr)(cd:Value)(A:Around)(outer:List Env)(s:Shared)(H:Hp)(E:XK):Cx where
 prog:=P
 w:=w
 K:=K
 mg:=mg
 base:=base
 A:=A.deeper (envOfC qual scope s.heap.objs.size f cd)
 N:=N
 s₀:=s
 H₀:=H
 env:=envOfC qual scope s.heap.objs.size f cd
 outer:=outer
 stack:=envOfC qual scope s.heap.objs.size f cd::outer
 ex:=[]
 calm:=false
 fn:=fun _=>true
 pn:=[]
 xe:=fun e s'=>wpAny (model P w) (A.deeper (envOfC qual scope s.heap.objs.size f cd)) (leaving (envOfC qual scope s.heap.objs.size f cd) e) (fun _ s''=>CX outer H s E e s'') (fun e' s''=>CX outer H s E e' s'') s'
theorem yU{CX:vv}{P:Program}{w:World}{K:W.Frag}{mg:Str->Option Value}{base:Heap}{N ps:List Str}{qual:Str}{scope:Scope}{f:Addr}{cd:Value}{A:Around}{outer:List Env}{s s1:Shared}{H:Hp}{E:XK}{us:List Value}{vs:List V}
  (S:aV N ps scope) (e0:Ak P w K mg base A outer s H) (hl:vs.length=ps.length) (r:bh vs us)
  (x:InCallC s s.heap.objs.size (bindL (envOfC qual scope s.heap.objs.size f cd).kindOf (ps.zip us) fun _=>none) (cellsFrom (s.heap.objs.size+1) scope.names []) (bindC (envOfC qual scope s.heap.objs.size f cd).kindOf (ps.zip us) fun _=>none) s1) :
  aY (qH CX P w K mg base N qual scope f cd A outer s H E) [] (start N vs) H s1:=by
 have hpl:ps.length<=N.length:=by have:=OE List.length S.pre;rw[O5]at this;omega
 obtain⟨h1,tk,rfl,hk⟩:=x.done;have noA:∀b:Addr,b∉(qH CX P w K mg base N qual scope f cd A outer s H E).ex:=fun b z=>absurd (show b∈([]:List Addr) from z) (by simp)
 refine⟨⟨e0.mod,S.kind,rfl,rfl,OR _,fun y z c h1 h2=>?_,fun y hy=>?_,fun y c _ h=>?_,(fun z=>by cases z),Around.frames_deeper e0.frames,.inr ⟨rfl,rfl⟩,fun b z=>absurd z (noA b),e0.bs,e0.bsz,fun b _ _=>noA b,fun b z=>absurd z (noA b),e0.funs,e0.frf⟩,
  rfl,e0.bare,Un.kept hk,⟨_,x.toInCall.ns,fun i y v h1 h2 h3=>?_⟩,fun y c h=>⟨_,x.cell y c h⟩,e0.hok.fresh (OR _),fun y c h=>?_,fun p hp=>absurd (show p∈([]:List (Addr×Obj)) from hp) (by simp),e0.hok.kept hk,?_⟩
 ·exact name_of_addr x.apart (O6 h1) (O6 h2)
 ·have hy : scope.names.lookup y = some .cell \/ scope.names.lookup y = some .free := hy;rcases hy with hy|hy
  ·exact nr hy
  ·exact absurd rfl (S.nofree _ (O6 hy))
 ·exact Om (x.above y c (O6 h))
 ·have hi:i<vs.length:=by
   unfold start at h2;by_cases hi:i<vs.length
   ·exact hi
   ·rw[O7 (by simpa using hi)]at h2;rw[O8]at h2;split at h2 <;> cases h2
  have ha:vs[i]?=some v:=by
   unfold start at h2;rw[O9 (by simpa using hi),Pb]at h2;cases e:vs[i]? with
   |none=>rw[e]at h2;cases h2
   |some a=>rw[e]at h2;cases h2;rfl
  obtain⟨u,hu,rv⟩:=r.get ha
  have hp:ps[i]?=some y:=by
   rw[<- S.pre,Pc (by omega)];exact h1
  have ndP:ps.Nodup:=by rw[<- S.pre];exact S.nd.sublist (List.take_sublist _ _)
  refine⟨u,rv,?_⟩;rcases S.par y (Pd hp) with k|k
  ·exact .inl ⟨k,oG ndP hp hu k⟩
  ·obtain⟨c,e⟩:=nr (n:=s.heap.objs.size+1) k;refine .inr ⟨.inl k,c,e,?_⟩;have q:=x.cell y c e;rw[oH ndP hp hu (by show scope.names.lookup y≠_;rw[k];decide)]at q;exact q
 ·exact e0.hok.fresh (Om (x.above y c (O6 h)))
 ·unfold start;show _=N.length;rw[Pe,Pf,Pg];omega
theorem Kb{CX:vv}{P:Program}{w:World}{K:W.Frag}{mg:Str->Option Value}{base:Heap}{k:Nat}{f:Addr}{name qual:Str}{params:Arguments}{body:List Stmt}{scope:Scope}{dV kV doc pm cdv ct oc:Value}{an od:Option Addr}
  {osl:Array (Option Value)}{N ps:List Str}{sp:Sp} (lk:K.lookup f=some ⟨oc,od,.func (W.fnOf name qual params body scope dV kV doc pm an cdv ct),osl⟩) (hcd:W.codeIn K cdv qual=true) (S:aV N ps scope)
  (len:∀vs H Q E,sp vs H Q E->vs.length=ps.length)
  (hbody : ∀ (A : Around) (outer : List Env) (s : Shared) (H : Hp) (vs : List V) (Q : VK) (E : XK), fM k (A.deeper (envOfC qual scope s.heap.objs.size f cdv)) -> sp vs H Q E ->
   ∃t,jt (qH CX P w K mg base N qual scope f cdv A outer s H E) body t/\t {nx:=fun _ H'=>Q .non H',rt:=Q} (start N vs) H) :
  vZ P w K mg base CX (k+1) f (W.fnOf name qual params body scope dV kV doc pm an cdv ct) ps sp:=by
 refine⟨len,fun A outer s H args us vs Q E hr e0 hb r hsp=>?_⟩;have hl:=len _ _ _ _ hsp;have KX:K.In s.heap:=e0.mod.kin.keeps fun b o e=>(e0.bs b o e).1;have lim:s.heap.NoLimit:=e0.mod.nolimit.keeps fun b o e=>(e0.bs b o e).1
 have hkind:∀y∈ps.zip us,scope.names.lookup y.1=some .local\/(scope.names.lookup y.1=some .cell/\((cellsFrom (s.heap.objs.size+1) scope.names []).lookup y.1).isSome=true):=fun⟨n,v⟩ hy=>by
  rcases S.par n (O3 hy).1 with q|q
  ·exact .inl q
  ·exact .inr ⟨q,W.cellsFrom_some _ _ _ (.inl q)⟩
 refine codeAny_call_function hr.depth (KX _ _ lk) rfl S.co S.gen rfl (W.codeRec_of KX hcd) (hb _ _ _ _ ?_);refine wpAny_newFunctionEnv_cells S.kind hkind fun env he s1 x=>?_;subst he;refine⟨lim.keeps x.toInCall.keep,codeAny_func ?_⟩;obtain⟨t,ht,hq⟩:=hbody A outer s H vs Q E (hr.deeper _) hsp;have I:aY (qH CX P w K mg base N qual scope f cdv A outer s H E) [] (start N vs) H s1:=yU S e0 hl r x;refine OB (ht [] s1 (start N vs) H _ I hq) (fun fl s' hs=>?_) fun e s' hs=>hs
 have fin:∀{σ':St}{H':Hp}{v:V}{u:Value},aY (qH CX P w K mg base N qual scope f cdv A outer s H E) [] σ' H' s'->ck v u->Q v H'->CE outer P w H s Q u s':=
  fun {σ' H' v u} J rv q=>⟨v,H',J.os,J.bare,J.base,J.hok,rv,q⟩
 cases fl with
 |ret u=>
  obtain⟨v,σ',H',J,rv,q⟩:=hs;exact fin J rv q
 |next=>
  obtain⟨σ',H',J,q⟩:=hs;exact fin (v:=V.non) (u:=Value.none) J rfl q
 |brk=>
  obtain⟨_,_,_,q⟩:=hs;exact False.elim q
 |cont=>
  obtain⟨_,_,_,q⟩:=hs;exact False.elim q
section
variable{P:Program}{w:World}{K:W.Frag}{mg:Str->Option Value}{base:Heap}
theorem h7.okH{x qual:Str}{st:Stmt}{f:Addr}{fd:FuncData}{N ps:List Str}{k:Nat}{sp:Sp}(F:h7 K x qual st f fd)(S:aV N ps (au st))(len:∀vs H Q E,sp vs H Q E->vs.length=ps.length)
  (hbody : ∀ (cdv : Value) (A : Around) (outer : List Env) (s : Shared) (H : Hp) (vs : List V) (Q : VK) (E : XK), fM k (A.deeper (envOfC qual (au st) s.heap.objs.size f cdv)) -> sp vs H Q E ->
   ∃t,jt (qH xQ P w K mg base N qual (au st) f cdv A outer s H E).nox (cG st) t/\t {nx:=fun _ H'=>Q .non H',rt:=Q} (start N vs) H):vZ P w K mg base xQ (k+1) f fd ps sp:=by
 obtain⟨oc,od,kV,doc,pm,an,cdv,ct,osl,rfl,lk,hcd⟩:=F.ex;refine Kb lk hcd S len fun A outer s H vs Q E hr hsp=>?_;obtain⟨t,h,q⟩:=hbody cdv A outer s H vs Q E hr hsp;exact⟨t,h.nox,q⟩
end
end L2
namespace PySem.W
open PySem PySem.Spec PySem.Calls PyProof.Rows
section
variable{prog:Program}{w:World}{A:Around}{E:Value->Shared->Prop}{s:Shared}{K:Frag}{x D:Addr}{a g:Value}{name:Str}{h:Heap}{M:Model}
theorem xy (X:K.In h) (ha:findIn K (.ref D) name=some (some a)) (hg:specialIn K a "__get__" = some (some g)) (ht:takesIn K a=some true):Looks M h (Builtin.ObjectAttr.find (.ref x) (.ref D) name) (.bind g a):=
 (looks_findIn X ha).andThen ((show Looks M h (Builtin.ObjectAttr.getOf (some a)) (some g) from looks_specialIn X hg).andThen ((show Looks M h (Builtin.ObjectAttr.dataDescriptor? (some a) (some g)) (some (g,a)) from (looks_takesIn X ht).andThen .now).andThen (Looks.tag .now)))
theorem y3 {R:Result->Shared->Prop} (X:K.In s.heap) (L:Looks (model prog w) s.heap (typeOf (.ref x)) (.ref D)) (hm:mroIn K D (.type "object")=some true) (hr:R (.ok (.ret (.ref D))) s) :
  codeAny (model prog w) A (.call (.builtin "getset_descriptor.__get__") ⟨[.builtin "object.__class__",.ref x,.ref D],[]⟩) R s:=by
 obtain⟨hh,g,d,t,os⟩:=s;have L0:Looks (model prog w) hh (typeOf (.ref x)) (.ref D):=L;have L1:Looks (model prog w) hh (isSubtype (.ref D) (.type "object")) true:=looks_mroIn X hm;have hT5:(⟨hh,g,d,t,os⟩:Shared).TypeIs (.builtin "object.__class__") "getset_descriptor" := F.typeOf_object_class;have ow:(".".intercalate ("object.__class__".cutAt '.').dropLast) = "object" := by decide +kernel
 refine Rx F.slot_gs_get.plain F.entry_gs_get (F.slot_gs_get.check _ _ _ _ _ _ _ _ hT5 (F.args_gs_get _ _ _) ?_)
 repeat (any_goals (first|assumption|with_reducible refine L0.at ?_|(rw[ow])|with_reducible refine L1.at ?_|wp_step))
 refine⟨Rw _ (by decide +kernel),Rm KF.entry_class ?_⟩;unfold Builtin.«object.__class__»
 repeat (any_goals (first|assumption|with_reducible refine L0.at ?_|wp_step))
theorem D0 {hh:Heap}{g:Array GenState}{d:Drawn}{t:Nat}{os:OsState}{M:Model}{nameV:Value}{Q:Unit->Shared->Prop} (X:K.In hh) (L0:Looks M hh (typeOf (.ref x)) (.ref D)) (hmB:mroIn K D (.type "BaseException")=some true) (hq:Q () ⟨hh,g,d,t,os⟩) :
  wpAny M A (checkBuiltinCall "BaseException.__getattribute__" ⟨[.ref x,nameV],[]⟩) Q E ⟨hh,g,d,t,os⟩:=by
 have hk:builtinKind "BaseException.__getattribute__" = some .slot:=by decide +kernel
 have hsplit:splitId "BaseException.__getattribute__" = some ("BaseException", "__getattribute__"):=by decide +kernel
 have ha:=F.args_bexc_ga (.ref x) nameV;have L1:=looks_mroIn (M:=M) X hmB;simp only[checkBuiltinCall,hk,hsplit];refine OG ?_
 ·unfold isInstance
  repeat (first|lk|wp_step)
  exact hq
theorem DZ {tk:Tok}{Q:Fin->Shared->Prop} (X:K.In s.heap) (L:Looks (model prog w) s.heap (typeOf (.ref x)) (.ref D)) (ha:findIn K (.ref D) "__class__" = some (some (.builtin "object.__class__"))) (hn:specialIn K (.builtin "object.__class__") "__get__" = some (some (.builtin "getset_descriptor.__get__"))) (htk:takesIn K (.builtin "object.__class__")=some true) (hm:mroIn K D (.type "object")=some true) (hq:Q (.done (.ret (.ref D))) s) :
  wpAny (model prog w) A (Builtin.«object.__getattribute__» ⟨[.ref x,.str "__class__" tk],[]⟩) Q E s:=by
 obtain⟨hh,g,d,t,os⟩:=s;have L0:Looks (model prog w) hh (typeOf (.ref x)) (.ref D):=L;have f3:Looks (model prog w) hh (Builtin.ObjectAttr.find (.ref x) (.ref D) "__class__") (.bind (.builtin "getset_descriptor.__get__") (.builtin "object.__class__")):=xy X ha hn htk;unfold Builtin.«object.__getattribute__»
 repeat (any_goals (first|assumption|with_reducible refine L0.at ?_|with_reducible refine f3.at ?_|wp_step))
 refine y3 (s:=⟨hh,g,d,t,os⟩) X L hm ?_
 repeat (any_goals (first|assumption|wp_step))
theorem Ba {Q:Option Value->Shared->Prop} (X:K.In s.heap) (L:Looks (model prog w) s.heap (typeOf (.ref x)) (.ref D)) (hga:findIn K (.ref D) "__getattribute__" = some (some (.builtin "BaseException.__getattribute__"))) (hgn:findIn K (.ref D) "__getattr__" = some none)
  (ha:findIn K (.ref D) "__class__" = some (some (.builtin "object.__class__"))) (hn:specialIn K (.builtin "object.__class__") "__get__" = some (some (.builtin "getset_descriptor.__get__"))) (htk:takesIn K (.builtin "object.__class__")=some true) (hm:mroIn K D (.type "object")=some true) (hmB:mroIn K D (.type "BaseException")=some true) (hq:Q (some (.ref D)) {s with toks:=s.toks+1}) :
  wpAny (model prog w) A (getAttr? (.ref x) "__class__") Q E s:=by
 obtain⟨hh,g,d,t,os⟩:=s;have L0:Looks (model prog w) hh (typeOf (.ref x)) (.ref D):=L;have L1:Looks (model prog w) hh (typeLookup (.ref D) "__getattribute__") (some (.builtin "BaseException.__getattribute__")):=looks_findIn X hga;have L2:Looks (model prog w) hh (typeLookup (.ref D) "__getattr__") none:=looks_findIn X hgn;have f3:=PySem.F.attr_ValueError.ga.bind (.ref x);have hx2:(Value.builtin "BaseException.__getattribute__" == Value.builtin "object.__getattribute__")=false:=by decide +kernel
 have hx1:(onTheHeap (Value.ref D)&&Value.builtin "BaseException.__getattribute__" == Value.builtin "object.__getattribute__")=false:=by rw[hx2];rfl
 have hx0:(false&&onTheHeap (Value.builtin "BaseException.__getattribute__"))=false:=rfl;unfold getAttr? getAttrBy?
 repeat (any_goals (first|assumption|with_reducible refine L0.at ?_|with_reducible refine L1.at ?_|with_reducible refine L2.at ?_|wp_step))
 refine Rx PySem.F.attr_ValueError.ga.plain F.entry_bexc_ga (D0 X L0 hmB (DZ (tk:=t) X L0 ha hn htk hm ?_))
 repeat (any_goals (first|assumption|wp_step))
end
def excCls (K:Frag) (D:Addr):Bool:=findIn K (.ref D) "__getattribute__" == some (some (.builtin "BaseException.__getattribute__"))&&findIn K (.ref D) "__getattr__" == some none&&(clsIn K D).isSome&&findIn K (.ref D) "__class__" == some (some (.builtin "object.__class__")) &&
 mroIn K D (.type "object") == some true&&mroIn K D (.type "BaseException") == some true&&specialIn K (.builtin "object.__class__") "__get__" == some (some (.builtin "getset_descriptor.__get__"))&&takesIn K (.builtin "object.__class__") == some true
section
variable{K:Frag}{x D:Addr}
theorem kitx_exc(e:excCls K D=true):KitX K (.ref x) (.ref D) (fun h=>∃ox,h.get? x=some ox/\ox.cls=.ref D):=by
 unfold excCls at e;simp only[PH,R9]at e;obtain⟨⟨⟨⟨⟨⟨⟨hga,hgn⟩,hc⟩,ha⟩,hm⟩,hmB⟩,hn⟩,htk⟩:=e
 exact {
  ty:=fun _ _ _ ⟨ox,h1,h2⟩=>h2 ▸ (Looks.ld h1).andThen .now
  it:=fun _ _ X _=>by
   obtain⟨cdD,hcD⟩:=O4.mp hc;unfold clsIn at hcD;split at hcD
   ·rename_i c' d' cd' sl' ho;intro A' Q' E' s' k q;unfold isType loadHead;exact OG (wpAny_loadPart (k _ _ (X _ _ ho)) (OM q))
   ·cases hcD
  ne:=fun h tp dd its n sl X htp=>by
   obtain⟨cdD,hcD⟩:=O4.mp hc;refine Bool.eq_false_iff.mpr fun q=>?_;have e:D=tp:=Value.ref.inj (R9.mp q);subst e;unfold clsIn at hcD;split at hcD
   ·rename_i c' d' cd' sl' ho;have z:=(X _ _ ho).symm.trans htp;cases z
   ·cases hcD
  ca:=fun {prog w A E Q s} X ⟨ox,h1,h2⟩ h=>Ba X (h2 ▸ (Looks.ld h1).andThen .now) hga hgn ha hn htk hm hmB h}
end
end PySem.W
namespace L2
open PySem PySem.Spec PyProof.Rows
def KY(K:W.Frag)(u:Value):List V->Hp->VK->Prop:=fun xs H Q=>∃a D b v,xs=[.ref a,v]/\ck v u/\H a=some (vK a D)/\W.excCls K D=true/\W.kitOne K (.ref D) u=some b/\Q (.bl b) H
theorem xc {X:Cx}{u:Value} (hu:∀v w,ck v u->ck v w->w=u):c6 X (.builtin "isinstance") (KY X.K u):=by
 intro pins s σ H xs us Q I r h;obtain⟨a,D,b,v,rfl,rv,ea,hc,e,q⟩:=h;cases r with
 |cons r1 r2=>
  cases r2 with
  |cons r3 r4=>
   cases r4;cases (show _=Value.ref a from r1);have z:=hu v _ rv r3;subst z;obtain⟨⟨oe,h1,h2⟩,_⟩:=(show fA X.prog X.w H s.heap a (vK a D) from I.hok a _ ea);exact W.kia_one (W.kitx_exc hc) I.kIn ⟨oe,h1,h2⟩ e (fun z=>nomatch z) fun tk=>⟨.bl b,H,I.tok _,rfl,q⟩
end L2
namespace L2
open PySem PySem.Spec PyProof.Rows RS
inductive D where
 |non|bl (b:Bool)|int (i:Int)|str (x:Str)|tup (xs:List D)|frz (xs:List D)|obj (n:Nat)
inductive O where
 |lst (xs:List D)|set (ks:List (List Int))|iset (ks:List Int)|dic|exc (c:Str)
abbrev aB:=List O
abbrev Ro:=List (Option D)
def GO(K:W.Frag)(H:Hp)(a:Addr)(xs:List V):Prop:=
 (∃ o, H a = some (.frz o (.lst xs))) \/
  ∃(o:Obj) (its:Array Value) (n:Nat),K.lookup a=some o/\o.cls=.type "list" /\ o.dict=none/\o.data=.seq its n/\its.size<=sizeLine/\bh xs its.toList
theorem GO.sq{K:W.Frag}{H:Hp}{a:Addr}{xs:List V}(h:GO K H a xs):gu K H a xs:=by
 rcases h with⟨o,h⟩|h
 ·exact .inl (.inr ⟨o,h⟩)
 ·exact .inr h
section
variable(K:W.Frag)(H:Hp)(α:List Addr)
mutual
def aS:D->V->Prop
 |.non,v=>v=.non
 |.bl b,v=>v=.bl b
 |.int i,v=>v=.int i
 |.str x,v=>v=.str x
 |.tup xs,v=>∃a vs,v=.ref a/\gP K H a vs/\Reps xs vs
 |.frz xs,v=>∃a vs,v=.ref a/\GO K H a vs/\Reps xs vs
 |.obj n,v=>∃a,v=.ref a/\α[n]?=some a
def Reps:List D->List V->Prop
 |[],vs=>vs=[]
 |x::xs,vs=>∃v r,vs=v::r/\aS x v/\Reps xs r
end
end
structure lH(K:W.Frag)(H H':Hp)(α α':List Addr):Prop where
 tup:∀a xs,gP K H a xs->gP K H' a xs
 frz:∀a xs,GO K H a xs->GO K H' a xs
 pre:∀(n:Nat) a,α[n]?=some a->α'[n]?=some a
section
variable{K:W.Frag}{H H' H1 H2:Hp}{α α' α1 α2:List Addr}
theorem lH.refl:lH K H H α α:=⟨fun _ _ h=>h,fun _ _ h=>h,fun _ _ h=>h⟩
theorem lH.trans(a:lH K H H1 α α1)(b:lH K H1 H2 α1 α2):lH K H H2 α α2:=
 ⟨fun c xs h=>b.tup c xs (a.tup c xs h),fun c xs h=>b.frz c xs (a.frz c xs h),fun n c h=>b.pre n c (a.pre n c h)⟩
mutual
theorem aS.mono(e:lH K H H' α α'):∀{d:D}{v:V},aS K H α d v->aS K H' α' d v
 |.non,_,h=>by simp only[aS]at h⊢;exact h
 |.bl _,_,h=>by simp only[aS]at h⊢;exact h
 |.int _,_,h=>by simp only[aS]at h⊢;exact h
 |.str _,_,h=>by simp only[aS]at h⊢;exact h
 |.tup xs,_,h=>by
  simp only[aS]at h⊢;obtain⟨a,vs,rfl,h1,h2⟩:=h;exact⟨a,vs,rfl,e.tup a vs h1,Reps.mono e h2⟩
 |.frz xs,_,h=>by
  simp only[aS]at h⊢;obtain⟨a,vs,rfl,h1,h2⟩:=h;exact⟨a,vs,rfl,e.frz a vs h1,Reps.mono e h2⟩
 |.obj n,_,h=>by
  simp only[aS]at h⊢;obtain⟨a,rfl,h1⟩:=h;exact⟨a,rfl,e.pre n a h1⟩
theorem Reps.mono(e:lH K H H' α α'):∀{ds:List D}{vs:List V},Reps K H α ds vs->Reps K H' α' ds vs
 |[],_,h=>by simp only[Reps]at h⊢;exact h
 |d::ds,_,h=>by
  simp only[Reps]at h⊢;obtain⟨v,r,rfl,h1,h2⟩:=h;exact⟨v,r,rfl,aS.mono e h1,Reps.mono e h2⟩
end
theorem Reps.nil:Reps K H α [] []:=by simp only[Reps]
theorem Reps.cons{d:D}{ds:List D}{v:V}{vs:List V}(h1:aS K H α d v)(h2:Reps K H α ds vs):Reps K H α (d::ds) (v::vs):=by
 simp only[Reps];exact⟨v,vs,rfl,h1,h2⟩
theorem Reps.length:∀{ds:List D}{vs:List V},Reps K H α ds vs->vs.length=ds.length
 |[],vs,h=>by simp only[Reps]at h;rw[h];rfl
 |d::ds,vs,h=>by
  simp only[Reps]at h;obtain⟨v,r,rfl,h1,h2⟩:=h;simp[Reps.length h2]
theorem Reps.get:∀{ds:List D}{vs:List V}{i:Nat}{d:D},Reps K H α ds vs->ds[i]?=some d->∃v,vs[i]?=some v/\aS K H α d v
 |[],_,_,_,_,e=>by simp at e
 |d::ds,vs,i,x,h,e=>by
  simp only[Reps]at h;obtain⟨v,r,rfl,h1,h2⟩:=h;cases i with
  |zero=>simp at e;subst e;exact⟨v,rfl,h1⟩
  |succ i=>exact Reps.get (i:=i) h2 (by simpa using e)
theorem Reps.getV:∀{ds:List D}{vs:List V}{i:Nat}{v:V},Reps K H α ds vs->vs[i]?=some v->∃d,ds[i]?=some d/\aS K H α d v
 |[],vs,_,_,h,e=>by simp only[Reps]at h;subst h;simp at e
 |d::ds,vs,i,x,h,e=>by
  simp only[Reps]at h;obtain⟨v,r,rfl,h1,h2⟩:=h;cases i with
  |zero=>simp at e;subst e;exact⟨d,rfl,h1⟩
  |succ i=>exact Reps.getV (i:=i) h2 (by simpa using e)
theorem Reps.append:∀{ds es:List D}{vs ws:List V},Reps K H α ds vs->Reps K H α es ws->Reps K H α (ds++es) (vs++ws)
 |[],_,vs,_,h,g=>by simp only[Reps]at h;subst h;exact g
 |d::ds,_,vs,_,h,g=>by
  simp only[Reps]at h;obtain⟨v,r,rfl,h1,h2⟩:=h;exact Reps.cons h1 (Reps.append h2 g)
theorem Reps.take:∀{ds:List D}{vs:List V}(n:Nat),Reps K H α ds vs->Reps K H α (ds.take n) (vs.take n)
 |[],vs,n,h=>by simp only[Reps]at h;subst h;simpa using Reps.nil
 |d::ds,vs,n,h=>by
  simp only[Reps]at h;obtain⟨v,r,rfl,h1,h2⟩:=h;cases n with
  |zero=>exact Reps.nil
  |succ n=>exact Reps.cons h1 (Reps.take n h2)
theorem Reps.drop:∀{ds:List D}{vs:List V}(n:Nat),Reps K H α ds vs->Reps K H α (ds.drop n) (vs.drop n)
 |[],vs,n,h=>by simp only[Reps]at h;subst h;simpa using Reps.nil
 |d::ds,vs,n,h=>by
  cases n with
  |zero=>exact h
  |succ n=>
   simp only[Reps]at h;obtain⟨v,r,rfl,h1,h2⟩:=h;exact Reps.drop n h2
theorem Reps.set{d:D}{v:V}(q:aS K H α d v):∀{ds:List D}{vs:List V}(n:Nat),Reps K H α ds vs->Reps K H α (ds.set n d) (vs.set n v)
 |[],vs,n,h=>by simp only[Reps]at h;subst h;simpa using Reps.nil
 |e::ds,vs,n,h=>by
  simp only[Reps]at h;obtain⟨v',r,rfl,h1,h2⟩:=h;cases n with
  |zero=>exact Reps.cons q h2
  |succ n=>exact Reps.cons h1 (Reps.set q n h2)
theorem Reps.reverse:∀{ds:List D}{vs:List V},Reps K H α ds vs->Reps K H α ds.reverse vs.reverse
 |[],vs,h=>by simp only[Reps]at h;subst h;exact Reps.nil
 |d::ds,vs,h=>by
  simp only[Reps]at h;obtain⟨v,r,rfl,h1,h2⟩:=h;rw[PY,PY];exact Reps.append (Reps.reverse h2) (Reps.cons h1 Reps.nil)
theorem Reps.one{d:D}{vs:List V}(h:Reps K H α [d] vs):∃v,vs=[v]/\aS K H α d v:=by
 simp only[Reps]at h;obtain⟨v,r,rfl,h1,rfl⟩:=h;exact⟨v,rfl,h1⟩
theorem Reps.two{d e:D}{vs:List V}(h:Reps K H α [d,e] vs):∃v u,vs=[v,u]/\aS K H α d v/\aS K H α e u:=by
 simp only[Reps]at h;obtain⟨v,r,rfl,h1,u,r',rfl,h2,rfl⟩:=h;exact⟨v,u,rfl,h1,h2⟩
theorem Reps.snoc{d:D}{ds:List D}{v:V}{vs:List V}(h:Reps K H α ds vs)(q:aS K H α d v):Reps K H α (ds++[d]) (vs++[v]):=h.append (Reps.cons q Reps.nil)
theorem Reps.ints:∀{ns:List Int}{vs:List V},Reps K H α (ns.map D.int) vs->vs=ns.map V.int
 |[],vs,h=>by simp only[PL,Reps]at h;exact h
 |n::ns,vs,h=>by
  simp only[PM,Reps]at h;obtain⟨v,r,rfl,h1,h2⟩:=h;simp only[aS]at h1;rw[h1,Reps.ints h2];rfl
theorem kU:∀(ns:List Int),Reps K H α (ns.map D.int) (ns.map V.int)
 |[]=>Reps.nil
 |n::ns=>Reps.cons (by simp only[aS]) (kU ns)
theorem aO{xs:List D}{v:V}:aS K H α (.tup xs) v↔∃a vs,v=.ref a/\gP K H a vs/\Reps K H α xs vs:=by simp only[aS]
theorem bx{xs:List D}{v:V}:aS K H α (.frz xs) v↔∃a vs,v=.ref a/\GO K H a vs/\Reps K H α xs vs:=by simp only[aS]
theorem aT{n:Nat}{v:V}:aS K H α (.obj n) v↔∃a,v=.ref a/\α[n]?=some a:=by simp only[aS]
theorem av{n:Int}{v:V}:aS K H α (.int n) v↔v=.int n:=by simp only[aS]
theorem aW{n:Bool}{v:V}:aS K H α (.bl n) v↔v=.bl n:=by simp only[aS]
theorem bq{n:Str}{v:V}:aS K H α (.str n) v↔v=.str n:=by simp only[aS]
theorem bH{v:V}:aS K H α .non v↔v=.non:=by simp only[aS]
end
def vJ(K:W.Frag)(w:World)(H:Hp)(α:List Addr):O->Addr->Prop
 |.lst xs,a=>∃vs,H a=some (.lst vs)/\Reps K H α xs vs
 |.set ks,a=>∃ps:List KP,ps.map (·.1)=ks/\H a=some (.ext fun h=>fL w h a ps)/\(∀p∈ps,p.1∈prs)/\(ps.map (·.1)).Nodup/\∀p∈ps,gP K H p.2 (p.1.map V.int)
 |.iset ks,a=>∃ps:List KI,ps.map (·.1)=ks/\H a=some (.ext fun h=>dt w h a ps)/\ks.length<=6
 |.dic,a=>H a=some (.dK [])
 |.exc c,a=>∃C,W.nsIn K mainGlobals c=some (some (.ref C))/\H a=some (vK a C)
structure gO(K:W.Frag)(w:World)(H:Hp)(α:List Addr)(μ:aB):Prop where
 len:α.length=μ.length
 nd:α.Nodup
 ob:∀(n:Nat) o a,μ[n]?=some o->α[n]?=some a->vJ K w H α o a
section
variable{K:W.Frag}{w:World}{H H':Hp}{α α':List Addr}{μ:aB}
theorem vJ.live{o:O}{a:Addr}(h:vJ K w H α o a):H a≠none:=by
 cases o with
 |lst xs=>obtain⟨vs,e,_⟩:=h;rw[e];exact fun z=>by cases z
 |set ks=>obtain⟨ps,_,e,_⟩:=h;rw[e];exact fun z=>by cases z
 |iset ks=>obtain⟨ps,_,e,_⟩:=h;rw[e];exact fun z=>by cases z
 |dic=>have e:H a=some (.dK []):=h;rw[e];exact fun z=>by cases z
 |exc c=>obtain⟨C,_,e⟩:=h;rw[e];exact fun z=>by cases z
theorem vJ.mono{o:O}{a:Addr}(h:vJ K w H α o a)(e:lH K H H' α α')(ha:H' a=H a):vJ K w H' α' o a:=by
 cases o with
 |lst xs=>obtain⟨vs,q,r⟩:=h;exact⟨vs,ha.trans q,r.mono e⟩
 |set ks=>obtain⟨ps,h1,q,h2,h3,h4⟩:=h;exact⟨ps,h1,ha.trans q,h2,h3,fun p hp=>e.tup _ _ (h4 p hp)⟩
 |iset ks=>obtain⟨ps,h1,q,h2⟩:=h;exact⟨ps,h1,ha.trans q,h2⟩
 |dic=>exact ha.trans h
 |exc c=>obtain⟨C,h1,q⟩:=h;exact⟨C,h1,ha.trans q⟩
theorem gO.at(S:gO K w H α μ){n:Nat}{o:O}(e:μ[n]?=some o):∃a,α[n]?=some a/\vJ K w H α o a:=by
 have hn:n<μ.length:=(Ow.mp e).1;have hn':n<α.length:=by rw[S.len];exact hn
 exact⟨α[n],RZ hn',S.ob n o _ e (RZ hn')⟩
theorem gO.live(S:gO K w H α μ){a:Addr}(h:a∈α):H a≠none:=by
 obtain⟨n,hn,e⟩:=List.getElem_of_mem h;have hm:n<μ.length:=by rw[<- S.len];exact hn
 exact(S.ob n _ a (RZ hm) (by rw[<- e];exact RZ hn)).live
theorem gO.fresh(S:gO K w H α μ){p:Addr}(h:H p=none):p∉α:=fun z=>S.live z h
theorem gO.same(S:gO K w H α μ)(e:lH K H H' α α)(h:∀a,H a≠none->H' a=H a):gO K w H' α μ:=
 ⟨S.len,S.nd,fun n o a h1 h2=>(S.ob n o a h1 h2).mono e (h a (S.ob n o a h1 h2).live)⟩
theorem cE{p:Addr}{o:HO}(h:H p=none):lH K H (dg H p o) α α:=by
 refine⟨fun a xs q=>?_,fun a xs q=>?_,fun _ _ z=>z⟩
 ·rcases q with (q | ⟨x, q⟩) | q
  ·exact .inl (.inl (by rw[bG (cu q h)];exact q))
  ·exact .inl (.inr ⟨x,by rw[bG (cu q h)];exact q⟩)
  ·exact .inr q
 ·rcases q with ⟨x, q⟩ | q
  ·exact .inl ⟨x,by rw[bG (cu q h)];exact q⟩
  ·exact .inr q
theorem jf{p:Addr}{vs:List V}{o:HO}(h:H p=some (.lst vs)):lH K H (dg H p o) α α:=by
 refine⟨fun a xs q=>?_,fun a xs q=>?_,fun _ _ z=>z⟩
 ·rcases q with (q | ⟨x, q⟩) | q
  ·exact .inl (.inl (by rw[bG (B0 q h (by intro z;cases z))];exact q))
  ·exact .inl (.inr ⟨x,by rw[bG (B0 q h (by intro z;cases z))];exact q⟩)
  ·exact .inr q
 ·rcases q with ⟨x, q⟩ | q
  ·exact .inl ⟨x,by rw[bG (B0 q h (by intro z;cases z))];exact q⟩
  ·exact .inr q
theorem jH(β:List Addr):lH K H H α (α++β):=⟨fun _ _ h=>h,fun _ _ h=>h,fun n a h=>by rw[O9 (Ow.mp h).1];exact h⟩
theorem gO.tuple(S:gO K w H α μ){p:Addr}{vs:List V}(h:H p=none):gO K w (dg H p (.tup vs)) α μ:=
 S.same (cE h) fun a ha=>bG fun z=>ha (by rw[z];exact h)
theorem gO.more(S:gO K w H α μ){p:Addr}{o:O}{ho:HO}(h:H p=none)(q:vJ K w (dg H p ho) (α++[p]) o p):gO K w (dg H p ho) (α++[p]) (μ++[o]):=by
 refine⟨by simp[S.len],?_,fun n o' a h1 h2=>?_⟩
 ·rw[Rf];exact⟨S.nd,by simp,fun x hx y hy z=>by simp at hy;subst hy;subst z;exact S.fresh h hx⟩
 ·by_cases hn : n < μ.length
  ·rw[O9 hn]at h1;rw[O9 (by rw[S.len];exact hn)]at h2;exact(S.ob n o' a h1 h2).mono ((cE h).trans (jH [p])) (bG fun z=>(S.ob n o' a h1 h2).live (by rw[z];exact h))
  ·have hn':n=μ.length:=by
    have:=(Ow.mp h1).1;simp at this;omega
   subst hn';rw[O7 (OR _)]at h1;rw[O7 (by rw[S.len];exact OR _),S.len]at h2;simp at h1 h2;subst h1;subst h2;exact q
theorem gO.put(S:gO K w H α μ){n:Nat}{a:Addr}{xs ys:List D}{us vs:List V}(h1:μ[n]?=some (.lst xs))(h2:α[n]?=some a)(h3:H a=some (.lst us))(q:Reps K H α ys vs):gO K w (dg H a (.lst vs)) α (μ.set n (.lst ys)):=by
 have e:=jf (K:=K) (α:=α) (o:=.lst vs) h3;refine⟨by simp[S.len],S.nd,fun m o b g1 g2=>?_⟩;have hn:n<μ.length:=(Ow.mp h1).1;by_cases hm:m=n
 ·subst hm;rw[Oy hn]at g1;cases g1;rw[h2]at g2;cases g2;exact⟨vs,cJ,q.mono e⟩
 ·rw[OA (fun z=>hm z.symm)]at g1;refine(S.ob m o b g1 g2).mono e (bG fun z=>hm ?_);subst z;have i1:=(Ow.mp g2);have i2:=(Ow.mp h2);obtain⟨l1,e1⟩:=i1;obtain⟨l2,e2⟩:=i2;exact(Ox S.nd).mp (e1.trans e2.symm)
end
structure eB(K:W.Frag)(H:Hp)(α:List Addr)(ρ:Ro)(σ:St):Prop where
 len:ρ.length=σ.length
 at':∀(i:Nat) d,ρ[i]?=some (some d)->∃v,σ[i]?=some (some v)/\aS K H α d v
theorem eB.mono{K:W.Frag}{H H':Hp}{α α':List Addr}{ρ:Ro}{σ:St}(e:lH K H H' α α')(R:eB K H α ρ σ):eB K H' α' ρ σ:=
 ⟨R.len,fun i d h=>let ⟨v,h1,h2⟩:=R.at' i d h;⟨v,h1,h2.mono e⟩⟩
theorem eB.set{K:W.Frag}{H:Hp}{α:List Addr}{ρ:Ro}{σ:St}{d:D}{v:V}(R:eB K H α ρ σ)(i:Nat)(q:aS K H α d v):eB K H α (ρ.set i (some d)) (σ.set i (some v)):=by
 refine⟨by simp[R.len],fun j d' h=>?_⟩;by_cases hj:j=i
 ·subst hj;have hl:j<ρ.length:=by have:=(Ow.mp h).1;simpa using this
  rw[Oy hl]at h;cases h;exact⟨v,by rw[Oy (by rw[<- R.len];exact hl)],q⟩
 ·rw[OA (fun z=>hj z.symm)]at h⊢;exact R.at' j d' h
structure DX where
 cls:Str
 args:List D
inductive aj(β:Type) where
 |ok (a:β) (μ:aB)|exc (x:DX) (μ:aB)|bad
def aj.bind{β γ:Type}(o:aj β)(g:β->aB->aj γ):aj γ:=match o with
 |.ok a μ=>g a μ
 |.exc x μ=>.exc x μ
 |.bad=>.bad
@[simp] theorem aa {β γ:Type}{a:β}{μ:aB}{g:β->aB->aj γ}:(aj.ok a μ).bind g=g a μ:=Sa (Sb _)
inductive SO where
 |next (ρ:Ro) (μ:aB)|ret (d:D) (μ:aB)|brk (ρ:Ro) (μ:aB)|cnt (ρ:Ro) (μ:aB)|exc (x:DX) (μ:aB)|bad
def aj.bindS{β:Type}(o:aj β)(g:β->aB->SO):SO:=match o with
 |.ok a μ=>g a μ
 |.exc x μ=>.exc x μ
 |.bad=>.bad
@[simp] theorem af {β:Type}{a:β}{μ:aB}{g:β->aB->SO}:(aj.ok a μ).bindS g=g a μ:=Sa (Sb _)
def SO.bind(o:SO)(g:Ro->aB->SO):SO:=match o with
 |.next ρ μ=>g ρ μ
 |o=>o
structure Pa where
 K:W.Frag
 w:World
 xw:DX->aB->Hp->List Addr->Prop
abbrev Pa.S(p:Pa):=gO p.K p.w
abbrev Pa.X(p:Pa):=lH p.K
abbrev Pa.R(p:Pa):=aS p.K
abbrev Pa.Rs(p:Pa):=Reps p.K
def aK{β:Type}(p:Pa)(H:Hp)(α:List Addr)(o:aj β)(R:β->aB->Hp->List Addr->Prop):Prop:=match o with
 |.ok a μ'=>∀H' α',p.X H H' α α'->p.S H' α' μ'->R a μ' H' α'
 |.exc x μ'=>∀H' α',p.X H H' α α'->p.S H' α' μ'->p.xw x μ' H' α'
 |.bad=>False
def d3(p:Pa)(H:Hp)(α:List Addr)(o:SO)(D:nT):Prop:=match o with
 |.next ρ' μ'=>∀H' α' σ',p.X H H' α α'->p.S H' α' μ'->eB p.K H' α' ρ' σ'->D.nx σ' H'
 |.brk ρ' μ'=>∀H' α' σ',p.X H H' α α'->p.S H' α' μ'->eB p.K H' α' ρ' σ'->D.bk σ' H'
 |.cnt ρ' μ'=>∀H' α' σ',p.X H H' α α'->p.S H' α' μ'->eB p.K H' α' ρ' σ'->D.ct σ' H'
 |.ret d μ'=>∀H' α' v,p.X H H' α α'->p.S H' α' μ'->p.R H' α' d v->D.rt v H'
 |.exc x μ'=>∀H' α',p.X H H' α α'->p.S H' α' μ'->p.xw x μ' H' α'
 |.bad=>False
section
variable{p:Pa}{H H1:Hp}{α α1:List Addr}{β γ:Type}
theorem aK.imp{o:aj β}{R R':β->aB->Hp->List Addr->Prop}(h:aK p H α o R)(k:∀a μ' H' α',p.X H H' α α'->p.S H' α' μ'->R a μ' H' α'->R' a μ' H' α'):aK p H α o R':=by
 cases o with
 |ok a μ=>exact fun H' α' e s=>k a μ H' α' e s (h H' α' e s)
 |exc x μ=>exact h
 |bad=>exact h
theorem aK.from{o:aj β}{R:β->aB->Hp->List Addr->Prop}(e:p.X H H1 α α1)(h:aK p H α o R):aK p H1 α1 o R:=by
 cases o with
 |ok a μ=>exact fun H' α' e' s=>h H' α' (e.trans e') s
 |exc x μ=>exact fun H' α' e' s=>h H' α' (e.trans e') s
 |bad=>exact h
theorem aK.bind{o:aj β}{g:β->aB->aj γ}{R:γ->aB->Hp->List Addr->Prop}(h:aK p H α (o.bind g) R):aK p H α o (fun a μ1 H1 α1=>aK p H1 α1 (g a μ1) R):=by
 cases o with
 |ok a μ=>exact fun H' α' e s=>aK.from e h
 |exc x μ=>exact h
 |bad=>exact h
theorem aK.now{a:β}{μ:aB}{R:β->aB->Hp->List Addr->Prop}(h:aK p H α (.ok a μ) R)(s:p.S H α μ):R a μ H α:=h H α lH.refl s
theorem d3.from{o:SO}{D:nT}(e:p.X H H1 α α1)(h:d3 p H α o D):d3 p H1 α1 o D:=by
 cases o with
 |next ρ μ=>exact fun H' α' σ' e' s r=>h H' α' σ' (e.trans e') s r
 |brk ρ μ=>exact fun H' α' σ' e' s r=>h H' α' σ' (e.trans e') s r
 |cnt ρ μ=>exact fun H' α' σ' e' s r=>h H' α' σ' (e.trans e') s r
 |ret d μ=>exact fun H' α' v e' s r=>h H' α' v (e.trans e') s r
 |exc x μ=>exact fun H' α' e' s=>h H' α' (e.trans e') s
 |bad=>exact h
theorem aK.bindS{o:aj β}{g:β->aB->SO}{D:nT}(h:d3 p H α (o.bindS g) D):aK p H α o (fun a μ1 H1 α1=>d3 p H1 α1 (g a μ1) D):=by
 cases o with
 |ok a μ=>exact fun H' α' e s=>d3.from e h
 |exc x μ=>exact h
 |bad=>exact h
end
abbrev ME:=Ro->aB->aj D
abbrev MT:=Ro->aB->aj Bool
abbrev MA:=Ro->aB->aj (List D)
abbrev MS:=Ro->aB->SO
abbrev MG:=D->Ro->aB->aj Ro
abbrev RV(p:Pa)(Q:VK):D->aB->Hp->List Addr->Prop:=fun d _ H' α'=>∀v,p.R H' α' d v->Q v H'
def tD(p:Pa)(f:ME):TE:=fun σ H Q=>∃α ρ μ,p.S H α μ/\eB p.K H α ρ σ/\aK p H α (f ρ μ) (RV p Q)
def iO(p:Pa)(f:MT):TT:=fun σ H Q=>∃α ρ μ,p.S H α μ/\eB p.K H α ρ σ/\aK p H α (f ρ μ) (fun b _ H' _=>Q b H')
def mC(p:Pa)(f:MA):TA:=fun σ H Q=>∃α ρ μ,p.S H α μ/\eB p.K H α ρ σ/\aK p H α (f ρ μ) (fun ds _ H' α'=>∀vs,p.Rs H' α' ds vs->Q vs H')
def iz(p:Pa)(f:MS):TS:=fun D σ H=>∃α ρ μ,p.S H α μ/\eB p.K H α ρ σ/\d3 p H α (f ρ μ) D
def t9(p:Pa)(g:MG):TG:=fun v σ H Q=>∃α ρ μ d,p.S H α μ/\eB p.K H α ρ σ/\p.R H α d v/\aK p H α (g d ρ μ) (fun ρ' _ H' α'=>∀σ',eB p.K H' α' ρ' σ'->Q σ' H')
theorem PE.weak{X:Cx}{e:Expr}{t t':TE}(h:PE X e t)(k:∀σ H Q,t' σ H Q->t σ H Q):PE X e t':=fun pins s σ H Q I q=>h pins s σ H Q I (k σ H Q q)
theorem PT.weak{X:Cx}{e:Expr}{t t':TT}(h:PT X e t)(k:∀σ H Q,t' σ H Q->t σ H Q):PT X e t':=fun pins s σ H Q I q=>h pins s σ H Q I (k σ H Q q)
theorem PW.weak{X:Cx}{e:Expr}{t t':TT}(h:PW X e t)(k:∀σ H Q,t' σ H Q->t σ H Q):PW X e t':=fun wh pins s σ H Q I q=>h wh pins s σ H Q I (k σ H Q q)
theorem PA.weak{X:Cx}{e:List Expr}{t t':TA}(h:PA X e t)(k:∀σ H Q,t' σ H Q->t σ H Q):PA X e t':=fun pos pins s σ H Q I q=>h pos pins s σ H Q I (k σ H Q q)
theorem PS.weak{X:Cx}{e:Stmt}{t t':TS}(h:PS X e t)(k:∀D σ H,t' D σ H->t D σ H):PS X e t':=fun pins s σ H Q I q=>h pins s σ H Q I (k Q σ H q)
theorem jt.weak{X:Cx}{e:List Stmt}{t t':TS}(h:jt X e t)(k:∀D σ H,t' D σ H->t D σ H):jt X e t':=fun pins s σ H Q I q=>h pins s σ H Q I (k Q σ H q)
def ai(i:Nat):ME:=fun ρ μ=>match ρ[i]? with
 |some (some d)=>.ok d μ
 |_=>.bad
def cC(d:D):ME:=fun _ μ=>.ok d μ
def aA(op:D->D->aB->aj D)(fa fb:ME):ME:=fun ρ μ=>(fa ρ μ).bind fun a μ1=>(fb ρ μ1).bind fun b μ2=>op a b μ2
def ky(op:D->aB->aj D)(fa:ME):ME:=fun ρ μ=>(fa ρ μ).bind fun a μ1=>op a μ1
def aD:MA:=fun _ μ=>.ok [] μ
def ag(fa:ME)(fr:MA):MA:=fun ρ μ=>(fa ρ μ).bind fun a μ1=>(fr ρ μ1).bind fun r μ2=>.ok (a::r) μ2
def aI(f:List D->aB->aj D)(fa:MA):ME:=fun ρ μ=>(fa ρ μ).bind f
def bE(fa:MA):ME:=aI (fun ds μ=>if ds.length<=sizeLine then .ok (.tup ds) μ else .bad) fa
def iS(fa:MA):ME:=aI (fun ds μ=>if ds.length<=sizeLine then .ok (.obj μ.length) (μ++[.lst ds]) else .bad) fa
def ze:D->aB->aj Bool
 |.bl b,μ=>.ok b μ
 |_,_=>.bad
def i8(f:ME):MT:=fun ρ μ=>(f ρ μ).bind ze
def qK(f g:MT):MT:=fun ρ μ=>(f ρ μ).bind fun b μ1=>if b=true then g ρ μ1 else .ok false μ1
def ja(f g:MT):MT:=fun ρ μ=>(f ρ μ).bind fun b μ1=>if b=true then .ok true μ1 else g ρ μ1
def cD(f:MT):MT:=fun ρ μ=>(f ρ μ).bind fun b μ1=>.ok (!b) μ1
def fK(f g:ME):ME:=fun ρ μ=>(f ρ μ).bind fun a μ1=>(ze a μ1).bind fun b μ2=>if b=true then g ρ μ2 else .ok (.bl false) μ2
def vX(f:ME):ME:=fun ρ μ=>(f ρ μ).bind fun a μ1=>(ze a μ1).bind fun b μ2=>.ok (.bl (!b)) μ2
def Mp(c:MT)(f g:ME):ME:=fun ρ μ=>(c ρ μ).bind fun b μ1=>if b=true then f ρ μ1 else g ρ μ1
def oW(p:Pa)(op:D->D->aB->aj D)(r:R2):Prop:=∀a b v y H α μ Q,p.S H α μ->p.R H α a v->p.R H α b y->aK p H α (op a b μ) (RV p Q)->r v y H Q
def NI(p:Pa)(op:D->aB->aj D)(r:V->Hp->VK->Prop):Prop:=∀a v H α μ Q,p.S H α μ->p.R H α a v->aK p H α (op a μ) (RV p Q)->r v H Q
def vy(p:Pa)(f:List D->aB->aj D)(r:List V->Hp->VK->Prop):Prop:=∀ds vs H α μ Q,p.S H α μ->p.Rs H α ds vs->aK p H α (f ds μ) (RV p Q)->r vs H Q
section
variable{p:Pa}
theorem l9{d:D}{μ:aB}{H:Hp}{α:List Addr}{R:Bool->aB->Hp->List Addr->Prop}{v:V}(h:aK p H α (ze d μ) R)(r:p.R H α d v)(s:p.S H α μ):∃b,d=.bl b/\v=.bl b/\R b μ H α:=by
 cases d with
 |bl b=>exact⟨b,rfl,aW.mp r,h.now s⟩
 |non=>exact h.elim
 |int i=>exact h.elim
 |str x=>exact h.elim
 |tup xs=>exact h.elim
 |frz xs=>exact h.elim
 |obj n=>exact h.elim
variable{X:Cx}{a b c:Expr}{es:List Expr}{fa fb fc:ME}{pos:Pos}
theorem Iw{i:Nat}{x:Str}(h:PE X (.Name x pos) (Hs i)):PE X (.Name x pos) (tD p (ai i)):=h.weak fun σ H Q ⟨α,ρ,μ,S,R,P⟩=>by
 unfold ai at P;cases e:ρ[i]? with
 |none=>rw[e]at P;exact P.elim
 |some o=>
  rw[e]at P;cases o with
  |none=>exact P.elim
  |some d=>
   obtain⟨v,h1,h2⟩:=R.at' i d e;exact⟨v,h1,P.now S v h2⟩
theorem BC{e:Expr}{v:V}{d:D}(h:PE X e (tC v))(r:∀H α,p.R H α d v):PE X e (tD p (cC d)):=h.weak fun σ H Q ⟨α,ρ,μ,S,R,P⟩=>P.now S v (r H α)
theorem nU{op:Operator}{o:D->D->aB->aj D}{r:R2}(ho:iP X (binaryOp op) r)(hd:oW p o r)(ha:PE X a (tD p fa))(hb:PE X b (tD p fb)):PE X (.BinOp a op b pos) (tD p (aA o fa fb)):=
 (LO ho ha hb).weak fun σ H Q ⟨α,ρ,μ,S,R,P⟩=>⟨α,ρ,μ,S,R,P.bind.imp fun x μ1 H1 α1 X1 S1 P1 v rv=>⟨α1,ρ,μ1,S1,R.mono X1,P1.bind.imp fun y μ2 H2 α2 X2 S2 P2 u ru=>hd x y v u H2 α2 μ2 Q S2 (rv.mono X2) ru P2⟩⟩
theorem IE{op:CmpOp}{o:D->D->aB->aj D}{r:R2}(ho:iP X (compareOp op) r)(hd:oW p o r)(ha:PE X a (tD p fa))(hb:PE X b (tD p fb))(hm:behindInMarks op b=false):PE X (.Compare a [op] [b] pos) (tD p (aA o fa fb)):=
 (FN ho ha hb hm).weak fun σ H Q ⟨α,ρ,μ,S,R,P⟩=>⟨α,ρ,μ,S,R,P.bind.imp fun x μ1 H1 α1 X1 S1 P1 v rv=>⟨α1,ρ,μ1,S1,R.mono X1,P1.bind.imp fun y μ2 H2 α2 X2 S2 P2 u ru=>hd x y v u H2 α2 μ2 Q S2 (rv.mono X2) ru P2⟩⟩
theorem HZ{op:CmpOp}{o:D->D->aB->aj D}{r:R2}(ho:iP X (compareOp op) r)(hd:oW p o r)(ha:PE X a (tD p fa))(hb:PE X b (tD p fb))(hm:behindInMarks op b=false):PT X (.Compare a [op] [b] pos) (iO p (i8 (aA o fa fb))):=
 (Fz ho ha hb hm).weak fun σ H Q ⟨α, ρ, μ, S, R, P⟩ => ⟨α, ρ, μ, S, R, P.bind.bind.imp fun x μ1 H1 α1 X1 S1 P1 v rv => ⟨α1, ρ, μ1, S1, R.mono X1, P1.bind.imp fun y μ2 H2 α2 X2 S2 P2 u ru =>
  hd x y v u H2 α2 μ2 _ S2 (rv.mono X2) ru (P2.imp fun d μ3 H3 α3 X3 S3 P3 z rz=>by
   obtain⟨k,_,e,q⟩:=l9 P3 rz S3
   exact⟨k,e,q⟩)⟩⟩
theorem LC{op:UnaryOp}{o:D->aB->aj D}{r:V->Hp->VK->Prop}(ho:Mq X (unaryOp op) r)(hd:NI p o r)(ha:PE X a (tD p fa)):PE X (.UnaryOp op a pos) (tD p (ky o fa)):=
 (LN ho ha).weak fun σ H Q ⟨α,ρ,μ,S,R,P⟩=>⟨α,ρ,μ,S,R,P.bind.imp fun x μ1 H1 α1 X1 S1 P1 v rv=>hd x v H1 α1 μ1 Q S1 rv P1⟩
theorem IG:PA X [] (mC p aD):=qP.weak fun σ H Q ⟨α,ρ,μ,S,R,P⟩=>P.now S [] Reps.nil
theorem Fl{fr:MA}(ha:PE X a (tD p fa))(hr:PA X es (mC p fr))(hs:starEach (a::es) X.env=(false,eval a X.env)::starEach es X.env):PA X (a::es) (mC p (ag fa fr)):=
 (jd ha hr hs).weak fun σ H Q ⟨α,ρ,μ,S,R,P⟩=>⟨α,ρ,μ,S,R,P.bind.imp fun x μ1 H1 α1 X1 S1 P1 v rv=>⟨α1,ρ,μ1,S1,R.mono X1,P1.bind.imp fun y μ2 H2 α2 X2 S2 P2 us ru=>P2.now S2 _ (Reps.cons (rv.mono X2) ru)⟩⟩
theorem Iy{k:Nat}{fr:MA}(h:PA X es (mC p fr)):PE X (.Tuple es k pos) (tD p (bE fr)):=
 (Ja h).weak fun σ H Q ⟨α, ρ, μ, S, R, P⟩ => ⟨α, ρ, μ, S, R, P.bind.imp fun ds μ1 H1 α1 X1 S1 P1 vs rv => by
  by_cases hl:ds.length<=sizeLine
  ·rw[Ob hl]at P1;refine⟨by rw[rv.length];exact hl,fun q hq=>?_⟩;exact P1 _ _ (cE hq) (S1.tuple hq) _ (aO.mpr ⟨q,vs,rfl,gP.of cJ,rv.mono (cE hq)⟩)
  ·rw [Oc hl] at P1
   exact P1.elim⟩
theorem dP{H:Hp}{α:List Addr}{μ:aB}{ds:List D}{vs:List V}{q:Addr}(S:p.S H α μ)(hq:H q=none)(rv:p.Rs H α ds vs) :
  p.X H (dg H q (.lst vs)) α (α++[q])/\p.S (dg H q (.lst vs)) (α++[q]) (μ++[.lst ds])/\p.R (dg H q (.lst vs)) (α++[q]) (.obj μ.length) (.ref q):=by
 have X1:p.X H (dg H q (.lst vs)) α (α++[q]):=(cE hq).trans (jH [q]);exact⟨X1,S.more hq ⟨vs,cJ,rv.mono X1⟩,aT.mpr ⟨q,rfl,by rw[<- S.len];simp⟩⟩
theorem IA{fr:MA}(h:PA X es (mC p fr)):PE X (.List es pos) (tD p (iS fr)):=
 (Cw h).weak fun σ H Q ⟨α, ρ, μ, S, R, P⟩ => ⟨α, ρ, μ, S, R, P.bind.imp fun ds μ1 H1 α1 X1 S1 P1 vs rv => by
  by_cases hl:ds.length<=sizeLine
  ·rw[Ob hl]at P1;refine⟨by rw[rv.length];exact hl,fun q hq=>?_⟩;obtain⟨x1,x2,x3⟩:=dP S1 hq rv;exact P1 _ _ x1 x2 _ x3
  ·rw [Oc hl] at P1
   exact P1.elim⟩
variable{ft gt:MT}{rest:List Expr}
theorem HX(ha:PT X a (iO p ft))(hb:PW X (.BoolOp .And (b::rest) pos) (iO p gt)):PW X (.BoolOp .And (a::b::rest) pos) (iO p (qK ft gt)):=
 (IQ ha hb).weak fun σ H Q ⟨α, ρ, μ, S, R, P⟩ => ⟨α, ρ, μ, S, R, P.bind.imp fun k μ1 H1 α1 X1 S1 P1 => by
  cases k with
  |true=>rw[Ob rfl]at P1⊢;exact⟨α1,ρ,μ1,S1,R.mono X1,P1⟩
  |false=>rw[Oc OK]at P1⊢;exact P1.now S1⟩
theorem Ly(ha:PT X a (iO p ft))(hb:PW X (.BoolOp .Or (b::rest) pos) (iO p gt)):PW X (.BoolOp .Or (a::b::rest) pos) (iO p (ja ft gt)):=
 (LK ha hb).weak fun σ H Q ⟨α, ρ, μ, S, R, P⟩ => ⟨α, ρ, μ, S, R, P.bind.imp fun k μ1 H1 α1 X1 S1 P1 => by
  cases k with
  |true=>rw[Ob rfl]at P1⊢;exact P1.now S1
  |false=>rw[Oc OK]at P1⊢;exact⟨α1,ρ,μ1,S1,R.mono X1,P1⟩⟩
theorem HY(ha:PT X a (iO p ft)):PT X (.UnaryOp .Not a pos) (iO p (cD ft)):=
 (IR ha).weak fun σ H Q ⟨α,ρ,μ,S,R,P⟩=>⟨α,ρ,μ,S,R,P.bind.imp fun k μ1 H1 α1 X1 S1 P1=>P1.now S1⟩
theorem IF(ha:PE X a (tD p fa))(hb:PE X (.BoolOp .And (b::rest) pos) (tD p fb)):PE X (.BoolOp .And (a::b::rest) pos) (tD p (fK fa fb)):=
 (Jg ha hb).weak fun σ H Q ⟨α, ρ, μ, S, R, P⟩ => ⟨α, ρ, μ, S, R, P.bind.imp fun d μ1 H1 α1 X1 S1 P1 v rv => by
  obtain⟨k,_,e,q⟩:=l9 P1.bind rv S1;refine⟨k,e,?_⟩;cases k with
  |true=>rw[Ob rfl]at q⊢;exact⟨α1,ρ,μ1,S1,R.mono X1,q⟩
  |false=>rw[Oc OK]at q⊢;exact q.now S1 _ (aW.mpr rfl)⟩
theorem Iz(ha:PE X a (tD p fa)):PE X (.UnaryOp .Not a pos) (tD p (vX fa)):=
 (Jd ha).weak fun σ H Q ⟨α, ρ, μ, S, R, P⟩ => ⟨α, ρ, μ, S, R, P.bind.imp fun d μ1 H1 α1 X1 S1 P1 v rv => by
  obtain⟨k,_,e,q⟩:=l9 P1.bind rv S1
  exact⟨k,e,q.now S1 _ (aW.mpr rfl)⟩⟩
theorem LF(hc:PT X c (iO p ft))(ha:PE X a (tD p fa))(hb:PE X b (tD p fb)):PE X (.IfExp c a b pos) (tD p (Mp ft fa fb)):=
 (Dz hc ha hb).weak fun σ H Q ⟨α, ρ, μ, S, R, P⟩ => ⟨α, ρ, μ, S, R, P.bind.imp fun k μ1 H1 α1 X1 S1 P1 => by
  cases k with
  |true=>rw[Ob rfl]at P1⊢;exact⟨α1,ρ,μ1,S1,R.mono X1,P1⟩
  |false=>rw[Oc OK]at P1⊢;exact⟨α1,ρ,μ1,S1,R.mono X1,P1⟩⟩
theorem Dl{id:String}{x:Str}{px:Pos}{f:List D->aB->aj D}{fr:MA}{r:List V->Hp->VK->Prop}(hc:c6 X (.builtin id) r)(hd:vy p f r)(hg:Gl X x)(hm:X.mg x=none)(hv:bootBuiltins x=some (.builtin id))(ha:PA X (a::es) (mC p fr))
  (hn:x ≠ "__name__") (hdb:(x == ("__debug__" : Str))=false) (he:starEach (a::es) X.env=(false,eval a X.env)::starEach es X.env) (hpl:(backTo pos (starEach es X.env)).any (·.1)=false):PE X (.Call (.Name x px) (a::es) [] pos) (tD p (aI f fr)):=
 (m8 hc hg hm hv ha hn hdb he hpl).weak fun σ H Q ⟨α,ρ,μ,S,R,P⟩=>⟨α,ρ,μ,S,R,P.bind.imp fun ds μ1 H1 α1 X1 S1 P1 vs rv=>hd ds vs H1 α1 μ1 Q S1 rv P1⟩
theorem AB{T:String}{x:Str}{px:Pos}{f:List D->aB->aj D}{fr:MA}{r:List V->Hp->VK->Prop}(hc:c6 X (.type T) r)(hd:vy p f r)(hg:Gl X x)(hm:X.mg x=none)(hv:bootBuiltins x=some (.type T))(ha:PA X (a::es) (mC p fr))
  (hn:x ≠ "__name__") (hdb:(x == ("__debug__" : Str))=false) (he:starEach (a::es) X.env=(false,eval a X.env)::starEach es X.env) (hpl:(backTo pos (starEach es X.env)).any (·.1)=false):PE X (.Call (.Name x px) (a::es) [] pos) (tD p (aI f fr)):=
 (AM hc hg hm hv ha hn hdb he hpl).weak fun σ H Q ⟨α,ρ,μ,S,R,P⟩=>⟨α,ρ,μ,S,R,P.bind.imp fun ds μ1 H1 α1 X1 S1 P1 vs rv=>hd ds vs H1 α1 μ1 Q S1 rv P1⟩
end
def bV(f:ME):MS:=fun ρ μ=>(f ρ μ).bindS fun d μ'=>.ret d μ'
def cZ:MS:=fun ρ μ=>.next ρ μ
def bf(f g:MS):MS:=fun ρ μ=>(f ρ μ).bind g
def mD(c:MT)(f g:MS):MS:=fun ρ μ=>(c ρ μ).bindS fun b μ1=>if b=true then f ρ μ1 else g ρ μ1
def bB(f:ME)(g:MG):MS:=fun ρ μ=>(f ρ μ).bindS fun d μ1=>(g d ρ μ1).bindS fun ρ' μ2=>.next ρ' μ2
def qE(f:ME):MS:=fun ρ μ=>(f ρ μ).bindS fun _ μ1=>.next ρ μ1
def xV(i:Nat)(op:D->D->aB->aj D)(f:ME):MS:=fun ρ μ=>(ai i ρ μ).bindS fun a μ0=>(f ρ μ0).bindS fun b μ1=>(op a b μ1).bindS fun c μ2=>.next (ρ.set i (some c)) μ2
def aq(i:Nat):MG:=fun d ρ μ=>.ok (ρ.set i (some d)) μ
abbrev Es:=List D->Ro->aB->aj Ro
def fv:Es:=fun ds ρ μ=>match ds with
 |[]=>.ok ρ μ
 |_::_=>.bad
def br(g:MG)(u:Es):Es:=fun ds ρ μ=>match ds with
 |[]=>.bad
 |d::r=>(g d ρ μ).bind fun ρ' μ'=>u r ρ' μ'
def fu(n:Nat)(u:Es):MG:=fun d ρ μ=>match d with
 |.tup xs=>if xs.length=n then u xs ρ μ else .bad
 |_=>.bad
def Ad(o i v:D)(μ:aB):aj Unit:=match o,i with
 |.obj n,.int k=>match μ[n]? with
  |some (.lst xs)=>match zc xs.length k with
   |some j=>.ok () (μ.set n (.lst (xs.set j v)))
   |none=>.bad
  |_=>.bad
 |_,_=>.bad
def oZ(fo fi:ME):MG:=fun d ρ μ=>(fo ρ μ).bind fun o μ1=>(fi ρ μ1).bind fun i μ2=>(Ad o i d μ2).bind fun _ μ3=>.ok ρ μ3
def vA(p:Pa)(g:Es):Ep:=fun vs σ H Q=>∃α ρ μ ds,p.S H α μ/\eB p.K H α ρ σ/\p.Rs H α ds vs/\aK p H α (g ds ρ μ) (fun ρ' _ H' α'=>∀σ',eB p.K H' α' ρ' σ'->Q σ' H')
theorem PG.weak{X:Cx}{e:Expr}{t t':TG}(h:PG X e t)(k:∀v σ H Q,t' v σ H Q->t v σ H Q):PG X e t':=fun pins s σ H v u Q I r q=>h pins s σ H v u Q I r (k v σ H Q q)
theorem xP.weak{X:Cx}{e:List Expr}{t t':Ep}(h:xP X e t)(k:∀v σ H Q,t' v σ H Q->t v σ H Q):xP X e t':=fun pins s σ H v u Q I r q=>h pins s σ H v u Q I r (k v σ H Q q)
theorem PI.weak{X:Cx}{tg e:Expr}{t t':TI}(h:PI X tg e t)(k:∀σ H R,t' σ H R->t σ H R):PI X tg e t':=fun pins s σ H Q I q=>h pins s σ H Q I (k σ H Q q)
section
variable{p:Pa}{X:Cx}{a b c e tg:Expr}{es:List Expr}{f:ME}{g:MG}{u:Es}{pos:Pos}{st:Stmt}{sts:List Stmt}{fs gs:MS}{ft:MT}
theorem Ih:jt X [] (iz p cZ):=FC.weak fun D σ H ⟨α,ρ,μ,S,R,P⟩=>P H α σ lH.refl S R
theorem Di{t u:TS}{D:nT}{σ:St}{H:Hp}{α:List Addr}{o:SO}{k:MS}(h:d3 p H α (o.bind k) D)
  (hk:∀D σ H,iz p k D σ H->u D σ H):d3 p H α o {D with nx:=u D}:=by
 cases o with
 |next ρ μ=>exact fun H' α' σ' e s r=>hk _ _ _ ⟨α',ρ,μ,s,r,d3.from e h⟩
 |brk ρ μ=>exact h
 |cnt ρ μ=>exact h
 |ret d μ=>exact h
 |exc x μ=>exact h
 |bad=>exact h
theorem E2(h1:PS X st (iz p fs))(h2:jt X sts (iz p gs)):jt X (st::sts) (iz p (bf fs gs)):=
 (Ds h1 h2).weak fun D σ H ⟨α,ρ,μ,S,R,P⟩=>⟨α,ρ,μ,S,R,Di (t:=iz p fs) (σ:=σ) P fun _ _ _ z=>z⟩
theorem Ig(h1:PS X st (iz p fs)):jt X [st] (iz p fs):=FA h1
theorem Ie(h:PE X e (tD p f)):PS X (.Return (some e) pos) (iz p (bV f)):=
 (IU h).weak fun D σ H ⟨α,ρ,μ,S,R,P⟩=>⟨α,ρ,μ,S,R,(aK.bindS P).imp fun d μ1 H1 α1 X1 S1 P1 v rv=>P1 H1 α1 v lH.refl S1 rv⟩
theorem Lz{A B:List Stmt}(hc:PT X c (iO p ft))(ha:jt X A (iz p fs))(hb:jt X B (iz p gs)):PS X (.If c A B pos) (iz p (mD ft fs gs)):=
 (LL hc ha hb).weak fun D σ H ⟨α, ρ, μ, S, R, P⟩ => ⟨α, ρ, μ, S, R, (aK.bindS P).imp fun k μ1 H1 α1 X1 S1 P1 => by
  cases k with
  |true=>rw[Ob rfl]at P1⊢;exact⟨α1,ρ,μ1,S1,R.mono X1,P1⟩
  |false=>rw[Oc OK]at P1⊢;exact⟨α1,ρ,μ1,S1,R.mono X1,P1⟩⟩
theorem xg{D:nT}{σ:St}{H:Hp}(h:iz p (bB f g) D σ H):BA (tD p f) (t9 p g) D σ H:=by
 obtain⟨α,ρ,μ,S,R,P⟩:=h;exact⟨α,ρ,μ,S,R,(aK.bindS P).imp fun d μ1 H1 α1 X1 S1 P1 v rv=>⟨α1,ρ,μ1,d,S1,R.mono X1,rv,(aK.bindS P1).imp fun ρ' μ2 H2 α2 X2 S2 P2 σ' r'=>P2 H2 α2 σ' lH.refl S2 r'⟩⟩
theorem Ik(he:PE X e (tD p f))(hg:PG X tg (t9 p g))(hs:swapsWithSole [tg] e pos.line X.env=pure false)(hw:swappedStores [tg] e X.env=pure none)
  (h1:(assignEach [tg] X.env).map (·.2)=[assign tg X.env]):PS X (.Assign [tg] e pos) (iz p (bB f g)):=(IX he hg hs hw h1).weak fun D σ H h=>xg h
theorem rN{i:Nat}{v:V}{σ:St}{H:Hp}{Q:St->Hp->Prop}(h:t9 p (aq i) v σ H Q):vR i v σ H Q:=by
 obtain⟨α,ρ,μ,d,S,R,r,P⟩:=h;exact P.now S _ (R.set i r)
theorem Fg{i:Nat}{x:Str}(hN:X.N.Nodup)(hi:X.N[i]?=some x)(hx:Ab X.env.scope x)(hf:X.fn x=true\/X.env.scope.names.lookup x=some .local):PG X (.Name x pos) (t9 p (aq i)):=
 (FJ hN hi hx hf).weak fun v σ H Q h=>rN h
theorem Ic{i:Nat}{x:Str}{pos':Pos}(hN:X.N.Nodup)(hi:X.N[i]?=some x)(hx:Ab X.env.scope x)(he:PE X e (tD p f))(hs:swapsWith e (some (.Name x pos')) pos.line X.env=pure false)(hf:X.fn x=true\/X.env.scope.names.lookup x=some .local) :
  PS X (.Assign [.Name x pos'] e pos) (iz p (bB f (aq i))):=(IT hN hi hx he hs hf).weak fun D σ H h=>by
 obtain⟨α,ρ,μ,S,R,P⟩:=xg h;exact⟨α,ρ,μ,S,R,P.imp fun d μ1 H1 α1 X1 S1 P1 v rv=>rN (P1 v rv)⟩
theorem EZ(he:PE X e (tD p f))(hs:swapsWith e none pos.line X.env=pure false):PS X (.Expr e pos) (iz p (qE f)):=
 (FE he hs).weak fun D σ H ⟨α,ρ,μ,S,R,P⟩=>⟨α,ρ,μ,S,R,(aK.bindS P).imp fun d μ1 H1 α1 X1 S1 P1 v rv=>P1 H1 α1 σ lH.refl S1 (R.mono X1)⟩
theorem Ff:xP X [] (vA p fv):=FI.weak fun vs σ H Q ⟨α,ρ,μ,ds,S,R,r,P⟩=>by
 cases ds with
 |nil=>simp only[Reps]at r;exact⟨r,P.now S σ R⟩
 |cons d ds=>exact P.elim
theorem De(h1:PG X e (t9 p g))(h2:xP X es (vA p u))(hs:(assignEach (e::es) X.env).map (·.2)=assign e X.env::(assignEach es X.env).map (·.2)):xP X (e::es) (vA p (br g u)):=
 (Dx h1 h2 hs).weak fun vs σ H Q ⟨α, ρ, μ, ds, S, R, r, P⟩ => by
  cases ds with
  |nil=>exact P.elim
  |cons d ds=>
   simp only[Reps]at r;obtain⟨v,vr,rfl,r1,r2⟩:=r;refine⟨v,vr,rfl,α,ρ,μ,d,S,R,r1,?_⟩;exact(aK.bind (o:=g d ρ μ) P).imp fun ρ' μ1 H1 α1 X1 S1 P1 σ' r'=>⟨α1,ρ',μ1,ds,S1,r',r2.mono X1,P1⟩
theorem Iu{k n:Nat}(hK:X.K=p.K)(hc:X.calm=true)(h:xP X es (vA p u))(hn:(assignEach es X.env).length=n)(hst:(assignEach es X.env).findIdx? (·.1)=none):PG X (.Tuple es k pos) (t9 p (fu n u)):=
 (IZ hc h hn hst).weak fun v σ H Q ⟨α, ρ, μ, d, S, R, r, P⟩ => by
  cases d with
  |tup xs=>
   obtain⟨a,vs,rfl,h1,h2⟩:=aO.mp r;have P':aK p H α (if xs.length=n then u xs ρ μ else .bad) _:=P;by_cases hl:xs.length=n
   ·rw[Ob hl]at P';exact⟨a,vs,rfl,by rw[hK];exact h1,by rw[h2.length];exact hl,α,ρ,μ,xs,S,R,h2,P'⟩
   ·rw[Oc hl]at P';exact P'.elim
  |non=>exact P.elim
  |bl b=>exact P.elim
  |int i=>exact P.elim
  |str x=>exact P.elim
  |frz xs=>exact P.elim
  |obj n=>exact P.elim
theorem Fi{o i d:D}{μ:aB}{H:Hp}{α:List Addr}{R:Unit->aB->Hp->List Addr->Prop}{vo vi v:V}(S:p.S H α μ)(ro:p.R H α o vo)(ri:p.R H α i vi)(rv:p.R H α d v)(P:aK p H α (Ad o i d μ) R) :
  GY vo vi v H fun H'=>∃μ',p.X H H' α α/\p.S H' α μ'/\R () μ' H' α:=by
 unfold Ad at P;split at P
 ·rename_i n k;split at P
  ·rename_i xs hx;split at P
   ·rename_i j hj;obtain⟨a,ea,us,hH,rr⟩:=S.at hx;obtain⟨a',rfl,ea'⟩:=aT.mp ro;rw[ea]at ea';cases ea';rw[av.mp ri];have q:=rr.set rv j;refine⟨a,us,k,j,rfl,rfl,hH,by rw[rr.length];exact hj,_,jf hH,S.put hx ea hH q,?_⟩;exact P _ _ (jf hH) (S.put hx ea hH q)
   ·exact P.elim
  ·exact P.elim
 ·exact P.elim
theorem Iv{o i:Expr}{fo fi:ME}(ho:PE X o (tD p fo))(hi:PE X i (tD p fi))
  (ha : ∀ v, assign (.Subscript o i pos) X.env v = (do
   let ov <- holding [v] (eval o X.env)
   let iv <- holding [v,ov] (eval i X.env)
   standAt pos
   holding [v,ov,iv] (setItem ov iv v)
   release [v,ov,iv] [])):PG X (.Subscript o i pos) (t9 p (oZ fo fi)):=
 (I0 ho hi Df ha).weak fun v σ H Q ⟨α, ρ, μ, d, S, R, r, P⟩ => ⟨α, ρ, μ, S, R, (aK.bind P).imp fun od μ1 H1 α1 X1 S1 P1 vo ro => ⟨α1, ρ, μ1, S1, R.mono X1, (aK.bind P1).imp fun id μ2 H2 α2 X2 S2 P2 vi ri => by
  obtain⟨pp,xs,k,j,e1,e2,e3,e4,μ3,x3,s3,q⟩:=Fi S2 (ro.mono X2) ri ((r.mono X1).mono X2) (aK.bind P2)
  exact⟨pp,xs,k,j,e1,e2,e3,e4,q.now s3 σ (((R.mono X1).mono X2).mono x3)⟩⟩⟩
theorem Ij{i:Nat}{x:Str}{op:Operator}{o:D->D->aB->aj D}{r:R2}{pos':Pos}(hN:X.N.Nodup)(hi:X.N[i]?=some x)(hx:Ab X.env.scope x)(he:PE X e (tD p f))(ho:Ms X op r)(hd:oW p o r)(hf:X.fn x=true\/X.env.scope.names.lookup x=some .local) :
  PS X (.AugAssign (.Name x pos') op e pos) (iz p (xV i o f)):=(IW hN hi hx he ho hf).weak fun D σ H ⟨α,ρ,μ,S,R,P⟩=>by
 unfold xV ai at P;cases er:ρ[i]? with
 |none=>rw[er]at P;exact P.elim
 |some oo=>
  rw[er]at P;cases oo with
  |none=>exact P.elim
  |some d=>
   obtain⟨v,h1,h2⟩:=R.at' i d er;have P':d3 p H α ((f ρ μ).bindS fun b μ1=>(o d b μ1).bindS fun c μ2=>.next (ρ.set i (some c)) μ2) D:=P;refine⟨v,h1,α,ρ,μ,S,R,(aK.bindS P').imp fun y μ1 H1 α1 X1 S1 P1 u ru=>?_⟩;exact hd d y v u H1 α1 μ1 _ S1 (h2.mono X1) ru ((aK.bindS P1).imp fun z μ2 H2 α2 X2 S2 P2 t rt=>P2 H2 α2 _ lH.refl S2 (((R.mono X1).mono X2).set i rt))
end
inductive su where
 |fix (xs:List D)|own (n:Nat) (xs:List D)|eno (n:Nat) (xs:List D)
def Hh:Nat->List D->List D
 |_,[]=>[]
 |i,x::r=>.tup [.int i,x]::Hh (i+1) r
def su.items:su->List D
 |.fix xs=>xs
 |.own _ xs=>xs
 |.eno _ xs=>Hh 0 xs
def eD:su->aB->Prop
 |.fix _,_=>True
 |.own n xs,μ=>μ[n]?=some (.lst xs)
 |.eno n xs,μ=>μ[n]?=some (.lst xs)
def BJ(p:Pa)(J:It)(src:su)(H0:Hp)(α0:List Addr):Prop:=
 ∀H2 α2 μ2,p.X H0 H2 α0 α2->p.S H2 α2 μ2->eD src μ2 ->
  (∀(i:Nat) d,src.items[i]?=some d->J.go i H2/\∀x H3,J.yld i H2 x H3->p.X H2 H3 α2 α2/\p.S H3 α2 μ2/\p.R H3 α2 d x)/\J.stop src.items.length H2
abbrev MI:=Ro->aB->aj su
def z8(p:Pa)(f:MI):TI:=fun σ H R=>∃α ρ μ,p.S H α μ/\eB p.K H α ρ σ/\aK p H α (f ρ μ) (fun src μ' H' α'=>∀J,eD src μ'->BJ p J src H' α'->R J H')
def SO.loop(o:SO)(k:Ro->aB->SO):SO:=match o with
 |.next ρ μ=>k ρ μ
 |.cnt ρ μ=>k ρ μ
 |.brk ρ μ=>.next ρ μ
 |.ret d μ=>.ret d μ
 |.exc x μ=>.exc x μ
 |.bad=>.bad
open Classical in
def iB(src:su)(g:MG)(fb:MS):List D->Ro->aB->SO
 |[],ρ,μ=>if eD src μ then .next ρ μ else .bad
 |d::r,ρ,μ=>if eD src μ then (g d ρ μ).bindS fun ρ' μ'=>(fb ρ' μ').loop (iB src g fb r) else .bad
def pH(fi:MI)(g:MG)(fb:MS):MS:=fun ρ μ=>(fi ρ μ).bindS fun src μ1=>iB src g fb src.items ρ μ1
def lZ(c:MT)(fb:MS):Nat->Ro->aB->SO
 |0,_,_=>.bad
 |n+1,ρ,μ=>(c ρ μ).bindS fun b μ1=>if b=true then (fb ρ μ1).loop (lZ c fb n) else .next ρ μ1
def uh(n:Nat)(c:MT)(fb:MS):MS:=lZ c fb n
section
variable{p:Pa}{X:Cx}{tg iter c:Expr}{fi:MI}{g:MG}{fb:MS}{ft:MT}{body:List Stmt}{pos:Pos}
theorem tG{H:Hp}{α:List Addr}{o:SO}{k:Ro->aB->SO}{D:nT}{N:St->Hp->Prop}(h:d3 p H α (o.loop k) D)
  (hN:∀ρ μ H' α' σ',p.X H H' α α'->p.S H' α' μ->eB p.K H' α' ρ σ'->d3 p H' α' (k ρ μ) D->N σ' H'):d3 p H α o {D with nx:=N,ct:=N,bk:=D.nx}:=by
 cases o with
 |next ρ μ=>exact fun H' α' σ' e s r=>hN ρ μ H' α' σ' e s r (d3.from e h)
 |cnt ρ μ=>exact fun H' α' σ' e s r=>hN ρ μ H' α' σ' e s r (d3.from e h)
 |brk ρ μ=>exact h
 |ret d μ=>exact h
 |exc x μ=>exact h
 |bad=>exact h
theorem Ii(hp:PassesOwn (model X.prog X.w) X.A X.env X.xe)(hc:X.calm=true)(hi:PI X tg iter (z8 p fi))(hg:PG X tg (t9 p g))(hb:jt X body (iz p fb))(hs:∀x,foldedSetIterable iter X.env x=pure x) :
  PS X (.For tg iter body [] pos) (iz p (pH fi g fb)):=(IV hp hc hi hg hb hs).weak fun D σ H ⟨α,ρ,μ,S,R,P⟩=>by
 refine⟨α,ρ,μ,S,R,(aK.bindS P).imp fun src μ1 H1 α1 X1 S1 P1 J hok hJ=>?_⟩
 refine⟨fun i m σ2 H2=>m=src.items.length-i/\i<=src.items.length/\∃α2 ρ2 μ2,p.X H1 H2 α1 α2/\p.S H2 α2 μ2/\eB p.K H2 α2 ρ2 σ2/\d3 p H2 α2 (iB src g fb (src.items.drop i) ρ2 μ2) D,
  ⟨_,rfl,Qv _,α1,ρ,μ1,lH.refl,S1,R.mono X1,by simpa using P1⟩,?_⟩
 rintro i m σ2 H2 ⟨rfl,hi,α2,ρ2,μ2,X2,S2,R2,P2⟩
 by_cases hlt:i<src.items.length
 ·rw [List.drop_eq_getElem_cons hlt] at P2;unfold iB at P2;by_cases ho:eD src μ2
  ·rw [Ob ho] at P2;obtain⟨hgo,hy⟩:=(hJ H2 α2 μ2 X2 S2 ho).1 i _ (RZ hlt)
   refine .inr ⟨hgo,fun σ' H'=>i+1<=src.items.length/\∃α2 ρ2 μ2,p.X H1 H' α1 α2/\p.S H' α2 μ2/\eB p.K H' α2 ρ2 σ'/\d3 p H' α2 (iB src g fb (src.items.drop (i+1)) ρ2 μ2) D,
    fun σ' H' ⟨h1,h2⟩=>⟨_,by omega,rfl,h1,h2⟩,fun x H3 yx=>?_⟩
   obtain⟨X3,S3,R3⟩:=hy x H3 yx;refine⟨α2,ρ2,μ2,_,S3,R2.mono X3,R3,(aK.from X3 (aK.bindS P2)).imp fun ρ4 μ4 H4 α4 X4 S4 P4 σ4 R4=>⟨α4,ρ4,μ4,S4,R4,tG P4 fun ρ5 μ5 H5 α5 σ5 X5 S5 R5 P5=>⟨hlt,α5,ρ5,μ5,((X2.trans X3).trans X4).trans X5,S5,R5,P5⟩⟩⟩
  ·rw[Oc ho]at P2;exact P2.elim
 ·have e : i = src.items.length := by omega
  subst e;rw[List.drop_length]at P2;unfold iB at P2;by_cases ho:eD src μ2
  ·rw[Ob ho]at P2;exact .inl ⟨(hJ H2 α2 μ2 X2 S2 ho).2,P2 H2 α2 σ2 lH.refl S2 R2⟩
  ·rw[Oc ho]at P2;exact P2.elim
theorem C4{n:Nat}(hp:PassesOwn (model X.prog X.w) X.A X.env X.xe)(hc:PT X c (iO p ft))(hb:jt X body (iz p fb)):PS X (.While c body [] pos) (iz p (uh n ft fb)):=
 (Dt hp hc hb).weak fun D σ H ⟨α, ρ, μ, S, R, P⟩ => by
  refine⟨fun m σ2 H2=>∃α2 ρ2 μ2,p.S H2 α2 μ2/\eB p.K H2 α2 ρ2 σ2/\d3 p H2 α2 (lZ ft fb m ρ2 μ2) D,⟨n,α,ρ,μ,S,R,P⟩,?_⟩
  rintro m σ2 H2 ⟨α2,ρ2,μ2,S2,R2,P2⟩
  cases m with
  |zero=>exact P2.elim
  |succ m=>
   unfold lZ at P2;refine⟨α2,ρ2,μ2,S2,R2,(aK.bindS P2).imp fun k μ3 H3 α3 X3 S3 P3=>?_⟩;cases k with
   |true=>
    rw[Ob rfl]at P3⊢
    exact⟨fun σ' H'=>∃α2 ρ2 μ2,p.S H' α2 μ2/\eB p.K H' α2 ρ2 σ'/\d3 p H' α2 (lZ ft fb m ρ2 μ2) D,fun σ' H' h=>⟨m,Qn _,h⟩,
     α3,ρ2,μ3,S3,R2.mono X3,tG P3 fun ρ5 μ5 H5 α5 σ5 X5 S5 R5 P5=>⟨α5,ρ5,μ5,S5,R5,P5⟩⟩
   |false=>
    rw[Oc OK]at P3⊢;exact P3 H3 α3 σ2 lH.refl S3 (R2.mono X3)
end
section
variable{p:Pa}{X:Cx}{tg iter:Expr}
theorem A1{H:Hp}{α:List Addr}{μ:aB}{n:Nat}{xs:List D}{a:Addr}(S:p.S H α μ)(hn:μ[n]?=some (.lst xs))(ha:α[n]?=some a):BJ p (Mv p.K a) (.own n xs) H α:=by
 intro H2 α2 μ2 X2 S2 ho;obtain⟨a',ea,vs,hH,rr⟩:=S2.at ho;rw[X2.pre n a ha]at ea;cases ea;refine⟨fun i d hd=>?_,vs,gu.of hH,by rw[rr.length];exact OR _⟩;obtain⟨v,hv,rv⟩:=rr.get hd;refine⟨⟨vs,v,gu.of hH,hv⟩,fun x H3 ⟨e,hx⟩=>?_⟩;subst e;have:=hx vs (gu.of hH);rw[hv]at this;cases this;exact⟨lH.refl,S2,rv⟩
theorem DU{H:Hp}{α:List Addr}{xs:List D}{vs:List V}{a:Addr}(h:GO p.K H a vs)(r:p.Rs H α xs vs):BJ p (Mv p.K a) (.fix xs) H α:=by
 intro H2 α2 μ2 X2 S2 ho;have h2:=(X2.frz a vs h).sq;have rr:=r.mono X2;refine⟨fun i d hd=>?_,vs,h2,by rw[rr.length];exact OR _⟩;obtain⟨v,hv,rv⟩:=rr.get hd;refine⟨⟨vs,v,h2,hv⟩,fun x H3 ⟨e,hx⟩=>?_⟩;subst e;have:=hx vs h2;rw[hv]at this;cases this;exact⟨lH.refl,S2,rv⟩
theorem DT{H:Hp}{α:List Addr}{xs:List D}{vs:List V}{a:Addr}(h:gP p.K H a vs)(r:p.Rs H α xs vs):BJ p (MH p.K a) (.fix xs) H α:=by
 intro H2 α2 μ2 X2 S2 ho;have h2:=X2.tup a vs h;have rr:=r.mono X2;refine⟨fun i d hd=>?_,vs,h2,by rw[rr.length];exact OR _⟩;obtain⟨v,hv,rv⟩:=rr.get hd;refine⟨⟨vs,v,h2,hv⟩,fun x H3 ⟨e,hx⟩=>?_⟩;subst e;have:=hx vs h2;rw[hv]at this;cases this;exact⟨lH.refl,S2,rv⟩
def cm(lo:Int)(n:Nat):List D:=(List.range n).map fun(i:Nat)=>D.int (lo+(i:Int))
theorem wO{H:Hp}{α:List Addr}(lo:Int)(n:Nat):BJ p (Kt lo n) (.fix (cm lo n)) H α:=by
 intro H2 α2 μ2 X2 S2 ho;refine⟨fun i d hd=>?_,by simp[su.items,cm,Kt]⟩;have hd':(cm lo n)[i]?=some d:=hd;unfold cm at hd';rw[Pb]at hd';by_cases hi:i<n
 ·rw[RL hi]at hd';cases hd';refine⟨hi,fun x H3 ⟨e,hx⟩=>?_⟩;subst e;subst hx;exact⟨lH.refl,S2,av.mpr rfl⟩
 ·rw[RM (by simpa using hi)]at hd';cases hd'
def vB(d:D)(μ:aB):aj su:=match d with
 |.tup xs=>.ok (.fix xs) μ
 |.frz xs=>.ok (.fix xs) μ
 |.obj n=>match μ[n]? with
  |some (.lst xs)=>.ok (.own n xs) μ
  |_=>.bad
 |_=>.bad
def fB(f:ME):MI:=fun ρ μ=>(f ρ μ).bind vB
def Nh(K:W.Frag)(tl:TE):TI:=fun σ H R=>tl σ H fun x H1=>∃a,x=.ref a/\(((∃xs,gu K H1 a xs)/\R (Mv K a) H1)\/((∃xs,gP K H1 a xs)/\R (MH K a) H1))
theorem IY{l:Expr}{tl:TE}(hl:PE X l tl):PI X tg l (Nh X.K tl):=by
 intro pins s σ H R I h;refine dr (hl pins s σ H _ I h) fun v s1 ⟨x,H1,I1,r1,q1⟩=>?_;obtain⟨a,e,q⟩:=q1;subst e;cases r1;rcases q with⟨⟨xs,hq⟩,q⟩|⟨⟨xs,hq⟩,q⟩
 ·obtain ⟨its, rv, p, hz⟩ := I1.list hq;refine Ry p.isList ?_;refine⟨s1.heap.objs.size,[s1.heap.objs.size],_,_,H1,rfl,I1.kept (t':=s1.toks) fun b o e=>OP _ e,An a _,⟨_,OQ _ rfl,rfl,rfl⟩,fun b hb=>?_,q⟩;have e:b=s1.heap.objs.size:=by simpa using hb
  subst e;exact I1.fpOk (OR _) (I1.hok.fresh (OR _))
 ·obtain ⟨its, rv, p, hz⟩ := I1.tuple hq;refine RD (show s1.heap.IsTuple a its.toArray from p) ?_;refine⟨s1.heap.objs.size,[s1.heap.objs.size],_,_,H1,rfl,I1.kept (t':=s1.toks) fun b o e=>OP _ e,yz a _,⟨_,OQ _ rfl,rfl,rfl⟩,fun b hb=>?_,q⟩;have e:b=s1.heap.objs.size:=by simpa using hb
  subst e;exact I1.fpOk (OR _) (I1.hok.fresh (OR _))
theorem Ir{l:Expr}{f:ME}(hK:X.K=p.K)(hl:PE X l (tD p f)):PI X tg l (z8 p (fB f)):=(IY hl).weak fun σ H R ⟨α,ρ,μ,S,Rr,P⟩=>by
 refine⟨α,ρ,μ,S,Rr,(aK.bind P).imp fun d μ1 H1 α1 X1 S1 P1 v rv=>?_⟩;rw[hK];cases d with
 |tup xs=>
  obtain⟨a,vs,rfl,h1,h2⟩:=aO.mp rv;exact⟨a,rfl,.inr ⟨⟨vs,h1⟩,P1.now S1 _ trivial (DT h1 h2)⟩⟩
 |frz xs=>
  obtain⟨a,vs,rfl,h1,h2⟩:=bx.mp rv;exact⟨a,rfl,.inl ⟨⟨vs,h1.sq⟩,P1.now S1 _ trivial (DU h1 h2)⟩⟩
 |obj n=>
  obtain⟨a,rfl,ha⟩:=aT.mp rv;unfold vB at P1;dsimp only at P1;split at P1
  ·rename_i xs hx;obtain⟨a',ea,vs,hH,rr⟩:=S1.at hx;rw[ha]at ea;cases ea;exact⟨a,rfl,.inl ⟨⟨vs,gu.of hH⟩,P1.now S1 _ hx (A1 S1 hx ha)⟩⟩
  ·exact P1.elim
 |non=>exact P1.elim
 |bl b=>exact P1.elim
 |int i=>exact P1.elim
 |str x=>exact P1.elim
def lX(ds:List D)(μ:aB):aj su:=match ds with
 |[.int j]=>if -(2^62)<=j/\j<2^62 then .ok (.fix (cm 0 j.toNat)) μ else .bad
 |_=>.bad
def xW(ds:List D)(μ:aB):aj su:=match ds with
 |[.int i,.int j]=>if -(2^62)<=i/\i<2^62/\-(2^62)<=j/\j<2^62 then .ok (.fix (cm i (j-i).toNat)) μ else .bad
 |_=>.bad
def nP(f:List D->aB->aj su)(fa:MA):MI:=fun ρ μ=>(fa ρ μ).bind f
theorem AA {a:Expr}{fa:MA}{px pos:Pos} (hg:Gl X "range") (hm:X.mg "range" = none) (ha:PA X [a] (mC p fa)) (hs:starEach [a] X.env=[(false,eval a X.env)]):PI X tg (.Call (.Name "range" px) [a] [] pos) (z8 p (nP lX fa)):=
 (AL hg hm ha hs).weak fun σ H R ⟨α, ρ, μ, S, Rr, P⟩ => ⟨α, ρ, μ, S, Rr, (aK.bind P).imp fun ds μ1 H1 α1 X1 S1 P1 vs rv => by
  unfold lX at P1;split at P1
  ·rename_i j;obtain⟨v,rfl,r1⟩:=rv.one;rw[av.mp r1];split at P1
   ·rename_i hj;exact⟨j,rfl,hj.1,hj.2,P1.now S1 _ trivial (wO 0 _)⟩
   ·exact P1.elim
  ·exact P1.elim⟩
theorem Az {a b:Expr}{fa:MA}{px pos:Pos} (hg:Gl X "range") (hm:X.mg "range" = none) (ha:PA X [a,b] (mC p fa)) (hs:starEach [a,b] X.env=[(false,eval a X.env),(false,eval b X.env)]) (hs2:starEach [b] X.env=[(false,eval b X.env)]):PI X tg (.Call (.Name "range" px) [a,b] [] pos) (z8 p (nP xW fa)):=
 (AK hg hm ha hs hs2).weak fun σ H R ⟨α, ρ, μ, S, Rr, P⟩ => ⟨α, ρ, μ, S, Rr, (aK.bind P).imp fun ds μ1 H1 α1 X1 S1 P1 vs rv => by
  unfold xW at P1;split at P1
  ·rename_i i j;obtain⟨v,u,rfl,r1,r2⟩:=rv.two;rw[av.mp r1,av.mp r2];split at P1
   ·rename_i hj;exact⟨i,j,rfl,hj,P1.now S1 _ trivial (wO i _)⟩
   ·exact P1.elim
  ·exact P1.elim⟩
end
def aj.nox{β:Type}(o:aj β):aj β:=match o with
 |.exc _ _=>.bad
 |o=>o
@[simp] theorem ae {β:Type}{a:β}{μ:aB}:(aj.ok a μ).nox=.ok a μ:=Sa (Sb _)
abbrev Pa.nx(p:Pa):Pa:=⟨p.K,p.w,fun _ _ _ _=>False⟩
theorem mj{β γ:Type}{p:Pa}{H:Hp}{α:List Addr}{o:aj β}{k:β->aB->aj γ}{R:γ->aB->Hp->List Addr->Prop}(h:aK p H α (o.nox.bind k) R):aK p.nx H α o (fun a μ1 H1 α1=>aK p H1 α1 (k a μ1) R):=by
 cases o with
 |ok a μ=>exact fun H' α' e s=>aK.from e h
 |exc x μ=>exact False.elim h
 |bad=>exact h
def fH(cap:List (Option Nat))(ρ:Ro):Ro:=cap.map fun o=>o.bind fun j=>(ρ[j]?).join
theorem eB.cap{K:W.Frag}{H:Hp}{α:List Addr}{ρ:Ro}{σ:St}(R:eB K H α ρ σ)(cap:List (Option Nat)):eB K H α (fH cap ρ) (qI cap σ):=by
 refine⟨by simp[fH,qI],fun i d h=>?_⟩;unfold fH at h;unfold qI;rw[Pb]at h⊢;cases e:cap[i]? with
 |none=>rw[e]at h;cases h
 |some o=>
  rw[e]at h;cases o with
  |none=>simp at h
  |some j=>
   simp at h⊢
   obtain⟨v,h1,h2⟩:=R.at' j d (by
    cases e2:ρ[j]? with
    |none=>rw[e2]at h;simp at h
    |some x=>rw[e2]at h;simp at h;rw[h])
   exact⟨v,by rw[h1];rfl,h2⟩
def vO(n:Nat)(y:D)(μ:aB):aj Unit:=match μ[n]? with
 |some (.lst ys)=>if ys.length<sizeLine then .ok () (μ.set n (.lst (ys++[y]))) else .bad
 |_=>.bad
open Classical in
def compLoop(src:su)(n:Nat)(g:MG)(t:MT)(e:ME):List D->Ro->aB->aj D
 |[],_,μ=>if eD src μ then .ok (.obj n) μ else .bad
 |d::r,ρ,μ=>if eD src μ then (g d ρ μ).nox.bind fun ρ1 μ1=>(t ρ1 μ1).nox.bind fun b μ2=>if b=true then (e ρ1 μ2).nox.bind fun y μ3=>(vO n y μ3).bind fun _ μ4=>compLoop src n g t e r ρ1 μ4 else compLoop src n g t e r ρ1 μ2 else .bad
def cA(fi:MI)(cap:List (Option Nat))(g:MG)(t:MT)(e:ME):ME:=fun ρ μ=>(fi ρ μ).bind fun src μ1=>compLoop src μ1.length g t e src.items (fH cap ρ) (μ1++[.lst []])
def cg:MT:=fun _ μ=>.ok true μ
theorem Dp{p:Pa}{n:Nat}{y:D}{μ:aB}{H:Hp}{α:List Addr}{R:Unit->aB->Hp->List Addr->Prop}{v:V}{acc:Addr}(S:p.S H α μ)(ha:α[n]?=some acc)(rv:p.R H α y v)(P:aK p H α (vO n y μ) R) :
  ∃ys,H acc=some (.lst ys)/\ys.length<sizeLine/\∃μ',p.X H (dg H acc (.lst (ys++[v]))) α α/\p.S (dg H acc (.lst (ys++[v]))) α μ'/\R () μ' (dg H acc (.lst (ys++[v]))) α:=by
 unfold vO at P;split at P
 ·rename_i xs hx;obtain⟨a,ea,us,hH,rr⟩:=S.at hx;rw[ha]at ea;cases ea;split at P
  ·rename_i hl;have q:=rr.snoc rv;exact⟨us,hH,by rw[rr.length];exact hl,_,jf hH,S.put hx ha hH q,P _ _ (jf hH) (S.put hx ha hH q)⟩
  ·exact P.elim
 ·exact P.elim
section
variable{p:Pa}{X:Cx}{tg iter elt:Expr}{ifs:List Expr}{scope:Scope}{Nc:List Str}{cap:List (Option Nat)}{fi:MI}{g:MG}{t:MT}{e:ME}{pos pos':Pos}
theorem tT{σ:St}{H:Hp}{Q:VK}(h:tD p (cA fi cap g t e) σ H Q):BR (z8 p fi) cap (t9 p.nx g) (iO p.nx t) (tD p.nx e) σ H Q:=by
 obtain⟨α,ρ,μ,S,R,P⟩:=h;refine⟨α,ρ,μ,S,R,(aK.bind P).imp fun src μ1 H1 α1 X1 S1 P1 J hok hJ acc hacc=>?_⟩;obtain⟨x1,s1,_⟩:=dP (ds:=[]) (vs:=[]) S1 hacc Reps.nil;have hn:(α1++[acc])[μ1.length]?=some acc:=by rw[<- S1.len];simp
 refine⟨fun i m σ2 H2=>m=src.items.length-i/\i<=src.items.length/\∃α2 ρ2 μ2,p.X H1 H2 α1 α2/\p.S H2 α2 μ2/\eB p.K H2 α2 ρ2 σ2/\α2[μ1.length]?=some acc/\aK p H2 α2 (compLoop src μ1.length g t e (src.items.drop i) ρ2 μ2) (RV p Q),
  ⟨_,rfl,Qv _,α1++[acc],fH cap ρ,μ1++[.lst []],x1,s1,((R.mono X1).cap cap).mono x1,hn,by simpa using aK.from x1 P1⟩,?_⟩
 rintro i m σ2 H2 ⟨rfl,hi,α2,ρ2,μ2,X2,S2,R2,a2,P2⟩
 by_cases hlt:i<src.items.length
 ·rw [List.drop_eq_getElem_cons hlt] at P2;unfold compLoop at P2;by_cases ho:eD src μ2
  ·rw [Ob ho] at P2;obtain⟨hgo,hy⟩:=(hJ H2 α2 μ2 X2 S2 ho).1 i _ (RZ hlt)
   refine .inr ⟨hgo,fun σ' H'=>i+1<=src.items.length/\∃α2 ρ2 μ2,p.X H1 H' α1 α2/\p.S H' α2 μ2/\eB p.K H' α2 ρ2 σ'/\α2[μ1.length]?=some acc/\aK p H' α2 (compLoop src μ1.length g t e (src.items.drop (i+1)) ρ2 μ2) (RV p Q),
    fun σ' H' ⟨h1,h2⟩=>⟨_,by omega,rfl,h1,h2⟩,fun x H3 yx=>?_⟩
   obtain⟨X3,S3,R3⟩:=hy x H3 yx;refine⟨α2,ρ2,μ2,_,S3,R2.mono X3,R3,(aK.from (p:=p.nx) X3 (mj P2)).imp fun ρ4 μ4 H4 α4 X4 S4 P4 σ4 R4=>?_⟩;refine⟨α4,ρ4,μ4,S4,R4,(mj P4).imp fun b μ5 H5 α5 X5 S5 P5=>?_⟩;have xx:p.X H1 H5 α1 α5:=((X2.trans X3).trans X4).trans X5;have a5:α5[μ1.length]?=some acc:=X5.pre _ _ (X4.pre _ _ (X3.pre _ _ a2));cases b with
   |false=>
    rw[Oc OK]at P5;refine Ng ?_;exact⟨hlt,α5,ρ4,μ5,xx,S5,R4.mono X5,a5,P5⟩
   |true=>
    rw[Ob rfl]at P5;refine Nf ?_;refine⟨α5,ρ4,μ5,S5,R4.mono X5,(mj P5).imp fun y μ6 H6 α6 X6 S6 P6 v rv=>?_⟩;obtain⟨ys,e1,e2,μ7,x7,s7,q7⟩:=Dp (p:=p) S6 (X6.pre _ _ a5) rv (aK.bind P6);exact⟨ys,e1,e2,hlt,α6,ρ4,μ7,(xx.trans X6).trans x7,s7,((R4.mono X5).mono X6).mono x7,X6.pre _ _ a5,q7⟩
  ·rw[Oc ho]at P2;exact P2.elim
 ·have e : i = src.items.length := by omega
  subst e;rw[List.drop_length]at P2;unfold compLoop at P2;by_cases ho:eD src μ2
  ·rw[Ob ho]at P2;exact .inl ⟨(hJ H2 α2 μ2 X2 S2 ho).2,P2 H2 α2 lH.refl S2 _ (aT.mpr ⟨acc,rfl,a2⟩)⟩
  ·rw[Oc ho]at P2;exact P2.elim
theorem EV{X:Cx}:xK X [] (iO p cg):=fun pins s σ H Q I h=>by
 obtain⟨α,ρ,μ,S,R,P⟩:=h;exact Fy pins s σ H Q I (P.now S)
theorem EU{X:Cx}{c:Expr}{t:MT}(h:PT X c (iO p t)):xK X [c] (iO p t):=Fw h
theorem Fj(hc:X.calm=true)(S:cR X.N X.env scope Nc cap)(hi:PI X tg iter (z8 p fi))
  (hg:∀cl C s H fp,PG (kx X Nc scope cl C s H fp) tg (t9 p.nx g)) (ht:∀cl C s H fp,xK (kx X Nc scope cl C s H fp) ifs (iO p.nx t)) (he:∀cl C s H fp,PE (kx X Nc scope cl C s H fp) elt (tD p.nx e))
  (hs:∀x,foldedSetIterable iter X.env x=pure x):PE X (.ListComp elt [⟨tg,iter,ifs,0⟩] scope pos) (tD p (cA fi cap g t e)):=
 (FM hc S hi hg ht he hs).weak fun σ H Q h=>tT h
theorem EY{i:Nat}{x:Str}{pos1:Pos}{pos2:Pos}(hc:X.calm=true)(hN:X.N.Nodup)(hix:X.N[i]?=some x)(hx:X.env.scope.names.lookup x=some .local)(S:cR X.N X.env scope Nc cap)(hi:PI X tg iter (z8 p fi))
  (hg:∀cl C s H fp,PG (kx X Nc scope cl C s H fp) tg (t9 p.nx g)) (ht:∀cl C s H fp,xK (kx X Nc scope cl C s H fp) ifs (iO p.nx t)) (he:∀cl C s H fp,PE (kx X Nc scope cl C s H fp) elt (tD p.nx e))
  (hsw:swapsWith (.ListComp elt [⟨tg,iter,ifs,0⟩] scope pos) (some (.Name x pos1)) pos2.line X.env=pure true) (hs:∀x,foldedSetIterable iter X.env x=pure x) :
  PS X (.Assign [.Name x pos1] (.ListComp elt [⟨tg,iter,ifs,0⟩] scope pos) pos2) (iz p (bB (cA fi cap g t e) (aq i))):=
 (FD hc hN hix hx S hi hg ht he hsw hs).weak fun D σ H h => by
  obtain⟨α,ρ,μ,S,R,P⟩:=h;refine tT ⟨α,ρ,μ,S,R,(aK.bindS P).imp fun d μ1 H1 α1 X1 S1 P1 v rv=>?_⟩;exact P1 H1 α1 _ lH.refl S1 ((R.mono X1).set i rv)
end
section
variable{p:Pa}
variable{X:Cx}{elt:Expr}{cl0 cl:Comprehension}{rest:List Comprehension}{scope:Scope}{Nc:List Str}{cap:List (Option Nat)}{fi:MI}{g:MG}{t:MT}{fb:MB}{pos:Pos}{e:Expr}{d:Nat}{acc:Addr}
end
mutual
def D.low(n:Nat):D->Prop
 |.tup xs=>D.lows n xs
 |.frz xs=>D.lows n xs
 |.obj m=>m<n
 |_=>True
def D.lows(n:Nat):List D->Prop
 |[]=>True
 |x::xs=>x.low n/\D.lows n xs
end
def O.low(n:Nat):O->Prop
 |.lst xs=>D.lows n xs
 |_=>True
section
variable{K:W.Frag}{H:Hp}{α α':List Addr}
mutual
theorem aS.low:∀{d:D}{v:V},aS K H α d v->d.low α.length
 |.non,_,_=>trivial
 |.bl _,_,_=>trivial
 |.int _,_,_=>trivial
 |.str _,_,_=>trivial
 |.tup xs,_,h=>by
  obtain⟨a,vs,rfl,h1,h2⟩:=aO.mp h;simp only[D.low];exact Reps.low h2
 |.frz xs,_,h=>by
  obtain⟨a,vs,rfl,h1,h2⟩:=bx.mp h;simp only[D.low];exact Reps.low h2
 |.obj n,_,h=>by
  obtain⟨a,rfl,h1⟩:=aT.mp h;simp only[D.low];exact(Ow.mp h1).1
theorem Reps.low:∀{ds:List D}{vs:List V},Reps K H α ds vs->D.lows α.length ds
 |[],_,_=>trivial
 |d::ds,_,h=>by
  simp only[Reps]at h;obtain⟨v,r,rfl,h1,h2⟩:=h;simp only[D.lows];exact⟨aS.low h1,Reps.low h2⟩
end
mutual
theorem aS.cut{n:Nat}(e:∀m,m<n->α'[m]?=α[m]?):∀{d:D}{v:V},aS K H α' d v->d.low n->aS K H α d v
 |.non,_,h,_=>by simp only[aS]at h⊢;exact h
 |.bl _,_,h,_=>by simp only[aS]at h⊢;exact h
 |.int _,_,h,_=>by simp only[aS]at h⊢;exact h
 |.str _,_,h,_=>by simp only[aS]at h⊢;exact h
 |.tup xs,_,h,b=>by
  obtain⟨a,vs,rfl,h1,h2⟩:=aO.mp h;simp only[D.low]at b;exact aO.mpr ⟨a,vs,rfl,h1,Reps.cut e h2 b⟩
 |.frz xs,_,h,b=>by
  obtain⟨a,vs,rfl,h1,h2⟩:=bx.mp h;simp only[D.low]at b;exact bx.mpr ⟨a,vs,rfl,h1,Reps.cut e h2 b⟩
 |.obj m,_,h,b=>by
  obtain⟨a,rfl,h1⟩:=aT.mp h;simp only[D.low]at b;exact aT.mpr ⟨a,rfl,by rw[<- e m b];exact h1⟩
theorem Reps.cut{n:Nat}(e:∀m,m<n->α'[m]?=α[m]?):∀{ds:List D}{vs:List V},Reps K H α' ds vs->D.lows n ds->Reps K H α ds vs
 |[],_,h,_=>by simp only[Reps]at h⊢;exact h
 |d::ds,_,h,b=>by
  simp only[Reps]at h⊢;obtain⟨v,r,rfl,h1,h2⟩:=h;simp only[D.lows]at b;exact⟨v,r,rfl,aS.cut e h1 b.1,Reps.cut e h2 b.2⟩
end
end
def Hv(μ μ':aB)(d:D):Prop:=d.low μ.length/\μ.length<=μ'.length/\∀(i:Nat) o,i<μ.length->μ'[i]?=some o->μ[i]?=some o\/o.low μ.length
open Classical in
def p6(μ:aB)(o:aj D):aj D:=match o with
 |.ok d μ'=>if Hv μ μ' d then .ok d (μ'.take μ.length) else .ok d μ'
 |o=>o
theorem qk{p:Pa}{H:Hp}{α:List Addr}{μ:aB}{o:aj D}{Q:VK}(S:p.S H α μ)(P:aK p H α (p6 μ o) (RV p Q)):aK p H α o (RV p Q):=by
 cases o with
 |exc x μ'=>exact P
 |bad=>exact P
 |ok d μ'=>
  unfold p6 at P;dsimp only at P;by_cases hg:Hv μ μ' d
  ·rw [Ob hg] at P;obtain⟨g1,g2,g3⟩:=hg;intro H' α' e s v rv
   have al:∀m,m<μ.length->α'[m]?=α[m]?:=fun m hm=>by
    have hm':m<α.length:=by rw[S.len];exact hm
    rw[RZ hm'];exact e.pre m _ (RZ hm')
   refine P H' α ⟨e.tup,e.frz,fun _ _ z=>z⟩ ⟨by rw[O5,S.len];omega,S.nd,fun n o a h1 h2=>?_⟩ v (aS.cut al rv g1);have hn:n<μ.length:=by rw[<- S.len];exact(Ow.mp h2).1
   rw[Pc hn]at h1;have q:=s.ob n o a h1 (e.pre n a h2)
   have ob:o.low μ.length:=by
    rcases g3 n o hn h1 with z|z
    ·have q0 := S.ob n o a z h2;cases o with
     |lst xs=>obtain⟨vs,_,r⟩:=q0;have:=r.low;rw[S.len]at this;exact this
     |set ks=>trivial
     |iset ks=>trivial
     |dic=>trivial
     |exc c=>trivial
    ·exact z
   cases o with
   |lst xs=>obtain⟨vs,h3,r⟩:=q;exact⟨vs,h3,Reps.cut al r ob⟩
   |set ks=>exact q
   |iset ks=>exact q
   |dic=>exact q
   |exc c=>exact q
  ·rw[Oc hg]at P;exact P
def SO.out(o:SO):aj D:=match o with
 |.ret d μ=>.ok d μ
 |.next _ μ=>.ok .non μ
 |.exc x μ=>.exc x μ
 |_=>.bad
def iH(n N:Nat)(fb:MS):List D->aB->aj D:=fun ds μ=>if ds.length=n then p6 μ (fb (ds.map some++List.replicate (N-n) none) μ).out else .bad
def Ef(p:Pa)(n:Nat)(F:List D->aB->aj D):Sp:=fun vs H Q _=>vs.length=n/\∃α ds μ,p.S H α μ/\p.Rs H α ds vs/\aK p H α (F ds μ) (RV p Q)
structure dY(P:Program)(w:World)(K:W.Frag)(mg:Str->Option Value)(base:Heap)(p:Pa)(k:Nat)(x:Str)(n:Nat)(F:List D->aB->aj D):Prop where
 len:∀ds μ,ds.length≠n->F ds μ=.bad
 fn:∃f fd ps,mg x=some (.ref f)/\W.keepIn K (.ref f)=true/\ix K fd ps []/\qB P w K mg base xQ k f fd ps (Ef p n F)
section
variable{p:Pa}{X:Cx}{k n:Nat}{x:Str}{F:List D->aB->aj D}{a:Expr}{es:List Expr}{fr:MA}{pos px:Pos}
theorem Fk (h:dY X.prog X.w X.K X.mg X.base p k x n F) (hr:gr k X.A) (hg:Gl X x) (ha:PA X (a::es) (mC p fr)) (hdb:(x == ("__debug__" : Str))=false) (he:starEach (a::es) X.env=(false,eval a X.env)::starEach es X.env) (hpl:(backTo pos (starEach es X.env)).any (·.1)=false) :
  PE X (.Call (.Name x px) (a::es) [] pos) (tD p (aI F fr)):=by
 obtain⟨f,fd,ps,h1,h2,h3,h4⟩:=h.fn;refine(qd (dvs:=[]) (E:=E0) h4 hr hg h1 h2 h3 .nil BY ha hdb he hpl).weak fun σ H Q ⟨α,ρ,μ,S,R,P⟩=>⟨α,ρ,μ,S,R,(aK.bind P).imp fun ds μ1 H1 α1 X1 S1 P1 vs rv=>?_⟩;show Ef p n F (vs++[]) H1 Q E0;rw[OY];refine⟨?_,α1,ds,μ1,S1,rv,P1⟩;by_cases hl:ds.length=n
 ·rw[rv.length];exact hl
 ·rw[h.len ds μ1 hl]at P1;exact P1.elim
end
theorem j9{K:W.Frag}{H:Hp}{α:List Addr}{ds:List D}{vs:List V}(r:Reps K H α ds vs)(m:Nat):eB K H α (ds.map some++List.replicate m none) (vs.map some++List.replicate m none):=by
 refine⟨by simp[r.length],fun i d h=>?_⟩;by_cases hi:i<ds.length
 ·rw [O9 (by simpa using hi), Pb] at h;cases e:ds[i]? with
  |none=>rw[e]at h;cases h
  |some x=>
   rw[e]at h;cases h;obtain⟨v,hv,rv⟩:=r.get e;refine⟨v,?_,rv⟩;rw[O9 (by simp[r.length,hi]),Pb,hv];rfl
 ·rw[O7 (by simpa using hi),O8]at h;split at h <;> cases h
theorem Ko{P:Program}{w:World}{K:W.Frag}{mg:Str->Option Value}{base:Heap}{p:Pa}{k n:Nat}{x qual:Str}{st:Stmt}{f:Addr}{fd:FuncData}{N ps:List Str}{fb:MS}
  (F:h7 K x qual st f fd) (S:aV N ps (au st)) (hn:ps.length=n) (hm:mg x=some (.ref f)) (hb:ix K fd ps [])
  (body : ∀ (cdv : Value) (A : Around) (outer : List Env) (s : Shared) (H : Hp) (E : XK), gr k (A.deeper (envOfC qual (au st) s.heap.objs.size f cdv)) ->
   jt (qx xQ P w K mg base N qual (au st) f cdv A outer s H E).nox (cG st) (iz p fb)):dY P w K mg base p (k+1) x n (iH n N.length fb):=by
 refine⟨fun ds μ h=>by unfold iH;rw[Oc h],f,fd,ps,hm,F.kp,hb,?_⟩;refine F.ok S (fun vs H Q E h=>h.1.trans hn.symm) fun cdv A outer s H vs Q E hr h=>?_;refine⟨_,body cdv A outer s H E hr,?_⟩;obtain⟨hl,α,ds,μ,S1,R1,P1⟩:=h;unfold iH at P1;have hd:ds.length=n:=by rw[<- R1.length];exact hl
 rw[Ob hd]at P1;have P2:=qk S1 P1;unfold start;rw[hl];refine⟨α,_,μ,S1,j9 R1 _,?_⟩;cases e:fb (ds.map some++List.replicate (N.length-n) none) μ with
 |ret d μ'=>rw[e]at P2;exact fun H' α' v x s r=>P2 H' α' x s v r
 |next ρ μ'=>rw[e]at P2;exact fun H' α' σ' x s r=>P2 H' α' x s .non (bH.mpr rfl)
 |exc x μ'=>rw[e]at P2;exact P2
 |brk ρ μ'=>rw[e]at P2;exact P2.elim
 |cnt ρ μ'=>rw[e]at P2;exact P2.elim
 |bad=>rw[e]at P2;exact P2.elim
end L2
namespace L2
open PySem PySem.Spec PyProof.Rows RS
section
variable(K:W.Frag)(H:Hp)
mutual
def nK:PyData->V->Prop
 |.none,v=>v=.non
 |.bool b,v=>v=.bl b
 |.int i,v=>v=.int i
 |.str x,v=>v=.str x
 |.tuple xs,v=>∃a vs,v=.ref a/\gP K H a vs/\RdPs xs vs
 |.list xs,v=>∃a vs,v=.ref a/\gu K H a vs/\RdPs xs vs
 |.dict _,_=>False
def RdPs:List PyData->List V->Prop
 |[],vs=>vs=[]
 |x::xs,vs=>∃v r,vs=v::r/\nK x v/\RdPs xs r
end
end
section
variable{X:Cx}{pins:List (Addr×Obj)}{σ:St}{H:Hp}{s:Shared}
mutual
theorem du(I:aY X pins σ H s):∀(d:PyData)(x:V)(v:Value),nK X.K H d x->ck x v->∃as,Reads s.heap v d as
 |.none,_,_,h,r=>by simp only[nK]at h;subst h;cases r;exact⟨_,.none⟩
 |.bool b,_,_,h,r=>by simp only[nK]at h;subst h;cases r;exact⟨_,.bool b⟩
 |.int b,_,_,h,r=>by simp only[nK]at h;subst h;obtain⟨t,rfl⟩:=r;exact⟨_,.int b t⟩
 |.str b,_,_,h,r=>by simp only[nK]at h;subst h;obtain⟨t,rfl⟩:=r;exact⟨_,.str b t⟩
 |.tuple xs,_,_,h,r=>by
  simp only[nK]at h;obtain⟨a,vs,rfl,h1,h2⟩:=h;cases r;obtain⟨its,rv,⟨o,e1,e2,n,e3⟩,_⟩:=I.tuple h1;obtain⟨as,q⟩:=readsAll_of I xs vs its h2 rv;exact⟨_,.tuple e1 e2 e3 (by simpa using q)⟩
 |.list xs,_,_,h,r=>by
  simp only[nK]at h;obtain⟨a,vs,rfl,h1,h2⟩:=h;cases r;obtain⟨its,rv,⟨o,n,e1,e2,_,e3⟩,_⟩:=I.list h1;obtain⟨as,q⟩:=readsAll_of I xs vs its h2 rv;exact⟨_,.list e1 e2 e3 (by simpa using q)⟩
 |.dict _,_,_,h,_=>by simp only[nK]at h
theorem readsAll_of(I:aY X pins σ H s):∀(ds:List PyData)(xs:List V)(vs:List Value),RdPs X.K H ds xs->bh xs vs->∃as,ReadsAll s.heap vs ds as
 |[],_,_,h,r=>by simp only[RdPs]at h;subst h;cases r;exact⟨_,.nil⟩
 |d::ds,_,_,h,r=>by
  simp only[RdPs]at h;obtain⟨v,q,rfl,h1,h2⟩:=h;cases r with
  |cons r rr=>
   obtain⟨as,g1⟩:=du I d _ _ h1 r;obtain⟨bs,g2⟩:=readsAll_of I ds _ _ h2 rr;exact⟨_,.cons g1 g2⟩
end
def dO(d:PyData):Bool:=d.canLay0&&decide (d.depth<=60)
def BE(K:W.Frag)(neg:Bool):R2:=fun x y H Q=>∃a b,nK K H a x/\nK K H b y/\dO a=true/\dO b=true/\Q (.bl (if neg then !PyData.eqv a b else PyData.eqv a b)) H
theorem oy{a b:PyData}{A:Around}(ha:dO a=true)(hu:A.units+64<cLine):A.units+min a.depth b.depth<cLine:=by
 unfold dO at ha;simp only[PH,Sd]at ha;have:=Nat.min_le_left a.depth b.depth;omega
theorem cq{a:PyData}(ha:dO a=true):a.canLay0=true:=by
 unfold dO at ha;simp only[PH,Sd]at ha;exact ha.1
theorem rO{a:PyData}(ha:dO a=true):a.depth<=60:=by
 unfold dO at ha;simp only[PH,Sd]at ha;exact ha.2
theorem Jq(hu:X.A.units+64<cLine):iP X (compareOp .Eq) (BE X.K false):=by
 intro pins s σ H x y v u Q I rx ry h;obtain⟨a,b,h1,h2,h3,h4,q⟩:=h;obtain⟨as,r1⟩:=du I a x v h1 rx;obtain⟨bs,r2⟩:=du I b y u h2 ry;exact SeqAt.compareEq_reads r1 r2 (cq h3) (cq h4) (oy h3 hu) ⟨.bl _,H,I,rfl,q⟩
theorem Jl(hu:X.A.units+64<cLine):iP X (compareOp .NotEq) (BE X.K true):=by
 intro pins s σ H x y v u Q I rx ry h;obtain⟨a,b,h1,h2,h3,h4,q⟩:=h;obtain⟨as,r1⟩:=du I a x v h1 rx;obtain⟨bs,r2⟩:=du I b y u h2 ry;exact SeqAt.compareNe_reads r1 r2 (cq h3) (cq h4) (oy h3 hu) ⟨.bl _,H,I,rfl,q⟩
def BD(K:W.Frag)(neg:Bool):R2:=fun x y H Q=>∃a b xs,nK K H a x/\nK K H b y/\(b=.list xs\/b=.tuple xs)/\dO a=true/\dO b=true/\Q (.bl (if neg then !(xs.any fun y=>PyData.eqv y a) else xs.any fun y=>PyData.eqv y a)) H
theorem Jp(hu:X.A.units+64<cLine):iP X (compareOp .In) (BD X.K false):=by
 intro pins s σ H x y v u Q I rx ry h;obtain⟨a,b,xs,h1,h2,hb,h3,h4,q⟩:=h;obtain⟨as,r1⟩:=du I a x v h1 rx;obtain⟨bs,r2⟩:=du I b y u h2 ry;have hd:=rO h3;rcases hb with rfl|rfl
 ·refine SeqAt.in_list_reads r2 r1 (by simpa[PyData.canLay0] using cq h4) (cq h3) ?_ ⟨.bl _,H,I,rfl,q⟩;have:=Po (PyData.depthAll xs) a.depth;omega
 ·refine SeqAt.in_tuple_reads r2 r1 (by simpa[PyData.canLay0] using cq h4) (cq h3) ?_ ⟨.bl _,H,I,rfl,q⟩;have:=Po (PyData.depthAll xs) a.depth;omega
theorem AN(hu:X.A.units+64<cLine):iP X (compareOp .NotIn) (BD X.K true):=by
 intro pins s σ H x y v u Q I rx ry h;obtain⟨a,b,xs,h1,h2,hb,h3,h4,q⟩:=h;obtain⟨as,r1⟩:=du I a x v h1 rx;obtain⟨bs,r2⟩:=du I b y u h2 ry;have hd:=rO h3;rcases hb with rfl|rfl
 ·refine SeqAt.notIn_list_reads r2 r1 (by simpa[PyData.canLay0] using cq h4) (cq h3) ?_ ⟨.bl _,H,I,rfl,q⟩;have:=Po (PyData.depthAll xs) a.depth;omega
 ·refine SeqAt.notIn_tuple_reads r2 r1 (by simpa[PyData.canLay0] using cq h4) (cq h3) ?_ ⟨.bl _,H,I,rfl,q⟩;have:=Po (PyData.depthAll xs) a.depth;omega
end
mutual
def xM(μ:aB):D->Option PyData
 |.non=>some .none
 |.bl b=>some (.bool b)
 |.int i=>some (.int i)
 |.str x=>some (.str x)
 |.tup xs=>(toPs μ xs).map .tuple
 |.frz xs=>(toPs μ xs).map .list
 |.obj _=>none
def toPs(μ:aB):List D->Option (List PyData)
 |[]=>some []
 |x::xs=>(xM μ x).bind fun a=>(toPs μ xs).map fun r=>a::r
end
def Bz(μ:aB)(d:D):Option PyData:=match d with
 |.obj n=>match μ[n]? with
  |some (.lst xs)=>(toPs μ xs).map .list
  |_=>none
 |d=>xM μ d
def gQ(μ:aB):List D->Option (List PyData)
 |[]=>some []
 |x::xs=>(Bz μ x).bind fun a=>(gQ μ xs).map fun r=>a::r
def mz(μ:aB)(d:D):Option PyData:=match d with
 |.obj n=>match μ[n]? with
  |some (.lst xs)=>(gQ μ xs).map .list
  |_=>none
 |.tup xs=>(gQ μ xs).map .tuple
 |d=>xM μ d
section
variable{K:W.Frag}{w:World}{H:Hp}{α:List Addr}{μ:aB}
mutual
theorem iC:∀{d:D}{q:PyData}{v:V},xM μ d=some q->aS K H α d v->nK K H q v
 |.non,_,_,h,r=>by simp only[xM]at h;cases h;simp only[nK];exact bH.mp r
 |.bl b,_,_,h,r=>by simp only[xM]at h;cases h;simp only[nK];exact aW.mp r
 |.int b,_,_,h,r=>by simp only[xM]at h;cases h;simp only[nK];exact av.mp r
 |.str b,_,_,h,r=>by simp only[xM]at h;cases h;simp only[nK];exact bq.mp r
 |.tup xs,_,_,h,r=>by
  simp only[xM]at h;cases e:toPs μ xs with
  |none=>rw[e]at h;cases h
  |some ys=>
   rw[e]at h;cases h;obtain⟨a,vs,rfl,h1,h2⟩:=aO.mp r;simp only[nK];exact⟨a,vs,rfl,h1,toPs_ok e h2⟩
 |.frz xs,_,_,h,r=>by
  simp only[xM]at h;cases e:toPs μ xs with
  |none=>rw[e]at h;cases h
  |some ys=>
   rw[e]at h;cases h;obtain⟨a,vs,rfl,h1,h2⟩:=bx.mp r;simp only[nK];exact⟨a,vs,rfl,h1.sq,toPs_ok e h2⟩
 |.obj n,_,_,h,r=>by simp only[xM]at h;cases h
theorem toPs_ok:∀{ds:List D}{qs:List PyData}{vs:List V},toPs μ ds=some qs->Reps K H α ds vs->RdPs K H qs vs
 |[],_,_,h,r=>by simp only[toPs]at h;cases h;simp only[RdPs];simp only[Reps]at r;exact r
 |x::xs,_,_,h,r=>by
  simp only[toPs]at h;cases e1:xM μ x with
  |none=>rw[e1]at h;cases h
  |some a=>
   cases e2:toPs μ xs with
   |none=>rw[e1,e2]at h;cases h
   |some ys=>
    rw[e1,e2]at h;cases h;simp only[Reps]at r;obtain⟨v,vr,rfl,r1,r2⟩:=r;simp only[RdPs];exact⟨v,vr,rfl,iC e1 r1,toPs_ok e2 r2⟩
end
theorem EN{d:D}{q:PyData}{v:V}(S:gO K w H α μ)(h:Bz μ d=some q)(r:aS K H α d v):nK K H q v:=by
 cases d with
 |obj n=>
  unfold Bz at h;dsimp only at h;split at h
  ·rename_i xs hx;obtain⟨a,ea,us,hH,rr⟩:=S.at hx;obtain⟨a',rfl,ea'⟩:=aT.mp r;rw[ea]at ea';cases ea';cases e:toPs μ xs with
   |none=>rw[e]at h;cases h
   |some ys=>
    rw[e]at h;cases h;simp only[nK];exact⟨a,us,rfl,gu.of hH,toPs_ok e rr⟩
  ·cases h
 |non=>exact iC h r
 |bl b=>exact iC h r
 |int i=>exact iC h r
 |str x=>exact iC h r
 |tup xs=>exact iC h r
 |frz xs=>exact iC h r
theorem qV(S:gO K w H α μ):∀{ds:List D}{qs:List PyData}{vs:List V},gQ μ ds=some qs->Reps K H α ds vs->RdPs K H qs vs
 |[],_,_,h,r=>by simp only[gQ]at h;cases h;simp only[RdPs];simp only[Reps]at r;exact r
 |x::xs,_,_,h,r=>by
  simp only[gQ]at h;cases e1:Bz μ x with
  |none=>rw[e1]at h;cases h
  |some a=>
   cases e2:gQ μ xs with
   |none=>rw[e1,e2]at h;cases h
   |some ys=>
    rw[e1,e2]at h;cases h;simp only[Reps]at r;obtain⟨v,vr,rfl,r1,r2⟩:=r;simp only[RdPs];exact⟨v,vr,rfl,EN S e1 r1,qV S e2 r2⟩
theorem l0{d:D}{q:PyData}{v:V}(S:gO K w H α μ)(h:mz μ d=some q)(r:aS K H α d v):nK K H q v:=by
 cases d with
 |obj n=>
  unfold mz at h;dsimp only at h;split at h
  ·rename_i xs hx;obtain⟨a,ea,us,hH,rr⟩:=S.at hx;obtain⟨a',rfl,ea'⟩:=aT.mp r;rw[ea]at ea';cases ea';cases e:gQ μ xs with
   |none=>rw[e]at h;cases h
   |some ys=>
    rw[e]at h;cases h;simp only[nK];exact⟨a,us,rfl,gu.of hH,qV S e rr⟩
  ·cases h
 |tup xs=>
  unfold mz at h;dsimp only at h;cases e:gQ μ xs with
  |none=>rw[e]at h;cases h
  |some ys=>
   rw[e]at h;cases h;obtain⟨a,vs,rfl,h1,h2⟩:=aO.mp r;simp only[nK];exact⟨a,vs,rfl,h1,qV S e h2⟩
 |non=>exact iC h r
 |bl b=>exact iC h r
 |int i=>exact iC h r
 |str x=>exact iC h r
 |frz xs=>exact iC h r
end
def iA(neg:Bool)(a b:D)(μ:aB):aj D:=match mz μ a,mz μ b with
 |some p,some q=>if dO p=true/\dO q=true then .ok (.bl (if neg then !PyData.eqv p q else PyData.eqv p q)) μ else .bad
 |_,_=>.bad
def yf:PyData->Option (List PyData)
 |.list xs=>some xs
 |.tuple xs=>some xs
 |_=>none
def sr(neg:Bool)(a b:D)(μ:aB):aj D:=match mz μ a,mz μ b with
 |some p,some q=>match yf q with
  |some xs=>if dO p=true/\dO q=true then .ok (.bl (if neg then !(xs.any fun y=>PyData.eqv y p) else xs.any fun y=>PyData.eqv y p)) μ else .bad
  |none=>.bad
 |_,_=>.bad
theorem Hd{p:Pa}{neg:Bool}:oW p (iA neg) (BE p.K neg):=by
 intro a b v y H α μ Q S ra rb P;unfold iA at P;split at P
 ·rename_i x z hx hz;split at P
  ·rename_i hf;exact⟨x,z,l0 S hx ra,l0 S hz rb,hf.1,hf.2,P.now S _ (aW.mpr rfl)⟩
  ·exact P.elim
 ·exact P.elim
theorem Hc{p:Pa}{neg:Bool}:oW p (sr neg) (BD p.K neg):=by
 intro a b v y H α μ Q S ra rb P;unfold sr at P;split at P
 ·rename_i x z hx hz;split at P
  ·rename_i xs hxs;split at P
   ·rename_i hf;refine⟨x,z,xs,l0 S hx ra,l0 S hz rb,?_,hf.1,hf.2,P.now S _ (aW.mpr rfl)⟩;cases z <;> first|(cases hxs;exact .inl rfl)|(cases hxs;exact .inr rfl)|(cases hxs)
   ·exact P.elim
  ·exact P.elim
 ·exact P.elim
def D.isNon:D->Bool
 |.non=>true
 |_=>false
def uc(neg:Bool)(a b:D)(μ:aB):aj D:=match b with
 |.non=>.ok (.bl (if neg then !a.isNon else a.isNon)) μ
 |_=>.bad
theorem zO{K:W.Frag}{H:Hp}{α:List Addr}{a:D}{v:V}(r:aS K H α a v):decide (v=.non)=a.isNon:=by
 cases a with
 |non=>rw[bH.mp r];rfl
 |bl b=>rw[aW.mp r];rfl
 |int b=>rw[av.mp r];rfl
 |str b=>rw[bq.mp r];rfl
 |tup xs=>obtain⟨a,vs,rfl,_⟩:=aO.mp r;rfl
 |frz xs=>obtain⟨a,vs,rfl,_⟩:=bx.mp r;rfl
 |obj xs=>obtain⟨a,rfl,_⟩:=aT.mp r;rfl
theorem JA{p:Pa}:oW p (uc false) (fun x y H Q=>y=.non/\Q (.bl (decide (x=.non))) H):=by
 intro a b v y H α μ Q S ra rb P;cases b with
 |non=>exact⟨bH.mp rb,P.now S _ (aW.mpr (by rw[zO ra];rfl))⟩
 |bl b=>exact P.elim
 |int b=>exact P.elim
 |str b=>exact P.elim
 |tup xs=>exact P.elim
 |frz xs=>exact P.elim
 |obj xs=>exact P.elim
theorem F3{p:Pa}:oW p (uc true) (fun x y H Q=>y=.non/\Q (.bl (!decide (x=.non))) H):=by
 intro a b v y H α μ Q S ra rb P;cases b with
 |non=>exact⟨bH.mp rb,P.now S _ (aW.mpr (by rw[zO ra];cases a <;> rfl))⟩
 |bl b=>exact P.elim
 |int b=>exact P.elim
 |str b=>exact P.elim
 |tup xs=>exact P.elim
 |frz xs=>exact P.elim
 |obj xs=>exact P.elim
end L2
namespace L2
open PySem PySem.Spec PyProof.Rows RS
open PySem.SeqAt
open PySem.AutoSeq1 (wpAny_loadPart')
open PySem.MeetsSeq PySem.MeetsSeq2 PySem.MeetsSeq3
def xZ(op:CmpOp)(A:Around)(s:Shared)(y x:Value)(k:Bool):Prop:=∀(prog:Program)(w:World)(E:Value->Shared->Prop)(Q:Value->Shared->Prop),Q (.bool k) s->wpAny (model prog w) A (richCompare op y x) Q E s
def gv(t:Bool):List (Bool×Bool)->Bool
 |[]=>t
 |(e,k)::r=>if e=true then gv t r else k
def fD(op:CmpOp)(A:Around)(s:Shared):List Value->List Value->List (Bool×Bool)->Prop
 |[],_,[]=>True
 |_,[],[]=>True
 |y::ys,x::xs,(e,k)::r=>EqAt A s y x e/\(e=false->xZ op A s y x k)/\(e=true->fD op A s ys xs r)
 |_,_,_=>False
theorem uW(l b:Addr)(items items2:Array Value)(n n2:Nat)(dd dd2:Option Addr)(sl sl2:Array (Option Value))(eks:List (Bool×Bool)) :
  Meets (Builtin.«tuple.__lt__» ⟨[.ref l,.ref b],[]⟩)
   (fun A R s => s.heap.get? l = some { cls := .type "tuple", dict := dd, data := .seq items n, slots := sl } /\ s.heap.get? b = some { cls := .type "tuple", dict := dd2, data := .seq items2 n2, slots := sl2 } /\
    fD .Lt A.in1 s items.toList items2.toList eks/\R (.ok (.ret (.bool (gv (decide (items.size<items2.size)) eks)))) s):=
 .of_wp fun prog w A R s h=>by
  obtain⟨hp,g,d,tk,os⟩:=s;obtain⟨hl,hb,hc,h⟩:=h;have f2:=Se
  wp_walk using wpAny_loadPart' hl,wpAny_loadPart' hb,Ra _ (fun rest b s'=>b.1=none/\s'=⟨hp,g,d,tk,os⟩/\∃(vs ws:List Value)(eks':List (Bool×Bool)),rest=vs.zip ws /\
   fD .Lt A.in1 ⟨hp,g,d,tk,os⟩ vs ws eks'/\R (.ok (.ret (.bool (gv (decide (items.size<items2.size)) eks')))) ⟨hp,g,d,tk,os⟩) _
  case turn=>
   rintro⟨y,x⟩ rest b s' ⟨hb',rfl,vs,ws,eks',hz,hci,hR⟩
   cases vs with
   |nil=>rw[Sf]at hz;cases hz
   |cons a vs=>
    cases ws with
    |nil=>rw[Sg]at hz;cases hz
    |cons c ws=>
     rw[Sh]at hz;injection hz with hyx hrest
     injection hyx with hy hx
     subst hy hx;cases eks' with
     |nil=>simp only[fD]at hci
     |cons ek eks'=>
      obtain⟨e,k⟩:=ek;simp only[fD]at hci;obtain⟨he,hk,hci⟩:=hci;refine OG (he prog w _ _ ?_);cases e with
      |true=>
       have hR':R (.ok (.ret (.bool (gv (decide (items.size<items2.size)) eks')))) ⟨hp,g,d,tk,os⟩:=hR
       wp_walk
       exact⟨rfl,rfl,_,_,_,hrest,hci rfl,hR'⟩
      |false=>
       have hR':R (.ok (.ret (.bool k))) ⟨hp,g,d,tk,os⟩:=hR;have hri:=hk rfl prog w
       wp_walk using hri
       exact⟨_,rfl,by simpa using hR'⟩
  case fin=>
   rintro⟨b1,b2⟩ s' ⟨hb',rfl,vs,ws,eks',hz,hci,hR⟩
   simp only at hb';subst hb'
   have hv:eks'=[]:=by
    cases vs with
    |nil=>cases eks' with
     |nil=>rfl
     |cons _ _=>simp only[fD]at hci
    |cons a vs=>cases ws with
     |nil=>cases eks' with
      |nil=>rfl
      |cons _ _=>simp only[fD]at hci
     |cons c ws=>rw[Sh]at hz;cases hz
   subst hv;have hR':R (.ok (.ret (.bool (decide (items.size<items2.size))))) ⟨hp,g,d,tk,os⟩:=hR
   wp_walk
   exact⟨_,rfl,by simpa[Builtin.Tuple.tupleCompareSizes] using hR'⟩
  case h=>
   exact⟨rfl,rfl,items.toList,items2.toList,eks,rfl,hc,h⟩
theorem JH{prog:Program}{w:World}{A:Around}{E:Value->Shared->Prop}{s:Shared}{l b:Addr}{items items2:Array Value}{eks:List (Bool×Bool)}{Q:Value->Shared->Prop}(hl:IsTup s.heap l items)(hb:IsTup s.heap b items2)(hc:fD .Lt A.in1 s items.toList items2.toList eks)
  (hu:A.units<cLine) (h:Q (.bool (gv (decide (items.size<items2.size)) eks)) s):wpAny (model prog w) A (richCompare .Lt (.ref l) (.ref b)) Q E s:=by
 obtain⟨⟨cls,dd,data,sl⟩,ho,hc',n,hd⟩:=id hl;obtain⟨⟨cls2,dd2,data2,sl2⟩,ho2,hc2,n2,hd2⟩:=id hb;simp only at hc' hd hc2 hd2;subst hc' hd hc2 hd2
 exact Si (op:=.Lt) ⟨_,ho,rfl⟩ ⟨_,ho2,rfl⟩ PySem.F.slot_tuple_lt PySem.F.entry_tuple_lt (PySem.F.args_tuple_lt_2 _ _) (uW l b items items2 n n2 dd dd2 sl sl2 eks)
  ⟨ho,ho2,hc,show Value.bool (gv (decide (items.size<items2.size)) eks)≠Value.notImplemented/\Q (.bool (gv (decide (items.size<items2.size)) eks)) s from⟨(fun x=>nomatch x),h⟩⟩ hu
theorem uX(l b:Addr)(items items2:Array Value)(n n2:Nat)(dd dd2:Option Addr)(sl sl2:Array (Option Value))(eks:List (Bool×Bool)) :
  Meets (Builtin.«tuple.__le__» ⟨[.ref l,.ref b],[]⟩)
   (fun A R s => s.heap.get? l = some { cls := .type "tuple", dict := dd, data := .seq items n, slots := sl } /\ s.heap.get? b = some { cls := .type "tuple", dict := dd2, data := .seq items2 n2, slots := sl2 } /\
    fD .LtE A.in1 s items.toList items2.toList eks/\R (.ok (.ret (.bool (gv (decide (items.size<=items2.size)) eks)))) s):=
 .of_wp fun prog w A R s h=>by
  obtain⟨hp,g,d,tk,os⟩:=s;obtain⟨hl,hb,hc,h⟩:=h;have f2:=Se
  wp_walk using wpAny_loadPart' hl,wpAny_loadPart' hb,Ra _ (fun rest b s'=>b.1=none/\s'=⟨hp,g,d,tk,os⟩/\∃(vs ws:List Value)(eks':List (Bool×Bool)),rest=vs.zip ws /\
   fD .LtE A.in1 ⟨hp,g,d,tk,os⟩ vs ws eks'/\R (.ok (.ret (.bool (gv (decide (items.size<=items2.size)) eks')))) ⟨hp,g,d,tk,os⟩) _
  case turn=>
   rintro⟨y,x⟩ rest b s' ⟨hb',rfl,vs,ws,eks',hz,hci,hR⟩
   cases vs with
   |nil=>rw[Sf]at hz;cases hz
   |cons a vs=>
    cases ws with
    |nil=>rw[Sg]at hz;cases hz
    |cons c ws=>
     rw[Sh]at hz;injection hz with hyx hrest
     injection hyx with hy hx
     subst hy hx;cases eks' with
     |nil=>simp only[fD]at hci
     |cons ek eks'=>
      obtain⟨e,k⟩:=ek;simp only[fD]at hci;obtain⟨he,hk,hci⟩:=hci;refine OG (he prog w _ _ ?_);cases e with
      |true=>
       have hR':R (.ok (.ret (.bool (gv (decide (items.size<=items2.size)) eks')))) ⟨hp,g,d,tk,os⟩:=hR
       wp_walk
       exact⟨rfl,rfl,_,_,_,hrest,hci rfl,hR'⟩
      |false=>
       have hR':R (.ok (.ret (.bool k))) ⟨hp,g,d,tk,os⟩:=hR;have hri:=hk rfl prog w
       wp_walk using hri
       exact⟨_,rfl,by simpa using hR'⟩
  case fin=>
   rintro⟨b1,b2⟩ s' ⟨hb',rfl,vs,ws,eks',hz,hci,hR⟩
   simp only at hb';subst hb'
   have hv:eks'=[]:=by
    cases vs with
    |nil=>cases eks' with
     |nil=>rfl
     |cons _ _=>simp only[fD]at hci
    |cons a vs=>cases ws with
     |nil=>cases eks' with
      |nil=>rfl
      |cons _ _=>simp only[fD]at hci
     |cons c ws=>rw[Sh]at hz;cases hz
   subst hv;have hR':R (.ok (.ret (.bool (decide (items.size<=items2.size))))) ⟨hp,g,d,tk,os⟩:=hR
   wp_walk
   exact⟨_,rfl,by simpa[Builtin.Tuple.tupleCompareSizes] using hR'⟩
  case h=>
   exact⟨rfl,rfl,items.toList,items2.toList,eks,rfl,hc,h⟩
theorem JM{prog:Program}{w:World}{A:Around}{E:Value->Shared->Prop}{s:Shared}{l b:Addr}{items items2:Array Value}{eks:List (Bool×Bool)}{Q:Value->Shared->Prop}(hl:IsTup s.heap l items)(hb:IsTup s.heap b items2)(hc:fD .LtE A.in1 s items.toList items2.toList eks)
  (hu:A.units<cLine) (h:Q (.bool (gv (decide (items.size<=items2.size)) eks)) s):wpAny (model prog w) A (richCompare .LtE (.ref l) (.ref b)) Q E s:=by
 obtain⟨⟨cls,dd,data,sl⟩,ho,hc',n,hd⟩:=id hl;obtain⟨⟨cls2,dd2,data2,sl2⟩,ho2,hc2,n2,hd2⟩:=id hb;simp only at hc' hd hc2 hd2;subst hc' hd hc2 hd2
 exact Si (op:=.LtE) ⟨_,ho,rfl⟩ ⟨_,ho2,rfl⟩ PySem.F.slot_tuple_le PySem.F.entry_tuple_le (PySem.F.args_tuple_le_2 _ _) (uX l b items items2 n n2 dd dd2 sl sl2 eks)
  ⟨ho,ho2,hc,show Value.bool (gv (decide (items.size<=items2.size)) eks)≠Value.notImplemented/\Q (.bool (gv (decide (items.size<=items2.size)) eks)) s from⟨(fun x=>nomatch x),h⟩⟩ hu
theorem uY(l b:Addr)(items items2:Array Value)(n n2:Nat)(dd dd2:Option Addr)(sl sl2:Array (Option Value))(eks:List (Bool×Bool)) :
  Meets (Builtin.«tuple.__gt__» ⟨[.ref l,.ref b],[]⟩)
   (fun A R s => s.heap.get? l = some { cls := .type "tuple", dict := dd, data := .seq items n, slots := sl } /\ s.heap.get? b = some { cls := .type "tuple", dict := dd2, data := .seq items2 n2, slots := sl2 } /\
    fD .Gt A.in1 s items.toList items2.toList eks/\R (.ok (.ret (.bool (gv (decide (items.size>items2.size)) eks)))) s):=
 .of_wp fun prog w A R s h=>by
  obtain⟨hp,g,d,tk,os⟩:=s;obtain⟨hl,hb,hc,h⟩:=h;have f2:=Se
  wp_walk using wpAny_loadPart' hl,wpAny_loadPart' hb,Ra _ (fun rest b s'=>b.1=none/\s'=⟨hp,g,d,tk,os⟩/\∃(vs ws:List Value)(eks':List (Bool×Bool)),rest=vs.zip ws /\
   fD .Gt A.in1 ⟨hp,g,d,tk,os⟩ vs ws eks'/\R (.ok (.ret (.bool (gv (decide (items.size>items2.size)) eks')))) ⟨hp,g,d,tk,os⟩) _
  case turn=>
   rintro⟨y,x⟩ rest b s' ⟨hb',rfl,vs,ws,eks',hz,hci,hR⟩
   cases vs with
   |nil=>rw[Sf]at hz;cases hz
   |cons a vs=>
    cases ws with
    |nil=>rw[Sg]at hz;cases hz
    |cons c ws=>
     rw[Sh]at hz;injection hz with hyx hrest
     injection hyx with hy hx
     subst hy hx;cases eks' with
     |nil=>simp only[fD]at hci
     |cons ek eks'=>
      obtain⟨e,k⟩:=ek;simp only[fD]at hci;obtain⟨he,hk,hci⟩:=hci;refine OG (he prog w _ _ ?_);cases e with
      |true=>
       have hR':R (.ok (.ret (.bool (gv (decide (items.size>items2.size)) eks')))) ⟨hp,g,d,tk,os⟩:=hR
       wp_walk
       exact⟨rfl,rfl,_,_,_,hrest,hci rfl,hR'⟩
      |false=>
       have hR':R (.ok (.ret (.bool k))) ⟨hp,g,d,tk,os⟩:=hR;have hri:=hk rfl prog w
       wp_walk using hri
       exact⟨_,rfl,by simpa using hR'⟩
  case fin=>
   rintro⟨b1,b2⟩ s' ⟨hb',rfl,vs,ws,eks',hz,hci,hR⟩
   simp only at hb';subst hb'
   have hv:eks'=[]:=by
    cases vs with
    |nil=>cases eks' with
     |nil=>rfl
     |cons _ _=>simp only[fD]at hci
    |cons a vs=>cases ws with
     |nil=>cases eks' with
      |nil=>rfl
      |cons _ _=>simp only[fD]at hci
     |cons c ws=>rw[Sh]at hz;cases hz
   subst hv;have hR':R (.ok (.ret (.bool (decide (items.size>items2.size))))) ⟨hp,g,d,tk,os⟩:=hR
   wp_walk
   exact⟨_,rfl,by simpa[Builtin.Tuple.tupleCompareSizes] using hR'⟩
  case h=>
   exact⟨rfl,rfl,items.toList,items2.toList,eks,rfl,hc,h⟩
theorem gU{prog:Program}{w:World}{A:Around}{E:Value->Shared->Prop}{s:Shared}{l b:Addr}{items items2:Array Value}{eks:List (Bool×Bool)}{Q:Value->Shared->Prop}(hl:IsTup s.heap l items)(hb:IsTup s.heap b items2)(hc:fD .Gt A.in1 s items.toList items2.toList eks)
  (hu:A.units<cLine) (h:Q (.bool (gv (decide (items.size>items2.size)) eks)) s):wpAny (model prog w) A (richCompare .Gt (.ref l) (.ref b)) Q E s:=by
 obtain⟨⟨cls,dd,data,sl⟩,ho,hc',n,hd⟩:=id hl;obtain⟨⟨cls2,dd2,data2,sl2⟩,ho2,hc2,n2,hd2⟩:=id hb;simp only at hc' hd hc2 hd2;subst hc' hd hc2 hd2
 exact Si (op:=.Gt) ⟨_,ho,rfl⟩ ⟨_,ho2,rfl⟩ PySem.F.slot_tuple_gt PySem.F.entry_tuple_gt (PySem.F.args_tuple_gt_2 _ _) (uY l b items items2 n n2 dd dd2 sl sl2 eks)
  ⟨ho,ho2,hc,show Value.bool (gv (decide (items.size>items2.size)) eks)≠Value.notImplemented/\Q (.bool (gv (decide (items.size>items2.size)) eks)) s from⟨(fun x=>nomatch x),h⟩⟩ hu
theorem uZ(l b:Addr)(items items2:Array Value)(n n2:Nat)(dd dd2:Option Addr)(sl sl2:Array (Option Value))(eks:List (Bool×Bool)) :
  Meets (Builtin.«tuple.__ge__» ⟨[.ref l,.ref b],[]⟩)
   (fun A R s => s.heap.get? l = some { cls := .type "tuple", dict := dd, data := .seq items n, slots := sl } /\ s.heap.get? b = some { cls := .type "tuple", dict := dd2, data := .seq items2 n2, slots := sl2 } /\
    fD .GtE A.in1 s items.toList items2.toList eks/\R (.ok (.ret (.bool (gv (decide (items.size ≥ items2.size)) eks)))) s):=
 .of_wp fun prog w A R s h=>by
  obtain⟨hp,g,d,tk,os⟩:=s;obtain⟨hl,hb,hc,h⟩:=h;have f2:=Se
  wp_walk using wpAny_loadPart' hl,wpAny_loadPart' hb,Ra _ (fun rest b s'=>b.1=none/\s'=⟨hp,g,d,tk,os⟩/\∃(vs ws:List Value)(eks':List (Bool×Bool)),rest=vs.zip ws /\
   fD .GtE A.in1 ⟨hp,g,d,tk,os⟩ vs ws eks'/\R (.ok (.ret (.bool (gv (decide (items.size ≥ items2.size)) eks')))) ⟨hp,g,d,tk,os⟩) _
  case turn=>
   rintro⟨y,x⟩ rest b s' ⟨hb',rfl,vs,ws,eks',hz,hci,hR⟩
   cases vs with
   |nil=>rw[Sf]at hz;cases hz
   |cons a vs=>
    cases ws with
    |nil=>rw[Sg]at hz;cases hz
    |cons c ws=>
     rw[Sh]at hz;injection hz with hyx hrest
     injection hyx with hy hx
     subst hy hx;cases eks' with
     |nil=>simp only[fD]at hci
     |cons ek eks'=>
      obtain⟨e,k⟩:=ek;simp only[fD]at hci;obtain⟨he,hk,hci⟩:=hci;refine OG (he prog w _ _ ?_);cases e with
      |true=>
       have hR':R (.ok (.ret (.bool (gv (decide (items.size ≥ items2.size)) eks')))) ⟨hp,g,d,tk,os⟩:=hR
       wp_walk
       exact⟨rfl,rfl,_,_,_,hrest,hci rfl,hR'⟩
      |false=>
       have hR':R (.ok (.ret (.bool k))) ⟨hp,g,d,tk,os⟩:=hR;have hri:=hk rfl prog w
       wp_walk using hri
       exact⟨_,rfl,by simpa using hR'⟩
  case fin=>
   rintro⟨b1,b2⟩ s' ⟨hb',rfl,vs,ws,eks',hz,hci,hR⟩
   simp only at hb';subst hb'
   have hv:eks'=[]:=by
    cases vs with
    |nil=>cases eks' with
     |nil=>rfl
     |cons _ _=>simp only[fD]at hci
    |cons a vs=>cases ws with
     |nil=>cases eks' with
      |nil=>rfl
      |cons _ _=>simp only[fD]at hci
     |cons c ws=>rw[Sh]at hz;cases hz
   subst hv;have hR':R (.ok (.ret (.bool (decide (items.size ≥ items2.size))))) ⟨hp,g,d,tk,os⟩:=hR
   wp_walk
   exact⟨_,rfl,by simpa[Builtin.Tuple.tupleCompareSizes] using hR'⟩
  case h=>
   exact⟨rfl,rfl,items.toList,items2.toList,eks,rfl,hc,h⟩
theorem J7{prog:Program}{w:World}{A:Around}{E:Value->Shared->Prop}{s:Shared}{l b:Addr}{items items2:Array Value}{eks:List (Bool×Bool)}{Q:Value->Shared->Prop}(hl:IsTup s.heap l items)(hb:IsTup s.heap b items2)(hc:fD .GtE A.in1 s items.toList items2.toList eks)
  (hu:A.units<cLine) (h:Q (.bool (gv (decide (items.size ≥ items2.size)) eks)) s):wpAny (model prog w) A (richCompare .GtE (.ref l) (.ref b)) Q E s:=by
 obtain⟨⟨cls,dd,data,sl⟩,ho,hc',n,hd⟩:=id hl;obtain⟨⟨cls2,dd2,data2,sl2⟩,ho2,hc2,n2,hd2⟩:=id hb;simp only at hc' hd hc2 hd2;subst hc' hd hc2 hd2
 exact Si (op:=.GtE) ⟨_,ho,rfl⟩ ⟨_,ho2,rfl⟩ PySem.F.slot_tuple_ge PySem.F.entry_tuple_ge (PySem.F.args_tuple_ge_2 _ _) (uZ l b items items2 n n2 dd dd2 sl sl2 eks)
  ⟨ho,ho2,hc,show Value.bool (gv (decide (items.size ≥ items2.size)) eks)≠Value.notImplemented/\Q (.bool (gv (decide (items.size ≥ items2.size)) eks)) s from⟨(fun x=>nomatch x),h⟩⟩ hu
end L2
namespace L2
open PySem PySem.Spec PyProof.Rows RS
def cL:CmpOp->Int->Int->Bool
 |.Lt,i,j=>decide (i<j)
 |.LtE,i,j=>decide (i<=j)
 |.Gt,i,j=>decide (i>j)
 |.GtE,i,j=>decide (i ≥ j)
 |_,_,_=>false
mutual
def dk(op:CmpOp):PyData->PyData->Option Bool
 |.int i,.int j=>some (cL op i j)
 |.tuple xs,.tuple ys=>cmpPs op xs ys
 |_,_=>none
def cmpPs(op:CmpOp):List PyData->List PyData->Option Bool
 |[],ys=>some (cL op 0 ys.length)
 |_::xs,[]=>some (cL op (xs.length+1) 0)
 |x::xs,y::ys=>if PyData.eqv x y=true then cmpPs op xs ys else dk op x y
end
def sR:CmpOp->Bool
 |.Lt | .LtE | .Gt | .GtE=>true
 |_=>false
theorem LI:∀{op:CmpOp}(ho:sR op=true){A:Around}{s:Shared}(a:Int)(t:Tok)(c:Int)(u:Tok),xZ op A s (.int a t) (.int c u) (cL op a c)
 |.Lt,_,A,s,a,t,c,u=>fun prog w E Q h=>(PyProof.Rows.lt_int h:wpAny (model prog w) A (compareOp .Lt (.int a t) (.int c u)) Q E s)
 |.LtE,_,A,s,a,t,c,u=>fun prog w E Q h=>(PyProof.Rows.le_int h:wpAny (model prog w) A (compareOp .LtE (.int a t) (.int c u)) Q E s)
 |.Gt,_,A,s,a,t,c,u=>fun prog w E Q h=>(PyProof.Rows.gt_int h:wpAny (model prog w) A (compareOp .Gt (.int a t) (.int c u)) Q E s)
 |.GtE,_,A,s,a,t,c,u=>fun prog w E Q h=>(PyProof.Rows.ge_int h:wpAny (model prog w) A (compareOp .GtE (.int a t) (.int c u)) Q E s)
theorem yY{op:CmpOp}(i j:Nat):cL op ((i+1:Nat):Int) ((j+1:Nat):Int)=cL op (i:Int) (j:Int):=by
 cases op <;> first|rfl|(unfold cL;simp)
theorem LH:∀{op:CmpOp}(ho:sR op=true){A:Around}{s:Shared}{l b:Addr}{items items2:Array Value}{eks:List (Bool×Bool)}(hl:IsTup s.heap l items)(hb:IsTup s.heap b items2)(hc:fD op A.in1 s items.toList items2.toList eks)
  (hu:A.units<cLine),xZ op A s (.ref l) (.ref b) (gv (cL op items.size items2.size) eks)
 |.Lt,_,A,s,l,b,items,items2,eks,hl,hb,hc,hu=>fun prog w E Q h=>JH hl hb hc hu (by
   have e:decide (items.size<items2.size)=cL .Lt items.size items2.size:=by (unfold cL;simp)
   rw[e];exact h)
 |.LtE,_,A,s,l,b,items,items2,eks,hl,hb,hc,hu=>fun prog w E Q h=>JM hl hb hc hu (by
   have e:decide (items.size<=items2.size)=cL .LtE items.size items2.size:=by (unfold cL;simp)
   rw[e];exact h)
 |.Gt,_,A,s,l,b,items,items2,eks,hl,hb,hc,hu=>fun prog w E Q h=>gU hl hb hc hu (by
   have e:decide (items.size>items2.size)=cL .Gt items.size items2.size:=by (unfold cL;simp)
   rw[e];exact h)
 |.GtE,_,A,s,l,b,items,items2,eks,hl,hb,hc,hu=>fun prog w E Q h=>J7 hl hb hc hu (by
   have e:decide (items.size ≥ items2.size)=cL .GtE items.size items2.size:=by (unfold cL;simp)
   rw[e];exact h)
mutual
theorem rj{op:CmpOp}(ho:sR op=true):∀(da db:PyData)(A:Around)(s:Shared)(a b:Value)(as bs:List Addr)(k:Bool),Reads s.heap a da as->Reads s.heap b db bs->da.canLay0=true->db.canLay0=true ->
  A.units+min da.depth db.depth<cLine->dk op da db=some k->xZ op A s a b k
 |.int i,.int j,A,s,_,_,_,_,k,ra,rb,_,_,hu,hk=>by
  cases ra;cases rb;simp only[dk]at hk;cases hk;exact LI ho _ _ _ _
 |.tuple xs,.tuple ys,A,s,_,_,_,_,k,ra,rb,ha,hb,hu,hk=>by
  simp only[dk]at hk;cases ra with
  | @tuple l o vs n _ as₁ h1 h2 h3 h4=>
   cases rb with
   | @tuple l' o' vs' n' _ bs₁ k1 k2 k3 k4=>
    have n1:vs.size=xs.length:=by simpa using SeqAt.ReadsAll.length _ _ _ h4
    have n2:vs'.size=ys.length:=by simpa using SeqAt.ReadsAll.length _ _ _ k4
    obtain⟨eks,e1,e2⟩:=rc_readsAll ho xs ys A.in1 s vs.toList vs'.toList _ _ k h4 k4 (by simpa[PyData.canLay0] using ha) (by simpa[PyData.canLay0] using hb) (SeqAt.room_in hu) hk;have:=LH ho (A:=A) (s:=s) (l:=l) (b:=l') (items:=vs) (items2:=vs') (eks:=eks) ⟨_,h1,h2,_,h3⟩ ⟨_,k1,k2,_,k3⟩ e1 (SeqAt.room_here hu);rw[n1,n2,e2]at this;exact this
 |.none,_,_,_,_,_,_,_,_,_,_,_,_,_,hk=>by simp only[dk]at hk;cases hk
 |.bool _,_,_,_,_,_,_,_,_,_,_,_,_,_,hk=>by simp only[dk]at hk;cases hk
 |.str _,_,_,_,_,_,_,_,_,_,_,_,_,_,hk=>by simp only[dk]at hk;cases hk
 |.list _,_,_,_,_,_,_,_,_,_,_,_,_,_,hk=>by simp only[dk]at hk;cases hk
 |.dict _,_,_,_,_,_,_,_,_,_,_,_,_,_,hk=>by simp only[dk]at hk;cases hk
 |.int _,.none,_,_,_,_,_,_,_,_,_,_,_,_,hk=>by simp only[dk]at hk;cases hk
 |.int _,.bool _,_,_,_,_,_,_,_,_,_,_,_,_,hk=>by simp only[dk]at hk;cases hk
 |.int _,.str _,_,_,_,_,_,_,_,_,_,_,_,_,hk=>by simp only[dk]at hk;cases hk
 |.int _,.list _,_,_,_,_,_,_,_,_,_,_,_,_,hk=>by simp only[dk]at hk;cases hk
 |.int _,.tuple _,_,_,_,_,_,_,_,_,_,_,_,_,hk=>by simp only[dk]at hk;cases hk
 |.int _,.dict _,_,_,_,_,_,_,_,_,_,_,_,_,hk=>by simp only[dk]at hk;cases hk
 |.tuple _,.none,_,_,_,_,_,_,_,_,_,_,_,_,hk=>by simp only[dk]at hk;cases hk
 |.tuple _,.bool _,_,_,_,_,_,_,_,_,_,_,_,_,hk=>by simp only[dk]at hk;cases hk
 |.tuple _,.int _,_,_,_,_,_,_,_,_,_,_,_,_,hk=>by simp only[dk]at hk;cases hk
 |.tuple _,.str _,_,_,_,_,_,_,_,_,_,_,_,_,hk=>by simp only[dk]at hk;cases hk
 |.tuple _,.list _,_,_,_,_,_,_,_,_,_,_,_,_,hk=>by simp only[dk]at hk;cases hk
 |.tuple _,.dict _,_,_,_,_,_,_,_,_,_,_,_,_,hk=>by simp only[dk]at hk;cases hk
theorem rc_readsAll{op:CmpOp}(ho:sR op=true):∀(xs ys:List PyData)(A:Around)(s:Shared)(vs ws:List Value)(as bs:List Addr)(k:Bool),ReadsAll s.heap vs xs as->ReadsAll s.heap ws ys bs->PyData.canLayAll0 xs=true->PyData.canLayAll0 ys=true ->
  A.units+min (PyData.depthAll xs) (PyData.depthAll ys)<cLine->cmpPs op xs ys=some k->∃eks,fD op A s vs ws eks/\gv (cL op (xs.length:Nat) (ys.length:Nat)) eks=k
 |[],ys,A,s,_,_,_,_,k,ra,rb,_,_,_,hk=>by
  cases ra;simp only[cmpPs]at hk;cases hk;exact⟨[],by unfold fD;trivial,rfl⟩
 |x::xs,[],A,s,_,_,_,_,k,ra,rb,_,_,_,hk=>by
  cases rb;simp only[cmpPs]at hk;cases hk;cases ra;refine⟨[],by unfold fD;trivial,?_⟩;simp[gv]
 |x::xs,y::ys,A,s,_,_,_,_,k,ra,rb,ha,hb,hu,hk=>by
  have ha':x.canLay0=true/\PyData.canLayAll0 xs=true:=by simpa[PyData.canLayAll0] using ha
  have hb':y.canLay0=true/\PyData.canLayAll0 ys=true:=by simpa[PyData.canLayAll0] using hb
  cases ra with
  |cons r rs=>
   cases rb with
   |cons r' rs'=>
    have he:=SeqAt.eqAt_reads x y A s _ _ _ _ r r' ha'.1 hb'.1 (SeqAt.room_head hu);simp only[cmpPs]at hk;cases e:PyData.eqv x y with
    |true=>
     rw[Ob e]at hk;rw[e]at he;obtain⟨eks,e1,e2⟩:=rc_readsAll ho xs ys A s _ _ _ _ k rs rs' ha'.2 hb'.2 (SeqAt.room_tail hu) hk;refine⟨(true,false)::eks,⟨he,fun z=>(by cases z),fun _=>e1⟩,?_⟩;show gv (cL op ((xs.length+1:Nat):Int) ((ys.length+1:Nat):Int)) eks=k;rw[yY];exact e2
    |false=>
     rw[Oc (by rw[e];exact OK)]at hk;rw[e]at he;refine⟨[(false,k)],⟨he,fun _=>rj ho x y A s _ _ _ _ k r r' ha'.1 hb'.1 (SeqAt.room_head hu) hk,fun z=>(by cases z)⟩,rfl⟩
end
def BW(K:W.Frag)(op:CmpOp):R2:=fun x y H Q=>∃a b k,nK K H a x/\nK K H b y/\dO a=true/\dO b=true/\dk op a b=some k/\Q (.bl k) H
theorem FU{X:Cx}(hu:X.A.units+64<cLine):∀{op:CmpOp},sR op=true->iP X (compareOp op) (BW X.K op):=by
 intro op ho pins s σ H x y v u Q I rx ry h;obtain⟨a,b,k,h1,h2,h3,h4,h5,q⟩:=h;obtain⟨as,r1⟩:=du I a x v h1 rx;obtain⟨bs,r2⟩:=du I b y u h2 ry;have:=rj ho a b X.A s v u as bs k r1 r2 (cq h3) (cq h4) (oy h3 hu) h5 X.prog X.w X.xe (EP X pins σ Q) ⟨.bl k,H,I,rfl,q⟩
 cases op <;> first
  |exact absurd ho (by decide)
  |exact this
def fC(op:CmpOp)(a b:D)(μ:aB):aj D:=match mz μ a,mz μ b with
 |some p,some q=>if dO p=true/\dO q=true then (match dk op p q with|some k=>.ok (.bl k) μ|none=>.bad) else .bad
 |_,_=>.bad
theorem JB{p:Pa}{op:CmpOp}:oW p (fC op) (BW p.K op):=by
 intro a b v y H α μ Q S ra rb P;unfold fC at P;split at P
 ·rename_i x z hx hz;split at P
  ·rename_i hf;split at P
   ·rename_i k hk;exact⟨x,z,k,l0 S hx ra,l0 S hz rb,hf.1,hf.2,hk,P.now S _ (aW.mpr rfl)⟩
   ·exact P.elim
  ·exact P.elim
 ·exact P.elim
def dI(g:Int->Int->D)(a b:D)(μ:aB):aj D:=match a,b with
 |.int i,.int j=>.ok (g i j) μ
 |_,_=>.bad
open Classical in
def GN(C:Int->Int->Prop)(g:Int->Int->D)(a b:D)(μ:aB):aj D:=match a,b with
 |.int i,.int j=>if C i j then .ok (g i j) μ else .bad
 |_,_=>.bad
section
variable{p:Pa}
theorem Na{g:Int->Int->V}{gd:Int->Int->D}(h:∀i j H α,p.R H α (gd i j) (g i j)):oW p (dI gd) (Ky g):=by
 intro a b v y H α μ Q S ra rb P;unfold dI at P;split at P
 ·rename_i i j;exact⟨i,j,av.mp ra,av.mp rb,P.now S _ (h i j H α)⟩
 ·exact P.elim
theorem BZ{C:Int->Int->Prop}{g:Int->Int->V}{gd:Int->Int->D}(h:∀i j H α,p.R H α (gd i j) (g i j)):oW p (GN C gd) (rI C g):=by
 intro a b v y H α μ Q S ra rb P;unfold GN at P;split at P
 ·rename_i i j;split at P
  ·rename_i hc;exact⟨i,j,av.mp ra,av.mp rb,hc,P.now S _ (h i j H α)⟩
  ·exact P.elim
 ·exact P.elim
def vC(a:D)(μ:aB):aj D:=match a with
 |.int i=>.ok (.int (-i)) μ
 |_=>.bad
theorem JD:NI p vC (rU fun i=>.int (-i)):=by
 intro a v H α μ Q S ra P;unfold vC at P;split at P
 ·rename_i i;exact⟨i,av.mp ra,P.now S _ (av.mpr rfl)⟩
 ·exact P.elim
def G5(K:W.Frag):R2:=fun x y H Q=>∃a b xs ys,x=.ref a/\y=.ref b/\gP K H a xs/\gP K H b ys/\xs.length+ys.length<=sizeLine /\
 (xs=[]->Q (.ref b) H)/\(xs≠[]->ys=[]->Q (.ref a) H)/\(xs≠[]->ys≠[]->∀p,H p=none->Q (.ref p) (dg H p (.tup (xs++ys))))
theorem D7{prog:Program}{w:World}{A:Around}{E:Value->Shared->Prop}{s:Shared}{t b:Addr}{ws:List Value}{Q:Value->Shared->Prop}(ht:IsTup s.heap t #[])(hb:IsTup s.heap b ws.toArray)(h0:Q (.ref b) s):wpAny (model prog w) A (binaryOp .Add (.ref t) (.ref b)) Q E s:=by
 obtain⟨⟨cls,dd,data,sl⟩,ho,hc,n,hd⟩:=id ht;obtain⟨⟨cls2,dd2,data2,sl2⟩,ho2,hc2,n2,hd2⟩:=id hb;simp only at hc hd hc2 hd2;subst hc hd hc2 hd2
 exact concat_meets ⟨_,ho,rfl⟩ ⟨_,ho2,rfl⟩ Ph seq_tuple_add Pi Pj (Pl _ _)
  (tuple_addW0 t b #[] ws.toArray n n2 dd dd2 sl sl2 (by simp)) ⟨ho,ho2,h0⟩
theorem FW{X:Cx}:iP X (binaryOp .Add) (G5 X.K):=by
 intro pins s σ H x y v u Q I rx ry h;obtain⟨a,b,xs,ys,rfl,rfl,ha,hb,hz,q0,q1,q2⟩:=h;by_cases hx:xs=[]
 ·cases rx;cases ry;obtain⟨its,r1,p1,_⟩:=I.tuple ha;obtain⟨its2,r2,p2,_⟩:=I.tuple hb;subst hx;cases r1;exact D7 p1 p2 ⟨.ref b,H,I,rfl,q0 rfl⟩
 ·exact FV pins s σ H (.ref a) (.ref b) v u Q I rx ry ⟨a,b,xs,ys,rfl,rfl,ha,hb,hx,hz,q1 hx,q2 hx⟩
def BX(K:W.Frag):R2:=fun x y H Q=>Ky (fun i j=>.int (i+j)) x y H Q\/G5 K x y H Q\/KZ x y H Q\/(∃i j,x=.str i/\y=.str j/\i.length+j.length<=sizeLine/\Q (.str (i++j)) H)
theorem FX{X:Cx}:iP X (binaryOp .Add) (BX X.K):=Js.or (FW.or (Jr.or yN))
def cQ(a b:D)(μ:aB):aj D:=match a,b with
 |.int i,.int j=>.ok (.int (i+j)) μ
 |.str x,.str y=>if x.length+y.length<=sizeLine then .ok (.str (x++y)) μ else .bad
 |.tup xs,.tup ys=>if xs.length+ys.length<=sizeLine then .ok (.tup (xs++ys)) μ else .bad
 |.obj m,.obj n=>match μ[m]?,μ[n]? with
  |some (.lst xs),some (.lst ys)=>if xs.length+ys.length<=sizeLine then .ok (.obj μ.length) (μ++[.lst (xs++ys)]) else .bad
  |_,_=>.bad
 |_,_=>.bad
theorem cS{H:Hp}{α:List Addr}{μ:aB}{n:Nat}{v:V}{xs:List D}(S:p.S H α μ)(r:p.R H α (.obj n) v)(hx:μ[n]?=some (.lst xs)):∃a us,v=.ref a/\α[n]?=some a/\H a=some (.lst us)/\p.Rs H α xs us:=by
 obtain⟨a,ea,us,hH,rr⟩:=S.at hx;obtain⟨a',rfl,ea'⟩:=aT.mp r;rw[ea]at ea';cases ea';exact⟨a,us,rfl,ea,hH,rr⟩
theorem Reps.nil_iff'{K:W.Frag}{H:Hp}{α:List Addr}{xs:List D}{vs:List V}(r:Reps K H α xs vs):vs=[]↔xs=[]:=by
 have:=r.length;constructor
 ·intro h;subst h;simp at this;exact Sj this.symm
 ·intro h;subst h;simp at this;exact this
theorem JC:oW p cQ (BX p.K):=by
 intro a b v y H α μ Q S ra rb P;unfold cQ at P;split at P
 ·rename_i i j;exact .inl ⟨i,j,av.mp ra,av.mp rb,P.now S _ (av.mpr rfl)⟩
 ·rename_i i j;split at P
  ·rename_i hl;exact .inr (.inr (.inr ⟨i,j,bq.mp ra,bq.mp rb,hl,P.now S _ (bq.mpr rfl)⟩))
  ·exact P.elim
 ·rename_i xs ys;split at P
  ·rename_i hl;obtain⟨a,us,rfl,h1,r1⟩:=aO.mp ra;obtain⟨b,ws,rfl,h2,r2⟩:=aO.mp rb;refine .inr (.inl ⟨a,b,us,ws,rfl,rfl,h1,h2,by rw[r1.length,r2.length];exact hl,fun e=>?_,fun _ e=>?_,fun _ _ q hq=>?_⟩)
   ·have ex:=r1.nil_iff'.mp e;subst ex;exact P.now S _ (by simpa using rb)
   ·have ey:=r2.nil_iff'.mp e;subst ey;exact P.now S _ (by simpa using ra)
   ·exact P _ _ (cE hq) (S.tuple hq) _ (aO.mpr ⟨q,_,rfl,gP.of cJ,(r1.append r2).mono (cE hq)⟩)
  ·exact P.elim
 ·rename_i m n;split at P
  ·rename_i xs ys hx hy;split at P
   ·rename_i hl;obtain⟨a,us,rfl,a1,h1,r1⟩:=cS S ra hx;obtain⟨b,ws,rfl,b1,h2,r2⟩:=cS S rb hy;refine .inr (.inr (.inl ⟨a,b,us,ws,rfl,rfl,h1,h2,by rw[r1.length,r2.length];exact hl,fun q hq=>?_⟩));obtain⟨x1,x2,x3⟩:=dP S hq (r1.append r2);exact P _ _ x1 x2 _ x3
   ·exact P.elim
  ·exact P.elim
 ·exact P.elim
def GZ:R2:=fun x y H Q=>rI vL (fun i j=>.int (i*j)) x y H Q\/KR x y H Q
theorem FR{X:Cx}:iP X (binaryOp .Mult) GZ:=Jm.or Jj
open Classical in
def sA(a b:D)(μ:aB):aj D:=match a,b with
 |.int i,.int j=>if vL i j then .ok (.int (i*j)) μ else .bad
 |.obj m,.int k=>match μ[m]? with
  |some (.lst xs)=>if -(2^63)<=k/\k<2^63/\xs.length*k.toNat<=sizeLine then .ok (.obj μ.length) (μ++[.lst (List.replicate k.toNat xs).flatten]) else .bad
  |_=>.bad
 |_,_=>.bad
theorem Reps.rep{K:W.Frag}{H:Hp}{α:List Addr}{xs:List D}{vs:List V}(h:Reps K H α xs vs):∀k:Nat,Reps K H α (List.replicate k xs).flatten (List.replicate k vs).flatten
 |0=>by simpa using Reps.nil
 |k+1=>by
  rw[PZ,PZ,P0,P0];exact h.append (Reps.rep h k)
theorem Jz:oW p sA GZ:=by
 intro a b v y H α μ Q S ra rb P;unfold sA at P;split at P
 ·rename_i i j;split at P
  ·rename_i hc;exact .inl ⟨i,j,av.mp ra,av.mp rb,hc,P.now S _ (av.mpr rfl)⟩
  ·exact P.elim
 ·rename_i m k;split at P
  ·rename_i xs hx;split at P
   ·rename_i hl;obtain⟨a,us,rfl,a1,h1,r1⟩:=cS S ra hx;refine .inr ⟨a,k,us,rfl,av.mp rb,h1,hl.1,hl.2.1,by rw[r1.length];exact hl.2.2,fun q hq=>?_⟩;obtain⟨x1,x2,x3⟩:=dP S hq (r1.rep k.toNat);exact P _ _ x1 x2 _ x3
   ·exact P.elim
  ·exact P.elim
 ·exact P.elim
def bR(a b:D)(μ:aB):aj D:=match a,b with
 |.tup xs,.int i=>match atI xs i with
  |some d=>.ok d μ
  |none=>.bad
 |.frz xs,.int i=>match atI xs i with
  |some d=>.ok d μ
  |none=>.bad
 |.obj n,.int i=>match μ[n]? with
  |some (.lst xs)=>match atI xs i with
   |some d=>.ok d μ
   |none=>.bad
  |_=>.bad
 |_,_=>.bad
theorem Reps.atI{K:W.Frag}{H:Hp}{α:List Addr}{xs:List D}{vs:List V}{i:Int}{d:D}(r:Reps K H α xs vs)(h:L2.atI xs i=some d):∃v,L2.atI vs i=some v/\aS K H α d v:=by
 unfold L2.atI at h⊢;rw[r.length];cases e:zc xs.length i with
 |none=>rw[e]at h;cases h
 |some j=>rw[e]at h;exact r.get h
theorem LU:oW p bR (ND p.K):=by
 intro a b v y H α μ Q S ra rb P;unfold bR at P;split at P
 ·rename_i xs i;split at P
  ·rename_i d hd;obtain⟨a,us,rfl,h1,r1⟩:=aO.mp ra;obtain⟨v,hv,rv⟩:=r1.atI hd;exact .inr (.inl ⟨a,us,i,v,rfl,av.mp rb,h1,hv,P.now S _ rv⟩)
  ·exact P.elim
 ·rename_i xs i;split at P
  ·rename_i d hd;obtain⟨a,us,rfl,h1,r1⟩:=bx.mp ra;obtain⟨v,hv,rv⟩:=r1.atI hd;exact .inl ⟨a,us,i,v,rfl,av.mp rb,h1.sq,hv,P.now S _ rv⟩
  ·exact P.elim
 ·rename_i n i;split at P
  ·rename_i xs hx;split at P
   ·rename_i d hd;obtain⟨a,us,rfl,a1,h1,r1⟩:=cS S ra hx;obtain⟨v,hv,rv⟩:=r1.atI hd;exact .inl ⟨a,us,i,v,rfl,av.mp rb,gu.of h1,hv,P.now S _ rv⟩
   ·exact P.elim
  ·exact P.elim
 ·exact P.elim
theorem LD{X:Cx}{a b:Expr}{fa fb:ME}{pos:Pos}(hK:X.K=p.K)(ha:PE X a (tD p fa))(hb:PE X b (tD p fb))(hs:uV b):PE X (.Subscript a b pos) (tD p (aA bR fa fb)):=
 (G8 JW ha hb hs).weak fun σ H Q ⟨α, ρ, μ, S, R, P⟩ => ⟨α, ρ, μ, S, R, (aK.bind P).imp fun x μ1 H1 α1 X1 S1 P1 v rv => ⟨α1, ρ, μ1, S1, R.mono X1, (aK.bind P1).imp fun y μ2 H2 α2 X2 S2 P2 u ru => by
  rw[hK];exact LU x y v u H2 α2 μ2 Q S2 (rv.mono X2) ru P2⟩⟩
theorem lL{prog:Program}{w:World}{A:Around}{E:Value->Shared->Prop}{s:Shared}{t sl:Addr}{items:Array Value}{vl vu:Value}{lo hi:Option Int}{Q:Value->Shared->Prop}(ht:IsTup s.heap t items)(hs:s.heap.IsSliceOf sl vl vu .none)(pl:IsPart vl lo)(pu:IsPart vu hi)
  (hw:HT.sIx items.size 0 lo=0/\HT.sIx items.size items.size hi=items.size) (h:Q (.ref t) s):wpAny (model prog w) A (getItem (.ref t) (.ref sl)) Q E s:=by
 obtain⟨os,hos,hcs,hds⟩:=id hs;have hTs:s.TypeIs (.ref sl) "slice" := ⟨os,hos,hcs⟩;unfold getItem
 try with_reducible refine OH ?_
 first|refine OG (OM ?_)|skip
 refine OG (Pw ht.typeIs (by decide) ?_)
 refine OG (Px (name:=Str.ofString "__getitem__") ht.typeIs Py
  (Pz Py ht.typeIs PB ?_ (PD _ _)))
 show wpAny _ _ (Builtin.Tuple.tupleItemsOf (.ref t) >>= _) _ _ s;refine OG (tupleItemsOf_ ht ?_);refine OG (PF hTs ?_);rw[Ob (by decide)];refine OG (HT.sliceApplied_gen hs pl pu ?_)
 have hno:(((HT.sIx items.size 0 lo:Nat):Int) == 0&&(1:Int) == 1&&(HT.sIx items.size items.size hi-HT.sIx items.size 0 lo) == items.size)=true:=by
  rw[hw.1,hw.2];simp
 show wpAny _ _ (if (((HT.sIx items.size 0 lo:Nat):Int) == 0&&(1:Int) == 1&&(HT.sIx items.size items.size hi-HT.sIx items.size 0 lo) == items.size)=true then _ else _) _ _ s;rw[Ob hno];refine OG (m:=Builtin.Tuple.tupleIsExact (.ref t)) (OG (PF ht.typeIs (OM ?_)));rw[Ob (by decide)];exact OG (Qu (OM ⟨_,rfl,OM h⟩))
def jR{β:Type}(xs:List β)(lo hi:Option Int):List β:=(xs.drop (HT.sIx xs.length 0 lo)).take (HT.sIx xs.length xs.length hi-HT.sIx xs.length 0 lo)
theorem yX{β:Type}(xs:List β)(lo hi:Option Int)(h:HT.sIx xs.length 0 lo=0/\HT.sIx xs.length xs.length hi=xs.length):jR xs lo hi=xs:=by
 unfold jR;rw[h.1,h.2];simp
def GX(K:W.Frag):V->Option Int->Option Int->Hp->VK->Prop:=fun x lo hi H Q=>∃a xs,x=.ref a/\gP K H a xs /\
 (HT.sIx xs.length 0 lo=0/\HT.sIx xs.length xs.length hi=xs.length)/\Q (.ref a) H
theorem Fd{X:Cx}:Er X (GX X.K):=by
 intro pins s σ H x v vl vu lo hi sl Q I rx hs pl pu h;obtain⟨a,xs,rfl,hx,hw,q⟩:=h;cases rx;obtain⟨its,r,ht,hz⟩:=I.tuple hx;have hlen:its.toArray.size=xs.length:=by rw[OX];exact r.length.symm
 refine⟨"tuple",_,Py.lookup,ht.typeIs,?_⟩;exact lL ht hs pl pu (by rw[hlen];exact hw) ⟨.ref a,H,I,rfl,q⟩
def KQ(K:W.Frag):V->Option Int->Option Int->Hp->VK->Prop:=fun x lo hi H Q=>KN K x lo hi H Q\/GX K x lo hi H Q\/KO K x lo hi H Q
theorem MZ{X:Cx}:Er X (KQ X.K):=Iq.or (Fd.or Fe)
abbrev MO:=Ro->aB->aj (Option Int)
def En:MO:=fun _ μ=>.ok none μ
def KC(d:D)(μ:aB):aj (Option Int):=match d with
 |.int i=>.ok (some i) μ
 |_=>.bad
def kH(f:ME):MO:=fun ρ μ=>(f ρ μ).bind KC
def GM(p:Pa)(f:MO):TO:=fun σ H Q=>∃α ρ μ,p.S H α μ/\eB p.K H α ρ σ/\aK p H α (f ρ μ) (fun o _ H' _=>Q o H')
theorem PO.weak{X:Cx}{e:Option Expr}{t t':TO}(h:PO X e t)(k:∀σ H Q,t' σ H Q->t σ H Q):PO X e t':=fun pins s σ H Q I q=>h pins s σ H Q I (k σ H Q q)
theorem Fc{X:Cx}:PO X none (GM p En):=FG.weak fun σ H Q ⟨α,ρ,μ,S,R,P⟩=>P.now S
theorem Fb{X:Cx}{e:Expr}{f:ME}(h:PE X e (tD p f)):PO X (some e) (GM p (kH f)):=(FF h).weak fun σ H Q ⟨α,ρ,μ,S,R,P⟩=>⟨α,ρ,μ,S,R,(aK.bind P).imp fun d μ1 H1 α1 X1 S1 P1 v rv=>by
 unfold KC at P1;split at P1
 ·rename_i i;exact⟨i,av.mp rv,P1.now S1⟩
 ·exact P1.elim⟩
def Bv(a:D)(lo hi:Option Int)(μ:aB):aj D:=match a with
 |.tup xs=>.ok (.tup (jR xs lo hi)) μ
 |.frz xs=>.ok (.obj μ.length) (μ++[.lst (jR xs lo hi)])
 |.obj n=>match μ[n]? with
  |some (.lst xs)=>.ok (.obj μ.length) (μ++[.lst (jR xs lo hi)])
  |_=>.bad
 |_=>.bad
def Ej(fa:ME)(fl fh:MO):ME:=fun ρ μ=>(fa ρ μ).bind fun a μ1=>(fl ρ μ1).bind fun lo μ2=>(fh ρ μ2).bind fun hi μ3=>Bv a lo hi μ3
theorem Reps.cut'{K:W.Frag}{H:Hp}{α:List Addr}{xs:List D}{vs:List V}(r:Reps K H α xs vs)(lo hi:Option Int):Reps K H α (jR xs lo hi) (vG vs lo hi):=by
 unfold jR vG;rw[r.length];exact(r.drop _).take _
theorem LB{a:D}{v:V}{lo hi:Option Int}{H:Hp}{α:List Addr}{μ:aB}{Q:VK}(S:p.S H α μ)(ra:p.R H α a v)(P:aK p H α (Bv a lo hi μ) (RV p Q)):KQ p.K v lo hi H Q:=by
 unfold Bv at P;split at P
 ·rename_i xs;obtain⟨a,us,rfl,h1,r1⟩:=aO.mp ra;by_cases hw:HT.sIx us.length 0 lo=0/\HT.sIx us.length us.length hi=us.length
  ·refine .inr (.inl ⟨a,us,rfl,h1,hw,?_⟩);rw[r1.length]at hw;rw[yX xs lo hi hw]at P;exact P.now S _ ra
  ·exact .inl ⟨a,us,rfl,h1,hw,fun q hq=>P _ _ (cE hq) (S.tuple hq) _ (aO.mpr ⟨q,_,rfl,gP.of cJ,(r1.cut' lo hi).mono (cE hq)⟩)⟩
 ·rename_i xs;obtain⟨a,us,rfl,h1,r1⟩:=bx.mp ra;refine .inr (.inr ⟨a,us,rfl,h1.sq,fun q hq=>?_⟩);obtain⟨x1,x2,x3⟩:=dP S hq (r1.cut' lo hi);exact P _ _ x1 x2 _ x3
 ·rename_i n;split at P
  ·rename_i xs hx;obtain⟨a,us,rfl,a1,h1,r1⟩:=cS S ra hx;refine .inr (.inr ⟨a,us,rfl,gu.of h1,fun q hq=>?_⟩);obtain⟨x1,x2,x3⟩:=dP S hq (r1.cut' lo hi);exact P _ _ x1 x2 _ x3
  ·exact P.elim
 ·exact P.elim
theorem Dj{X:Cx}{e:Expr}{lo hi:Option Expr}{fa:ME}{fl fh:MO}{pos p2:Pos}(hK:X.K=p.K)(he:PE X e (tD p fa))(hl:PO X lo (GM p fl))(hu:PO X hi (GM p fh)):PE X (.Subscript e (.Slice lo hi none p2) pos) (tD p (Ej fa fl fh)):=
 (Dy MZ he hl hu).weak fun σ H Q ⟨α, ρ, μ, S, R, P⟩ => ⟨α, ρ, μ, S, R, (aK.bind P).imp fun a μ1 H1 α1 X1 S1 P1 v rv => ⟨α1, ρ, μ1, S1, R.mono X1, (aK.bind P1).imp fun l μ2 H2 α2 X2 S2 P2 => ⟨α2, ρ, μ2, S2, (R.mono X1).mono X2, (aK.bind P2).imp fun h μ3 H3 α3 X3 S3 P3 => by
  rw[hK];exact LB S3 ((rv.mono X2).mono X3) P3⟩⟩⟩
theorem k8{β γ:Type}{f:β->Option γ}{g:β->γ}:∀{l:List β},(∀m∈l,f m=some (g m))->l.filterMap f=l.map g
 |[],_=>rfl
 |x::r,h=>by rw[On,h x Oo,PM,k8 fun m hm=>h m (Oq _ hm)]
theorem wA(xs:Array Value):((List.range xs.size).filterMap fun(m:Nat)=>xs[(((xs.size:Int)-1)+(m:Int)*(-1)).toNat]?).toArray=xs.toList.reverse.toArray:=by
 congr 1;apply RK;intro i
 have hf:∀m∈List.range xs.size,xs[(((xs.size:Int)-1)+(m:Int)*(-1)).toNat]?=some (xs.toList.reverse.getD m .none):=by
  intro m hm;have hm':m<xs.size:=by simpa using hm
  have e:(((xs.size:Int)-1)+(m:Int)*(-1)).toNat=xs.size-1-m:=by omega
  rw[e,RJ,List.getElem?_reverse (by simpa using hm')];have h2:xs.size-1-m<xs.size:=by omega
  rw[Q5 h2];simp[OD,h2]
 rw[k8 hf];by_cases hi:i<xs.size
 ·rw[Pb,RL hi];simp only[Option.map_some];rw[RJ,RZ (by simpa using hi)];rfl
 ·rw[RM (by simpa using hi),RM (by simpa using hi)]
theorem oM{prog:Program}{w:World}{A:Around}{E:Value->Shared->Prop}{s:Shared}{sl:Addr}{n:Nat}{t:Tok}{Q:Int×Int×Nat->Shared->Prop}(hs:s.heap.IsSliceOf sl .none .none (.int (-1) t))
  (h:Q ((n:Int)-1,-1,n) s):wpAny (model prog w) A (Builtin.Slice.sliceApplied (.ref sl) (pure (n:Int))) Q E s:=by
 obtain⟨os,hos,hcs,hds⟩:=id hs;unfold Builtin.Slice.sliceApplied Builtin.Slice.sliceFields;refine OG (OG (Pt hos hds (x:=.none) rfl (OG (Pt hos hds (x:=.none) rfl (OG (Pt hos hds (x:=.int (-1) t) rfl (OM ?_)))))));refine OG (slicePart_int ?_);show wpAny _ _ (if ((-1:Int) == 0)=true then _ else _) _ _ s;rw[Oc (by decide)];refine OG (Pr (OG (Pr (OG (OM ?_)))));show wpAny _ _ (match Builtin.Slice.sliceAdjust none none (-1) (n:Int) with|(lo,hi)=>pure (lo,(-1:Int),Builtin.Slice.slicePlaces lo hi (-1))) _ _ s;have e:Builtin.Slice.sliceAdjust none none (-1) (n:Int)=((n:Int)-1,-1):=by unfold Builtin.Slice.sliceAdjust;simp
 rw[e];show wpAny _ _ (pure ((n:Int)-1,(-1:Int),Builtin.Slice.slicePlaces ((n:Int)-1) (-1) (-1))) _ _ s
 have e2:Builtin.Slice.slicePlaces ((n:Int)-1) (-1) (-1)=n:=by
  unfold Builtin.Slice.slicePlaces;rw[Oc (by decide)];split <;> simp <;> omega
 rw[e2];exact OM h
theorem nG{prog:Program}{w:World}{A:Around}{E:Value->Shared->Prop}{s:Shared}{t sl:Addr}{tk:Tok}{items:Array Value}{Q:Value->Shared->Prop}(ht:IsTup s.heap t items)(hs:s.heap.IsSliceOf sl .none .none (.int (-1) tk))
  (h:Q (.ref s.heap.objs.size) {s with heap:=s.heap.push {cls:=.type "tuple",data:=.seq items.toList.reverse.toArray}}) (hsz:items.size<=sizeLine):wpAny (model prog w) A (getItem (.ref t) (.ref sl)) Q E s:=by
 have htake:sizeOk (.seq items.toList.reverse.toArray):=by
  show items.toList.reverse.toArray.size<=sizeLine;simpa using hsz
 obtain⟨os,hos,hcs,hds⟩:=id hs;have hTs:s.TypeIs (.ref sl) "slice" := ⟨os,hos,hcs⟩;unfold getItem
 try with_reducible refine OH ?_
 first|refine OG (OM ?_)|skip
 refine OG (Pw ht.typeIs (by decide) ?_)
 refine OG (Px (name:=Str.ofString "__getitem__") ht.typeIs Py
  (Pz Py ht.typeIs PB ?_ (PD _ _)))
 show wpAny _ _ (Builtin.Tuple.tupleItemsOf (.ref t) >>= _) _ _ s;refine OG (tupleItemsOf_ ht ?_);refine OG (PF hTs ?_);rw[Ob (by decide)];refine OG (oM hs ?_);show wpAny _ _ (if (((items.size:Int)-1) == 0&&(-1:Int) == 1&&items.size == items.size)=true then _ else _) _ _ s;rw[Oc (by simp),wA]
 first
  |exact OG (m:=Builtin.Tuple.tupleExact _) (PJ (OM ⟨_,rfl,OM h⟩) htake)
  |exact OG (m:=Builtin.Tuple.tupleExact _) (PJ (OG (OM (OM ⟨_,rfl,OM h⟩))) htake)
  |exact OG (OG (m:=Builtin.Tuple.tupleExact _) (PJ (OM (OM ⟨_,rfl,OM h⟩)) htake))
  |exact OG (OG (m:=Builtin.Tuple.tupleExact _) (PJ (OM ⟨_,rfl,OM h⟩) htake))
end
inductive Bs(K:W.Frag)(H:Hp):V->String->Prop where
 |non:Bs K H .non "NoneType"
 |bl (x:Bool):Bs K H (.bl x) "bool"
 |int (i:Int):Bs K H (.int i) "int"
 |str (x:Str):Bs K H (.str x) "str"
 |lst {a:Addr}{xs:List V} (e:gu K H a xs):Bs K H (.ref a) "list"
 |tup {a:Addr}{xs:List V} (e:gP K H a xs):Bs K H (.ref a) "tuple"
 |dic {a:Addr}{kvs:List (sx×V)} (e:H a=some (.dK kvs)):Bs K H (.ref a) "dict"
def kC (tn T:String):Bool:=tn == T || (tn == "bool" && T == "int")
def ux:List String:=["NoneType", "bool", "int", "str", "list", "tuple", "dict"]
theorem JO {K:W.Frag}:∀tn∈ux,∀T∈["int", "bool", "tuple", "list", "str", "dict"],W.kitOne K (.type tn) (.type T)=some (kC tn T):=by
 intro tn h1 T h2;simp only[ux,Os,RA,RB]at h1 h2;rcases h1 with rfl|rfl|rfl|rfl|rfl|rfl|rfl <;> rcases h2 with rfl|rfl|rfl|rfl|rfl|rfl <;> rfl
theorem Bs.mem{K:W.Frag}{H:Hp}{x:V}{tn:String}(h:Bs K H x tn):tn∈ux:=by
 cases h <;> decide
section
variable{X:Cx}
theorem JX{pins:List (Addr×Obj)}{σ:St}{H:Hp}{s:Shared}{A:Around}{E:Value->Shared->Prop}{Q:Value->Shared->Prop}{c:Value}{b:Bool}{x:V}{u:Value}{tn:String}(I:aY X pins σ H s)(rx:ck x u)(ty:Bs X.K H x tn)(e:W.kitOne X.K (.type tn) c=some b)(h:∀tk,Q (.bool b) {s with toks:=tk}) :
  wpAny (model X.prog X.w) A (call (.builtin "isinstance") [u,c]) Q E s:=by
 cases ty with
 |non=>cases (show u=Value.none from rx);exact W.kia_one W.kitx_none I.kIn True.intro e (fun z=>nomatch z) h
 |bl y=>cases (show u=Value.bool y from rx);exact W.kia_one W.kitx_bool I.kIn True.intro e (fun z=>nomatch z) h
 |int i=>obtain⟨t,q⟩:=(show ∃t,u=Value.int i t from rx);cases q;exact W.kia_one W.kitx_int I.kIn True.intro e (fun z=>nomatch z) h
 |str y=>obtain⟨t,q⟩:=(show ∃t,u=Value.str y t from rx);cases q;exact W.kia_one W.kitx_str I.kIn True.intro e (fun z=>nomatch z) h
 | @lst a xs ea=>
  cases (show u=Value.ref a from rx);obtain⟨its,_,⟨o,n,h1,h2,_⟩,_⟩:=I.list ea;exact W.kia_one W.kitx_list I.kIn ⟨o,h1,h2⟩ e (fun z=>nomatch z) h
 | @tup a xs ea=>
  cases (show u=Value.ref a from rx);obtain⟨its,_,⟨o,h1,h2,_⟩,_⟩:=I.tuple ea;exact W.kia_one W.kitx_tuple I.kIn ⟨o,h1,h2⟩ e (fun z=>nomatch z) h
 | @dic a kvs ea=>
  cases (show u=Value.ref a from rx);obtain⟨_,_,vs,_,p⟩:=(show fA X.prog X.w H s.heap a (.dK kvs) from I.hok a _ ea);obtain⟨o,es,ep,h1,h2,_⟩:=p;exact W.kia_one W.kitx_dict I.kIn ⟨o,h1,h2.1⟩ e (fun z=>nomatch z) h
def KW(K:W.Frag):List V->Hp->VK->Prop:=fun xs H Q=>∃x T tn b,xs=[x,.ty T]/\Bs K H x tn/\W.kitOne K (.type tn) (.type T)=some b/\Q (.bl b) H
theorem D9:c6 X (.builtin "isinstance") (KW X.K):=by
 intro pins s σ H xs us Q I r h;obtain⟨x,T,tn,b,rfl,ty,e,q⟩:=h;obtain⟨u,u2,rfl,ru,ru2⟩:=BN r;cases ru2;exact JX I ru ty e fun tk=>⟨.bl b,H,I.tok _,rfl,q⟩
end
def z6(μ:aB):D->Option String
 |.non=>some "NoneType"
 |.bl _=>some "bool"
 |.int _=>some "int"
 |.str _=>some "str"
 |.tup _=>some "tuple"
 |.frz _=>some "list"
 |.obj n=>match μ[n]? with
  |some (.lst _)=>some "list"
  |some .dic=>some "dict"
  |_=>none
theorem HQ{p:Pa}{H:Hp}{α:List Addr}{μ:aB}{d:D}{v:V}{tn:String}(S:p.S H α μ)(r:p.R H α d v)(h:z6 μ d=some tn):Bs p.K H v tn:=by
 cases d with
 |non=>cases h;rw[bH.mp r];exact .non
 |bl b=>cases h;rw[aW.mp r];exact .bl b
 |int b=>cases h;rw[av.mp r];exact .int b
 |str b=>cases h;rw[bq.mp r];exact .str b
 |tup xs=>cases h;obtain⟨a,vs,rfl,h1,_⟩:=aO.mp r;exact .tup h1
 |frz xs=>cases h;obtain⟨a,vs,rfl,h1,_⟩:=bx.mp r;exact .lst h1.sq
 |obj n=>
  unfold z6 at h;dsimp only at h;split at h
  ·rename_i xs hx;cases h;obtain⟨a,us,rfl,a1,h1,_⟩:=cS S r hx;exact .lst (gu.of h1)
  ·rename_i hx;cases h;obtain⟨a,ea,q⟩:=S.at hx;obtain⟨a',rfl,ea'⟩:=aT.mp r;rw[ea]at ea';cases ea';exact .dic q
  ·cases h
def d9(T:String)(d:D)(μ:aB):aj D:=match z6 μ d with
 |some tn=>.ok (.bl (kC tn T)) μ
 |none=>.bad
theorem IC {p:Pa}{X:Cx}{a:Expr}{fa:ME}{T:String}{xT:Str}{px pt pos:Pos} (hK:X.K=p.K) (hT:T∈["int", "bool", "tuple", "list", "str", "dict"]) (hg:Gl X "isinstance") (hm:X.mg "isinstance" = none) (hgT:Gl X xT) (hmT:X.mg xT=none) (hbT:bootBuiltins xT=some (.type T)) (ha:PE X a (tD p fa))
  (hnT:xT ≠ "__name__") (hdT:(xT == ("__debug__" : Str))=false) (hs1:starEach [a,.Name xT pt] X.env=(false,eval a X.env)::starEach [.Name xT pt] X.env) :
  PE X (.Call (.Name "isinstance" px) [a,.Name xT pt] [] pos) (tD p (ky (d9 T) fa)):=by
 have hb:PE X (.Name xT pt) (tC (.ty T)):=zG hgT hmT hbT rfl hnT hdT;refine(m8 D9 hg hm Sk (jd ha (jd hb qP rfl) hs1) (by decide) (by decide) hs1 rfl).weak fun σ H Q ⟨α,ρ,μ,S,R,P⟩=>⟨α,ρ,μ,S,R,(aK.bind P).imp fun d μ1 H1 α1 X1 S1 P1 v rv=>?_⟩;show KW X.K [v,.ty T] H1 Q;unfold d9 at P1;split at P1
 ·rename_i tn htn;have ty:=HQ S1 rv htn;rw[hK];exact⟨v,T,tn,_,rfl,ty,JO tn ty.mem T hT,P1.now S1 _ (aW.mpr rfl)⟩
 ·exact P1.elim
def l7:List D->Option (List Bool)
 |[]=>some []
 |.bl b::r=>(l7 r).map (b::·)
 |_::_=>none
theorem rQ:∀{ds:List D}{bs:List Bool},l7 ds=some bs->ds=bs.map D.bl
 |[],bs,h=>by cases h;rfl
 |.bl b::r,bs,h=>by
  unfold l7 at h;cases e:l7 r with
  |none=>rw[e]at h;cases h
  |some cs=>rw[e]at h;cases h;rw[rQ e];rfl
 |.non::r,bs,h=>by cases h
 |.int _::r,bs,h=>by cases h
 |.str _::r,bs,h=>by cases h
 |.tup _::r,bs,h=>by cases h
 |.frz _::r,bs,h=>by cases h
 |.obj _::r,bs,h=>by cases h
theorem Bn(bs:List Bool):l7 (bs.map D.bl)=some bs:=by
 induction bs with
 |nil=>rfl
 |cons b r ih=>simp only[PM,l7,ih];rfl
theorem Reps.bools{K:W.Frag}{H:Hp}{α:List Addr}:∀{bs:List Bool}{vs:List V},Reps K H α (bs.map D.bl) vs->vs=bs.map V.bl
 |[],vs,h=>by simp only[PL,Reps]at h;exact h
 |n::ns,vs,h=>by
  simp only[PM,Reps]at h;obtain⟨v,r,rfl,h1,h2⟩:=h;rw[aW.mp h1,Reps.bools h2];rfl
theorem yy{bs:List Bool}{us:List Value}(h:bh (bs.map V.bl) us):us=bs.map Value.bool:=by
 induction bs generalizing us with
 |nil=>cases h;rfl
 |cons b r ih=>
  cases h with
  |cons h1 h2=>cases h1;rw[ih h2];rfl
theorem Bq{bs:List Bool}:(List.range bs.length).all (fun i=>bs.getD i false)=bs.all id:=by
 induction bs with
 |nil=>rfl
 |cons b r ih=>
  rw[Qm,Qx,PX,Sl,PX];congr 1
section
variable{X:Cx}
def K1(K:W.Frag):List V->Hp->VK->Prop:=fun xs H Q=>∃(a:Addr)(bs:List Bool),xs=[.ref a]/\gu K H a (bs.map V.bl)/\Q (.bl (bs.all id)) H
theorem aY.fresh_it{pins:List (Addr×Obj)}{σ:St}{H:Hp}{s:Shared}(I:aY X pins σ H s){o:Obj}{h':Heap}{tk:Nat}(hk:∀b ob,b ∉ [s.heap.objs.size]->(s.heap.push o).get? b=some ob->h'.get? b=some ob):aY X pins σ H {s with heap:=h',toks:=tk}:=
 I.kept fun b ob e=>hk b ob (fun hm=>by
  have:b=s.heap.objs.size:=by simpa using hm
  subst this
  exact absurd (Oe e) (Og _)) (OP _ e)
theorem Bm (hc:X.calm=true):c6 X (.builtin "all") (K1 X.K):=by
 intro pins s σ H xs us Q I r h;obtain⟨a,bs,rfl,ha,q⟩:=h;obtain⟨u,rfl,ru⟩:=fI r;cases ru;obtain⟨its,rv,pl,hz⟩:=I.list ha;have hi:its=bs.map Value.bool:=yy rv
 have hne:a≠s.heap.objs.size:=by
  obtain⟨o,n,e,_⟩:=pl;exact Oh (Oe e)
 refine call_all_walk (Ry pl.isList ?_);refine⟨s.heap.objs.size,[s.heap.objs.size,a],[s.heap.objs.size],_,_,_,fun i=>bs.getD i false,rfl,RC (A:=X.A.in1) (show X.A.in1.handled=none from I.ok.hd hc) _ a hne its.toArray,⟨⟨_,OQ _ rfl,rfl,rfl⟩,pl.isList.at fun o e=>OP _ e⟩,?_,?_⟩
 ·intro i v s' Q' E' hP hQ;subst hi;have hv:(bs.map Value.bool)[i]?=some v:=by simpa using hP
  rw[Pb]at hv;cases e:bs[i]? with
  |none=>rw[e]at hv;cases hv
  |some b=>
   rw[e]at hv;cases hv;have:bs.getD i false=b:=by rw[RJ,e];rfl
   dsimp only at hQ;rw[this]at hQ;exact OC hQ
 ·intro h' tk hk;have e2:its.toArray.size=bs.length:=by subst hi;simp
  rw[e2,Bq];exact⟨.bl _,H,I.fresh_it hk,rfl,q⟩
end
def nQ(ds:List D)(μ:aB):aj D:=match ds with
 |[.obj n]=>match μ[n]? with
  |some (.lst xs)=>match l7 xs with
   |some bs=>.ok (.bl (bs.all id)) μ
   |none=>.bad
  |_=>.bad
 |_=>.bad
theorem Jx{p:Pa}:vy p nQ (K1 p.K):=by
 intro ds vs H α μ Q S r P;unfold nQ at P;split at P
 ·rename_i n;split at P
  ·rename_i xs hx;split at P
   ·rename_i bs hb;obtain⟨v,rfl,r1⟩:=r.one;obtain⟨a,us,rfl,a1,h1,rr⟩:=cS S r1 hx;rw[rQ hb]at rr;exact⟨a,bs,rfl,by rw[<- rr.bools];exact gu.of h1,P.now S _ (aW.mpr rfl)⟩
   ·exact P.elim
  ·exact P.elim
 ·exact P.elim
def zp(ds:List D)(μ:aB):aj D:=match ds with
 |[.tup xs]=>.ok (.int xs.length) μ
 |[.frz xs]=>.ok (.int xs.length) μ
 |[.str x]=>if x.length<=sizeLine then .ok (.int x.length) μ else .bad
 |[.obj n]=>match μ[n]? with
  |some (.lst xs)=>.ok (.int xs.length) μ
  |_=>.bad
 |_=>.bad
theorem zH{p:Pa}:vy p zp (fun xs H Q=>∃x n,xs=[x]/\HF p.K x H n/\Q (.int n) H):=by
 intro ds vs H α μ Q S r P;unfold zp at P;split at P
 ·rename_i xs;obtain⟨v,rfl,r1⟩:=r.one;obtain⟨a,us,rfl,h1,rr⟩:=aO.mp r1;exact⟨_,xs.length,rfl,.inr ⟨us,h1,rr.length.symm⟩,P.now S _ (av.mpr rfl)⟩
 ·rename_i xs;obtain⟨v,rfl,r1⟩:=r.one;obtain⟨a,us,rfl,h1,rr⟩:=bx.mp r1;exact⟨_,xs.length,rfl,.inl ⟨us,h1.sq,rr.length.symm⟩,P.now S _ (av.mpr rfl)⟩
 ·rename_i x;obtain⟨v,rfl,r1⟩:=r.one;split at P
  ·rename_i hl;exact⟨v,x.length,rfl,by rw[bq.mp r1];exact⟨hl,rfl⟩,P.now S _ (av.mpr rfl)⟩
  ·exact P.elim
 ·rename_i n;split at P
  ·rename_i xs hx;obtain⟨v,rfl,r1⟩:=r.one;obtain⟨a,us,rfl,a1,h1,rr⟩:=cS S r1 hx;exact⟨_,xs.length,rfl,.inl ⟨us,gu.of h1,rr.length.symm⟩,P.now S _ (av.mpr rfl)⟩
  ·exact P.elim
 ·exact P.elim
def gX(ds:List D)(μ:aB):aj D:=match ds with
 |[.tup xs]=>.ok (.tup xs) μ
 |[.frz xs]=>.ok (.tup xs) μ
 |[.obj n]=>match μ[n]? with
  |some (.lst xs)=>.ok (.tup xs) μ
  |_=>.bad
 |_=>.bad
theorem DG{p:Pa}:vy p gX (fun xs H Q=>∃q ys,xs=[.ref q]/\((gu p.K H q ys/\∀l,H l=none->Q (.ref l) (dg H l (.tup ys)))\/(gP p.K H q ys/\Q (.ref q) H))):=by
 intro ds vs H α μ Q S r P;unfold gX at P;split at P
 ·rename_i xs;obtain⟨v,rfl,r1⟩:=r.one;obtain⟨a,us,rfl,h1,rr⟩:=aO.mp r1;exact⟨a,us,rfl,.inr ⟨h1,P.now S _ r1⟩⟩
 ·rename_i xs;obtain⟨v,rfl,r1⟩:=r.one;obtain⟨a,us,rfl,h1,rr⟩:=bx.mp r1;exact⟨a,us,rfl,.inl ⟨h1.sq,fun q hq=>P _ _ (cE hq) (S.tuple hq) _ (aO.mpr ⟨q,us,rfl,gP.of cJ,rr.mono (cE hq)⟩)⟩⟩
 ·rename_i n;split at P
  ·rename_i xs hx;obtain⟨v,rfl,r1⟩:=r.one;obtain⟨a,us,rfl,a1,h1,rr⟩:=cS S r1 hx;exact⟨a,us,rfl,.inl ⟨gu.of h1,fun q hq=>P _ _ (cE hq) (S.tuple hq) _ (aO.mpr ⟨q,us,rfl,gP.of cJ,rr.mono (cE hq)⟩)⟩⟩
  ·exact P.elim
 ·exact P.elim
def mL(ds:List D)(μ:aB):aj D:=match ds with
 |[.tup xs]=>.ok (.obj μ.length) (μ++[.lst xs])
 |[.frz xs]=>.ok (.obj μ.length) (μ++[.lst xs])
 |[.obj n]=>match μ[n]? with
  |some (.lst xs)=>.ok (.obj μ.length) (μ++[.lst xs])
  |_=>.bad
 |_=>.bad
theorem F1{p:Pa}:vy p mL (fun xs H Q=>∃q ys,xs=[.ref q]/\(gu p.K H q ys\/gP p.K H q ys)/\∀l,H l=none->Q (.ref l) (dg H l (.lst ys))):=by
 intro ds vs H α μ Q S r P;unfold mL at P;split at P
 ·rename_i xs;obtain⟨v,rfl,r1⟩:=r.one;obtain⟨a,us,rfl,h1,rr⟩:=aO.mp r1;refine⟨a,us,rfl,.inr h1,fun q hq=>?_⟩;obtain⟨x1,x2,x3⟩:=dP S hq rr;exact P _ _ x1 x2 _ x3
 ·rename_i xs;obtain⟨v,rfl,r1⟩:=r.one;obtain⟨a,us,rfl,h1,rr⟩:=bx.mp r1;refine⟨a,us,rfl,.inl h1.sq,fun q hq=>?_⟩;obtain⟨x1,x2,x3⟩:=dP S hq rr;exact P _ _ x1 x2 _ x3
 ·rename_i n;split at P
  ·rename_i xs hx;obtain⟨v,rfl,r1⟩:=r.one;obtain⟨a,us,rfl,a1,h1,rr⟩:=cS S r1 hx;refine⟨a,us,rfl,.inl (gu.of h1),fun q hq=>?_⟩;obtain⟨x1,x2,x3⟩:=dP S hq rr;exact P _ _ x1 x2 _ x3
  ·exact P.elim
 ·exact P.elim
def vV(ds:List D)(μ:aB):aj D:=match ds with
 |[.int i]=>.ok (.int i) μ
 |[.bl k]=>.ok (.int (if k then 1 else 0)) μ
 |_=>.bad
theorem Jw{p:Pa}:vy p vV (fun xs H Q=>(∃i,xs=[.int i]/\Q (.int i) H)\/∃k,xs=[.bl k]/\Q (.int (if k then 1 else 0)) H):=by
 intro ds vs H α μ Q S r P;unfold vV at P;split at P
 ·rename_i i;obtain⟨v,rfl,r1⟩:=r.one;exact .inl ⟨i,by rw[av.mp r1],P.now S _ (av.mpr rfl)⟩
 ·rename_i i;obtain⟨v,rfl,r1⟩:=r.one;exact .inr ⟨i,by rw[aW.mp r1],P.now S _ (av.mpr rfl)⟩
 ·exact P.elim
def B5(ds:List D)(μ:aB):aj D:=match ds with
 |[.int i,.int j]=>.ok (.int (if j>i then j else i)) μ
 |_=>.bad
def B4(ds:List D)(μ:aB):aj D:=match ds with
 |[.int i,.int j]=>.ok (.int (if j<i then j else i)) μ
 |_=>.bad
theorem F0{p:Pa}:vy p B5 (fun xs H Q=>∃i j,xs=[.int i,.int j]/\Q (.int (if j>i then j else i)) H):=by
 intro ds vs H α μ Q S r P;unfold B5 at P;split at P
 ·rename_i i j;obtain⟨v,u,rfl,r1,r2⟩:=r.two;exact⟨i,j,by rw[av.mp r1,av.mp r2],P.now S _ (av.mpr rfl)⟩
 ·exact P.elim
theorem FZ{p:Pa}:vy p B4 (fun xs H Q=>∃i j,xs=[.int i,.int j]/\Q (.int (if j<i then j else i)) H):=by
 intro ds vs H α μ Q S r P;unfold B4 at P;split at P
 ·rename_i i j;obtain⟨v,u,rfl,r1,r2⟩:=r.two;exact⟨i,j,by rw[av.mp r1,av.mp r2],P.now S _ (av.mpr rfl)⟩
 ·exact P.elim
end L2
namespace L2
open PySem PySem.Spec PyProof.Rows RS
section
variable{prog:Program}{w:World}{A:Around}{E:Value->Shared->Prop}{s:Shared}
theorem xD {T:String} (hT:T = "list" \/ T = "tuple") {l:Addr}{vs:List Value}{Q:List Value->Shared->Prop}{o:Obj}{n:Nat} (ho:s.heap.get? l=some o) (hc:o.cls=.type T) (hd:o.data=.seq vs.toArray n)
  (h:Q vs {s with heap:=(s.heap.push (seqObj "list" #[] 0)).update s.heap.objs.size (Obj.mapSeq (·++vs.toArray))}) (hsz:vs.length<=sizeLine) :
  wpAny (model prog w) A (collect (.ref l)) Q E s:=by
 unfold collect;refine OG (Rz (Rm entry_proto_collect' ?_));show wpAny _ _ (do again (.builtin "list.__iadd__" ⟨[<- newList [],.ref l],[]⟩)) _ _ s;refine OG (RQ (OM ⟨Rw _ (by decide +kernel),Rm entry_list_iadd' ?_⟩));show wpAny _ _ (Builtin.List.listExtendWith (.ref s.heap.objs.size) (.ref l) (.ref s.heap.objs.size)) _ _ {s with heap:=s.heap.push (seqObj "list" #[] 0)};unfold Builtin.List.listExtendWith;have ho':(s.heap.push (seqObj "list" #[] 0)).get? l=some o:=OP _ ho;refine OG (PF (T:=T) ⟨o,ho',hc⟩ ?_);have h1:(Value.type "list" == Value.type "list")=true:=by rfl
 have h2:(Value.type "tuple" == Value.type "tuple")=true:=by rfl
 rw[Ob (by rcases hT with rfl|rfl <;> simp[h1,h2])];refine OG (listItems_at ho' hd ?_);refine OG (listItems_at (xs:=#[]) (n:=0) (OQ _ rfl) rfl ?_);rw[Oc (by simp)];refine OG (RO (xs:=#[]) (n:=0) (OQ _ rfl) rfl ?_ (Qv _) (by show (#[]++vs.toArray).size<=sizeLine+1;simp only[Array.size_append,OX,QC];omega));refine OM ?_
 show wpAny (model prog w) A (do
   let o <- load s.heap.objs.size
   match o.data with
   |.seq xs _=>pure xs.toList
   |_=>unsupported "internal:collect") Q E {s with heap:=(s.heap.push (seqObj "list" #[] 0)).update s.heap.objs.size (Obj.mapSeq (·++vs.toArray))}
 refine OG (ON (RP (OQ _ rfl) _) ?_);show wpAny _ _ (pure ((#[]:Array Value)++vs.toArray).toList) Q E _;rw[show ((#[]:Array Value)++vs.toArray).toList=vs by simp];exact OM h
theorem u4 {T:String} (hT:T = "list" \/ T = "tuple") {l:Addr}{vs:List Value}{ns:List Int}{Q:Value->Shared->Prop}{o:Obj}{n:Nat} (ho:s.heap.get? l=some o) (hc:o.cls=.type T) (hd:o.data=.seq vs.toArray n) (hI:IntsAre vs ns) (h64:vs.length<64)
  (h:∀(out:Array Value)(ns':List Int),IntsAre out.toList ns'->ns'.Perm ns->ns'.Pairwise (·<=·)->Q (.ref (s.heap.objs.size+1)) {s with heap:=sortedAll s.heap vs out}) :
  wpAny (model prog w) A (call (.builtin "sorted") [.ref l]) Q E s:=by
 have hsz0:vs.length<=sizeLine:=Ol (Om h64) (by decide);refine R7 kind_sorted plain_sorted entry_sorted (args_sorted1 _) ?_;unfold Builtin.«sorted»;refine OG (m:=checkCount "sorted" 1 1 _) (OM ?_);refine OG (xD hT ho hc hd ?_ hsz0);refine OG (RQ ?_ hsz0)
 have hsz:((s.heap.push (seqObj "list" #[] 0)).update s.heap.objs.size (Obj.mapSeq (·++vs.toArray))).objs.size=s.heap.objs.size+1:=by
  rw[RT,RR]
 have hoL:(((s.heap.push (seqObj "list" #[] 0)).update s.heap.objs.size (Obj.mapSeq (·++vs.toArray))).push (seqObj "list" vs.toArray 0)).get? (s.heap.objs.size+1)=some (seqObj "list" vs.toArray 0):=by
  rw[<- hsz];exact OQ _ rfl
 show wpAny _ _ _ _ _ {s with heap:=((s.heap.push (seqObj "list" #[] 0)).update s.heap.objs.size (Obj.mapSeq (·++vs.toArray))).push (seqObj "list" vs.toArray 0)};rw[hsz];refine OG (OH (Pz slot_list_sort ⟨_,hoL,rfl⟩ R8 (list_sort_tree hoL hI h64 fun out ns' a1 a2 a3=>⟨_,rfl,?_⟩) (args_list_sort _)));exact OM ⟨_,rfl,h out ns' a1 a2 a3⟩
end
theorem sC{h:Heap}{vs:List Value}{out:Array Value}{b:Addr}{u:Obj}(e:h.get? b=some u):(sortedAll h vs out).get? b=some u:=by
 have hb:=Oe e;have n1:b≠h.objs.size:=Oh hb;have n2:b≠h.objs.size+1:=Oh (Qo hb);unfold sortedAll sortedHeap;rw[RU _ _ _ _ n2];refine OP _ (OP _ ?_);rw[RU _ _ _ _ n2];refine OP _ ?_;rw[RU _ _ _ _ n1];exact OP _ e
theorem sD {h:Heap}{vs:List Value}{out:Array Value}:∃n,(sortedAll h vs out).get? (h.objs.size+1)=some (seqObj "list" out n):=by
 unfold sortedAll sortedHeap
 have hsz:((h.push (seqObj "list" #[] 0)).update h.objs.size (Obj.mapSeq (·++vs.toArray))).objs.size=h.objs.size+1:=by
  rw[RT,RR]
 have hoL:(((h.push (seqObj "list" #[] 0)).update h.objs.size (Obj.mapSeq (·++vs.toArray))).push (seqObj "list" vs.toArray 0)).get? (h.objs.size+1)=some (seqObj "list" vs.toArray 0):=by
  rw[<- hsz];exact OQ _ rfl
 have g1:=RP hoL (fun _=>#[]);have g2:=OP (seqObj "list" #[] 0) (OP (seqObj "tuple" vs.toArray 0) g1);exact⟨_,RP g2 (fun _=>out)⟩
theorem nu{us:List Value}{ns:List Int}(h:IntsAre us ns):bh (ns.map V.int) us:=by
 induction h with
 |nil=>exact .nil
 |cons n t _ ih=>exact .cons ⟨t,rfl⟩ ih
section
variable{X:Cx}
def Cr(K:W.Frag):List V->Hp->VK->Prop:=fun xs H Q=>∃(a:Addr)(ns:List Int),xs=[.ref a]/\(gu K H a (ns.map V.int)\/gP K H a (ns.map V.int))/\ns.length<64 /\
 ∀ns':List Int,ns'.Perm ns->ns'.Pairwise (·<=·)->∀l,H l=none->Q (.ref l) (dg H l (.lst (ns'.map V.int)))
theorem y8:c6 X (.builtin "sorted") (Cr X.K):=by
 intro pins s σ H xs us Q I r h;obtain⟨a,ns,rfl,ha,hl,q⟩:=h;obtain⟨u,rfl,ru⟩:=fI r;cases ru
 have core:∀(T:String),T = "list" \/ T = "tuple" -> ∀(its:List Value) (o:Obj) (n:Nat),s.heap.get? a=some o->o.cls=.type T->o.data=.seq its.toArray n->bh (ns.map V.int) its->wpAny (model X.prog X.w) X.A (call (.builtin "sorted") [.ref a]) (EP X pins σ Q) X.xe s:=by
  intro T hT its o n e1 e2 e3 rv;have hI:IntsAre its ns:=f7 rv;refine u4 hT e1 e2 e3 hI (by rw[hI.length];exact hl) fun out ns' h1 h2 h3=>?_;refine⟨.ref (s.heap.objs.size+1),dg H (s.heap.objs.size+1) (.lst (ns'.map V.int)),I.laid (t':=s.toks) (fun b ob e=>sC e) (Sm _) ?_,rfl,q ns' h2 h3 _ (I.hok.fresh (Sm _))⟩;obtain⟨m,e⟩:=sD (h:=s.heap) (vs:=its) (out:=out);refine⟨?_,out.toList,m,nu h1,by simpa using e⟩;rw[Pf,h2.length_eq];exact Ol (Om hl) (by decide)
 rcases ha with ha|ha
 ·obtain⟨its,rv,⟨o,n,e1,e2,_,e3⟩,hz⟩:=I.list ha;exact core "list" (.inl rfl) its o n e1 e2 e3 rv
 ·obtain⟨its,rv,⟨o,e1,e2,n,e3⟩,hz⟩:=I.tuple ha;exact core "tuple" (.inr rfl) its o n e1 e2 e3 rv
theorem BP{pins:List (Addr×Obj)}{σ:St}{H:Hp}{s:Shared}{r:Addr}{k:List Int}(I:aY X pins σ H s)(h:gP X.K H r (k.map V.int)):Tk X.prog X.w s.heap k r:=by
 obtain⟨its,rv,⟨o,e1,e2,n,e3⟩,_⟩:=I.tuple h;refine⟨o,its.toArray,n,e1,e2,e3,?_⟩
 have core:∀(k:List Int)(its:List Value),bh (k.map V.int) its->PySem.ItemsAre (intKind X.prog X.w) k its:=by
  intro k
  induction k with
  |nil=>intro its h;cases h;exact .nil
  |cons i r ih=>
   intro its h;cases h with
   |cons h1 h2=>
    obtain⟨t,rfl⟩:=h1;exact .cons (by simp[intKind,Value.isInt]) (ih _ h2)
 simpa using core k its rv
def kG(qs:List KP):List V:=qs.map fun p=>V.ref p.2
theorem n6:∀{qs:List KP}{its:List Value},bh (kG qs) its->its=qs.map fun p=>Value.ref p.2
 |[],its,h=>by cases h;rfl
 |q::qs,its,h=>by
  cases h with
  |cons h1 h2=>cases h1;rw[n6 h2];rfl
theorem pd:∀(qs:List KP),bh (kG qs) (ba qs)
 |[]=>.nil
 |q::qs=>.cons rfl (pd qs)
def BS(K:W.Frag)(w:World):List V->Hp->VK->Prop:=fun xs H Q=>∃(a:Addr)(qs:List KP),xs=[.ref a]/\(gu K H a (kG qs)\/gP K H a (kG qs))/\(∀p∈qs,p.1∈prs/\gP K H p.2 (p.1.map V.int)) /\
 ∀l,H l=none->Q (.ref l) (dg H l (.ext fun h=>fL w h l (f6 qs)))
theorem Be (hc:X.calm=true) (hu:X.A.units+64<cLine):c6 X (.type "set") (BS X.K X.w):=by
 intro pins s σ H xs us Q I r h;obtain⟨a,qs,rfl,ha,hq,q⟩:=h;obtain⟨u,rfl,ru⟩:=fI r;cases ru
 have fin:∀(h':Heap)(tk:Nat),fL X.w h' s.heap.objs.size (f6 qs)->(∀b o,b<s.heap.objs.size->s.heap.get? b=some o->h'.get? b=some o)->EP X pins σ Q (.ref s.heap.objs.size) {s with heap:=h',toks:=tk}:=by
  intro h' tk hS hk;refine⟨.ref s.heap.objs.size,dg H s.heap.objs.size (.ext fun h=>fL X.w h s.heap.objs.size (f6 qs)),I.laid (t':=tk) (fun b ob e=>hk b ob (Oe e) e) (OR _) ?_,rfl,q _ (I.hok.fresh (OR _))⟩;refine⟨hS,?_,fun h1 h2 g k=>g.keeps k⟩;obtain⟨o,es,ep,t,Z,S0,_⟩:=hS;exact⟨o,S0.ho⟩
 rcases ha with ha|ha
 ·obtain⟨its,rv,pl,hz⟩:=I.list ha;exact xn (I.ok.hd hc) pl.isList (by simpa using n6 rv) (fun p hp=>(hq p hp).1) (fun p hp=>BP I (hq p hp).2) (by omega) fin
 ·obtain⟨its,rv,pl,hz⟩:=I.tuple ha;exact u6 (I.ok.hd hc) pl (by simpa using n6 rv) (fun p hp=>(hq p hp).1) (fun p hp=>BP I (hq p hp).2) (by omega) fin
def Cq(K:W.Frag)(w:World):List V->Hp->VK->Prop:=fun xs H Q=>∃(a:Addr)(ps:List KP),xs=[.ref a]/\H a=some (.ext fun h=>fL w h a ps)/\(∀p∈ps,gP K H p.2 (p.1.map V.int)) /\
 ∀out:List KP,out.Perm ps->iY out->∀l,H l=none->Q (.ref l) (dg H l (.lst (kG out)))
theorem y6 (hc:X.calm=true):c6 X (.builtin "sorted") (Cq X.K X.w):=by
 intro pins s σ H xs us Q I r h;obtain⟨a,ps,rfl,ha,hT,q⟩:=h;obtain⟨u,rfl,ru⟩:=fI r;cases ru;obtain⟨hS,_⟩:=(show fA X.prog X.w H s.heap a (.ext fun h=>fL X.w h a ps) from I.hok a _ ha);refine yF (I.ok.hd hc) hS (fun p hp=>BP I (hT p hp)) fun out hp hr h' D hD hk hn=>?_;refine⟨.ref D,dg H D (.lst (kG out)),I.laid (t':=s.toks) (fun b ob e=>hk b ob e) hD ?_,rfl,q out hp hr _ (I.hok.fresh hD)⟩;obtain⟨n,e⟩:=hn;refine⟨?_,ba out,n,pd out,e⟩
 have hl:out.length<=15:=by
  rw[hp.length_eq];obtain⟨o,es,ep,t,Z,S0,hk,hn⟩:=hS;exact lu hk hn
 unfold kG;rw[Pf];exact Ol hl (by decide)
end
end L2
namespace L2
open PySem PySem.Spec PyProof.Rows RS
def iK(qs:List KI):List KI:=qs.foldl (fun ps p=>vH ps p.1 p.2) []
theorem vq(qs:List KI)(p:KI):iK (qs++[p])=vH (iK qs) p.1 p.2:=by unfold iK;rw[Rk];rfl
def nY(ns:List Int):List Int:=ns.foldl (fun acc k=>if k∈acc then acc else acc++[k]) []
theorem nD:∀(qs ps:List KI),(qs.foldl (fun ps p=>vH ps p.1 p.2) ps).map (·.1)=(qs.map (·.1)).foldl (fun acc k=>if k∈acc then acc else acc++[k]) (ps.map (·.1))
 |[],ps=>rfl
 |q::qs,ps=>by
  rw[Qb,nD qs,PM,Qb];congr 1;unfold vH;split
  ·rfl
  ·rw[QR];rfl
theorem xI(qs:List KI):(iK qs).map (·.1)=nY (qs.map (·.1)):=nD qs []
theorem ny {w:World}{h:Heap}{a:Addr} (e:h.get? a=some {cls:=.type "set",dict:=none,data:=.set #[] 0 (.fresh 0 0 (mI w))}):dt w h a []:=
 ⟨_,_,_,_,[],⟨e,⟨rfl,rfl,rfl⟩,rfl,⟨rfl,rfl,List.Pairwise.nil,fun z hz=>by simp at hz,rfl,fun z hz=>by simp at hz⟩,rfl,rfl,.inl ⟨rfl,by decide⟩,List.Perm.nil⟩,fun p hp=>by simp at hp,Q0⟩
def nO(p:KI):Value:=Value.int p.1 p.2
section
variable{prog:Program}{w:World}{A:Around}{E:Value->Shared->Prop}{s:Shared}
theorem t4{qs:List KI}{S:Addr}{u:Nat}(hk:∀p∈qs,p.1∈ins):BL prog w u S (qs.map nO) (fun i h=>dt w h S (iK (qs.take i))):=by
 refine⟨fun i h h' hk' j1=>j1.keeps fun o e=>hk' S o (OR _) e,fun A i v s E Q hA hv j1 hQ=>?_⟩;rw[Pb]at hv;cases e:qs[i]? with
 |none=>rw[e]at hv;cases hv
 |some p=>
  rw[e]at hv;cases hv;have hpm:p∈qs:=Pd e;unfold setAdd nO;refine OH ?_;refine OG (wpAny_pyHash_int ?_);refine GI (s:={s with toks:=s.toks+1}) j1 (hk p hpm) fun b h' hsb hS2=>?_;have etk:qs.take (i+1)=qs.take i++[p]:=by rw[RF,e];rfl
  refine hQ b h' _ (Nat.le_add_right _ _) hsb (by rw[etk,vq];exact hS2)
theorem tI:∀(qs:List KI),IntsAre (qs.map nO) (qs.map (·.1))
 |[]=>.nil
 |p::qs=>.cons p.1 p.2 (tI qs)
theorem wR{vs:List Value}{ns:List Int}(h:IntsAre vs ns):∃qs:List KI,vs=qs.map nO/\qs.map (·.1)=ns:=by
 induction h with
 |nil=>exact⟨[],rfl,rfl⟩
 |cons n t _ ih=>
  obtain⟨qs,e1,e2⟩:=ih;exact⟨(n,t)::qs,by rw[e1];rfl,by rw[<- e2];rfl⟩
theorem xk{a:Addr}{ps:List KI}{Q:Value->Shared->Prop}(hh:A.handled=none)(S:dt w s.heap a ps)
  (h:∀(out:List Value) (ns':List Int),IntsAre out ns'->ns'.Perm (ps.map (·.1))->ns'.Pairwise (·<=·)->∀h' D,s.heap.objs.size<=D->(∀b u,s.heap.get? b=some u->h'.get? b=some u)->(∃n,h'.get? D=some (seqObj "list" out.toArray n))->Q (.ref D) {s with heap:=h'}) :
  wpAny (model prog w) A (call (.builtin "sorted") [.ref a]) Q E s:=by
 obtain⟨o,es,ep,t,Z,S,hk,hn⟩:=S;have h6:=kO hk hn;refine R7 kind_sorted plain_sorted entry_sorted (args_sorted1 _) ?_;unfold Builtin.«sorted»;refine OG (m:=checkCount "sorted" 1 1 _) (OM ?_);refine OG (pq (by simpa using hh) S (by rw[S.len,Pf];omega) fun qs hqs h1 k1 hsz=>?_);obtain⟨rs,q1,q2⟩:=nB hqs ps rfl;have q3:qs.map (·.2)=rs.map nO:=by rw[q2,Qy];rfl
 rw[q3];have hvl:(rs.map nO).length<=6:=by rw[Pf,q1.length_eq];exact h6
 refine OG (RQ ?_ (Ol hvl (by decide)));have hoL:(h1.push (seqObj "list" (rs.map nO).toArray 0)).get? h1.objs.size=some (seqObj "list" (rs.map nO).toArray 0):=OQ _ rfl;have hnn:∀b u,h1.get? b=some u->b≠h1.objs.size:=fun b u q=>Oh (Oe q);refine OG (OH (Pz slot_list_sort (s:={s with heap:=h1.push (seqObj "list" (rs.map nO).toArray 0)}) ⟨_,hoL,rfl⟩ R8 ?body (args_list_sort _)))
 case body=>
  refine list_sort_tree (s:={s with heap:=h1.push (seqObj "list" (rs.map nO).toArray 0)}) hoL (tI rs) (by omega) fun out ns' a1 a2 a3=>⟨_,rfl,?_⟩;refine OM ⟨_,rfl,h out.toList ns' a1 (a2.trans (q1.map _)) a3 _ h1.objs.size hsz (fun b u q=>?_) ?_⟩
  ·have hb:=hnn b u (k1 b u q);unfold sortedHeap;rw[RU _ _ _ _ hb];refine OP _ (OP _ ?_);rw[RU _ _ _ _ hb];exact OP _ (k1 b u q)
  ·unfold sortedHeap;have g1:=RP hoL (fun _=>#[]);have g2:=OP (seqObj "list" #[] 0) (OP (seqObj "tuple" (rs.map nO).toArray 0) g1);exact⟨_,RP g2 (fun _=>out)⟩
end
section
variable{X:Cx}
def BU(K:W.Frag)(w:World):List V->Hp->VK->Prop:=fun xs H Q=>∃(a:Addr)(ns:List Int),xs=[.ref a]/\(gu K H a (ns.map V.int)\/gP K H a (ns.map V.int))/\(∀n∈ns,n∈ins) /\
 ∀l,H l=none->∀ps:List KI,ps.map (·.1)=nY ns->(∀p∈ps,p.1∈ins)->(ps.map (·.1)).Nodup->Q (.ref l) (dg H l (.ext fun h=>dt w h l ps))
theorem Bf (hc:X.calm=true) (hu:X.A.units+64<cLine):c6 X (.type "set") (BU X.K X.w):=by
 intro pins s σ H xs us Q I r h;obtain⟨a,ns,rfl,ha,hq,q⟩:=h;obtain⟨u,rfl,ru⟩:=fI r;cases ru
 have fin:∀(qs:List KI),qs.map (·.1)=ns->∀(h':Heap)(tk:Nat),dt X.w h' s.heap.objs.size (iK qs)->(∀b o,b<s.heap.objs.size->s.heap.get? b=some o->h'.get? b=some o)->EP X pins σ Q (.ref s.heap.objs.size) {s with heap:=h',toks:=tk}:=by
  intro qs eq h' tk hS hk;obtain⟨o,es,ep,t,Z,S0,k1,k2⟩:=id hS;refine⟨.ref s.heap.objs.size,dg H s.heap.objs.size (.ext fun h=>dt X.w h s.heap.objs.size (iK qs)),I.laid (t':=tk) (fun b ob e=>hk b ob (Oe e) e) (OR _) ?_,rfl,q _ (I.hok.fresh (OR _)) _ (by rw[xI,eq]) k1 k2⟩;exact⟨hS,⟨o,S0.ho⟩,fun h1 h2 g k=>g.keeps k⟩
 rcases ha with ha|ha
 ·obtain ⟨its, rv, pl, hz⟩ := I.list ha;obtain⟨qs,e1,e2⟩:=wR (f7 rv);subst e1;have hsz:(qs.map nO).toArray.size=qs.length:=by rw[OX,Pf]
  refine nv (I.ok.hd hc) pl.isList (J:=fun i h=>dt X.w h s.heap.objs.size (iK (qs.take i))) ?_ (fun h' k e=>ny e) fun h' tk j1=>fin qs e2 h' tk ?_
  ·exact t4 fun p hp=>hq _ (by rw[<- e2];exact QN hp)
  ·rw[hsz,RG]at j1;exact j1
 ·obtain ⟨its, rv, pl, hz⟩ := I.tuple ha;obtain⟨qs,e1,e2⟩:=wR (f7 rv);subst e1;have hsz:(qs.map nO).toArray.size=qs.length:=by rw[OX,Pf]
  refine lP (I.ok.hd hc) pl (J:=fun i h=>dt X.w h s.heap.objs.size (iK (qs.take i))) ?_ (fun h' k e=>ny e) fun h' tk j1=>fin qs e2 h' tk ?_
  ·exact t4 fun p hp=>hq _ (by rw[<- e2];exact QN hp)
  ·rw[hsz,RG]at j1;exact j1
def Cp(w:World):List V->Hp->VK->Prop:=fun xs H Q=>∃(a:Addr)(ps:List KI),xs=[.ref a]/\H a=some (.ext fun h=>dt w h a ps) /\
 ∀ns':List Int,ns'.Perm (ps.map (·.1))->ns'.Pairwise (·<=·)->∀l,H l=none->Q (.ref l) (dg H l (.lst (ns'.map V.int)))
theorem y4 (hc:X.calm=true):c6 X (.builtin "sorted") (Cp X.w):=by
 intro pins s σ H xs us Q I r h;obtain⟨a,ps,rfl,ha,q⟩:=h;obtain⟨u,rfl,ru⟩:=fI r;cases ru;obtain⟨hS,_⟩:=(show fA X.prog X.w H s.heap a (.ext fun h=>dt X.w h a ps) from I.hok a _ ha);obtain⟨o,es,ep,t,Z,S0,k1,k2⟩:=id hS;have h6:=kO k1 k2;refine xk (I.ok.hd hc) hS fun out ns' a1 a2 a3 h' D hD hk hn=>?_;refine⟨.ref D,dg H D (.lst (ns'.map V.int)),I.laid (t':=s.toks) (fun b ob e=>hk b ob e) hD ?_,rfl,q ns' a2 a3 _ (I.hok.fresh hD)⟩;obtain⟨n,e⟩:=hn;refine⟨?_,out,n,nu a1,e⟩;rw[Pf,a2.length_eq,Pf];exact Ol h6 (by decide)
def G2(w:World):List V->Hp->VK->Prop:=fun xs H Q=>∃(a:Addr)(ps:List KI),xs=[.ref a]/\H a=some (.ext fun h=>dt w h a ps)/\Q (.int ps.length) H
theorem Bj:c6 X (.builtin "len") (G2 X.w):=by
 intro pins s σ H xs us Q I r h;obtain⟨a,ps,rfl,ha,q⟩:=h;obtain⟨u,rfl,ru⟩:=fI r;cases ru;obtain⟨hS,_⟩:=(show fA X.prog X.w H s.heap a (.ext fun h=>dt X.w h a ps) from I.hok a _ ha);obtain⟨o,es,ep,t,Z,S0,k1,k2⟩:=id hS;have h6:=kO k1 k2;have hsz:es.size=ps.length:=by rw[S0.tab.size.2,S0.len,Pf]
 refine PySem.call_len_set S0.ho S0.ex S0.hd S0.fits (by rw[hsz];omega) ⟨.int ps.length,H,?_,⟨_,by rw[hsz]⟩,q⟩;exact I.tok _
def G3(w:World):List V->Hp->VK->Prop:=fun xs H Q=>∃(a:Addr)(ps:List KP),xs=[.ref a]/\H a=some (.ext fun h=>fL w h a ps)/\Q (.int ps.length) H
theorem Bk:c6 X (.builtin "len") (G3 X.w):=by
 intro pins s σ H xs us Q I r h;obtain⟨a,ps,rfl,ha,q⟩:=h;obtain⟨u,rfl,ru⟩:=fI r;cases ru;obtain⟨hS,_⟩:=(show fA X.prog X.w H s.heap a (.ext fun h=>fL X.w h a ps) from I.hok a _ ha);obtain⟨o,es,ep,t,Z,S0,k1,k2⟩:=id hS;have h6:=lu k1 k2;have hsz:es.size=ps.length:=by rw[S0.tab.size.2,S0.len,Pf]
 refine PySem.call_len_set S0.ho S0.ex S0.hd S0.fits (by rw[hsz];omega) ⟨.int ps.length,H,?_,⟨_,by rw[hsz]⟩,q⟩;exact I.tok _
end
end L2
namespace L2
open PySem PySem.Spec PyProof.Rows RS
def ao(k:List Int):D:=.tup (k.map D.int)
def Af:D->Option (List Int)
 |.tup [.int a,.int b]=>if 0<=a/\a<b/\b<6 then some [a,b] else none
 |_=>none
def sQ:List D->Option (List (List Int))
 |[]=>some []
 |d::r=>match Af d,sQ r with
  |some k,some ks=>some (k::ks)
  |_,_=>none
theorem Gh{d:D}{k:List Int}(h:Af d=some k):d=ao k/\k∈prs:=by
 unfold Af at h;split at h
 ·split at h
  ·rename_i hc;cases h;exact⟨rfl,uG hc.1 hc.2.1 hc.2.2⟩
  ·cases h
 ·cases h
theorem AZ{a b:Int}(h:0<=a/\a<b/\b<6):Af (.tup [.int a,.int b])=some [a,b]:=by
 simp only[Af,Ob h]
theorem wM:∀{ds:List D}{ks:List (List Int)},sQ ds=some ks->ds=ks.map ao/\∀k∈ks,k∈prs
 |[],ks,h=>by cases h;exact⟨rfl,fun k hk=>by simp at hk⟩
 |d::r,ks,h=>by
  unfold sQ at h;split at h
  ·rename_i k ks' h1 h2;cases h;obtain⟨e1,e2⟩:=Gh h1;obtain⟨f1,f2⟩:=wM h2;refine⟨by rw[e1,f1];rfl,fun k' hk=>?_⟩;rcases Os.mp hk with z|z
   ·rw[z];exact e2
   ·exact f2 k' z
  ·cases h
theorem wN:∀{ks:List (List Int)},(∀k∈ks,k∈prs)->sQ (ks.map ao)=some ks
 |[],_=>rfl
 |k::ks,h=>by
  obtain⟨a,b,rfl,h1,h2,h3⟩:=gk (h k Oo);simp only[PM,sQ,wN fun k' hk=>h k' (Oq _ hk)];have:Af (ao [a,b])=some [a,b]:=AZ ⟨h1,h2,h3⟩;rw[this]
def BH(ks:List (List Int))(k:List Int):List (List Int):=if k∈ks then ks else ks++[k]
def ju(ks:List (List Int)):List (List Int):=ks.foldl BH []
def gR(ks:List (List Int)):List (List Int):=prs.filter fun k=>decide (k∈ks)
theorem rT:∀(qs ps:List KP),(qs.foldl (fun ps p=>mF ps p.1 p.2) ps).map (·.1)=(qs.map (·.1)).foldl BH (ps.map (·.1))
 |[],ps=>rfl
 |q::qs,ps=>by
  rw[Qb,PM,Qb,rT qs];congr 1;unfold mF BH;split <;> simp
theorem Bc(qs:List KP):(f6 qs).map (·.1)=ju (qs.map (·.1)):=rT qs []
theorem Bb{ks:List (List Int)}{k:List Int}:k∈ju ks↔k∈ks:=by
 have core:∀(ks acc:List (List Int)),k∈ks.foldl BH acc↔k∈acc\/k∈ks:=by
  intro ks
  induction ks with
  |nil=>intro acc;simp
  |cons x r ih=>
   intro acc;rw[Qb,ih];unfold BH;split
   ·rename_i hx;constructor
    ·rintro (h | h)
     ·exact .inl h
     ·exact .inr (Oq _ h)
    ·rintro (h | h)
     ·exact .inl h
     ·rcases Os.mp h with z | z
      ·exact .inl (by rw[z];exact hx)
      ·exact .inr z
   ·simp[or_assoc]
 unfold ju;rw[core];simp
theorem me:prs.Pairwise fun a b=>lV a<lV b:=by decide +kernel
theorem D4{l m:List (List Int)}(hl:l.Pairwise fun a b=>lV a<lV b)(hm:m.Pairwise fun a b=>lV a<lV b)(h:∀k,k∈l↔k∈m):l=m:=by
 have nl:l.Nodup:=hl.imp fun h e=>by subst e;omega
 have nm:m.Nodup:=hm.imp fun h e=>by subst e;omega
 have hp:l.Perm m:=(List.perm_ext_iff_of_nodup nl nm).mpr h;refine hp.eq_of_pairwise (le:=fun a b=>lV a<lV b) (fun a b _ _ h1 h2=>by omega) hl hm
theorem Dc{out:List KP}{ps:List KP}(hk:∀p∈ps,p.1∈prs)(hp:out.Perm ps)(hr:iY out):out.map (·.1)=gR (ps.map (·.1)):=by
 refine D4 ?_ (me.filter _) fun k=>?_
 ·unfold iY at hr;rw[RN];exact hr
 ·have h1 : k ∈ out.map (·.1) ↔ k ∈ ps.map (·.1) := (hp.map _).mem_iff;rw[h1];unfold gR;rw[Oi,Sd];constructor
  ·intro h;refine⟨?_,h⟩;obtain⟨p,hp',rfl⟩:=QJ.mp h;exact hk p hp'
  ·exact fun h=>h.2
theorem xm(ks:List (List Int)):gR (ju ks)=gR ks:=by
 unfold gR;apply List.filter_congr;intro k _;simp only[Bb]
theorem Reps.keys{K:W.Frag}{H:Hp}{α:List Addr}:∀{ks:List (List Int)}{vs:List V},Reps K H α (ks.map ao) vs->∃qs:List KP,qs.map (·.1)=ks/\vs=kG qs/\∀p∈qs,gP K H p.2 (p.1.map V.int)
 |[],vs,h=>by simp only[PL,Reps]at h;exact⟨[],rfl,h,fun p hp=>by simp at hp⟩
 |k::ks,vs,h=>by
  simp only[PM,Reps]at h;obtain⟨v,r,rfl,h1,h2⟩:=h;obtain⟨a,us,rfl,h3,h4⟩:=aO.mp h1;obtain⟨qs,e1,e2,e3⟩:=Reps.keys h2;refine⟨(k,a)::qs,by rw[PM,e1],by rw[e2];rfl,fun p hp=>?_⟩;rcases Os.mp hp with z|z
  ·subst z;rw[<- h4.ints];exact h3
  ·exact e3 p z
theorem pB{K:W.Frag}{H:Hp}{α:List Addr}:∀{qs:List KP},(∀p∈qs,gP K H p.2 (p.1.map V.int))->Reps K H α ((qs.map (·.1)).map ao) (kG qs)
 |[],_=>Reps.nil
 |q::qs,h=>by
  refine Reps.cons (aO.mpr ⟨q.2,_,rfl,h q Oo,kU _⟩) (pB fun p hp=>h p (Oq _ hp))
def lN:List D->Option (List Int)
 |[]=>some []
 |.int i::r=>(lN r).map (i::·)
 |_::_=>none
theorem gZ:∀{ds:List D}{ns:List Int},lN ds=some ns->ds=ns.map D.int
 |[],bs,h=>by cases h;rfl
 |.int b::r,bs,h=>by
  unfold lN at h;cases e:lN r with
  |none=>rw[e]at h;cases h
  |some cs=>rw[e]at h;cases h;rw[gZ e];rfl
 |.non::r,bs,h=>by cases h
 |.bl _::r,bs,h=>by cases h
 |.str _::r,bs,h=>by cases h
 |.tup _::r,bs,h=>by cases h
 |.frz _::r,bs,h=>by cases h
 |.obj _::r,bs,h=>by cases h
theorem yW{ns:List Int}(h:∀n∈ns,n∈ins):(nY ns).length<=6:=by
 have core:∀(l acc:List Int),(∀n∈l,n∈ins)->(∀n∈acc,n∈ins)->acc.Nodup->(l.foldl (fun acc k=>if k∈acc then acc else acc++[k]) acc).length<=6:=by
  intro l
  induction l with
  |nil=>
   intro acc _ h2 h3;have:=jE h3 (l2:=ins) h2;exact this
  |cons x l ih=>
   intro acc h1 h2 h3;rw[Qb];have hx:=h1 x Oo;split
   ·exact ih acc (fun n hn=>h1 n (Oq _ hn)) h2 h3
   ·rename_i hxa;refine ih (acc++[x]) (fun n hn=>h1 n (Oq _ hn)) (fun n hn=>?_) ?_
    ·rcases Ou.mp hn with z | z
     ·exact h2 n z
     ·rw[Qw.mp z];exact hx
    ·refine Rf.mpr ⟨h3,by simp,fun u hu v hv e=>?_⟩;rw[Qw.mp hv]at e;exact hxa (e ▸ hu)
 exact core ns [] h (fun n hn=>by simp at hn) Q0
def Hu(xs:List D):Option (List Int):=match lN xs with
 |some ns=>if ns.all (fun n=>decide (0<=n/\n<6))=true then some ns else none
 |none=>none
theorem Gm{xs:List D}{ns:List Int}(h:Hu xs=some ns):xs=ns.map D.int/\∀n∈ns,n∈ins:=by
 unfold Hu at h;split at h
 ·rename_i ms hm;split at h
  ·rename_i ha;cases h;refine⟨gZ hm,fun n hn=>Gk.mpr ?_⟩;simpa using Q6.mp ha n hn
  ·cases h
 ·cases h
def vN(xs:List D)(μ:aB):aj D:=match sQ xs with
 |some ks=>.ok (.obj μ.length) (μ++[.set (ju ks)])
 |none=>match Hu xs with
  |some ns=>.ok (.obj μ.length) (μ++[.iset (nY ns)])
  |none=>.bad
def xY(ds:List D)(μ:aB):aj D:=match ds with
 |[.tup xs]=>vN xs μ
 |[.obj n]=>match μ[n]? with
  |some (.lst xs)=>vN xs μ
  |_=>.bad
 |_=>.bad
section
variable{p:Pa}
theorem F5{H:Hp}{α:List Addr}{μ:aB}{ks:List (List Int)}{vs:List V}{Q:VK}(S:p.S H α μ)(hk:∀k∈ks,k∈prs)(r:p.Rs H α (ks.map ao) vs)(P:aK p H α (.ok (.obj μ.length) (μ++[.set (ju ks)])) (RV p Q)) :
  ∃qs:List KP,vs=kG qs/\(∀q∈qs,q.1∈prs/\gP p.K H q.2 (q.1.map V.int))/\∀l,H l=none->Q (.ref l) (dg H l (.ext fun h=>fL p.w h l (f6 qs))):=by
 obtain⟨qs,e1,e2,e3⟩:=r.keys;refine⟨qs,e2,fun q hq=>⟨hk _ (by rw[<- e1];exact QN hq),e3 q hq⟩,fun l hl=>?_⟩;have x1:p.X H (dg H l (.ext fun h=>fL p.w h l (f6 qs))) α (α++[l]):=(cE hl).trans (jH [l]);refine P _ _ x1 (S.more hl ⟨f6 qs,by rw[Bc,e1],cJ,fun q hq=>?_,vp,fun q hq=>?_⟩) _ (aT.mpr ⟨l,rfl,by rw[<- S.len];simp⟩)
 ·exact hk _ (by rw[<- e1];exact QN (mi hq))
 ·exact x1.tup _ _ (e3 q (mi hq))
theorem DK{H:Hp}{α:List Addr}{μ:aB}{ns:List Int}{Q:VK}(S:p.S H α μ)(hk:∀n∈ns,n∈ins)(P:aK p H α (.ok (.obj μ.length) (μ++[.iset (nY ns)])) (RV p Q)) :
  ∀l,H l=none->∀ps:List KI,ps.map (·.1)=nY ns->(∀p∈ps,p.1∈ins)->(ps.map (·.1)).Nodup->Q (.ref l) (dg H l (.ext fun h=>dt p.w h l ps)):=fun l hl ps e _ _=>by
 have x1:p.X H (dg H l (.ext fun h=>dt p.w h l ps)) α (α++[l]):=(cE hl).trans (jH [l]);exact P _ _ x1 (S.more hl ⟨ps,e,cJ,yW hk⟩) _ (aT.mpr ⟨l,rfl,by rw[<- S.len];simp⟩)
theorem Ce{H:Hp}{α:List Addr}{μ:aB}{xs:List D}{us:List V}{a:Addr}{Q:VK}(S:p.S H α μ)(h1:gu p.K H a us\/gP p.K H a us)(rr:p.Rs H α xs us)(P:aK p H α (vN xs μ) (RV p Q)):BS p.K p.w [.ref a] H Q\/BU p.K p.w [.ref a] H Q:=by
 unfold vN at P;split at P
 ·rename_i ks hks;obtain⟨f1,f2⟩:=wM hks;rw[f1]at rr;obtain⟨qs,e1,e2,e3⟩:=F5 S f2 rr P;exact .inl ⟨a,qs,rfl,by rw[<- e1];exact h1,e2,e3⟩
 ·split at P
  ·rename_i ns hns;obtain⟨f1,f2⟩:=Gm hns;rw[f1]at rr;exact .inr ⟨a,ns,rfl,by rw[<- rr.ints];exact h1,f2,DK S f2 P⟩
  ·exact P.elim
theorem Jt:vy p xY (fun xs H Q=>BS p.K p.w xs H Q\/BU p.K p.w xs H Q):=by
 intro ds vs H α μ Q S r P;unfold xY at P;split at P
 ·rename_i xs;obtain⟨v,rfl,r1⟩:=r.one;obtain⟨a,us,rfl,h1,rr⟩:=aO.mp r1;exact Ce S (.inr h1) rr P
 ·rename_i n;split at P
  ·rename_i xs hx;obtain⟨v,rfl,r1⟩:=r.one;obtain⟨a,us,rfl,a1,h1,rr⟩:=cS S r1 hx;exact Ce S (.inl (gu.of h1)) rr P
  ·exact P.elim
 ·exact P.elim
def qD(ns:List Int):List Int:=ns.mergeSort fun a b=>decide (a<=b)
theorem Dd{ns ns':List Int}(hp:ns'.Perm ns)(hs:ns'.Pairwise (·<=·)):ns'=qD ns:=by
 have h1:(qD ns).Perm ns:=List.mergeSort_perm ns _
 have h2:(qD ns).Pairwise (·<=·):=by
  have:=List.pairwise_mergeSort (le:=fun(a b:Int)=>decide (a<=b)) (fun a b c h1 h2=>by simp at *;omega) (fun a b=>by simp;omega) ns;exact this.imp fun h=>by simpa using h
 exact(hp.trans h1.symm).eq_of_pairwise (fun a b _ _ h1 h2=>Sn h1 h2) hs h2
def lz(ds:List D)(μ:aB):aj D:=match ds with
 |[.tup xs]=>match lN xs with
  |some ns=>if ns.length<64 then .ok (.obj μ.length) (μ++[.lst ((qD ns).map D.int)]) else .bad
  |none=>.bad
 |[.obj n]=>match μ[n]? with
  |some (.lst xs)=>match lN xs with
   |some ns=>if ns.length<64 then .ok (.obj μ.length) (μ++[.lst ((qD ns).map D.int)]) else .bad
   |none=>.bad
  |some (.set ks)=>.ok (.obj μ.length) (μ++[.lst ((gR ks).map ao)])
  |some (.iset ks)=>.ok (.obj μ.length) (μ++[.lst ((qD ks).map D.int)])
  |_=>.bad
 |_=>.bad
theorem AO:vy p lz (fun xs H Q=>(Cr p.K xs H Q\/Cq p.K p.w xs H Q)\/Cp p.w xs H Q):=by
 intro ds vs H α μ Q S r P
 have fin:∀{ns:List Int},aK p H α (.ok (.obj μ.length) (μ++[.lst ((qD ns).map D.int)])) (RV p Q)->∀ns':List Int,ns'.Perm ns->ns'.Pairwise (·<=·)->∀l,H l=none->Q (.ref l) (dg H l (.lst (ns'.map V.int))):=by
  intro ns P ns' h1 h2 l hl;rw[<- Dd h1 h2]at P;obtain⟨x1,x2,x3⟩:=dP S hl (kU ns');exact P _ _ x1 x2 _ x3
 unfold lz at P;split at P
 ·rename_i xs;split at P
  ·rename_i ns hns;split at P
   ·rename_i hl;obtain⟨v,rfl,r1⟩:=r.one;obtain⟨a,us,rfl,h1,rr⟩:=aO.mp r1;rw[gZ hns]at rr;exact .inl (.inl ⟨a,ns,rfl,.inr (by rw[<- rr.ints];exact h1),hl,fin P⟩)
   ·exact P.elim
  ·exact P.elim
 ·rename_i n;split at P
  ·rename_i xs hx;split at P
   ·rename_i ns hns;split at P
    ·rename_i hl;obtain⟨v,rfl,r1⟩:=r.one;obtain⟨a,us,rfl,a1,h1,rr⟩:=cS S r1 hx;rw[gZ hns]at rr;exact .inl (.inl ⟨a,ns,rfl,.inl (by rw[<- rr.ints];exact gu.of h1),hl,fin P⟩)
    ·exact P.elim
   ·exact P.elim
  ·rename_i ks hx;obtain⟨v,rfl,r1⟩:=r.one;obtain⟨a,ea,ps,e1,e2,e3,e4,e5⟩:=S.at hx;obtain⟨a',rfl,ea'⟩:=aT.mp r1;rw[ea]at ea';cases ea';refine .inl (.inr ⟨a,ps,rfl,e2,e5,fun out hp hr l hl=>?_⟩);have rr:p.Rs H α ((out.map (·.1)).map ao) (kG out):=pB fun q hq=>e5 q (hp.mem_iff.mp hq);rw[Dc e3 hp hr,e1]at rr;obtain⟨x1,x2,x3⟩:=dP S hl rr;exact P _ _ x1 x2 _ x3
  ·rename_i ks hx;obtain⟨v,rfl,r1⟩:=r.one;obtain⟨a,ea,ps,e1,e2,e3⟩:=S.at hx;obtain⟨a',rfl,ea'⟩:=aT.mp r1;rw[ea]at ea';cases ea';exact .inr ⟨a,ps,rfl,e2,by rw[e1];exact fin P⟩
  ·exact P.elim
 ·exact P.elim
def mE(ds:List D)(μ:aB):aj D:=match ds with
 |[.obj n]=>match μ[n]? with
  |some (.iset ks)=>.ok (.int ks.length) μ
  |some (.set ks)=>.ok (.int ks.length) μ
  |_=>zp [.obj n] μ
 |_=>zp ds μ
theorem Jv:vy p mE (fun xs H Q=>((∃x n,xs=[x]/\HF p.K x H n/\Q (.int n) H)\/G2 p.w xs H Q)\/G3 p.w xs H Q):=by
 intro ds vs H α μ Q S r P;unfold mE at P;split at P
 ·rename_i n;split at P
  ·rename_i ks hx;obtain⟨v,rfl,r1⟩:=r.one;obtain⟨a,ea,ps,e1,e2,e3⟩:=S.at hx;obtain⟨a',rfl,ea'⟩:=aT.mp r1;rw[ea]at ea';cases ea';refine .inl (.inr ⟨a,ps,rfl,e2,P.now S _ (av.mpr ?_)⟩);rw[<- e1,Pf]
  ·rename_i ks hx;obtain⟨v,rfl,r1⟩:=r.one;obtain⟨a,ea,ps,e1,e2,e3⟩:=S.at hx;obtain⟨a',rfl,ea'⟩:=aT.mp r1;rw[ea]at ea';cases ea';refine .inr ⟨a,ps,rfl,e2,P.now S _ (av.mpr ?_)⟩;rw[<- e1,Pf]
  ·exact .inl (.inl (zH _ vs H α μ Q S r P))
 ·exact .inl (.inl (zH _ vs H α μ Q S r P))
end
section
variable{X:Cx}
def BV(K:W.Frag):List V->Hp->VK->Prop:=fun xs H Q=>∃(a:Addr)(ns:List Int),xs=[.ref a]/\(gu K H a (ns.map V.int)\/gP K H a (ns.map V.int))/\ns≠[]/\∀m∈ns,(∀j∈ns,m<=j)->Q (.int m) H
def G1(K:W.Frag):List V->Hp->VK->Prop:=fun xs H Q=>∃(a:Addr)(ns:List Int),xs=[.ref a]/\(gu K H a (ns.map V.int)\/gP K H a (ns.map V.int))/\ns≠[]/\∀m∈ns,(∀j∈ns,j<=m)->Q (.int m) H
theorem lx{its:List Value}{ns:List Int}(h:IntsAre its ns){i:Nat}{v:Value}(e:its.toArray[i]?=some v):∃t,v=.int (ns.getD i 0) t/\i<ns.length:=by
 have e':its[i]?=some v:=by simpa using e
 obtain⟨n,t,rfl,hn⟩:=h.at i v e';have hi:=(Ow.mp hn).1;exact⟨t,by rw[RJ,hn];rfl,hi⟩
theorem wY{ns:List Int}{i:Nat}(h:i<ns.length):ns.getD i 0∈ns:=by
 rw[RJ,RZ h];exact RX h
theorem wJ{ns:List Int}{j:Int}(h:j∈ns):∃i,i<ns.length/\ns.getD i 0=j:=by
 obtain⟨i,hi,e⟩:=List.getElem_of_mem h;exact⟨i,hi,by rw[RJ,RZ hi];exact e⟩
theorem tX (hc:X.calm=true):c6 X (.builtin "min") (BV X.K):=by
 intro pins s σ H xs us Q I r h;obtain⟨a,ns,rfl,ha,hne,q⟩:=h;obtain⟨u,rfl,ru⟩:=fI r;cases ru;have hpos:0<ns.length:=So.mpr hne
 have core:∀(its:List Value)(o:Obj),IntsAre its ns->∀v s',its.toArray[argBest (fun i j=>decide (ns.getD i 0<ns.getD j 0)) (its.toArray.size-1)]?=some v->Moved [s.heap.objs.size] (fun a b=>b=a) {s with heap:=s.heap.push o} s'->EP X pins σ Q v s':=by
  intro its o hI v s' hv hm;obtain⟨t,rfl,hi⟩:=lx hI hv;have hsz:its.toArray.size-1=ns.length-1:=by rw[OX,hI.length]
  rw[hsz]at hi⊢;obtain⟨b1,b2⟩:=argBest_lt (fun i=>ns.getD i 0) (ns.length-1);obtain⟨hh,g,d,tk,os⟩:=s';have e1:g=s.gens:=hm.gens;have e2:d=s.drawn:=hm.drawn;have e3:os=s.os:=hm.os;subst e1 e2 e3;refine⟨.int _,H,I.fresh_it (o:=o) (h':=hh) (tk:=tk) fun b ob hb e=>hm.heap b ob hb e,⟨t,rfl⟩,q _ (wY hi) fun j hj=>?_⟩;obtain⟨i,hi',rfl⟩:=wJ hj;exact b2 i (by omega)
 have cmp:∀(its:List Value),IntsAre its ns->CmpOf X.prog X.w X.A.in1 .Lt (fun i v=>its.toArray[i]?=some v) (fun i j=>decide (ns.getD i 0<ns.getD j 0)):=by
  intro its hI i j vi vj s' Q' E' h1 h2 hQ;obtain⟨t1,rfl,_⟩:=lx hI h1;obtain⟨t2,rfl,_⟩:=lx hI h2;exact(PyProof.Rows.lt_int hQ:wpAny _ _ (compareOp .Lt _ _) _ _ _)
 rcases ha with ha|ha
 ·obtain ⟨its, rv, pl, hz⟩ := I.list ha;have hI:IntsAre its ns:=f7 rv
  have hne:a≠s.heap.objs.size:=by
   obtain⟨o,n,e,_⟩:=pl;exact Oh (Oe e)
  refine call_min_walkS (Ry pl.isList ?_);refine⟨s.heap.objs.size,[s.heap.objs.size,a],[s.heap.objs.size],_,_,_,_,_,rfl,(RC (A:=X.A.in1) (show X.A.in1.handled=none from I.ok.hd hc) _ a hne its.toArray).toS,⟨⟨_,OQ _ rfl,rfl,rfl⟩,pl.isList.at fun o e=>OP _ e⟩,fun b hb=>?_,by simp[hI.length,hpos],cmp its hI,fun v s' hv hm=>core its _ hI v s' hv hm⟩;obtain⟨o,n,e,_⟩:=pl;have:=Oe e;simp only[Os,RA,RB]at hb;show b<(s.heap.push _).objs.size;rw[RR];rcases hb with rfl|rfl
  ·exact Qn _
  ·exact Qo this
 ·obtain ⟨its, rv, pl, hz⟩ := I.tuple ha;have hI:IntsAre its ns:=f7 rv
  have hne:a≠s.heap.objs.size:=by
   obtain⟨o,e,_⟩:=pl;exact Oh (Oe e)
  refine call_min_walkS (RD (show s.heap.IsTuple a its.toArray from pl) ?_);refine⟨s.heap.objs.size,[s.heap.objs.size,a],[s.heap.objs.size],_,_,_,_,_,rfl,(RE (A:=X.A.in1) (show X.A.in1.handled=none from I.ok.hd hc) _ a hne its.toArray).toS,⟨⟨_,OQ _ rfl,rfl,rfl⟩,(show s.heap.IsTuple a its.toArray from pl).at fun o e=>OP _ e⟩,fun b hb=>?_,by simp[hI.length,hpos],cmp its hI,fun v s' hv hm=>core its _ hI v s' hv hm⟩;obtain⟨o,e,_⟩:=pl;have:=Oe e;simp only[Os,RA,RB]at hb;show b<(s.heap.push _).objs.size;rw[RR];rcases hb with rfl|rfl
  ·exact Qn _
  ·exact Qo this
theorem Bi (hc:X.calm=true):c6 X (.builtin "max") (G1 X.K):=by
 intro pins s σ H xs us Q I r h;obtain⟨a,ns,rfl,ha,hne,q⟩:=h;obtain⟨u,rfl,ru⟩:=fI r;cases ru;have hpos:0<ns.length:=So.mpr hne
 have core:∀(its:List Value)(o:Obj),IntsAre its ns->∀v s',its.toArray[argBest (fun i j=>decide (ns.getD i 0>ns.getD j 0)) (its.toArray.size-1)]?=some v->Moved [s.heap.objs.size] (fun a b=>b=a) {s with heap:=s.heap.push o} s'->EP X pins σ Q v s':=by
  intro its o hI v s' hv hm;obtain⟨t,rfl,hi⟩:=lx hI hv;have hsz:its.toArray.size-1=ns.length-1:=by rw[OX,hI.length]
  rw[hsz]at hi⊢;obtain⟨b1,b2⟩:=argBest_gt (fun i=>ns.getD i 0) (ns.length-1);obtain⟨hh,g,d,tk,os⟩:=s';have e1:g=s.gens:=hm.gens;have e2:d=s.drawn:=hm.drawn;have e3:os=s.os:=hm.os;subst e1 e2 e3;refine⟨.int _,H,I.fresh_it (o:=o) (h':=hh) (tk:=tk) fun b ob hb e=>hm.heap b ob hb e,⟨t,rfl⟩,q _ (wY hi) fun j hj=>?_⟩;obtain⟨i,hi',rfl⟩:=wJ hj;exact b2 i (by omega)
 have cmp:∀(its:List Value),IntsAre its ns->CmpOf X.prog X.w X.A.in1 .Gt (fun i v=>its.toArray[i]?=some v) (fun i j=>decide (ns.getD i 0>ns.getD j 0)):=by
  intro its hI i j vi vj s' Q' E' h1 h2 hQ;obtain⟨t1,rfl,_⟩:=lx hI h1;obtain⟨t2,rfl,_⟩:=lx hI h2;exact(PyProof.Rows.gt_int hQ:wpAny _ _ (compareOp .Gt _ _) _ _ _)
 rcases ha with ha|ha
 ·obtain ⟨its, rv, pl, hz⟩ := I.list ha;have hI:IntsAre its ns:=f7 rv
  have hne:a≠s.heap.objs.size:=by
   obtain⟨o,n,e,_⟩:=pl;exact Oh (Oe e)
  refine call_max_walkS (Ry pl.isList ?_);refine⟨s.heap.objs.size,[s.heap.objs.size,a],[s.heap.objs.size],_,_,_,_,_,rfl,(RC (A:=X.A.in1) (show X.A.in1.handled=none from I.ok.hd hc) _ a hne its.toArray).toS,⟨⟨_,OQ _ rfl,rfl,rfl⟩,pl.isList.at fun o e=>OP _ e⟩,fun b hb=>?_,by simp[hI.length,hpos],cmp its hI,fun v s' hv hm=>core its _ hI v s' hv hm⟩;obtain⟨o,n,e,_⟩:=pl;have:=Oe e;simp only[Os,RA,RB]at hb;show b<(s.heap.push _).objs.size;rw[RR];rcases hb with rfl|rfl
  ·exact Qn _
  ·exact Qo this
 ·obtain ⟨its, rv, pl, hz⟩ := I.tuple ha;have hI:IntsAre its ns:=f7 rv
  have hne:a≠s.heap.objs.size:=by
   obtain⟨o,e,_⟩:=pl;exact Oh (Oe e)
  refine call_max_walkS (RD (show s.heap.IsTuple a its.toArray from pl) ?_);refine⟨s.heap.objs.size,[s.heap.objs.size,a],[s.heap.objs.size],_,_,_,_,_,rfl,(RE (A:=X.A.in1) (show X.A.in1.handled=none from I.ok.hd hc) _ a hne its.toArray).toS,⟨⟨_,OQ _ rfl,rfl,rfl⟩,(show s.heap.IsTuple a its.toArray from pl).at fun o e=>OP _ e⟩,fun b hb=>?_,by simp[hI.length,hpos],cmp its hI,fun v s' hv hm=>core its _ hI v s' hv hm⟩;obtain⟨o,e,_⟩:=pl;have:=Oe e;simp only[Os,RA,RB]at hb;show b<(s.heap.push _).objs.size;rw[RR];rcases hb with rfl|rfl
  ·exact Qn _
  ·exact Qo this
end
def K4:List Int->Int
 |[]=>0
 |x::r=>r.foldl min x
def K5:List Int->Int
 |[]=>0
 |x::r=>r.foldl max x
theorem A7(r:List Int):∀x:Int,(r.foldl min x=x\/r.foldl min x∈r)/\r.foldl min x<=x/\∀j∈r,r.foldl min x<=j:=by
 induction r with
 |nil=>intro x;exact⟨.inl rfl,Int.le_refl _,fun j hj=>by simp at hj⟩
 |cons y r ih=>
  intro x;obtain⟨h1,h2,h3⟩:=ih (min x y);rw[Qb];have m1:min x y<=x:=Int.min_le_left _ _;have m2:min x y<=y:=Int.min_le_right _ _;refine⟨?_,by omega,fun j hj=>?_⟩
  ·rcases h1 with h | h
   ·rcases (by omega : min x y = x \/ min x y = y) with e | e
    ·exact .inl (by omega)
    ·exact .inr (by rw[h,e];exact Oo)
   ·exact .inr (Oq _ h)
  ·rcases Os.mp hj with e | e
   ·rw[e];omega
   ·exact h3 j e
theorem A8(r:List Int):∀x:Int,(r.foldl max x=x\/r.foldl max x∈r)/\x<=r.foldl max x/\∀j∈r,j<=r.foldl max x:=by
 induction r with
 |nil=>intro x;exact⟨.inl rfl,Int.le_refl _,fun j hj=>by simp at hj⟩
 |cons y r ih=>
  intro x;obtain⟨h1,h2,h3⟩:=ih (max x y);rw[Qb];have m1:x<=max x y:=Int.le_max_left _ _;have m2:y<=max x y:=Int.le_max_right _ _;refine⟨?_,by omega,fun j hj=>?_⟩
  ·rcases h1 with h | h
   ·rcases (by omega : max x y = x \/ max x y = y) with e | e
    ·exact .inl (by omega)
    ·exact .inr (by rw[h,e];exact Oo)
   ·exact .inr (Oq _ h)
  ·rcases Os.mp hj with e | e
   ·rw[e];omega
   ·exact h3 j e
theorem F9{ns:List Int}{m:Int}(h:m∈ns)(hm:∀j∈ns,m<=j):m=K4 ns:=by
 cases ns with
 |nil=>simp at h
 |cons x r=>
  obtain⟨h1,h2,h3⟩:=A7 r x
  have a1:m<=r.foldl min x:=by
   rcases h1 with e|e
   ·rw[e];exact hm x Oo
   ·exact hm _ (Oq _ e)
  have a2:r.foldl min x<=m:=by
   rcases Os.mp h with e|e
   ·rw[e];exact h2
   ·exact h3 m e
  exact Sn a1 a2
theorem Ga{ns:List Int}{m:Int}(h:m∈ns)(hm:∀j∈ns,j<=m):m=K5 ns:=by
 cases ns with
 |nil=>simp at h
 |cons x r=>
  obtain⟨h1,h2,h3⟩:=A8 r x
  have a1:r.foldl max x<=m:=by
   rcases h1 with e|e
   ·rw[e];exact hm x Oo
   ·exact hm _ (Oq _ e)
  have a2:m<=r.foldl max x:=by
   rcases Os.mp h with e|e
   ·rw[e];exact h2
   ·exact h3 m e
  exact Sn a2 a1
def xU(d:D)(μ:aB):Option (List Int):=match d with
 |.tup xs=>lN xs
 |.frz xs=>lN xs
 |.obj n=>match μ[n]? with
  |some (.lst xs)=>lN xs
  |_=>none
 |_=>none
theorem zB{p:Pa}{H:Hp}{α:List Addr}{μ:aB}{d:D}{v:V}{ns:List Int}(S:p.S H α μ)(r:p.R H α d v)(h:xU d μ=some ns):∃a,v=.ref a/\(gu p.K H a (ns.map V.int)\/gP p.K H a (ns.map V.int)):=by
 unfold xU at h;split at h
 ·obtain⟨a,us,rfl,h1,rr⟩:=aO.mp r;rw[gZ h]at rr;exact⟨a,rfl,.inr (by rw[<- rr.ints];exact h1)⟩
 ·obtain⟨a,us,rfl,h1,rr⟩:=bx.mp r;rw[gZ h]at rr;exact⟨a,rfl,.inl (by rw[<- rr.ints];exact h1.sq)⟩
 ·split at h
  ·rename_i xs hx;obtain⟨a,us,rfl,a1,h1,rr⟩:=cS S r hx;rw[gZ h]at rr;exact⟨a,rfl,.inl (by rw[<- rr.ints];exact gu.of h1)⟩
  ·cases h
 ·cases h
def vE(ds:List D)(μ:aB):aj D:=match ds with
 |[d]=>match xU d μ with
  |some (n::ns)=>.ok (.int (K4 (n::ns))) μ
  |_=>.bad
 |ds=>B4 ds μ
def vF(ds:List D)(μ:aB):aj D:=match ds with
 |[d]=>match xU d μ with
  |some (n::ns)=>.ok (.int (K5 (n::ns))) μ
  |_=>.bad
 |ds=>B5 ds μ
theorem yd{p:Pa}:vy p vE (fun xs H Q=>BV p.K xs H Q\/∃i j,xs=[.int i,.int j]/\Q (.int (if j<i then j else i)) H):=by
 intro ds vs H α μ Q S r P;unfold vE at P;split at P
 ·rename_i d;split at P
  ·rename_i n ns hns;obtain⟨v,rfl,r1⟩:=r.one;obtain⟨a,rfl,h1⟩:=zB S r1 hns;refine .inl ⟨a,n::ns,rfl,h1,by simp,fun m hm hj=>?_⟩;rw[F9 hm hj];exact P.now S _ (av.mpr rfl)
  ·exact P.elim
 ·exact .inr (FZ ds vs H α μ Q S r P)
theorem Ju{p:Pa}:vy p vF (fun xs H Q=>G1 p.K xs H Q\/∃i j,xs=[.int i,.int j]/\Q (.int (if j>i then j else i)) H):=by
 intro ds vs H α μ Q S r P;unfold vF at P;split at P
 ·rename_i d;split at P
  ·rename_i n ns hns;obtain⟨v,rfl,r1⟩:=r.one;obtain⟨a,rfl,h1⟩:=zB S r1 hns;refine .inl ⟨a,n::ns,rfl,h1,by simp,fun m hm hj=>?_⟩;rw[Ga hm hj];exact P.now S _ (av.mpr rfl)
  ·exact P.elim
 ·exact .inr (F0 ds vs H α μ Q S r P)
section
variable{X:Cx}
end
def kM(o1 o2:D->D->aB->aj D)(fa fb fc:ME):ME:=fun ρ μ=>(fa ρ μ).bind fun a μ1=>(fb ρ μ1).bind fun b μ2=>(o1 a b μ2).bind fun z μ3=>(ze z μ3).bind fun k μ4=>
 if k=true then (fc ρ μ4).bind fun c μ5=>o2 b c μ5 else .ok (.bl false) μ4
def qp(o1 o2 o3:D->D->aB->aj D)(fa fb fc fd:ME):ME:=fun ρ μ=>(fa ρ μ).bind fun a μ1=>(fb ρ μ1).bind fun b μ2=>(o1 a b μ2).bind fun z μ3=>(ze z μ3).bind fun k μ4=>
 if k=true then (fc ρ μ4).bind fun c μ5=>(o2 b c μ5).bind fun z2 μ6=>(ze z2 μ6).bind fun k2 μ7=>if k2=true then (fd ρ μ7).bind fun d μ8=>o3 c d μ8 else .ok (.bl false) μ7 else .ok (.bl false) μ4
def ES(r r' r'':R2)(ta tb tc td:TE):TE:=fun σ H Q=>ta σ H fun x H1=>tb σ H1 fun y H2=>r x y H2 fun z H3=>∃k,z=.bl k /\
 (if k=true then tc σ H3 fun w' H4=>r' y w' H4 fun z' H5=>∃k',z'=.bl k'/\(if k'=true then td σ H5 fun v' H6=>r'' w' v' H6 Q else Q (.bl false) H5) else Q (.bl false) H3)
section
variable{X:Cx}{p:Pa}{a b c d:Expr}{ta tb tc td:TE}{fa fb fc fd:ME}{pos:Pos}{op op' op'':CmpOp}{r r' r'':R2}{o1 o2 o3:D->D->aB->aj D}
theorem AG(ho:iP X (compareOp op) r)(ho':iP X (compareOp op') r')(ho'':iP X (compareOp op'') r'')(ha:PE X a ta)(hb:PE X b tb)(hc:PE X c tc)(hd:PE X d td)
  (hm:lastMarks [op,op',op''] [b,c,d]=false):PT X (.Compare a [op,op',op''] [b,c,d] pos) (zg (ES r r' r'' ta tb tc td)):=by
 intro pins s σ H Q I h
 refine isTrue_chain (dr (ha pins s σ H _ I h) fun v s1 ⟨x,H1,I1,r1,q1⟩=>test_link (dr (hb pins s1 σ H1 _ I1 q1) fun u s2 ⟨y,H2,I2,r2,q2⟩=>
  dr (ho pins s2 σ H2 x y v u _ I2 r1 r2 q2) fun d s3 ⟨z,H3,I3,r3,k,e,q3⟩=>?_)) hm
 subst e;cases r3;refine OC ?_;cases k with
 |false=>
  obtain⟨k',e',q'⟩:=q3;cases e';exact ite_ff ⟨H3,I3,q'⟩
 |true=>
  refine ite_tt (test_link (dr (hc pins s3 σ H3 _ I3 q3) fun w' s4 ⟨z',H4,I4,r4,q4⟩=>dr (ho' pins s4 σ H4 y z' u w' _ I4 r2 r4 q4) fun d' s5 ⟨z2,H5,I5,r5,k2,e2,q5⟩=>?_));subst e2;cases r5;refine OC ?_;cases k2 with
  |false=>
   obtain⟨k',e',q'⟩:=q5;cases e';exact ite_ff ⟨H5,I5,q'⟩
  |true=>
   refine ite_tt (test_last (dr (hd pins s5 σ H5 _ I5 q5) fun w'' s6 ⟨z'',H6,I6,r6,q6⟩=>dr (ho'' pins s6 σ H6 z' z'' w' w'' _ I6 r4 r6 q6) fun d'' s7 ⟨z7,H7,I7,r7,k7,e7,q7⟩=>?_));subst e7;cases r7;exact OC ⟨H7,I7,q7⟩
theorem rP(hd1:oW p o1 r)(hd2:oW p o2 r'){σ:St}{H:Hp}{Q:VK}(h:tD p (kM o1 o2 fa fb fc) σ H Q):x9 r r' (tD p fa) (tD p fb) (tD p fc) σ H Q:=by
 obtain⟨α,ρ,μ,S,R,P⟩:=h;refine⟨α,ρ,μ,S,R,(aK.bind P).imp fun x μ1 H1 α1 X1 S1 P1 v rv=>⟨α1,ρ,μ1,S1,R.mono X1,(aK.bind P1).imp fun y μ2 H2 α2 X2 S2 P2 u ru=>?_⟩⟩;refine hd1 x y v u H2 α2 μ2 _ S2 (rv.mono X2) ru ((aK.bind P2).imp fun z μ3 H3 α3 X3 S3 P3 w rw'=>?_);obtain⟨k,_,e,q⟩:=l9 (aK.bind P3) rw' S3;refine⟨k,e,?_⟩;cases k with
 |true=>
  rw[Ob rfl]at q⊢;exact⟨α3,ρ,μ3,S3,((R.mono X1).mono X2).mono X3,(aK.bind q).imp fun c μ5 H5 α5 X5 S5 P5 t rt=>hd2 y c u t H5 α5 μ5 Q S5 ((ru.mono X3).mono X5) rt P5⟩
 |false=>rw[Oc OK]at q⊢;exact q.now S3 _ (aW.mpr rfl)
theorem Dk(ho:iP X (compareOp op) r)(ho':iP X (compareOp op') r')(hd1:oW p o1 r)(hd2:oW p o2 r')(ha:PE X a (tD p fa))(hb:PE X b (tD p fb))(hc:PE X c (tD p fc))
  (hm:lastMarks [op,op'] [b,c]=false):PE X (.Compare a [op,op'] [b,c] pos) (tD p (kM o1 o2 fa fb fc)):=(DB ho ho' ha hb hc hm).weak fun σ H Q h=>rP hd1 hd2 h
theorem sW{t:TE}{f:ME}(hk:∀σ H Q,tD p f σ H Q->t σ H Q){σ:St}{H:Hp}{Q:Bool->Hp->Prop}(h:iO p (i8 f) σ H Q):zg t σ H Q:=by
 obtain⟨α,ρ,μ,S,R,P⟩:=h;refine hk σ H _ ⟨α,ρ,μ,S,R,(aK.bind P).imp fun d μ1 H1 α1 X1 S1 P1 v rv=>?_⟩;obtain⟨k,_,e,q⟩:=l9 P1 rv S1;exact⟨k,e,q⟩
theorem C3(ho:iP X (compareOp op) r)(ho':iP X (compareOp op') r')(hd1:oW p o1 r)(hd2:oW p o2 r')(ha:PE X a (tD p fa))(hb:PE X b (tD p fb))(hc:PE X c (tD p fc))
  (hm:lastMarks [op,op'] [b,c]=false):PT X (.Compare a [op,op'] [b,c] pos) (iO p (i8 (kM o1 o2 fa fb fc))):=(Dr ho ho' ha hb hc hm).weak fun σ H Q h=>sW (fun σ H Q h=>rP hd1 hd2 h) h
theorem Aq(ho:iP X (compareOp op) r)(ho':iP X (compareOp op') r')(ho'':iP X (compareOp op'') r'')(hd1:oW p o1 r)(hd2:oW p o2 r')(hd3:oW p o3 r'')(ha:PE X a (tD p fa))(hb:PE X b (tD p fb))(hc:PE X c (tD p fc))(hd:PE X d (tD p fd))
  (hm:lastMarks [op,op',op''] [b,c,d]=false):PT X (.Compare a [op,op',op''] [b,c,d] pos) (iO p (i8 (qp o1 o2 o3 fa fb fc fd))):=(AG ho ho' ho'' ha hb hc hd hm).weak fun σ H Q h=>sW (fun σ H Q h=>by
 obtain⟨α,ρ,μ,S,R,P⟩:=h;refine⟨α,ρ,μ,S,R,(aK.bind P).imp fun x μ1 H1 α1 X1 S1 P1 v rv=>⟨α1,ρ,μ1,S1,R.mono X1,(aK.bind P1).imp fun y μ2 H2 α2 X2 S2 P2 u ru=>?_⟩⟩;refine hd1 x y v u H2 α2 μ2 _ S2 (rv.mono X2) ru ((aK.bind P2).imp fun z μ3 H3 α3 X3 S3 P3 w rw'=>?_);obtain⟨k,_,e,q⟩:=l9 (aK.bind P3) rw' S3;refine⟨k,e,?_⟩;cases k with
 |true=>
  rw[Ob rfl]at q⊢;refine⟨α3,ρ,μ3,S3,((R.mono X1).mono X2).mono X3,(aK.bind q).imp fun c μ5 H5 α5 X5 S5 P5 t rt=>?_⟩;refine hd2 y c u t H5 α5 μ5 _ S5 ((ru.mono X3).mono X5) rt ((aK.bind P5).imp fun z2 μ6 H6 α6 X6 S6 P6 w2 rw2=>?_);obtain⟨k2,_,e2,q2⟩:=l9 (aK.bind P6) rw2 S6;refine⟨k2,e2,?_⟩;cases k2 with
  |true=>
   rw[Ob rfl]at q2⊢;exact⟨α6,ρ,μ6,S6,((((R.mono X1).mono X2).mono X3).mono X5).mono X6,(aK.bind q2).imp fun d μ7 H7 α7 X7 S7 P7 t7 rt7=>hd3 c d t t7 H7 α7 μ7 _ S7 ((rt.mono X6).mono X7) rt7 P7⟩
  |false=>rw[Oc OK]at q2⊢;exact q2.now S6 _ (aW.mpr rfl)
 |false=>rw[Oc OK]at q⊢;exact q.now S3 _ (aW.mpr rfl)) h
def xS(d:D)(μ:aB):aj Bool:=match d with
 |.non=>.ok false μ
 |.bl b=>.ok b μ
 |.int i=>.ok (i != 0) μ
 |.str x=>if x.length<=sizeLine then .ok ((x.length:Int) != 0) μ else .bad
 |.tup xs=>.ok (!xs.isEmpty) μ
 |.frz xs=>.ok (!xs.isEmpty) μ
 |.obj n=>match μ[n]? with
  |some (.lst xs)=>.ok (!xs.isEmpty) μ
  |_=>.bad
def eA(f:ME):MT:=fun ρ μ=>(f ρ μ).bind xS
theorem Reps.isEmpty{K:W.Frag}{H:Hp}{α:List Addr}{xs:List D}{vs:List V}(r:Reps K H α xs vs):vs.isEmpty=xs.isEmpty:=by
 have:=r.length;cases xs with
 |nil=>have h:vs=[]:=Sj (by simpa using this);rw[h];rfl
 |cons x r=>cases vs with
  |nil=>simp at this
  |cons _ _=>rfl
theorem EM{d:D}{μ:aB}{H:Hp}{α:List Addr}{v:V}{R:Bool->aB->Hp->List Addr->Prop}(S:p.S H α μ)(r:p.R H α d v)(P:aK p H α (xS d μ) R):∃k,HD p.K v H k/\R k μ H α:=by
 unfold xS at P;split at P
 ·rw[bH.mp r];exact⟨false,rfl,P.now S⟩
 ·rename_i b;rw[aW.mp r];exact⟨b,rfl,P.now S⟩
 ·rename_i i;rw[av.mp r];exact⟨_,rfl,P.now S⟩
 ·rename_i x;split at P
  ·rename_i hl;rw[bq.mp r];exact⟨_,⟨hl,rfl⟩,P.now S⟩
  ·exact P.elim
 ·obtain⟨a,vs,rfl,h1,h2⟩:=aO.mp r;exact⟨_,.inr (.inl ⟨vs,h1,by rw[h2.isEmpty]⟩),P.now S⟩
 ·obtain⟨a,vs,rfl,h1,h2⟩:=bx.mp r;exact⟨_,.inl ⟨vs,h1.sq,by rw[h2.isEmpty]⟩,P.now S⟩
 ·split at P
  ·rename_i xs hx;obtain⟨a,us,rfl,a1,h1,rr⟩:=cS S r hx;exact⟨_,.inl ⟨us,gu.of h1,by rw[rr.isEmpty]⟩,P.now S⟩
  ·exact P.elim
theorem C2{e:Expr}{f:ME}(hK:X.K=p.K)(h:PE X e (tD p f))(he:∀whole,isTrue e X.env whole=(do let v <- whole;standAt e.pos;holding [v] (truthy v))):PT X e (iO p (eA f)):=
 (Dq h he).weak fun σ H Q ⟨α, ρ, μ, S, R, P⟩ => ⟨α, ρ, μ, S, R, (aK.bind P).imp fun d μ1 H1 α1 X1 S1 P1 v rv => by
  rw[hK];exact EM S1 rv P1⟩
def Ls:TE:=fun _ H Q=>∀q,H q=none->Q (.ref q) (dg H q (.dK []))
theorem FL:PE X (.Dict [] [] pos) Ls:=fun pins s σ H Q I h=>by
 have hb:sysModules<s.heap.objs.size:=Nat.lt_trans (by decide) (I.mod.glob.keeps I.bk).lt;refine wpAny_Dict_empty ⟨.ref s.heap.objs.size,_,I.laid (a:=s.heap.objs.size) (o:=.dK []) (t':=s.toks) (fun _ _ q=>OP _ q) (OR _) ?_,rfl,h _ (I.hok.fresh (OR _))⟩;exact⟨Qv _,N9.mpr (Ot (Oh hb)),[],.nil,Heap.DictOf.new s.heap⟩
def Ey:ME:=fun _ μ=>.ok (.obj μ.length) (μ++[.dic])
theorem ID:PE X (.Dict [] [] pos) (tD p Ey):=FL.weak fun σ H Q ⟨α,ρ,μ,S,R,P⟩ q hq=>by
 have x1:p.X H (dg H q (.dK [])) α (α++[q]):=(cE hq).trans (jH [q]);exact P _ _ x1 (S.more hq cJ) _ (aT.mpr ⟨q,rfl,by rw[<- S.len];simp⟩)
def KH(p:Pa)(f:D->List D->aB->aj D)(r:V->List V->Hp->VK->Prop):Prop:=∀d ds v vs H α μ Q,p.S H α μ->p.R H α d v->p.Rs H α ds vs->aK p H α (f d ds μ) (RV p Q)->r v vs H Q
def Bu(d:D)(μ:aB):Bool:=match d with
 |.obj n=>match μ[n]? with
  |some (.lst _)=>true
  |_=>false
 |_=>false
def Bw(f:D->List D->aB->aj D)(fo:ME)(fr:MA):ME:=fun ρ μ=>(fo ρ μ).bind fun o μ1=>if Bu o μ1=true then (fr ρ μ1).bind fun ds μ2=>f o ds μ2 else .bad
theorem JY {d:D}{μ:aB}{H:Hp}{α:List Addr}{v:V} (S:p.S H α μ) (r:p.R H α d v) (h:Bu d μ=true):Mz p.K "list" v H:=by
 unfold Bu at h;split at h
 ·split at h
  ·rename_i xs hx;obtain⟨a,us,rfl,a1,h1,rr⟩:=cS S r hx;exact .inl ⟨rfl,us,gu.of h1⟩
  ·cases h
 ·cases h
theorem zh {o e:Expr}{es:List Expr}{fo:ME}{fr:MA}{name:Str}{apos cpos:Pos}{id:String}{rr:V->List V->Hp->VK->Prop}{f:D->List D->aB->aj D} (hK:X.K=p.K) (slot:Slot "list" name id) (hty:typeOf (.builtin id)=pure (.type "method_descriptor")) (hm:NJ X id rr) (hf:KH p f rr)
  (ho:PE X o (tD p fo)) (ha:PA X (e::es) (mC p fr)) (hbase:attributeBase o name X.env (eval o X.env)=eval o X.env)
  (hfew : ((backTo cpos (starEach (e :: es) X.env)).all (fun x => !x.1) && (backToKw cpos (keywordEach [] X.env)).all (fun x => x.1.isSome)
   && decide ((e::es).length+([]:List Keyword).length+(if ([]:List Keyword).isEmpty then 0 else 1)<30))=true)
  (hline:(apos.endLine == cpos.line)=true) (hs:starEach (e::es) X.env=(false,eval e X.env)::starEach es X.env) (hplain:(backTo cpos (starEach es X.env)).any (·.1)=false) :
  PE X (.Call (.Attribute o name apos) (e::es) [] cpos) (tD p (Bw f fo fr)):=
 (LP PySem.F.plainAttrs_list slot hty hm ho ha hbase hfew hline hs hplain).weak fun σ H Q ⟨α, ρ, μ, S, R, P⟩ => ⟨α, ρ, μ, S, R, (aK.bind P).imp fun d μ1 H1 α1 X1 S1 P1 v rv => by
  by_cases hl:Bu d μ1=true
  ·rw[Ob hl]at P1;rw[hK];exact⟨JY S1 rv hl,α1,ρ,μ1,S1,R.mono X1,(aK.bind P1).imp fun ds μ2 H2 α2 X2 S2 P2 vs rs=>hf d ds v vs H2 α2 μ2 Q S2 (rv.mono X2) rs P2⟩
  ·rw[Oc hl]at P1;exact P1.elim⟩
def lC(d:D)(ds:List D)(μ:aB):aj D:=match d,ds with
 |.obj n,[y]=>match μ[n]? with
  |some (.lst xs)=>if xs.length<sizeLine then .ok .non (μ.set n (.lst (xs++[y]))) else .bad
  |_=>.bad
 |_,_=>.bad
theorem F8:KH p lC zE:=by
 intro d ds v vs H α μ Q S rd rs P;unfold lC at P;split at P
 ·rename_i n y;split at P
  ·rename_i xs hx;split at P
   ·rename_i hb;obtain⟨a,us,rfl,a1,h1,rr⟩:=cS S rd hx;obtain⟨w,rfl,rw'⟩:=rs.one;have q:=rr.snoc rw';exact⟨a,us,w,rfl,rfl,h1,by rw[rr.length];exact hb,P _ _ (jf h1) (S.put hx a1 h1 q) _ (bH.mpr rfl)⟩
   ·exact P.elim
  ·exact P.elim
 ·exact P.elim
end
abbrev dW(K:W.Frag)(w:World):Pa:=⟨K,w,fun _ _ _ _=>False⟩
abbrev jA:D->D->aB->aj D:=dI fun i j=>.int (i-j)
noncomputable abbrev vW:D->D->aB->aj D:=GN EC fun i j=>.int (i / j)
noncomputable abbrev vD:D->D->aB->aj D:=GN (fun _ j=>0<j) fun i j=>.int (i%j)
noncomputable abbrev Ai:D->D->aB->aj D:=GN BK fun i j=>.int (i^j.toNat)
def ur(N:List Str)(sc scope:Scope)(Nc:List Str)(cap:List (Option Nat)):Bool:=
 (scope.kind == .function)&&scope.names.all (fun y=>scope.names.lookup y.1 == some y.2) &&
 scope.names.all (fun y=>y.2 != .free || sc.names.lookup y.1 == some .cell || sc.names.lookup y.1 == some .free)&&gS N {scope:=sc,globals:=0,builtins:=0,locals:=0,cells:=[],qual:="",func:=none,code:=.none,frame:=none} scope Nc cap
theorem oF{N:List Str}{e1 e2:Env}{scope:Scope}:∀{Nc:List Str}{cap:List (Option Nat)},gS N e1 scope Nc cap=gS N e2 scope Nc cap
 |[],[]=>rfl
 |_::_,[]=>rfl
 |[],_::_=>rfl
 |_::Nc,none::cap=>by unfold gS;exact oF
 |x::Nc,some j::cap=>by unfold gS;rw[oF (Nc:=Nc) (cap:=cap) (e1:=e1) (e2:=e2)]
theorem tU{X:Cx}{N:List Str}{sc scope:Scope}{Nc:List Str}{cap:List (Option Nat)}(hN:X.N=N)(hk:∀x,(sc.names.lookup x=some .cell\/sc.names.lookup x=some .free)->X.env.kindOf x=some .cell\/X.env.kindOf x=some .free)(h:ur N sc scope Nc cap=true):cR X.N X.env scope Nc cap:=by
 unfold ur at h;simp only[PH]at h;obtain⟨⟨⟨h1,h3⟩,h4⟩,h5⟩:=h;refine⟨eq_of_beq h1,fun y hy=>?_,fun y hy hf=>?_,?_⟩
 ·exact eq_of_beq (Q6.mp h3 y hy)
 ·have := Q6.mp h4 y hy;simp only[Bool.or_eq_true,hf]at this;refine hk _ ?_;rcases this with (z|z)|z
  ·exact absurd z (by decide)
  ·exact .inl (eq_of_beq z)
  ·exact .inr (eq_of_beq z)
 ·rw[hN,oF];exact h5
theorem b9{X:Cx}{N:List Str}{sc scope:Scope}{Nc:List Str}{cap:List (Option Nat)}(hN:X.N=N)(hs:X.env.scope=sc)(h:ur N sc scope Nc cap=true):cR X.N X.env scope Nc cap:=
 tU hN (fun x hx=>by subst hs;exact hx) h
theorem GD{X:Cx}{env:Env}{N:List Str}{sc scope:Scope}{Nc:List Str}{cap:List (Option Nat)}(hN:X.N=N)(hs:X.env.scope=relabel sc env)(h:ur N sc scope Nc cap=true):cR X.N X.env scope Nc cap:=
 tU hN (fun x hx=>by
  have e:X.env.kindOf x=(sc.names.lookup x).map fun k=>if (k == NameKind.free&&env.scope.kind == .function&&env.kindOf x == some .cell) then NameKind.cell else k:=by
   have:X.env.kindOf x=(relabel sc env).names.lookup x:=by rw[<- hs];rfl
   rw[this];exact i5
  rw[e];rcases hx with z|z
  ·rw[z];exact .inl rfl
  ·rw [z];show some (if _ then _ else _)=_\/some (if _ then _ else _)=_;split
   ·exact .inl rfl
   ·exact .inr rfl) h
structure Bx(P:Prop):Prop where
 h:P
section
variable{X:Cx}{p:Pa}{a b c d e:Expr}{es:List Expr}{fa fb fc fd f:ME}{fr:MA}{pos:Pos}{ft gt:MT}
theorem aJ (i:Nat) {x:Str} (hN:X.N[i]?=some x:=by rfl) (hv:KD X.env.scope x:=by first|exact Or.inl rfl|exact Or.inr (Or.inl rfl)|exact Or.inr (Or.inr rfl)) (hd:(x == ("__debug__" : Str))=false:=by decide) (hcd:(x == ("__classdict__" : Str))=false:=by decide):Bx (PE X (.Name x pos) (tD p (ai i))):=⟨Iw (Cv hN hv hd hcd)⟩
theorem bz{i j}:Bx (PE X (.Constant (.int i) j pos) (tD p (cC (.int i)))):=⟨BC Jf fun _ _=>av.mpr rfl⟩
theorem vw{i j}:Bx (PE X (.Constant (.bool i) j pos) (tD p (cC (.bl i)))):=⟨BC LQ fun _ _=>aW.mpr rfl⟩
theorem GL{j}:Bx (PE X (.Constant .none j pos) (tD p (cC .non))):=⟨BC Je fun _ _=>bH.mpr rfl⟩
theorem xJ{x j}:Bx (PE X (.Constant (.str x) j pos) (tD p (cC (.str x)))):=⟨BC Jb fun _ _=>bq.mpr rfl⟩
theorem KJ {x:Str}{i:Int} (h:∃t,X.mg x=some (.int i t)) (hg:Gl X x:=by rfl) (hd:(x == ("__debug__" : Str))=false:=by decide):Bx (PE X (.Name x pos) (tD p (cC (.int i)))):=Bx.mk (by
 obtain⟨t,ht⟩:=h
 exact BC (uH (v:=.int i) hg ht ⟨t,rfl⟩ hd) fun _ _=>av.mpr rfl)
theorem dC(ha:Bx (PE X a (tD p fa)))(hb:Bx (PE X b (tD p fb)))(hK:X.K=p.K:=by rfl):Bx (PE X (.BinOp a .Add b pos) (tD p (aA cQ fa fb))):=⟨nU (r:=BX p.K) (hK ▸ FX) JC ha.h hb.h⟩
theorem qC(ha:Bx (PE X a (tD p fa)))(hb:Bx (PE X b (tD p fb))):Bx (PE X (.BinOp a .Sub b pos) (tD p (aA jA fa fb))):=⟨nU Ji (Na fun _ _ _ _=>av.mpr rfl) ha.h hb.h⟩
theorem BM(ha:Bx (PE X a (tD p fa)))(hb:Bx (PE X b (tD p fb))):Bx (PE X (.BinOp a .Mult b pos) (tD p (aA sA fa fb))):=⟨nU FR Jz ha.h hb.h⟩
theorem B8(ha:Bx (PE X a (tD p fa)))(hb:Bx (PE X b (tD p fb))):Bx (PE X (.BinOp a .FloorDiv b pos) (tD p (aA vW fa fb))):=⟨nU FS (BZ fun _ _ _ _=>av.mpr rfl) ha.h hb.h⟩
theorem vM(ha:Bx (PE X a (tD p fa)))(hb:Bx (PE X b (tD p fb))):Bx (PE X (.BinOp a .Mod b pos) (tD p (aA vD fa fb))):=⟨nU Jn (BZ fun _ _ _ _=>av.mpr rfl) ha.h hb.h⟩
theorem GQ(ha:Bx (PE X a (tD p fa)))(hb:Bx (PE X b (tD p fb))):Bx (PE X (.BinOp a .Pow b pos) (tD p (aA Ai fa fb))):=⟨nU Jk (BZ fun _ _ _ _=>av.mpr rfl) ha.h hb.h⟩
theorem zf(ha:Bx (PE X a (tD p fa))):Bx (PE X (.UnaryOp .USub a pos) (tD p (ky vC fa))):=⟨LC HN JD ha.h⟩
structure kD(X:Cx)(p:Pa)(op:CmpOp)(o:D->D->aB->aj D):Prop where
 ex:∃r,iP X (compareOp op) r/\oW p o r
theorem pI(hu:X.A.units+64<cLine)(hK:X.K=p.K:=by rfl):kD X p .Eq (iA false):=⟨BE p.K false,hK ▸ Jq hu,Hd⟩
theorem sy(hu:X.A.units+64<cLine)(hK:X.K=p.K:=by rfl):kD X p .NotEq (iA true):=⟨BE p.K true,hK ▸ Jl hu,Hd⟩
theorem Ew(hu:X.A.units+64<cLine)(hK:X.K=p.K:=by rfl):kD X p .In (sr false):=⟨BD p.K false,hK ▸ Jp hu,Hc⟩
theorem vQ(hu:X.A.units+64<cLine)(hK:X.K=p.K:=by rfl):kD X p .NotIn (sr true):=⟨BD p.K true,hK ▸ AN hu,Hc⟩
theorem Hf:kD X p .Is (uc false):=⟨_,Jo,JA⟩
theorem JT:kD X p .IsNot (uc true):=⟨_,FQ,F3⟩
theorem iV{op:CmpOp}(hu:X.A.units+64<cLine)(ho:sR op=true:=by rfl)(hK:X.K=p.K:=by rfl):kD X p op (fC op):=⟨BW p.K op,hK ▸ FU hu ho,JB⟩
variable{op op' op'':CmpOp}{o o' o'':D->D->aB->aj D}
theorem kF(k:kD X p op o)(ha:Bx (PE X a (tD p fa)))(hb:Bx (PE X b (tD p fb)))(hm:behindInMarks op b=false:=by rfl):Bx (PE X (.Compare a [op] [b] pos) (tD p (aA o fa fb))):=Bx.mk (let ⟨_,h1,h2⟩:=k.ex;IE h1 h2 ha.h hb.h hm)
theorem cO(k:kD X p op o)(ha:Bx (PE X a (tD p fa)))(hb:Bx (PE X b (tD p fb)))(hm:behindInMarks op b=false:=by rfl):Bx (PT X (.Compare a [op] [b] pos) (iO p (i8 (aA o fa fb)))):=Bx.mk (let ⟨_,h1,h2⟩:=k.ex;HZ h1 h2 ha.h hb.h hm)
theorem Lg(k:kD X p op o)(k':kD X p op' o')(ha:Bx (PE X a (tD p fa)))(hb:Bx (PE X b (tD p fb)))(hc:Bx (PE X c (tD p fc)))(hm:lastMarks [op,op'] [b,c]=false:=by rfl):Bx (PE X (.Compare a [op,op'] [b,c] pos) (tD p (kM o o' fa fb fc))):=Bx.mk (let ⟨_,h1,h2⟩:=k.ex;let ⟨_,h3,h4⟩:=k'.ex;Dk h1 h3 h2 h4 ha.h hb.h hc.h hm)
theorem Ll(k:kD X p op o)(k':kD X p op' o')(ha:Bx (PE X a (tD p fa)))(hb:Bx (PE X b (tD p fb)))(hc:Bx (PE X c (tD p fc)))(hm:lastMarks [op,op'] [b,c]=false:=by rfl):Bx (PT X (.Compare a [op,op'] [b,c] pos) (iO p (i8 (kM o o' fa fb fc)))):=Bx.mk (let ⟨_,h1,h2⟩:=k.ex;let ⟨_,h3,h4⟩:=k'.ex;C3 h1 h3 h2 h4 ha.h hb.h hc.h hm)
theorem HV(k:kD X p op o)(k':kD X p op' o')(k'':kD X p op'' o'')(ha:Bx (PE X a (tD p fa)))(hb:Bx (PE X b (tD p fb)))(hc:Bx (PE X c (tD p fc)))(hd:Bx (PE X d (tD p fd)))(hm:lastMarks [op,op',op''] [b,c,d]=false:=by rfl):Bx (PT X (.Compare a [op,op',op''] [b,c,d] pos) (iO p (i8 (qp o o' o'' fa fb fc fd)))):=Bx.mk (let ⟨_,h1,h2⟩:=k.ex;let ⟨_,h3,h4⟩:=k'.ex;let ⟨_,h5,h6⟩:=k''.ex;Aq h1 h3 h5 h2 h4 h6 ha.h hb.h hc.h hd.h hm)
theorem qv(h:Bx (PE X e (tD p f)))(he:∀whole,isTrue e X.env whole=(do let v <- whole;standAt e.pos;holding [v] (truthy v)):=by intro _;rfl)(hK:X.K=p.K:=by rfl):Bx (PT X e (iO p (eA f))):=⟨C2 hK h.h he⟩
theorem BQ{rest:List Expr}(ha:Bx (PT X a (iO p ft)))(hb:Bx (PW X (.BoolOp .And (b::rest) pos) (iO p gt))):Bx (PW X (.BoolOp .And (a::b::rest) pos) (iO p (qK ft gt))):=⟨HX ha.h hb.h⟩
theorem lI{rest:List Expr}(ha:Bx (PT X a (iO p ft)))(hb:Bx (PW X (.BoolOp .Or (b::rest) pos) (iO p gt))):Bx (PW X (.BoolOp .Or (a::b::rest) pos) (iO p (ja ft gt))):=⟨Ly ha.h hb.h⟩
theorem x8(ha:Bx (PT X a (iO p ft))):Bx (PW X (.BoolOp .And [a] pos) (iO p ft)):=⟨Fv ha.h⟩
theorem kd(ha:Bx (PT X a (iO p ft))):Bx (PW X (.BoolOp .Or [a] pos) (iO p ft)):=⟨IP ha.h⟩
theorem jC{op}(ha:Bx (PE X a (tD p fa))):Bx (PE X (.BoolOp op [a] pos) (tD p fa)):=⟨Jc ha.h⟩
def Cz:Expr->Bool
 |.Starred _ _=>false
 |_=>true
theorem Ap{a:Expr}{es:List Expr}{env:Env}(h:Cz a=true):starEach (a::es) env=(false,eval a env)::starEach es env:=by
 cases a <;> first|rfl|cases h
theorem aN(ha:Bx (PE X a (tD p fa)))(hr:Bx (PA X es (mC p fr)))(hs:Cz a=true:=by rfl):Bx (PA X (a::es) (mC p (ag fa fr))):=⟨Fl ha.h hr.h (Ap hs)⟩
theorem bg  : Bx (PA X [] (mC p aD)):=⟨IG⟩
theorem aZ {k n:Nat}{x:Str}{F:List D->aB->aj D}{px:Pos} (h:dY X.prog X.w X.K X.mg X.base p k x n F) (hr:gr k X.A) (ha:Bx (PA X (a::es) (mC p fr))) (hg:Gl X x:=by rfl) (hdb:(x == ("__debug__" : Str))=false:=by decide) (he:starEach (a::es) X.env=(false,eval a X.env)::starEach es X.env:=by rfl) (hpl:(backTo pos (starEach es X.env)).any (·.1)=false:=by rfl):Bx (PE X (.Call (.Name x px) (a::es) [] pos) (tD p (aI F fr))):=⟨Fk h hr hg ha.h hdb he hpl⟩
structure pK(X:Cx)(p:Pa)(x:Str)(F:List D->aB->aj D):Prop where
 ex:∃(u:Value) (r:List V->Hp->VK->Prop),((∃id,u=.builtin id)\/∃T,u=.type T)/\bootBuiltins x=some u/\c6 X u r/\vy p F r/\x ≠ "__name__" /\ (x == ("__debug__" : Str))=false
theorem cy{x:Str}{F:List D->aB->aj D}{px:Pos}(k:pK X p x F)(hm:X.mg x=none)(ha:Bx (PA X (a::es) (mC p fr)))(hg:Gl X x:=by rfl)(he:starEach (a::es) X.env=(false,eval a X.env)::starEach es X.env:=by rfl)(hpl:(backTo pos (starEach es X.env)).any (·.1)=false:=by rfl):Bx (PE X (.Call (.Name x px) (a::es) [] pos) (tD p (aI F fr))):=Bx.mk (by
 obtain⟨u,r,hu,h1,h2,h3,h4,h5⟩:=k.ex;rcases hu with⟨id,rfl⟩|⟨T,rfl⟩
 ·exact Dl h2 h3 hg hm h1 ha.h h4 h5 he hpl
 ·exact AB h2 h3 hg hm h1 ha.h h4 h5 he hpl)
theorem o8 (hK:X.K=p.K:=by rfl) (hw:X.w=p.w:=by rfl):pK X p "len" mE:=⟨_,_,.inl ⟨_,rfl⟩,PySem.boot_len,(D8.or Bj).or Bk,by rw[hK,hw];exact Jv,by decide,by decide⟩
theorem sS (hc:X.calm=true:=by rfl) (hK:X.K=p.K:=by rfl):pK X p "all" nQ:=⟨_,_,.inl ⟨_,rfl⟩,by decide +kernel,Bm hc,hK ▸ Jx,by decide,by decide⟩
theorem jY (hK:X.K=p.K:=by rfl):pK X p "tuple" gX:=⟨_,_,.inr ⟨_,rfl⟩,by decide +kernel,sL,hK ▸ DG,by decide,by decide⟩
theorem yv (hK:X.K=p.K:=by rfl):pK X p "list" mL:=⟨_,_,.inr ⟨_,rfl⟩,by decide +kernel,vn,hK ▸ F1,by decide,by decide⟩
theorem Mg:pK X p "int" vV:=⟨_,_,.inr ⟨_,rfl⟩,by decide +kernel,Bl,Jw,by decide,by decide⟩
theorem Md (hc:X.calm=true:=by rfl) (hK:X.K=p.K:=by rfl):pK X p "min" vE:=⟨_,_,.inl ⟨_,rfl⟩,by decide +kernel,(tX hc).or (tW hc),hK ▸ yd,by decide,by decide⟩
theorem Hk (hc:X.calm=true:=by rfl) (hK:X.K=p.K:=by rfl):pK X p "max" vF:=⟨_,_,.inl ⟨_,rfl⟩,by decide +kernel,(Bi hc).or (Bh hc),hK ▸ Ju,by decide,by decide⟩
theorem Mc (hu:X.A.units+64<cLine) (hc:X.calm=true:=by rfl) (hK:X.K=p.K:=by rfl) (hw:X.w=p.w:=by rfl):pK X p "set" xY:=⟨_,_,.inr ⟨_,rfl⟩,by decide +kernel,(Be hc hu).or (Bf hc hu),by rw[hK,hw];exact Jt,by decide,by decide⟩
theorem Ec (hc:X.calm=true:=by rfl) (hK:X.K=p.K:=by rfl) (hw:X.w=p.w:=by rfl):pK X p "sorted" lz:=⟨_,_,.inl ⟨_,rfl⟩,by decide +kernel,(y8.or (y6 hc)).or (y4 hc),by rw[hK,hw];exact AO,by decide,by decide⟩
theorem jb {T:String}{xT:Str}{px pt:Pos} (hT:T∈["int", "bool", "tuple", "list", "str", "dict"]) (hbT:bootBuiltins xT=some (.type T)) (hnT:xT ≠ "__name__") (hdT:(xT == ("__debug__" : Str))=false) (hm:X.mg "isinstance" = none) (hmT:X.mg xT=none) (ha:Bx (PE X a (tD p fa))) (hg:Gl X "isinstance" := by rfl) (hgT:Gl X xT:=by rfl) (hs1:starEach [a,.Name xT pt] X.env=(false,eval a X.env)::starEach [.Name xT pt] X.env:=by rfl) (hK:X.K=p.K:=by rfl):Bx (PE X (.Call (.Name "isinstance" px) [a,.Name xT pt] [] pos) (tD p (ky (d9 T) fa))):=⟨IC hK hT hg hm hgT hmT hbT ha.h hnT hdT hs1⟩
theorem CT:bootBuiltins "int" = some (.type "int"):=by decide +kernel
theorem uR:bootBuiltins "bool" = some (.type "bool"):=by decide +kernel
theorem gB:bootBuiltins "tuple" = some (.type "tuple"):=by decide +kernel
theorem bD(ha:Bx (PE X a (tD p fa)))(hb:Bx (PE X b (tD p fb)))(hs:uV b:=by exact fun _ _=>rfl)(hK:X.K=p.K:=by rfl):Bx (PE X (.Subscript a b pos) (tD p (aA bR fa fb))):=⟨LD hK ha.h hb.h hs⟩
theorem Ac{lo hi:Option Expr}{fl fh:MO}{p2:Pos}(he:Bx (PE X e (tD p fa)))(hl:Bx (PO X lo (GM p fl)))(hu:Bx (PO X hi (GM p fh)))(hK:X.K=p.K:=by rfl):Bx (PE X (.Subscript e (.Slice lo hi none p2) pos) (tD p (Ej fa fl fh))):=⟨Dj hK he.h hl.h hu.h⟩
theorem Lh {fo:ME}{ob:Expr}{apos:Pos} (ho:Bx (PE X ob (tD p fo))) (ha:Bx (PA X [e] (mC p fr))) (hbase:attributeBase ob "append" X.env (eval ob X.env)=eval ob X.env:=by rfl) (hfew:((backTo pos (starEach [e] X.env)).all (fun x=>!x.1)&&(backToKw pos (keywordEach [] X.env)).all (fun x=>x.1.isSome)
   && decide ([e].length+([]:List Keyword).length+(if ([]:List Keyword).isEmpty then 0 else 1)<30))=true:=by rfl) (hline:(apos.endLine == pos.line)=true:=by rfl) (hs:starEach [e] X.env=(false,eval e X.env)::starEach [] X.env:=by rfl) (hpl:(backTo pos (starEach [] X.env)).any (·.1)=false:=by rfl) (hK:X.K=p.K:=by rfl):Bx (PE X (.Call (.Attribute ob "append" apos) [e] [] pos) (tD p (Bw lC fo fr))):=⟨zh hK PySem.F.slot_list_append PySem.F.type_list_append tE F8 ho.h ha.h hbase hfew hline hs hpl⟩
variable{tg iter elt:Expr}{fi:MI}{g:MG}{u:Es}
theorem pZ(hl:Bx (PE X e (tD p f)))(hK:X.K=p.K:=by rfl):Bx (PI X tg e (z8 p (fB f))):=⟨Ir hK hl.h⟩
theorem Ag {px:Pos} (hm:X.mg "range" = none) (ha:Bx (PA X [a] (mC p fr))) (hg:Gl X "range" := by rfl) (hs:starEach [a] X.env=[(false,eval a X.env)]:=by rfl):Bx (PI X tg (.Call (.Name "range" px) [a] [] pos) (z8 p (nP lX fr))):=⟨AA hg hm ha.h hs⟩
theorem K6 {px:Pos} (hm:X.mg "range" = none) (ha:Bx (PA X [a,b] (mC p fr))) (hg:Gl X "range" := by rfl) (hs:starEach [a,b] X.env=[(false,eval a X.env),(false,eval b X.env)]:=by rfl) (hs2:starEach [b] X.env=[(false,eval b X.env)]:=by rfl):Bx (PI X tg (.Call (.Name "range" px) [a,b] [] pos) (z8 p (nP xW fr))):=⟨Az hg hm ha.h hs hs2⟩
theorem i7(i:Nat){x:Str}(hN:X.N.Nodup)(hi:X.N[i]?=some x:=by rfl)(hx:Ab X.env.scope x:=by first|exact Or.inl rfl|exact Or.inr rfl)(hf:X.fn x=true\/X.env.scope.names.lookup x=some .local:=by first|exact .inl rfl|exact .inr rfl):Bx (PG X (.Name x pos) (t9 p (aq i))):=⟨Fg hN hi hx hf⟩
theorem mK  : Bx (xP X [] (vA p fv)):=⟨Ff⟩
theorem dX(h1:Bx (PG X e (t9 p g)))(h2:Bx (xP X es (vA p u)))(hs:(assignEach (e::es) X.env).map (·.2)=assign e X.env::(assignEach es X.env).map (·.2):=by rfl):Bx (xP X (e::es) (vA p (br g u))):=⟨De h1.h h2.h hs⟩
theorem mJ{k n:Nat}(h:Bx (xP X es (vA p u)))(hc:X.calm=true:=by rfl)(hn:(assignEach es X.env).length=n:=by rfl)(hst:(assignEach es X.env).findIdx? (·.1)=none:=by rfl)(hK:X.K=p.K:=by rfl):Bx (PG X (.Tuple es k pos) (t9 p (fu n u))):=⟨Iu hK hc h.h hn hst⟩
theorem zl{fo fi:ME}(ho:Bx (PE X a (tD p fo)))(hi:Bx (PE X b (tD p fi)))(ha:∀v,assign (.Subscript a b pos) X.env v=(do
   let ov <- holding [v] (eval a X.env)
   let iv <- holding [v,ov] (eval b X.env)
   standAt pos
   holding [v,ov,iv] (setItem ov iv v)
   release [v,ov,iv] []):=by intro _;rfl):Bx (PG X (.Subscript a b pos) (t9 p (oZ fo fi))):=⟨Iv ho.h hi.h ha⟩
variable{ifs:List Expr}{scope:Scope}{Nc:List Str}{cap:List (Option Nat)}{tt:MT}{te:ME}
theorem dh(S:cR X.N X.env scope Nc cap)(hi:Bx (PI X tg iter (z8 p fi)))(hg:∀cl C s H fp,Bx (PG (kx X Nc scope cl C s H fp) tg (t9 p.nx g)))(ht:∀cl C s H fp,Bx (xK (kx X Nc scope cl C s H fp) ifs (iO p.nx tt)))(he:∀cl C s H fp,Bx (PE (kx X Nc scope cl C s H fp) elt (tD p.nx te)))(hc:X.calm=true:=by rfl)(hs:∀x,foldedSetIterable iter X.env x=pure x:=by intro _;rfl):Bx (PE X (.ListComp elt [⟨tg,iter,ifs,0⟩] scope pos) (tD p (cA fi cap g tt te))):=⟨Fj hc S hi.h (fun cl C s H fp=>(hg cl C s H fp).h) (fun cl C s H fp=>(ht cl C s H fp).h) (fun cl C s H fp=>(he cl C s H fp).h) hs⟩
variable{mb:MB}{cl0:Comprehension}{rest:List Comprehension}{d:Nat}{acc:Addr}
variable{fs gs:MS}{st:Stmt}{sts A B body:List Stmt}
theorem bF(i:Nat){x:Str}{pos':Pos}(hN:X.N.Nodup)(he:Bx (PE X e (tD p f)))(hi:X.N[i]?=some x:=by rfl)(hx:Ab X.env.scope x:=by first|exact Or.inl rfl|exact Or.inr rfl)(hs:swapsWith e (some (.Name x pos')) pos.line X.env=pure false:=by rfl)(hf:X.fn x=true\/X.env.scope.names.lookup x=some .local:=by first|exact .inl rfl|exact .inr rfl):Bx (PS X (.Assign [.Name x pos'] e pos) (iz p (bB f (aq i)))):=⟨Ic hN hi hx he.h hs hf⟩
theorem yc(i:Nat){x:Str}{pos1 pos2:Pos}(hN:X.N.Nodup)(S:cR X.N X.env scope Nc cap)(hi:Bx (PI X tg iter (z8 p fi)))(hg:∀cl C s H fp,Bx (PG (kx X Nc scope cl C s H fp) tg (t9 p.nx g)))(ht:∀cl C s H fp,Bx (xK (kx X Nc scope cl C s H fp) ifs (iO p.nx tt)))(he:∀cl C s H fp,Bx (PE (kx X Nc scope cl C s H fp) elt (tD p.nx te)))(hix:X.N[i]?=some x:=by rfl)(hx:X.env.scope.names.lookup x=some .local:=by rfl)(hc:X.calm=true:=by rfl)(hsw:swapsWith (.ListComp elt [⟨tg,iter,ifs,0⟩] scope pos) (some (.Name x pos1)) pos2.line X.env=pure true:=by rfl)(hs:∀x,foldedSetIterable iter X.env x=pure x:=by intro _;rfl):Bx (PS X (.Assign [.Name x pos1] (.ListComp elt [⟨tg,iter,ifs,0⟩] scope pos) pos2) (iz p (bB (cA fi cap g tt te) (aq i)))):=⟨EY hc hN hix hx S hi.h (fun cl C s H fp=>(hg cl C s H fp).h) (fun cl C s H fp=>(ht cl C s H fp).h) (fun cl C s H fp=>(he cl C s H fp).h) hsw hs⟩
theorem mG(he:Bx (PE X e (tD p f)))(hg:Bx (PG X tg (t9 p g)))(hs:swapsWithSole [tg] e pos.line X.env=pure false:=by rfl)(hw:swappedStores [tg] e X.env=pure none:=by rfl)(h1:(assignEach [tg] X.env).map (·.2)=[assign tg X.env]:=by rfl):Bx (PS X (.Assign [tg] e pos) (iz p (bB f g))):=⟨Ik he.h hg.h hs hw h1⟩
theorem ug(he:Bx (PE X e (tD p f)))(hs:swapsWith e none pos.line X.env=pure false:=by rfl):Bx (PS X (.Expr e pos) (iz p (qE f))):=⟨EZ he.h hs⟩
theorem oY(hp:PassesOwn (model X.prog X.w) X.A X.env X.xe)(hi:Bx (PI X tg iter (z8 p fi)))(hg:Bx (PG X tg (t9 p g)))(hb:Bx (jt X body (iz p fs)))(hc:X.calm=true:=by rfl)(hs:∀x,foldedSetIterable iter X.env x=pure x:=by intro _;rfl):Bx (PS X (.For tg iter body [] pos) (iz p (pH fi g fs))):=⟨Ii hp hc hi.h hg.h hb.h hs⟩
theorem Fm(n:Nat)(hp:PassesOwn (model X.prog X.w) X.A X.env X.xe)(hc:Bx (PT X c (iO p ft)))(hb:Bx (jt X body (iz p fs))):Bx (PS X (.While c body [] pos) (iz p (uh n ft fs))):=⟨C4 hp hc.h hb.h⟩
end
section
variable{X:Cx}{p:Pa}{a b c e:Expr}{es rest:List Expr}{fa fb f:ME}{fr:MA}{ft gt:MT}{pos:Pos}{fs gs:MS}{st:Stmt}{sts A B:List Stmt}
theorem GP(ha:Bx (PE X a (tD p fa))):Bx (PE X (.UnaryOp .Not a pos) (tD p (vX fa))):=⟨Iz ha.h⟩
theorem iT(ha:Bx (PE X a (tD p fa)))(hb:Bx (PE X (.BoolOp .And (b::rest) pos) (tD p fb))):Bx (PE X (.BoolOp .And (a::b::rest) pos) (tD p (fK fa fb))):=⟨IF ha.h hb.h⟩
theorem MK(hc:Bx (PT X c (iO p ft)))(ha:Bx (PE X a (tD p fa)))(hb:Bx (PE X b (tD p fb))):Bx (PE X (.IfExp c a b pos) (tD p (Mp ft fa fb))):=⟨LF hc.h ha.h hb.h⟩
theorem bw{k:Nat}(h:Bx (PA X es (mC p fr))):Bx (PE X (.Tuple es k pos) (tD p (bE fr))):=⟨Iy h.h⟩
theorem iu(h:Bx (PA X es (mC p fr))):Bx (PE X (.List es pos) (tD p (iS fr))):=⟨IA h.h⟩
theorem Lc:Bx (PE X (.Dict [] [] pos) (tD p Ey)):=⟨ID⟩
theorem mM:Bx (PO X none (GM p En)):=⟨Fc⟩
theorem jT(h:Bx (PE X e (tD p f))):Bx (PO X (some e) (GM p (kH f))):=⟨Fb h.h⟩
theorem dZ(ha:Bx (PT X a (iO p ft))):Bx (PT X (.UnaryOp .Not a pos) (iO p (cD ft))):=⟨HY ha.h⟩
theorem lW(h:Bx (PW X e (iO p ft))):Bx (PT X e (iO p ft)):=⟨h.h.pt⟩
theorem kE:Bx (xK X [] (iO p cg)):=⟨EV⟩
theorem jB(h:Bx (PT X c (iO p ft))):Bx (xK X [c] (iO p ft)):=⟨EU h.h⟩
theorem eC:Bx (jt X [] (iz p cZ)):=⟨Ih⟩
theorem aL(h1:Bx (PS X st (iz p fs)))(h2:Bx (jt X sts (iz p gs))):Bx (jt X (st::sts) (iz p (bf fs gs))):=⟨E2 h1.h h2.h⟩
theorem a9(h1:Bx (PS X st (iz p fs))):Bx (jt X [st] (iz p fs)):=⟨Ig h1.h⟩
theorem bu(h:Bx (PE X e (tD p f))):Bx (PS X (.Return (some e) pos) (iz p (bV f))):=⟨Ie h.h⟩
theorem iR(hc:Bx (PT X c (iO p ft)))(ha:Bx (jt X A (iz p fs)))(hb:Bx (jt X B (iz p gs))):Bx (PS X (.If c A B pos) (iz p (mD ft fs gs))):=⟨Lz hc.h ha.h hb.h⟩
end
theorem dj{P:Program}{w:World}{K:W.Frag}{mg:Str->Option Value}{base:Heap}{p:Pa}{k n:Nat}{x qual:Str}{st:Stmt}{f:Addr}{fd:FuncData}{N ps:List Str}{fb:MS}
  (F:h7 K x qual st f fd) (S:aV N ps (au st)) (hn:ps.length=n) (hm:mg x=some (.ref f)) (hb:ix K fd ps [])
  (body : ∀ (cdv : Value) (A : Around) (outer : List Env) (s : Shared) (H : Hp) (E : XK), gr k (A.deeper (envOfC qual (au st) s.heap.objs.size f cdv)) ->
   Bx (jt (qx xQ P w K mg base N qual (au st) f cdv A outer s H E).nox (cG st) (iz p fb))):dY P w K mg base p (k+1) x n (iH n N.length fb):=
 Ko F S hn hm hb fun cdv A outer s H E hr=>(body cdv A outer s H E hr).h
end L2
namespace L2
open PySem RS
section
variable{ρ:Ro}{μ:aB}{fa fb fc fd f:ME}{fr:MA}{ft gt:MT}{op o1 o2 o3:D->D->aB->aj D}{fs gs:MS}{g:MG}
@[simp] theorem ah {d:D}{r:Ro}:ai 0 (some d::r) μ=.ok d μ:=Sa (Sb _)
@[simp] theorem ak {i:Nat}{x:Option D}{r:Ro}:ai (i+1) (x::r) μ=ai i r μ:=Sa (Sb _)
@[simp] theorem bc {d:D}:cC d ρ μ=.ok d μ:=Sa (Sb _)
@[simp] theorem aH:aA op fa fb ρ μ=(fa ρ μ).bind fun a μ1=>(fb ρ μ1).bind fun b μ2=>op a b μ2:=Sa (Sb _)
@[simp] theorem iW {o:D->aB->aj D}:ky o fa ρ μ=(fa ρ μ).bind fun a μ1=>o a μ1:=Sa (Sb _)
@[simp] theorem aw:aD ρ μ=.ok [] μ:=Sa (Sb _)
@[simp] theorem ar:ag fa fr ρ μ=(fa ρ μ).bind fun a μ1=>(fr ρ μ1).bind fun r μ2=>.ok (a::r) μ2:=Sa (Sb _)
@[simp] theorem az {F:List D->aB->aj D}:aI F fr ρ μ=(fr ρ μ).bind F:=Sa (Sb _)
@[simp] theorem cM:bE fr ρ μ=(fr ρ μ).bind fun ds μ=>if ds.length<=sizeLine then .ok (.tup ds) μ else .bad:=Sa (Sb _)
@[simp] theorem eK:iS fr ρ μ=(fr ρ μ).bind fun ds μ=>if ds.length<=sizeLine then .ok (.obj μ.length) (μ++[.lst ds]) else .bad:=Sa (Sb _)
@[simp] theorem aX {b:Bool}:ze (.bl b) μ=.ok b μ:=Sa (Sb _)
@[simp] theorem cB:i8 f ρ μ=(f ρ μ).bind ze:=Sa (Sb _)
@[simp] theorem mW:qK ft gt ρ μ=(ft ρ μ).bind fun b μ1=>if b=true then gt ρ μ1 else .ok false μ1:=Sa (Sb _)
@[simp] theorem iX:ja ft gt ρ μ=(ft ρ μ).bind fun b μ1=>if b=true then .ok true μ1 else gt ρ μ1:=Sa (Sb _)
@[simp] theorem dm:cD ft ρ μ=(ft ρ μ).bind fun b μ1=>.ok (!b) μ1:=Sa (Sb _)
@[simp] theorem cX:fK fa fb ρ μ=(fa ρ μ).bind fun a μ1=>(ze a μ1).bind fun b μ2=>if b=true then fb ρ μ2 else .ok (.bl false) μ2:=Sa (Sb _)
@[simp] theorem zU:vX f ρ μ=(f ρ μ).bind fun a μ1=>(ze a μ1).bind fun b μ2=>.ok (.bl (!b)) μ2:=Sa (Sb _)
@[simp] theorem L9:Mp ft fa fb ρ μ=(ft ρ μ).bind fun b μ1=>if b=true then fa ρ μ1 else fb ρ μ1:=Sa (Sb _)
@[simp] theorem w9:kM o1 o2 fa fb fc ρ μ=(fa ρ μ).bind fun a μ1=>(fb ρ μ1).bind fun b μ2=>(o1 a b μ2).bind fun z μ3=>(ze z μ3).bind fun k μ4=>
 if k=true then (fc ρ μ4).bind fun c μ5=>o2 b c μ5 else .ok (.bl false) μ4:=Sa (Sb _)
@[simp] theorem Kv:qp o1 o2 o3 fa fb fc fd ρ μ=(fa ρ μ).bind fun a μ1=>(fb ρ μ1).bind fun b μ2=>(o1 a b μ2).bind fun z μ3=>(ze z μ3).bind fun k μ4=>
 if k=true then (fc ρ μ4).bind fun c μ5=>(o2 b c μ5).bind fun z2 μ6=>(ze z2 μ6).bind fun k2 μ7=>if k2=true then (fd ρ μ7).bind fun d μ8=>o3 c d μ8 else .ok (.bl false) μ7 else .ok (.bl false) μ4:=Sa (Sb _)
@[simp] theorem eJ:eA f ρ μ=(f ρ μ).bind xS:=Sa (Sb _)
@[simp] theorem dG {b:Bool}:xS (.bl b) μ=.ok b μ:=Sa (Sb _)
@[simp] theorem zo {fl fh:MO}:Ej fa fl fh ρ μ=(fa ρ μ).bind fun a μ1=>(fl ρ μ1).bind fun lo μ2=>(fh ρ μ2).bind fun hi μ3=>Bv a lo hi μ3:=Sa (Sb _)
@[simp] theorem yl:En ρ μ=.ok none μ:=Sa (Sb _)
@[simp] theorem ni:kH f ρ μ=(f ρ μ).bind KC:=Sa (Sb _)
@[simp] theorem yn {i:Int}:KC (.int i) μ=.ok (some i) μ:=Sa (Sb _)
@[simp] theorem Kg:Ey ρ μ=.ok (.obj μ.length) (μ++[.dic]):=Sa (Sb _)
@[simp] theorem vT {F:D->List D->aB->aj D}{fo:ME}:Bw F fo fr ρ μ=(fo ρ μ).bind fun o μ1=>if Bu o μ1=true then (fr ρ μ1).bind fun ds μ2=>F o ds μ2 else .bad:=Sa (Sb _)
@[simp] theorem bb:bV f ρ μ=(f ρ μ).bindS fun d μ'=>.ret d μ':=Sa (Sb _)
@[simp] theorem bY:cZ ρ μ=.next ρ μ:=Sa (Sb _)
@[simp] theorem aF:bf fs gs ρ μ=(fs ρ μ).bind gs:=Sa (Sb _)
@[simp] theorem bW:mD ft fs gs ρ μ=(ft ρ μ).bindS fun b μ1=>if b=true then fs ρ μ1 else gs ρ μ1:=Sa (Sb _)
@[simp] theorem aQ:bB f g ρ μ=(f ρ μ).bindS fun d μ1=>(g d ρ μ1).bindS fun ρ' μ2=>.next ρ' μ2:=Sa (Sb _)
@[simp] theorem mV:qE f ρ μ=(f ρ μ).bindS fun _ μ1=>.next ρ μ1:=Sa (Sb _)
@[simp] theorem aC {g:MS}:(SO.next ρ μ).bind g=g ρ μ:=Sa (Sb _)
@[simp] theorem qN {d:D}{g:MS}:(SO.ret d μ).bind g=.ret d μ:=Sa (Sb _)
@[simp] theorem zK {g:MS}:(SO.next ρ μ).loop g=g ρ μ:=Sa (Sb _)
@[simp] theorem Ny {d:D}{g:MS}:(SO.ret d μ).loop g=.ret d μ:=Sa (Sb _)
@[simp] theorem aU {d:D}:(SO.ret d μ).out=.ok d μ:=Sa (Sb _)
@[simp] theorem DF:(SO.next ρ μ).out=.ok .non μ:=Sa (Sb _)
@[simp] theorem bp {i:Nat}{d:D}:aq i d ρ μ=.ok (ρ.set i (some d)) μ:=Sa (Sb _)
@[simp] theorem qo {fo fi:ME}{d:D}:oZ fo fi d ρ μ=(fo ρ μ).bind fun o μ1=>(fi ρ μ1).bind fun i μ2=>(Ad o i d μ2).bind fun _ μ3=>.ok ρ μ3:=Sa (Sb _)
@[simp] theorem Gx {n:Nat}{u:Es}{xs:List D}:fu n u (.tup xs) ρ μ=if xs.length=n then u xs ρ μ else .bad:=Sa (Sb _)
@[simp] theorem Gy:fv [] ρ μ=.ok ρ μ:=Sa (Sb _)
@[simp] theorem D2 {u:Es}{d:D}{r:List D}:br g u (d::r) ρ μ=(g d ρ μ).bind fun ρ' μ'=>u r ρ' μ':=Sa (Sb _)
@[simp] theorem l6 {fi:MI}:pH fi g fs ρ μ=(fi ρ μ).bindS fun src μ1=>iB src g fs src.items ρ μ1:=Sa (Sb _)
@[simp] theorem cF:fB f ρ μ=(f ρ μ).bind vB:=Sa (Sb _)
@[simp] theorem ic {F:List D->aB->aj su}:nP F fr ρ μ=(fr ρ μ).bind F:=Sa (Sb _)
@[simp] theorem fS {xs:List D}:vB (.tup xs) μ=.ok (.fix xs) μ:=Sa (Sb _)
@[simp] theorem bZ {fi:MI}{cap:List (Option Nat)}:cA fi cap g ft f ρ μ=(fi ρ μ).bind fun src μ1=>compLoop src μ1.length g ft f src.items (fH cap ρ) (μ1++[.lst []]):=Sa (Sb _)
@[simp] theorem bo {xs:List D}:(su.fix xs).items=xs:=Sa (Sb _)
@[simp] theorem gY {n:Nat}{xs:List D}:(su.own n xs).items=xs:=Sa (Sb _)
@[simp] theorem uQ:fH [] ρ=[]:=Sa (Sb _)
@[simp] theorem rB {r:List (Option Nat)}:fH (none::r) ρ=none::fH r ρ:=Sa (Sb _)
@[simp] theorem Ml {r:List (Option Nat)}{j:Nat}:fH (some j::r) ρ=(ρ[j]?).join::fH r ρ:=Sa (Sb _)
theorem fE{N:Nat}{a:D}:iH 1 N fs [a] μ=p6 μ (fs (some a::List.replicate (N-1) none) μ).out:=Ob rfl
theorem bK{N:Nat}{a b:D}:iH 2 N fs [a,b] μ=p6 μ (fs (some a::some b::List.replicate (N-2) none) μ).out:=Ob rfl
theorem nW{N:Nat}{a b c:D}:iH 3 N fs [a,b,c] μ=p6 μ (fs (some a::some b::some c::List.replicate (N-3) none) μ).out:=Ob rfl
@[simp] theorem ie {op:CmpOp}{i j:Int}:fC op (.int i) (.int j) μ=.ok (.bl (cL op i j)) μ:=Sa (Sb _)
@[simp] theorem ig {i j:Int}:cQ (.int i) (.int j) μ=.ok (.int (i+j)) μ:=Sa (Sb _)
@[simp] theorem B3 {gg:Int->Int->D}{i j:Int}:dI gg (.int i) (.int j) μ=.ok (gg i j) μ:=Sa (Sb _)
@[simp] theorem nX {C:Int->Int->Prop}{gg:Int->Int->D}{i j:Int} (h:C i j):GN C gg (.int i) (.int j) μ=.ok (gg i j) μ:=by unfold GN;simp[h]
@[simp] theorem My {i j:Int} (h:vL i j):sA (.int i) (.int j) μ=.ok (.int (i*j)) μ:=by unfold sA;simp[h]
@[simp] theorem CJ {i:Int}:vC (.int i) μ=.ok (.int (-i)) μ:=Sa (Sb _)
@[simp] theorem gy {neg:Bool}{i j:Int}:iA neg (.int i) (.int j) μ=.ok (.bl (if neg then !(i == j) else i == j)) μ:=Sa (Sb _)
@[simp] theorem CL {neg:Bool}{i j:Bool}:iA neg (.bl i) (.bl j) μ=.ok (.bl (if neg then !(i == j) else i == j)) μ:=Sa (Sb _)
@[simp] theorem CK {neg:Bool}{a:D}:uc neg a .non μ=.ok (.bl (if neg then !a.isNon else a.isNon)) μ:=Sa (Sb _)
@[simp] theorem ly {xs:List D}:mE [.tup xs] μ=.ok (.int xs.length) μ:=Sa (Sb _)
@[simp] theorem zV {xs:List D}:mE [.frz xs] μ=.ok (.int xs.length) μ:=Sa (Sb _)
theorem jV{n:Nat}{xs:List D}(h:μ[n]?=some (.lst xs)):gX [.obj n] μ=.ok (.tup xs) μ:=by unfold gX;simp[h]
theorem iI{n:Nat}{bs:List Bool}(h:μ[n]?=some (.lst (bs.map D.bl))):nQ [.obj n] μ=.ok (.bl (bs.all id)) μ:=by unfold nQ;simp[h,Bn]
theorem fZ{xs:List D}{i:Int}{d:D}(h:atI xs i=some d):bR (.tup xs) (.int i) μ=.ok d μ:=by unfold bR;simp[h]
theorem Kf{xs:List D}{i:Int}{d:D}(h:atI xs i=some d):bR (.frz xs) (.int i) μ=.ok d μ:=by unfold bR;simp[h]
theorem eM{n:Nat}{xs:List D}{i:Int}{d:D}(hm:μ[n]?=some (.lst xs))(h:atI xs i=some d):bR (.obj n) (.int i) μ=.ok d μ:=by unfold bR;simp[hm,h]
theorem qm{n j:Nat}{xs:List D}{i:Int}{d:D}(hm:μ[n]?=some (.lst xs))(h:zc xs.length i=some j):Ad (.obj n) (.int i) d μ=.ok () (μ.set n (.lst (xs.set j d))):=by unfold Ad;simp[hm,h]
theorem jW{n:Nat}{xs:List D}(hm:μ[n]?=some (.lst xs)):vB (.obj n) μ=.ok (.own n xs) μ:=by unfold vB;simp[hm]
theorem jX{j:Int}(h0:0<=j)(h:j<1000):lX [.int j] μ=.ok (.fix (cm 0 j.toNat)) μ:=by
 unfold lX;dsimp only;rw[Ob];omega
theorem uO{i j:Int}(h0:0<=i)(h1:i<1000)(h2:-1000<=j)(h:j<1000):xW [.int i,.int j] μ=.ok (.fix (cm i (j-i).toNat)) μ:=by
 unfold xW;dsimp only;rw[Ob];omega
theorem o9{α:Type}{x:α}{r:List α}:atI (x::r) 0=some x:=by unfold atI zc;simp
theorem qL{α:Type}{x y:α}{r:List α}:atI (x::y::r) 1=some y:=jZ (j:=1) rfl
theorem Hl{α:Type}{x y z:α}{r:List α}:atI (x::y::z::r) 2=some z:=jZ (j:=2) rfl
@[simp] theorem cW {x:D}{r:List D}:bR (.tup (x::r)) (.int 0) μ=.ok x μ:=fZ o9
@[simp] theorem d4 {x y:D}{r:List D}:bR (.tup (x::y::r)) (.int 1) μ=.ok y μ:=fZ qL
theorem CW{α:Type}{xs:List α}{i:Int}{x:α}(h0:0<=i)(h:xs[i.toNat]?=some x):atI xs i=some x:=by
 have:=jZ h
 rwa [show ((i.toNat:Nat):Int)=i by omega]at this
theorem uk{n:Nat}{i:Int}(h0:0<=i)(h:i<n):zc n i=some i.toNat:=by unfold zc;simp[h0,h]
end
section
variable{μ g:aB}{d:D}
@[simp] theorem Gd {n:Nat}{i:Int}:(D.int i).low n=True:=by simp[D.low]
@[simp] theorem Nx {n:Nat}{i:Bool}:(D.bl i).low n=True:=by simp[D.low]
@[simp] theorem Mx {n:Nat}:D.non.low n=True:=by simp[D.low]
@[simp] theorem Mw {n:Nat}{x:Str}:(D.str x).low n=True:=by simp[D.low]
@[simp] theorem qi {n:Nat}{xs:List D}:(D.tup xs).low n=D.lows n xs:=by simp[D.low]
@[simp] theorem mR {n m:Nat}:(D.obj m).low n=(m<n):=by simp[D.low]
@[simp] theorem Mj {n:Nat}:D.lows n []=True:=by simp[D.lows]
@[simp] theorem Ku {n:Nat}{x:D}{xs:List D}:D.lows n (x::xs)=(x.low n/\D.lows n xs):=by simp[D.lows]
theorem iZ{n:Nat}:∀{xs:List D},D.lows n xs↔∀x∈xs,x.low n
 |[]=>by simp
 |x::xs=>by simp[iZ (xs:=xs)]
theorem eG(hd:d.low μ.length):p6 μ (.ok d (μ++g))=.ok d μ:=by
 unfold p6;dsimp only;rw[Ob]
 ·simp
 ·refine⟨hd,by simp,fun i o hi h=>.inl ?_⟩;rw[O9 hi]at h;exact h
theorem aM(hd:d.low μ.length):p6 μ (.ok d μ)=.ok d μ:=by
 have:=eG (μ:=μ) (g:=[]) hd;simpa using this
theorem CG{i:Nat}{o:O}(hd:d.low μ.length)(ho:o.low μ.length):p6 μ (.ok d (μ.set i o++g))=.ok d (μ.set i o):=by
 unfold p6;dsimp only;rw[Ob]
 ·congr 1;rw[Sr (by simp)];exact QH (by simp)
 ·refine ⟨hd, by simp, fun j o' hj h => ?_⟩;rw[O9 (by simpa using hj)]at h;by_cases hij:i=j
  ·subst hij;rw[Oy hj]at h;cases h;exact .inr ho
  ·rw[OA hij]at h;exact .inl h
theorem zR{i:Nat}{o:O}(hd:d.low μ.length)(ho:o.low μ.length):p6 μ (.ok d (μ.set i o))=.ok d (μ.set i o):=by
 have:=CG (μ:=μ) (g:=[]) (i:=i) hd ho;simpa using this
theorem zk{μ':aB}(h:¬ d.low μ.length):p6 μ (.ok d μ')=.ok d μ':=by
 unfold p6;dsimp only;rw[Oc fun z=>h z.1]
theorem CH{μ':aB}:p6 μ (.ok d μ')=.ok d μ'\/(p6 μ (.ok d μ')=.ok d (μ'.take μ.length)/\d.low μ.length):=by
 unfold p6;dsimp only;by_cases h:Hv μ μ' d
 ·rw[Ob h];exact .inr ⟨rfl,h.1⟩
 ·rw[Oc h];exact .inl rfl
end
theorem qY{μ1 g:aB}{a b:O}:(μ1++a::g).set μ1.length b=μ1++b::g:=by
 rw[List.set_append_right _ _ (OR _),Q2];rfl
theorem aE{μ1 g:aB}{a:O}:(μ1++a::g)[μ1.length]?=some a:=by
 rw[O7 (OR _),Q2];rfl
theorem om{μ1 g:aB}{ys:List D}{y:D}(h:ys.length<sizeLine):vO μ1.length y (μ1++.lst ys::g)=.ok () (μ1++.lst (ys++[y])::g):=by
 unfold vO;rw[aE];dsimp only;rw[Ob h,qY]
theorem eZ{src:su}{g:MG}{t:MT}{e:ME}{μ1:aB}{q:D->Bool}{h:D->D}(R:Ro->Prop)(ho:∀a,eD src (μ1++[.lst a])) :
  ∀{xs acc:List D}{ρ:Ro},R ρ->acc.length+xs.length<=sizeLine->(∀x∈xs,∀a ρ,R ρ->∃ρ1,R ρ1/\g x ρ (μ1++[.lst a])=.ok ρ1 (μ1++[.lst a])/\t ρ1 (μ1++[.lst a])=.ok (q x) (μ1++[.lst a])/\(q x=true->e ρ1 (μ1++[.lst a])=.ok (h x) (μ1++[.lst a]))) ->
   compLoop src μ1.length g t e xs ρ (μ1++[.lst acc])=.ok (.obj μ1.length) (μ1++[.lst (acc++(xs.filter q).map h)])
 |[],acc,ρ,hr,hl,he=>by
  unfold compLoop;rw[Ob (ho acc)];simp
 |x::xs,acc,ρ,hr,hl,he=>by
  obtain⟨ρ1,r1,e1,e2,e3⟩:=he x Oo acc ρ hr;unfold compLoop;rw[Ob (ho acc),e1];simp only[ae,aa];rw[e2];simp only[ae,aa];have he':=fun y hy=>he y (Oq _ hy);simp only[Qm]at hl;cases hq:q x with
  |false=>
   rw[Oc OK,eZ R ho r1 (by omega) he',Ss,hq];rfl
  |true=>
   rw[Ob rfl,e3 hq];simp only[ae,aa];rw[om (by omega)];simp only[aa];rw[eZ R ho r1 (by simp;omega) he',Ss,hq];simp
theorem jI{src:su}{g:MG}{t:MT}{e:ME}{n:Nat}(J:List D->List D->Ro->aB->aB->Prop)
  (fin:∀ys ρ μ1 s,J [] ys ρ μ1 s->μ1.length=n/\eD src (μ1++.lst ys::s))
  (step : ∀ x r ys ρ μ1 s, J (x :: r) ys ρ μ1 s -> μ1.length = n /\ eD src (μ1 ++ .lst ys :: s) /\ ∃ ρ1 μa sa b μb sb, g x ρ (μ1 ++ .lst ys :: s) = .ok ρ1 (μa ++ .lst ys :: sa) /\ t ρ1 (μa ++ .lst ys :: sa) = .ok b (μb ++ .lst ys :: sb) /\
   (b=true->∃y μc sc,e ρ1 (μb++.lst ys::sb)=.ok y (μc++.lst ys::sc)/\ys.length<sizeLine/\μc.length=n/\J r (ys++[y]) ρ1 μc sc)/\(b=false->J r ys ρ1 μb sb)) :
  ∀{xs ys:List D}{ρ:Ro}{μ1 s:aB},J xs ys ρ μ1 s->∃ys' ρ' μ1' s',J [] ys' ρ' μ1' s'/\compLoop src n g t e xs ρ (μ1++.lst ys::s)=.ok (.obj n) (μ1'++.lst ys'::s')
 |[],ys,ρ,μ1,s,hJ=>by
  refine⟨ys,ρ,μ1,s,hJ,?_⟩;unfold compLoop;rw[Ob (fin ys ρ μ1 s hJ).2]
 |x::xs,ys,ρ,μ1,s,hJ=>by
  obtain⟨hn,ho,ρ1,μa,sa,b,μb,sb,e1,e2,e3,e4⟩:=step x xs ys ρ μ1 s hJ;unfold compLoop;rw[Ob ho,e1];simp only[ae,aa];rw[e2];simp only[ae,aa];cases b with
  |false=>
   rw[Oc OK];exact jI J fin step (e4 rfl)
  |true=>
   obtain⟨y,μc,sc,f1,f2,f3,f4⟩:=e3 rfl;rw[Ob rfl,f1];simp only[ae,aa];subst f3;rw[om f2];simp only[aa];exact jI J fin step f4
theorem mU{src:su}{g:MG}{fb:MS}(J:List D->Ro->aB->Prop)(fin:∀ρ μ,J [] ρ μ->eD src μ)
  (step:∀x r ρ μ,J (x::r) ρ μ->eD src μ/\∃ρ1 μ1 ρ2 μ2,g x ρ μ=.ok ρ1 μ1/\fb ρ1 μ1=.next ρ2 μ2/\J r ρ2 μ2) :
  ∀{xs:List D}{ρ:Ro}{μ:aB},J xs ρ μ->∃ρ' μ',J [] ρ' μ'/\iB src g fb xs ρ μ=.next ρ' μ'
 |[],ρ,μ,h=>⟨ρ,μ,h,by unfold iB;rw[Ob (fin ρ μ h)]⟩
 |x::xs,ρ,μ,h=>by
  obtain⟨ho,ρ1,μ1,ρ2,μ2,e1,e2,h2⟩:=step x xs ρ μ h;obtain⟨ρ',μ',h3,e3⟩:=mU J fin step h2;refine⟨ρ',μ',h3,?_⟩;unfold iB;rw[Ob ho,e1];simp only[af];rw[e2];exact e3
end L2
namespace L2
open PySem PySem.Spec PyProof.Rows RS
theorem L8{P:Program}{w:World}{K:W.Frag}{mg:Str->Option Value}{base:Heap}{p:Pa}{k n:Nat}{x qual:Str}{st:Stmt}{f:Addr}{fd:FuncData}{N ps:List Str}{fb:MS}
  (F:h7 K x qual st f fd) (S:aV N ps (au st)) (hn:ps.length=n)
  (body : ∀ (cdv : Value) (A : Around) (outer : List Env) (s : Shared) (H : Hp) (E : XK), gr k (A.deeper (envOfC qual (au st) s.heap.objs.size f cdv)) ->
   Bx (jt (qx xQ P w K mg base N qual (au st) f cdv A outer s H E).nox (cG st) (iz p fb))):qB P w K mg base xQ (k+1) f fd ps (Ef p n (iH n N.length fb)):=by
 refine F.ok S (fun vs H Q E h=>h.1.trans hn.symm) fun cdv A outer s H vs Q E hr h=>?_;refine⟨_,(body cdv A outer s H E hr).h,?_⟩;obtain⟨hl,α,ds,μ,S1,R1,P1⟩:=h;unfold iH at P1;have hd:ds.length=n:=by rw[<- R1.length];exact hl
 rw[Ob hd]at P1;have P2:=qk S1 P1;unfold start;rw[hl];refine⟨α,_,μ,S1,j9 R1 _,?_⟩;cases e:fb (ds.map some++List.replicate (N.length-n) none) μ with
 |ret d μ'=>rw[e]at P2;exact fun H' α' v x s r=>P2 H' α' x s v r
 |next ρ μ'=>rw[e]at P2;exact fun H' α' σ' x s r=>P2 H' α' x s .non (bH.mpr rfl)
 |exc x μ'=>rw[e]at P2;exact P2
 |brk ρ μ'=>rw[e]at P2;exact P2.elim
 |cnt ρ μ'=>rw[e]at P2;exact P2.elim
 |bad=>rw[e]at P2;exact P2.elim
theorem tf{K:W.Frag}{H:Hp}{α:List Addr}:∀ns:List Int,Reps K H α (ns.map D.int) (ns.map V.int)
 |[]=>by simp only[PL,Reps]
 |n::ns=>by
  simp only[PM,Reps];exact⟨_,_,rfl,av.mpr rfl,tf ns⟩
theorem DQ{K:W.Frag}{w:World}{F:List D->aB->aj D}{H:Hp}{a:Addr}{ns:List Int}{E:XK}(hF:∃μ',F [.frz (ns.map D.int)] []=.ok (.bl true) μ')(hO:Ez H)(hS:gu K H a (ns.map V.int)) :
  Ef (dW K w) 1 F [.ref a] H (fun v _=>v=.bl true) E:=by
 obtain⟨μ',e⟩:=hF
 have fz:GO K H a (ns.map V.int):=by
  rcases hS with (h|h)|h
  ·rcases hO a with z | ⟨o, xs, z⟩
   ·rw[h]at z;cases z
   ·rw[h]at z;cases z
  ·exact .inl h
  ·exact .inr h
 refine⟨rfl,[],[.frz (ns.map D.int)],[],⟨rfl,Q0,fun n o a h=>by simp at h⟩,?_,?_⟩
 ·simp only[Reps];exact⟨_,_,rfl,bx.mpr ⟨a,_,rfl,fz,tf ns⟩,rfl⟩
 ·rw[e];exact fun H' α' x s v r=>aW.mp r
end L2
namespace L2
open PySem PySem.Spec PyProof.Rows RS
section
variable{X:Cx}{p:Pa}
def um:D->Bool
 |.tup _=>true
 |.frz _=>true
 |.obj _=>true
 |_=>false
theorem yS{K:W.Frag}{H:Hp}{α:List Addr}{d:D}{v:V}(h:um d=true)(r:aS K H α d v):∃a,v=.ref a:=by
 cases d with
 |tup xs=>obtain⟨a,us,rfl,_⟩:=aO.mp r;exact⟨a,rfl⟩
 |frz xs=>obtain⟨a,us,rfl,_⟩:=bx.mp r;exact⟨a,rfl⟩
 |obj n=>obtain⟨a,rfl,_⟩:=aT.mp r;exact⟨a,rfl⟩
 |_=>cases h
theorem sF:seqSlot? (.type "list") (dunderI "add")=pure (some (.builtin "list.__iadd__")):=PySem.seqSlot_of Su.lookup (by decide +kernel)
theorem mv {M:Model}{A:Around}{E:Value->Shared->Prop}{s:Shared}{a b:Value}{Q:Value->Shared->Prop} (ha:s.TypeIs a "list") (hb:s.TypeIs b "list")
  (hc:wpAny M A (call (.builtin "list.__iadd__") [a,b]) Q E s):wpAny M A (inplaceOp .Add a b) Q E s:=by
 unfold inplaceOp;refine OH ?_
 have hfi:fillsInplaceSlot (.type "list") "add" (Operator.Add == .Add)=pure false:=by
  unfold fillsInplaceSlot;show (typeLookup (.type "list") (dunderI "add") >>= fun fi=>pure (fi.isSome && !isSeqSlot fi))=pure false;rw[Su.lookup];rfl
 refine OG (PF ha (OG (Rt hfi ?_)));show wpAny M A (if false=true then _ else _) Q E s;rw[Oc OK];refine OG (wpAny_binaryOp1_none (nm:="add") ha hb noFill_list_add ?_);refine OG (Rt sF ?_);exact OG (Qu hc)
def G4:KE:=fun x y H Q=>(∃i j,x=.int i/\y=.int j/\Q (.int (i+j)) H) \/
 ∃l b xs zs,x=.ref l/\y=.ref b/\H l=some (.lst xs)/\H b=some (.lst zs)/\xs.length+zs.length<=sizeLine/\Q (.ref l) (dg H l (.lst (xs++zs)))
theorem Gj:Ms X .Add G4:=by
 intro pins s σ H x y v u Q I r1 r2 h;rcases h with h|h
 ·exact JZ pins s σ H x y v u Q I r1 r2 h
 ·obtain ⟨l, b, xs, zs, rfl, rfl, hH, hB, hz, q⟩ := h;cases r1;cases r2;obtain⟨z,its,n,r,hl,e⟩:=I.lstM hH;obtain⟨z2,its2,n2,r2,hl2,e2⟩:=I.lstM hB;have hsz:its.toArray.size+its2.toArray.size<=sizeLine:=by rw[OX,OX];omega
  have hlong:¬ (!its.toArray.isEmpty&&Builtin.List.listTooLong (its.toArray.size+its2.toArray.size))=true:=by
   rw[rm hsz,Qe];exact OK
  refine mv ⟨_,e,rfl⟩ ⟨_,e2,rfl⟩ ?_
  refine Qc Su ⟨_,e,rfl⟩ F.entry_list_iadd (F.args_list_iadd_2 _ _)
   (AutoSeq1.list___iadd___list_list_0 l its.toArray n b its2.toArray n2 hlong (by rw[OX];omega) (by omega)) ⟨e,e2,?_⟩
  refine⟨.ref l,_,I.lset (its':=its++its2) hH e (by simp) (r.append r2) ?_,rfl,q⟩;rw[Pe];omega
def qG(a b:D)(μ:aB):aj D:=match a,b with
 |.int i,.int j=>.ok (.int (i+j)) μ
 |.obj m,.obj n=>match μ[m]?,μ[n]? with
  |some (.lst xs),some (.lst ys)=>if xs.length+ys.length<=sizeLine then .ok (.obj m) (μ.set m (.lst (xs++ys))) else .bad
  |_,_=>.bad
 |_,_=>.bad
theorem F4:oW p qG G4:=by
 intro a b v y H α μ Q S ra rb P;unfold qG at P;split at P
 ·rename_i i j;obtain rfl:=av.mp ra;obtain rfl:=av.mp rb;exact .inl ⟨i,j,rfl,rfl,P.now S _ (av.mpr rfl)⟩
 ·rename_i m n;split at P
  ·rename_i xs ys hx hy;split at P
   ·rename_i hb;obtain⟨a,us,rfl,a1,h1,rr⟩:=cS S ra hx;obtain⟨a',us',rfl,a1',h1',rr'⟩:=cS S rb hy;have q:=rr.append rr';exact .inr ⟨a,a',us,us',rfl,rfl,h1,h1',by rw[rr.length,rr'.length];exact hb,P _ _ (jf h1) (S.put hx a1 h1 q) _ (aT.mpr ⟨a,rfl,a1⟩)⟩
   ·exact P.elim
  ·exact P.elim
 ·exact P.elim
theorem GV{e:Expr}{f:ME}{pos pos':Pos}(i:Nat){x:Str}(hN:X.N.Nodup)(he:Bx (PE X e (tD p f)))(hi:X.N[i]?=some x:=by rfl)(hx:Ab X.env.scope x:=by first|exact Or.inl rfl|exact Or.inr rfl)(hf:X.fn x=true\/X.env.scope.names.lookup x=some .local:=by first|exact .inl rfl|exact .inr rfl) :
  Bx (PS X (.AugAssign (.Name x pos') .Add e pos) (iz p (xV i qG f))):=⟨Ij hN hi hx he.h Gj F4 hf⟩
def iJ(d:D)(ds:List D)(μ:aB):aj D:=match d,ds with
 |.obj m,[.obj n]=>match μ[m]?,μ[n]? with
  |some (.lst xs),some (.lst ys)=>if xs.length+ys.length<=sizeLine then .ok .non (μ.set m (.lst (xs++ys))) else .bad
  |_,_=>.bad
 |_,_=>.bad
theorem F7:KH p iJ zD:=by
 intro d ds v vs H α μ Q S rd rs P;unfold iJ at P;split at P
 ·rename_i m n;split at P
  ·rename_i xs ys hx hy;split at P
   ·rename_i hb;obtain⟨a,us,rfl,a1,h1,rr⟩:=cS S rd hx;obtain⟨w,rfl,rw'⟩:=rs.one;obtain⟨a',us',rfl,a1',h1',rr'⟩:=cS S rw' hy;have q:=rr.append rr';exact⟨a,a',us,us',rfl,rfl,h1,h1',by rw[rr.length,rr'.length];exact hb,P _ _ (jf h1) (S.put hx a1 h1 q) _ (bH.mpr rfl)⟩
   ·exact P.elim
  ·exact P.elim
 ·exact P.elim
def Aj(neg:Bool)(a b:D)(μ:aB):aj D:=match a,b with
 |.str x,.str y=>.ok (.bl (if neg then !decide (x=y) else decide (x=y))) μ
 |_,_=>.bad
theorem EW{x y:Str}:decide (V.str x=V.str y)=decide (x=y):=by
 by_cases e:x=y
 ·subst e;simp
 ·rw[N8 e,N8];intro z;cases z;exact e rfl
theorem Jy:oW p (Aj true) MC:=by
 intro a b v y H α μ Q S ra rb P;unfold Aj at P;split at P
 ·rename_i x z;obtain rfl:=bq.mp ra;obtain rfl:=bq.mp rb;exact⟨rfl,by rw[EW];exact P.now S _ (aW.mpr rfl)⟩
 ·exact P.elim
theorem LY:kD X p .NotEq (Aj true):=⟨MC,LS,Jy⟩
end
end L2
namespace L2
open PySem PySem.W PyProof.Rows RS
section
variable{prog:Program}{w:World}{A:Around}{E:Value->Shared->Prop}
theorem Ka{id:String}{b:Builtin}{us:List Value}{kw:List (Str×Value)}{Q:Value->Shared->Prop}{s:Shared}(h1:builtinKind id=none)(h2:plainId id=true)(h3:entryFor table id=some b)(h4:argsOk id ⟨us,kw⟩)
  (go : wpAny (model prog w) A.in1 (b ⟨us, kw⟩) (fun fin s' => match fin with
   |.done f=>(match (Except.ok f:Result) with | .ok (.ret v)=>Q v s' | .ok _=>False | .error e=>E e s')
   |.again c=>c.quiet=true/\codeAny (model prog w) A c (fun r s'=>match r with | .ok (.ret v)=>Q v s' | .ok _=>False | .error e=>E e s') s') E s):wpAny (model prog w) A (call (.builtin id) us kw) Q E s:=by
 refine OZ (Rx h2 h3 ?_);simp only[checkBuiltinCall,h1];cases z:Manifest.signature? id with
 |none=>exact OM go
 |some sg=>
  have z2:Bind.checkArgs id sg ⟨us,kw⟩=pure ():=by simpa only[argsOk,z] using h4
  simp only[z2];exact OM go
def K8 (vs:Array Value) (c:Nat):Obj:={cls:=.type "list",dict:=none,data:=.seq vs c,slots:=#[]}
abbrev Kp(s0:Shared)(h:Heap):Prop:=∀b ob,s0.heap.get? b=some ob->h.get? b=some ob
end
section
variable{X:Cx}
theorem qg{h:Heap}{a:Addr}(k:h.objs.size<=a):h.get? a=none:=by
 cases e:h.get? a with
 |none=>rfl
 |some o=>exact absurd (Oe e) (Nat.not_lt.mpr k)
end
theorem NP{α:Type}{P:List α->Prop}(h:∀a,P [a]):∀us:List α,us.length=1->P us
 |[a],_=>h a
theorem NO{α:Type}{P:List α->Prop}(h:∀a b,P [a,b]):∀us:List α,us.length=2->P us
 |[a,b],_=>h a b
theorem NN{α:Type}{P:List α->Prop}(h:∀a b c,P [a,b,c]):∀us:List α,us.length=3->P us
 |[a,b,c],_=>h a b c
theorem h7.b1{K:W.Frag}{x qual:Str}{st:Stmt}{f:Addr}{fd:FuncData}{ps:List Str}(F:h7 K x qual st f fd)(hl:ps.length=1)(h:∀(kV doc pm:Value)(an:Option Addr)(cdv ct a:Value),bindArgs (W.fnOf x qual (eY st) (cG st) (au st) .none kV doc pm an cdv ct) ⟨[a],[]⟩=pure (ps.zip [a])):ix K fd ps []:=
 F.binds fun kV doc pm an cdv ct us e=>NP (P:=fun us=>bindArgs (W.fnOf x qual (eY st) (cG st) (au st) .none kV doc pm an cdv ct) ⟨us,[]⟩=pure (ps.zip us)) (fun a=>h kV doc pm an cdv ct a) us (e.trans hl)
theorem h7.b2{K:W.Frag}{x qual:Str}{st:Stmt}{f:Addr}{fd:FuncData}{ps:List Str}(F:h7 K x qual st f fd)(hl:ps.length=2)(h:∀(kV doc pm:Value)(an:Option Addr)(cdv ct a b:Value),bindArgs (W.fnOf x qual (eY st) (cG st) (au st) .none kV doc pm an cdv ct) ⟨[a,b],[]⟩=pure (ps.zip [a,b])):ix K fd ps []:=
 F.binds fun kV doc pm an cdv ct us e=>NO (P:=fun us=>bindArgs (W.fnOf x qual (eY st) (cG st) (au st) .none kV doc pm an cdv ct) ⟨us,[]⟩=pure (ps.zip us)) (fun a b=>h kV doc pm an cdv ct a b) us (e.trans hl)
theorem h7.b3{K:W.Frag}{x qual:Str}{st:Stmt}{f:Addr}{fd:FuncData}{ps:List Str}(F:h7 K x qual st f fd)(hl:ps.length=3)(h:∀(kV doc pm:Value)(an:Option Addr)(cdv ct a b c:Value),bindArgs (W.fnOf x qual (eY st) (cG st) (au st) .none kV doc pm an cdv ct) ⟨[a,b,c],[]⟩=pure (ps.zip [a,b,c])):ix K fd ps []:=
 F.binds fun kV doc pm an cdv ct us e=>NN (P:=fun us=>bindArgs (W.fnOf x qual (eY st) (cG st) (au st) .none kV doc pm an cdv ct) ⟨us,[]⟩=pure (ps.zip us)) (fun a b c=>h kV doc pm an cdv ct a b c) us (e.trans hl)
end L2
namespace L2
open PySem PySem.Spec PyProof.Rows RS
section
variable{X:Cx}{d:Nat}{acc:Addr}
variable{e:Expr}{cl0:Comprehension}{rest:List Comprehension}{scope:Scope}{Nc:List Str}{cap:List (Option Nat)}{wi:TI}{g:TG}{tt:TT}{tb:Addr->Ho}{elt:Expr}{pos:Pos}
end
section
variable{K:W.Frag}{w:World}{H:Hp}{α:List Addr}{μ:aB}
end
section
variable{p:Pa}
variable{X:Cx}{elt tg iter:Expr}{ifs:List Expr}{rest:List Comprehension}{scope:Scope}{Nc:List Str}{cap:List (Option Nat)}{fi:MI}{g:MG}{tt:MT}{te:ME}{mb:MB}{pos:Pos}{d:Nat}{acc:Addr}
end
theorem AJ(its:List Value):slicePick its.toArray none none (some (-1))=its.reverse.toArray:=by
 unfold slicePick
 have hb:sliceBounds none none (some (-1)) its.toArray.size=((its.toArray.size:Int)-1,-1,-1):=by
  simp[sliceBounds]
 rw[hb];dsimp only
 have hr:sliceRange ((its.toArray.size:Int)-1) (-1) (-1)=(List.range its.toArray.size).map fun m:Nat=>(((its.toArray.size:Int)-1)+(m:Int)*(-1)).toNat:=by
  unfold sliceRange
  have hc:(if (-1:Int)>0 then if (its.toArray.size:Int)-1 < -1 then (-1-((its.toArray.size:Int)-1)+-1-1) / -1 else 0 else if (its.toArray.size:Int)-1 > -1 then ((its.toArray.size:Int)-1 - -1 - -1-1) / - -1 else 0)=(its.toArray.size:Int):=by
   rw[Oc (by decide)];split
   ·rw[show-(-1:Int)=1 from rfl,Int.ediv_one];omega
   ·omega
  simp only[hc,Pm];apply QA;intro m _;congr 1;omega
 rw[hr,Pu];exact wA its.toArray
def Ln(K:W.Frag)(te ts:TE):TE:=fun σ H Q=>te σ H fun x H1=>ts σ H1 fun y H2=>y=.int (-1)/\∃a xs,x=.ref a /\
 ((gP K H2 a xs/\∀p,H2 p=none->Q (.ref p) (dg H2 p (.tup xs.reverse)))\/(gu K H2 a xs/\∀p,H2 p=none->Q (.ref p) (dg H2 p (.lst xs.reverse))))
theorem FK{X:Cx}{e st:Expr}{te ts:TE}{pos p2:Pos}(he:PE X e te)(hs:PE X st ts):PE X (.Subscript e (.Slice none none (some st) p2) pos) (Ln X.K te ts):=by
 intro pins s σ H Q I h;refine Subscript_ (dr (he pins s σ H _ I h) fun v s1 ⟨x,H1,I1,r1,q1⟩=>?_);refine wpAny_Slice ?_;rw[evalPart_none];refine OM (OM ?_);rw[evalPart_some];refine dr (hs pins s1 σ H1 _ I1 q1) fun vs s3 ⟨y,H3,I3,r3,q3⟩=>?_;obtain⟨rfl,a,xs,rfl,hq⟩:=q3;obtain⟨tk,rfl⟩:=r3;cases r1;have I4:aY X pins σ H3 {s3 with heap:=s3.heap.push {cls:=.type "slice",data:=.fields #[.none,.none,.int (-1) tk]}}:=I3.kept (t':=s3.toks) fun b ob q=>OP _ q;show wpAny (model X.prog X.w) X.A (subscriptTail e (.Slice none none (some st) p2) (.ref a) (.ref s3.heap.objs.size)) (EP X pins σ Q) X.xe {s3 with heap:=s3.heap.push {cls:=.type "slice",data:=.fields #[.none,.none,.int (-1) tk]}};have hsl:=PN s3.heap .none .none (.int (-1) tk);rcases hq with⟨hx,q⟩|⟨hx,q⟩
 ·obtain⟨its,r,ht,hz⟩:=I4.tuple hx;refine tail_any (ops:=[.ref a,.ref s3.heap.objs.size]) ht.typeIs Py.lookup ?_ (by with_unfolding_all rfl);refine nG ht (PN ..) ?_ (by rw[OX,<- r.length];exact hz);generalize {s3 with heap:=s3.heap.push {cls:=.type "slice",data:=.fields #[.none,.none,.int (-1) tk]}}=s5 at I4 ht;refine⟨.ref s5.heap.objs.size,_,I4.laid (t':=s5.toks) (o:=.tup xs.reverse) (fun b ob q=>OP _ q) (OR _) ?_,rfl,q _ (I4.hok.fresh (OR _))⟩;exact⟨by rw[Sv];exact hz,its.reverse,r.reverse,IsTup.new _ _⟩
 ·obtain⟨its,r,ht,hz⟩:=I4.list hx;refine tail_any (ops:=[.ref a,.ref s3.heap.objs.size]) ht.isList.typeIs PQ.lookup ?_ (by with_unfolding_all rfl);refine wpAny_getItem_list_slice ht.isList (PN ..) .none .none (.int (-1) tk) (by simp) ?_ (by rw[OX,<- r.length];exact hz);rw[AJ];generalize {s3 with heap:=s3.heap.push {cls:=.type "slice",data:=.fields #[.none,.none,.int (-1) tk]}}=s5 at I4 ht;refine⟨.ref s5.heap.objs.size,_,I4.laid (t':=s5.toks) (o:=.lst xs.reverse) (fun b ob q=>OP _ q) (OR _) ?_,rfl,q _ (I4.hok.fresh (OR _))⟩;exact⟨by rw[Sv];exact hz,its.reverse,0,r.reverse,OQ _ rfl⟩
def vU(a b:D)(μ:aB):aj D:=match a,b with
 |.tup xs,.int i=>if i=-1 then .ok (.tup xs.reverse) μ else .bad
 |.obj n,.int i=>match μ[n]? with
  |some (.lst xs)=>if i=-1 then .ok (.obj μ.length) (μ++[.lst xs.reverse]) else .bad
  |_=>.bad
 |_,_=>.bad
theorem HK{p:Pa}{X:Cx}{e st:Expr}{fa fs:ME}{pos p2:Pos}(he:Bx (PE X e (tD p fa)))(hs:Bx (PE X st (tD p fs)))(hK:X.K=p.K:=by rfl):Bx (PE X (.Subscript e (.Slice none none (some st) p2) pos) (tD p (aA vU fa fs))):=
 ⟨(FK he.h hs.h).weak fun σ H Q ⟨α, ρ, μ, S, R, P⟩ => ⟨α, ρ, μ, S, R, (aK.bind P).imp fun x μ1 H1 α1 X1 S1 P1 v rv => ⟨α1, ρ, μ1, S1, R.mono X1, (aK.bind P1).imp fun y μ2 H2 α2 X2 S2 P2 u ru => by
   rw[hK];unfold vU at P2;split at P2
   ·rename_i xs i;split at P2
    ·rename_i hi;subst hi;obtain⟨a,us,rfl,h1,r1⟩:=aO.mp (rv.mono X2);exact⟨av.mp ru,a,us,rfl,.inl ⟨h1,fun q hq=>P2 _ _ (cE hq) (S2.tuple hq) _ (aO.mpr ⟨q,_,rfl,gP.of cJ,r1.reverse.mono (cE hq)⟩)⟩⟩
    ·exact P2.elim
   ·rename_i n i;split at P2
    ·rename_i xs hx;split at P2
     ·rename_i hi;subst hi;obtain⟨a,rfl,h1⟩:=aT.mp (rv.mono X2);obtain⟨a',ea,vs,hH,rr⟩:=S2.at hx;have eaa:a=a':=Od (h1.symm.trans ea);subst eaa;refine⟨av.mp ru,a,vs,rfl,.inr ⟨.inl (.inl hH),fun q hq=>?_⟩⟩;obtain⟨x1,s1,r1⟩:=dP S2 hq rr.reverse;exact P2 _ _ x1 s1 _ r1
     ·exact P2.elim
    ·exact P2.elim
   ·exact P2.elim⟩⟩⟩
section
variable{p:Pa}{X:Cx}{e:Expr}{fr:MA}{pos:Pos}
theorem GR {fo:ME}{ob:Expr}{apos:Pos} (ho:Bx (PE X ob (tD p fo))) (ha:Bx (PA X [e] (mC p fr))) (hbase:attributeBase ob "extend" X.env (eval ob X.env)=eval ob X.env:=by rfl) (hfew:((backTo pos (starEach [e] X.env)).all (fun x=>!x.1)&&(backToKw pos (keywordEach [] X.env)).all (fun x=>x.1.isSome)
   && decide ([e].length+([]:List Keyword).length+(if ([]:List Keyword).isEmpty then 0 else 1)<30))=true:=by rfl) (hline:(apos.endLine == pos.line)=true:=by rfl) (hs:starEach [e] X.env=(false,eval e X.env)::starEach [] X.env:=by rfl) (hpl:(backTo pos (starEach [] X.env)).any (·.1)=false:=by rfl) (hK:X.K=p.K:=by rfl):Bx (PE X (.Call (.Attribute ob "extend" apos) [e] [] pos) (tD p (Bw iJ fo fr))):=⟨zh hK PySem.F.slot_list_extend PySem.F.type_list_extend AW F7 ho.h ha.h hbase hfew hline hs hpl⟩
end
end L2
namespace L2
open PySem PySem.Spec PyProof.Rows RS
abbrev Eg(K:W.Frag)(w:World)(E:XK):Pa:=⟨K,w,fun x _ H _=>∃C,W.nsIn K mainGlobals x.cls=some (some (.ref C))/\∀ea,H ea=none->E (.ref C) (some ea) H⟩
def Mn(K:W.Frag)(w:World)(n:Nat)(F:List D->aB->aj D):Sp:=fun vs H Q E=>vs.length=n/\∃α ds μ,gO K w H α μ/\Reps K H α ds vs/\aK (Eg K w E) H α (F ds μ) (RV (Eg K w E) Q)
structure lJ(P:Program)(w:World)(K:W.Frag)(mg:Str->Option Value)(base:Heap)(k:Nat)(x:Str)(n:Nat)(F:List D->aB->aj D):Prop where
 len:∀ds μ,ds.length≠n->F ds μ=.bad
 fn:∃f fd ps,mg x=some (.ref f)/\W.keepIn K (.ref f)=true/\ix K fd ps []/\qB P w K mg base (Hr P w) k f fd ps (Mn K w n F)
theorem qM{P:Program}{w:World}{K:W.Frag}{mg:Str->Option Value}{base:Heap}{k n:Nat}{x qual:Str}{st:Stmt}{f:Addr}{fd:FuncData}{N ps:List Str}{fb:MS}
  (F:h7 K x qual st f fd) (S:aV N ps (au st)) (hn:ps.length=n) (hm:mg x=some (.ref f)) (hb:ix K fd ps [])
  (body : ∀ (cdv : Value) (A : Around) (outer : List Env) (s : Shared) (H : Hp) (E : XK), gr k (A.deeper (envOfC qual (au st) s.heap.objs.size f cdv)) ->
   Bx (jt (Ei P w K mg base N qual (au st) f cdv A outer s H E) (cG st) (iz (Eg K w E) fb))):lJ P w K mg base (k+1) x n (iH n N.length fb):=by
 refine⟨fun ds μ h=>by unfold iH;rw[Oc h],f,fd,ps,hm,F.kp,hb,?_⟩;obtain⟨oc,od,kV,doc,pm,an,cdv,ct,osl,rfl,lk,hcd⟩:=F.ex;refine Hg lk hcd S (fun vs H Q E h=>h.1.trans hn.symm) fun A outer s H vs Q E hr h=>?_;refine⟨_,(body cdv A outer s H E hr).h,?_⟩;obtain⟨hl,α,ds,μ,S1,R1,P1⟩:=h;unfold iH at P1;have hd:ds.length=n:=by rw[<- R1.length];exact hl
 rw[Ob hd]at P1;have P2:=qk S1 P1;unfold start;rw[hl];refine⟨α,_,μ,S1,j9 R1 _,?_⟩;cases e:fb (ds.map some++List.replicate (N.length-n) none) μ with
 |ret d μ'=>rw[e]at P2;exact fun H' α' v x s r=>P2 H' α' x s v r
 |next ρ μ'=>rw[e]at P2;exact fun H' α' σ' x s r=>P2 H' α' x s .non (bH.mpr rfl)
 |exc x μ'=>rw[e]at P2;exact P2
 |brk ρ μ'=>rw[e]at P2;exact P2.elim
 |cnt ρ μ'=>rw[e]at P2;exact P2.elim
 |bad=>rw[e]at P2;exact P2.elim
section
variable{X:Cx}{E:XK}{k n:Nat}{x:Str}{F:List D->aB->aj D}{a:Expr}{es:List Expr}{fr:MA}{pos px:Pos}
theorem p9 (h:lJ X.prog X.w X.K X.mg X.base k x n F) (hp:jv (Hr X.prog X.w) X E) (hr:gr k X.A) (ha:Bx (PA X (a::es) (mC (Eg X.K X.w E) fr))) (hg:Gl X x:=by rfl) (hdb:(x == ("__debug__" : Str))=false:=by decide)
  (he:starEach (a::es) X.env=(false,eval a X.env)::starEach es X.env:=by rfl) (hpl:(backTo pos (starEach es X.env)).any (·.1)=false:=by rfl):Bx (PE X (.Call (.Name x px) (a::es) [] pos) (tD (Eg X.K X.w E) (aI F fr))):=Bx.mk (by
 obtain⟨f,fd,ps,h1,h2,h3,h4⟩:=h.fn;refine(qd (dvs:=[]) (E:=E) h4 hr hg h1 h2 h3 .nil hp ha.h hdb he hpl).weak fun σ H Q ⟨α,ρ,μ,S,R,P⟩=>⟨α,ρ,μ,S,R,(aK.bind P).imp fun ds μ1 H1 α1 X1 S1 P1 vs rv=>?_⟩;show Mn X.K X.w n F (vs++[]) H1 Q E;rw[OY];refine⟨?_,α1,ds,μ1,S1,rv,P1⟩;by_cases hl:ds.length=n
 ·rw[rv.length];exact hl
 ·rw[h.len ds μ1 hl]at P1;exact P1.elim)
theorem uw {p:Pa} (h:dY X.prog X.w X.K X.mg X.base p.nx k x n F) (hr:gr k X.A) (ha:Bx (PA X (a::es) (mC p fr))) (hg:Gl X x:=by rfl) (hdb:(x == ("__debug__" : Str))=false:=by decide)
  (he:starEach (a::es) X.env=(false,eval a X.env)::starEach es X.env:=by rfl) (hpl:(backTo pos (starEach es X.env)).any (·.1)=false:=by rfl):Bx (PE X (.Call (.Name x px) (a::es) [] pos) (tD p (aI (fun ds μ=>(F ds μ).nox) fr))):=Bx.mk (by
 obtain⟨f,fd,ps,h1,h2,h3,h4⟩:=h.fn;refine(qd (dvs:=[]) (E:=E0) h4 hr hg h1 h2 h3 .nil BY ha.h hdb he hpl).weak fun σ H Q ⟨α,ρ,μ,S,R,P⟩=>⟨α,ρ,μ,S,R,(aK.bind P).imp fun ds μ1 H1 α1 X1 S1 P1 vs rv=>?_⟩;show Ef p.nx n F (vs++[]) H1 Q E0;rw[OY]
 have P2:aK p.nx H1 α1 (F ds μ1) (RV p.nx Q):=by
  cases e:F ds μ1 with
  |ok d μ'=>rw[e]at P1;exact P1
  |exc y μ'=>rw[e]at P1;exact False.elim P1
  |bad=>rw[e]at P1;exact P1
 refine⟨?_,α1,ds,μ1,S1,rv,P2⟩;by_cases hl:ds.length=n
 ·rw[rv.length];exact hl
 ·rw[h.len ds μ1 hl]at P2;exact P2.elim)
end
def ui(c:Str):MS:=fun _ μ=>.exc ⟨c,[]⟩ μ
section
variable{P:Program}{w:World}{K:W.Frag}{mg:Str->Option Value}{base:Heap}{N:List Str}{qual:Str}{scope:Scope}{f:Addr}{cdv:Value}{A:Around}{outer:List Env}{s0:Shared}{H0:Hp}{E:XK}
theorem zr {c:Str}{C:Addr}{np cpos pos:Pos} (hc:W.nsIn K mainGlobals c=some (some (.ref C))) (O:vI mg base c C) (hg:Gl (Ei P w K mg base N qual scope f cdv A outer s0 H0 E) c:=by rfl) (hd:(c == ("__debug__" : Str))=false:=by decide) :
  Bx (PS (Ei P w K mg base N qual scope f cdv A outer s0 H0 E) (.Raise (some (.Call (.Name c np) [] [] cpos)) none pos) (iz (Eg K w E) (ui c))):=Bx.mk (by
 refine(AH O hg hd).weak fun D σ H ⟨α,ρ,μ,S,R,P⟩=>?_;obtain⟨C',h1,h2⟩:=P H α lH.refl S;rw[hc]at h1;cases h1
 exact h2)
end
def SO.ro(o:SO):SO:=match o with
 |.ret d μ=>.ret d μ
 |_=>.bad
def Ae(known:List Str)(i N:Nat)(fb fh:MS):MS:=fun ρ μ=>match fb ρ μ with
 |.exc x μ'=>if known.contains x.cls=true then (fh ((List.replicate N none).set i (some (.obj μ'.length))) (μ'++[.exc x.cls])).ro else .bad
 |o=>o
def vY(K:W.Frag)(r:Str)(R:Addr)(known:List Str):Prop:=∀c∈known,∃C,W.nsIn K mainGlobals c=some (some (.ref C))/\W.exmOne K (.ref C) (.ref R)=some true
theorem d3.ro{p:Pa}{H:Hp}{α:List Addr}{o:SO}{D:nT}(h:d3 p H α o.ro D):d3 p H α o {nx:=fun _ _=>False,rt:=D.rt}:=by
 cases o with
 |ret d μ=>exact h
 |next ρ μ=>exact False.elim h
 |brk ρ μ=>exact False.elim h
 |cnt ρ μ=>exact False.elim h
 |exc x μ=>exact False.elim h
 |bad=>exact False.elim h
theorem Lb{X:Cx}{xw:DX->aB->Hp->List Addr->Prop}{r n:Str}{R:Addr}{known:List Str}{i m:Nat}{np hpos pos:Pos}{body suite:List Stmt}{b0:Stmt}{fb fh:MS}
  (F:X.Fn) (hN:X.N.Nodup) (hk:vY X.K r R known) (hm:X.mg r=some (.ref R)) (hb:∀pins E,Bx (jt (X.tri pins E) body (iz (Eg X.K X.w E) fb))) (hs:∀ea,Bx (jt (X.hnd ea) (b0::suite) (iz ⟨X.K,X.w,xw⟩ fh)))
  (hl:X.N.length=m:=by rfl) (hi:X.N[i]?=some n:=by rfl) (hx:Ab X.env.scope n:=by exact Or.inl rfl) (hlo:X.env.kindOf n=some .local:=by rfl) (hg:Gl X r:=by rfl) (hd:(r == ("__debug__" : Str))=false:=by decide) :
  Bx (PS X (.Try body [.ExceptHandler (some (.Name r np)) (some n) (b0::suite) hpos] [] [] pos) (iz ⟨X.K,X.w,xw⟩ (Ae known i m fb fh))):=Bx.mk (by
 refine(IS F hN hi hx hlo hg hm hd (fun pins E=>(hb pins E).h) fun ea=>(hs ea).h).weak fun D σ H ⟨α,ρ,μ,S,Rl,P⟩=>?_
 refine⟨fun cls ea' H'=>∃C ea,cls=.ref C/\ea'=some ea/\(W.exmOne X.K (.ref C) (.ref R)=some true/\∀σ':St,σ'.length=X.N.length->iz ⟨X.K,X.w,xw⟩ fh {nx:=fun _ _=>False,rt:=D.rt} (σ'.set i (some (.ref ea))) (dg H' ea (vK ea C))),
  fun C ea H' h _=>?_,α,ρ,μ,S,Rl,?_⟩
 ·obtain⟨C',ea',h1,h2,h3⟩:=h;cases h1;cases h2;exact h3
 ·unfold Ae at P;cases e:fb ρ μ with
  |ret d μ'=>rw[e]at P;exact P
  |next ρ' μ'=>rw[e]at P;exact P
  |brk ρ' μ'=>rw[e]at P;exact P
  |cnt ρ' μ'=>rw[e]at P;exact P
  |bad=>rw[e]at P;exact P
  |exc x μ'=>
   rw[e]at P;dsimp only at P;by_cases hc:known.contains x.cls=true
   ·rw [Ob hc] at P;obtain⟨C,c1,c2⟩:=hk x.cls (List.contains_iff_mem.mp hc);intro H' α' X' S';refine⟨C,c1,fun ea hea=>⟨C,ea,rfl,rfl,c2,fun σ' hσ=>?_⟩⟩;have X3:lH X.K H H' α α':=X';have X2:lH X.K H' (dg H' ea (vK ea C)) α' (α'++[ea]):=(cE hea).trans (jH [ea]);have S2:gO X.K X.w (dg H' ea (vK ea C)) (α'++[ea]) (μ'++[.exc x.cls]):=gO.more S' hea ⟨C,c1,cJ⟩;refine⟨α'++[ea],_,_,S2,⟨by simp[hσ,hl],fun j d hj=>?_⟩,(d3.from (p:=⟨X.K,X.w,xw⟩) (X3.trans X2) P).ro⟩;by_cases hji:j=i
    ·subst hji
     have hlt:j<(List.replicate m (none:Option L2.D)).length:=by
      have:=(Ow.mp hi).1;simp;omega
     rw[Oy hlt]at hj;cases hj;refine⟨.ref ea,by rw[Oy (by rw[hσ];simpa[hl] using hlt)],aT.mpr ⟨ea,rfl,?_⟩⟩;have hla:α'.length=μ'.length:=S'.len;rw[<- hla,O7 (OR _)];simp
    ·rw[OA (Ot hji),O8]at hj;split at hj <;> cases hj
   ·rw [Oc hc] at P
    exact False.elim P)
theorem yk{CX:vv}{P:Program}{w:World}{K:W.Frag}{mg:Str->Option Value}{base:Heap}{N:List Str}{qual:Str}{scope:Scope}{f:Addr}{cdv:Value}{A:Around}{outer:List Env}{s:Shared}{H:Hp}{E:XK}:(qx CX P w K mg base N qual scope f cdv A outer s H E).nox.Fn:=⟨rfl,rfl,rfl⟩
theorem tS{x:V}:∀{xs:List V}{us:List Value},bh xs us->xs.all kK=true->us.countP (Hn x)=xs.countP fun y=>zd y x
 |_,_,.nil,_=>rfl
 |y::xs,u::us,.cons r t,f=>by
  rw[PX,PH]at f;rw[List.countP_cons,List.countP_cons,yo r f.1,tS t f.2]
def Cu:V->List V->Hp->VK->Prop:=fun x vs H Q=>∃l xs y,x=.ref l/\vs=[y]/\H l=some (.lst xs)/\kK y=true/\xs.all kK=true/\Q (.int (xs.countP fun z=>zd z y:Nat)) H
def Ct:V->List V->Hp->VK->Prop:=fun x vs H Q=>∃l xs y j,x=.ref l/\vs=[y]/\H l=some (.lst xs)/\kK y=true/\xs.all kK=true/\(∃z,xs[j]?=some z/\zd z y=true)/\(∀m z,m<j->xs[m]?=some z->zd z y=false)/\xs.length<1000/\Q (.int (j:Nat)) H
section
variable{X:Cx}
theorem DO:Mu X "list.count" Cu:=by
 intro pins s σ H x vs v us Q I rx rv h;obtain⟨l,xs,y,rfl,rfl,hH,fy,fs,q⟩:=h;cases rx;obtain⟨u,rfl,ru⟩:=rv.one;obtain⟨z,its,n,r,hl,e⟩:=I.lstM hH;refine Qc F.slot_list_count ⟨_,e,rfl⟩ F.entry_list_count (F.args_list_count_2 _ _) (SeqAt.list_countAt l its.toArray n none #[] u (Hn y)) ⟨e,fun w hw=>rn ru fy r fs w (by simpa using hw),?_⟩;refine⟨.int (xs.countP fun z=>zd z y:Nat),H,I.tok _,⟨s.toks,?_⟩,q⟩;rw[<- tS r fs]
theorem DN:Mu X "list.index" Ct:=by
 intro pins s σ H x vs v us Q I rx rv h;obtain⟨l,xs,y,j,rfl,rfl,hH,fy,fs,⟨z0,hz,ht⟩,hno,hsz,q⟩:=h;cases rx;obtain⟨u,rfl,ru⟩:=rv.one;obtain⟨z,its,n,r,hl,e⟩:=I.lstM hH;have hlt:j<xs.length:=(Ow.mp hz).1
 have hb:∀m w,its[m]?=some w->∃z,xs[m]?=some z/\Hn y w=zd z y:=fun m w hw=>by
  have hm:m<its.length:=(Ow.mp hw).1;have hm':m<xs.length:=by rw[r.length];exact hm
  obtain⟨u',hu',ru'⟩:=r.get (RZ hm');rw[hw]at hu';cases hu';exact⟨_,RZ hm',yo ru' (Q6.mp fs _ (RX hm'))⟩
 have hlen:=r.length;refine Qc F.slot_list_index ⟨_,e,rfl⟩ F.entry_list_index (F.args_list_index_2 _ _) (SeqAt.list_indexAt l its.toArray n none #[] u (Hn y) j (by rw[OX];omega) (by omega) ?_ ?_) ⟨e,fun w hw=>rn ru fy r fs w (by simpa using hw),?_⟩
 ·have hw:its[j]?=some its[j]:=RZ (by omega);obtain⟨z1,a1,a2⟩:=hb j _ hw;rw[hz]at a1;cases a1;show Hn y its.toArray[j]=true;rw[List.getElem_toArray,a2];exact ht
 ·intro m hm hmj;have hm':m<its.length:=by rw[OX]at hm;exact hm
  obtain⟨z1,a1,a2⟩:=hb m _ (RZ hm');rw[List.getElem_toArray,a2];exact hno m z1 hmj a1
 ·exact⟨.int (j:Nat),H,I.tok _,⟨s.toks,rfl⟩,q⟩
end
def kI:List D->Bool
 |[]=>true
 |.bl _::r=>kI r
 |_::_=>false
def nR:D->Bool
 |.bl b=>b
 |_=>false
theorem xf{K:W.Frag}{H:Hp}{α:List Addr}{xs:List D}:∀{vs:List V},Reps K H α xs vs->kI xs=true->vs=xs.map fun d=>V.bl (nR d):=by
 induction xs with
 |nil=>intro vs h _;simp only[Reps]at h;exact h
 |cons d r ih=>
  intro vs h q;simp only[Reps]at h;obtain⟨v,r',rfl,h1,h2⟩:=h;cases d with
  |bl b=>rw[aW.mp h1,ih h2 (by simpa only[kI] using q)];rfl
  |non=>simp only[kI]at q;cases q
  |int i=>simp only[kI]at q;cases q
  |str i=>simp only[kI]at q;cases q
  |tup i=>simp only[kI]at q;cases q
  |frz i=>simp only[kI]at q;cases q
  |obj i=>simp only[kI]at q;cases q
theorem rD:∀xs:List D,(xs.map fun d=>V.bl (nR d)).all kK=true
 |[]=>rfl
 |_::xs=>by rw[PM,PX,rD xs];rfl
def lB(d:D)(ds:List D)(μ:aB):aj D:=match d,ds with
 |.obj n,[.bl true]=>match μ[n]? with
  |some (.lst xs)=>if kI xs=true then .ok (.int (xs.countP nR:Nat)) μ else .bad
  |_=>.bad
 |_,_=>.bad
def lA(d:D)(ds:List D)(μ:aB):aj D:=match d,ds with
 |.obj n,[.bl true]=>match μ[n]? with
  |some (.lst xs)=>if kI xs=true/\xs.length<1000/\xs.any nR=true then .ok (.int (xs.findIdx nR:Nat)) μ else .bad
  |_=>.bad
 |_,_=>.bad
section
variable{p:Pa}
theorem AX:KH p lB Cu:=by
 intro d ds v vs H α μ Q S rd rs P;unfold lB at P;split at P
 ·split at P
  ·rename_i n xs hx;split at P
   ·rename_i hb;obtain⟨a,us,rfl,a1,h1,rr⟩:=cS S rd hx;have hv:=xf rr hb;simp only[Reps]at rs;obtain⟨y,r',rfl,h3,rfl⟩:=rs;rw[aW.mp h3];refine⟨a,us,.bl true,rfl,rfl,h1,rfl,by rw[hv];exact rD xs,?_⟩;have z:=P.now S (.int (xs.countP nR:Nat)) (av.mpr rfl)
    have e:(us.countP fun z=>zd z (.bl true))=xs.countP nR:=by
     rw[hv,List.countP_map];congr 1;funext d;cases h:nR d <;> simp[zd,h]
    rw[e];exact z
   ·exact P.elim
  ·exact P.elim
 ·exact P.elim
theorem AV:KH p lA Ct:=by
 intro d ds v vs H α μ Q S rd rs P;unfold lA at P;split at P
 ·split at P
  ·rename_i n xs hx;split at P
   ·rename_i hb;obtain⟨hb,hlen,hany⟩:=hb;obtain⟨a,us,rfl,a1,h1,rr⟩:=cS S rd hx;have hv:=xf rr hb;simp only[Reps]at rs;obtain⟨y,r',rfl,h3,rfl⟩:=rs;rw[aW.mp h3];have hlt:xs.findIdx nR<xs.length:=List.findIdx_lt_length_of_exists (by simpa using hany);refine⟨a,us,.bl true,xs.findIdx nR,rfl,rfl,h1,rfl,by rw[hv];exact rD xs,⟨.bl true,?_,rfl⟩,fun m z hm hz=>?_,by rw[hv,Pf];exact hlen,P.now S (.int (xs.findIdx nR:Nat)) (av.mpr rfl)⟩
    ·rw[hv,Pb,RZ hlt];have:=List.findIdx_getElem (w:=hlt);simp[this]
    ·rw [hv, Pb, RZ (by omega : m < xs.length)] at hz;cases hz;have hf:=List.not_of_lt_findIdx hm;show (nR _ == true)=false;rw[beq_true];cases z:nR xs[m] with
     |false=>rfl
     |true=>rw[z]at hf;exact absurd hf (by decide)
   ·exact P.elim
  ·exact P.elim
 ·exact P.elim
end
def lY(subs known:List Str)(d:D)(μ:aB):aj D:=match d with
 |.obj n=>match μ[n]? with
  |some (.exc c)=>if known.contains c=true then .ok (.bl (subs.contains c)) μ else .bad
  |_=>.bad
 |_=>.bad
def cb(K:W.Frag)(u:Value)(subs known:List Str):Prop:=∀c∈known,∃C,W.nsIn K mainGlobals c=some (some (.ref C))/\W.excCls K C=true/\W.kitOne K (.ref C) u=some (subs.contains c)
theorem CC{p:Pa}{K:W.Frag}{u:Value}{v x:V}{subs known:List Str}{d:D}{H:Hp}{α:List Addr}{μ:aB}{Q:VK}(hK:K=p.K)(hk:cb K u subs known)(ru:ck v u)(S:p.S H α μ)(r:p.R H α d x)(P:aK p H α (lY subs known d μ) (RV p Q)):KY K u [x,v] H Q:=by
 subst hK;unfold lY at P;split at P
 ·split at P
  ·rename_i n c hx;split at P
   ·rename_i hc;obtain⟨a,ea,C,h1,h2⟩:=S.at hx;obtain⟨a',rfl,ea'⟩:=aT.mp r;rw[ea]at ea';cases ea';obtain⟨C',k1,k2,k3⟩:=hk c (List.contains_iff_mem.mp hc);rw[h1]at k1;cases k1;exact⟨a,C,_,v,rfl,ru,h2,k2,k3,P.now S _ (aW.mpr rfl)⟩
   ·exact P.elim
  ·exact P.elim
 ·exact P.elim
section
variable{X:Cx}{p:Pa}{a e ob:Expr}{fa fo:ME}{fr:MA}{pos px pt apos:Pos}{xT:Str}{subs known:List Str}
theorem oX {C:Addr} (hk:cb X.K (.ref C) subs known) (hm:X.mg "isinstance" = none) (hmT:X.mg xT=some (.ref C)) (ha:Bx (PE X a (tD p fa))) (hg:Gl X "isinstance" := by rfl) (hgT:Gl X xT:=by rfl) (hdT:(xT == ("__debug__" : Str))=false:=by decide)
  (hs1:starEach [a,.Name xT pt] X.env=(false,eval a X.env)::starEach [.Name xT pt] X.env:=by rfl) (hK:X.K=p.K:=by rfl):Bx (PE X (.Call (.Name "isinstance" px) [a,.Name xT pt] [] pos) (tD p (ky (lY subs known) fa))):=Bx.mk (by
 have hb:PE X (.Name xT pt) (tC (.ref C)):=uH hgT hmT rfl hdT;refine(m8 (xc (u:=.ref C) fun v w h1 h2=>?_) hg hm Sk (jd ha.h (jd hb qP rfl) hs1) (by decide) (by decide) hs1 rfl).weak fun σ H Q ⟨α,ρ,μ,S,R,P⟩=>⟨α,ρ,μ,S,R,(aK.bind P).imp fun d μ1 H1 α1 X1 S1 P1 v rv=>?_⟩
 ·cases v with
  |ref b=>cases (show Value.ref C=Value.ref b from h1);exact h2
  |non=>cases (show Value.ref C=Value.none from h1)
  |bl b=>cases (show Value.ref C=Value.bool b from h1)
  |int b=>obtain⟨t,z⟩:=(show ∃t,Value.ref C=Value.int b t from h1);cases z
  |str b=>obtain⟨t,z⟩:=(show ∃t,Value.ref C=Value.str b t from h1);cases z
  |byt b=>obtain⟨t,z⟩:=(show ∃t,Value.ref C=Value.bytes b t from h1);cases z
  |flt b=>obtain⟨t,z⟩:=(show ∃t,Value.ref C=Value.float b t from h1);cases z
  |ty b=>cases (show Value.ref C=Value.type b from h1)
 ·exact CC hK hk rfl S1 rv P1)
theorem HM {T:String} (hk:cb X.K (.type T) subs known) (hm:X.mg "isinstance" = none) (hmT:X.mg xT=none) (hbT:bootBuiltins xT=some (.type T)) (ha:Bx (PE X a (tD p fa))) (hg:Gl X "isinstance" := by rfl) (hgT:Gl X xT:=by rfl) (hnT:xT ≠ "__name__" := by decide) (hdT:(xT == ("__debug__" : Str))=false:=by decide)
  (hs1:starEach [a,.Name xT pt] X.env=(false,eval a X.env)::starEach [.Name xT pt] X.env:=by rfl) (hK:X.K=p.K:=by rfl):Bx (PE X (.Call (.Name "isinstance" px) [a,.Name xT pt] [] pos) (tD p (ky (lY subs known) fa))):=Bx.mk (by
 have hb:PE X (.Name xT pt) (tC (.ty T)):=zG hgT hmT hbT rfl hnT hdT;refine(m8 (xc (u:=.type T) fun v w h1 h2=>?_) hg hm Sk (jd ha.h (jd hb qP rfl) hs1) (by decide) (by decide) hs1 rfl).weak fun σ H Q ⟨α,ρ,μ,S,R,P⟩=>⟨α,ρ,μ,S,R,(aK.bind P).imp fun d μ1 H1 α1 X1 S1 P1 v rv=>?_⟩
 ·cases v with
  |ty b=>cases (show Value.type T=Value.type b from h1);exact h2
  |non=>cases (show Value.type T=Value.none from h1)
  |bl b=>cases (show Value.type T=Value.bool b from h1)
  |int b=>obtain⟨t,z⟩:=(show ∃t,Value.type T=Value.int b t from h1);cases z
  |str b=>obtain⟨t,z⟩:=(show ∃t,Value.type T=Value.str b t from h1);cases z
  |byt b=>obtain⟨t,z⟩:=(show ∃t,Value.type T=Value.bytes b t from h1);cases z
  |flt b=>obtain⟨t,z⟩:=(show ∃t,Value.type T=Value.float b t from h1);cases z
  |ref b=>cases (show Value.type T=Value.ref b from h1)
 ·exact CC hK hk rfl S1 rv P1)
theorem Lf (ho:Bx (PE X ob (tD p fo))) (ha:Bx (PA X [e] (mC p fr))) (hbase:attributeBase ob "count" X.env (eval ob X.env)=eval ob X.env:=by rfl) (hfew:((backTo pos (starEach [e] X.env)).all (fun x=>!x.1)&&(backToKw pos (keywordEach [] X.env)).all (fun x=>x.1.isSome)
   && decide ([e].length+([]:List Keyword).length+(if ([]:List Keyword).isEmpty then 0 else 1)<30))=true:=by rfl) (hline:(apos.endLine == pos.line)=true:=by rfl) (hs:starEach [e] X.env=(false,eval e X.env)::starEach [] X.env:=by rfl) (hpl:(backTo pos (starEach [] X.env)).any (·.1)=false:=by rfl) (hK:X.K=p.K:=by rfl):Bx (PE X (.Call (.Attribute ob "count" apos) [e] [] pos) (tD p (Bw lB fo fr))):=
 ⟨zh hK PySem.F.slot_list_count PySem.F.type_list_count DO AX ho.h ha.h hbase hfew hline hs hpl⟩
theorem Le (ho:Bx (PE X ob (tD p fo))) (ha:Bx (PA X [e] (mC p fr))) (hbase:attributeBase ob "index" X.env (eval ob X.env)=eval ob X.env:=by rfl) (hfew:((backTo pos (starEach [e] X.env)).all (fun x=>!x.1)&&(backToKw pos (keywordEach [] X.env)).all (fun x=>x.1.isSome)
   && decide ([e].length+([]:List Keyword).length+(if ([]:List Keyword).isEmpty then 0 else 1)<30))=true:=by rfl) (hline:(apos.endLine == pos.line)=true:=by rfl) (hs:starEach [e] X.env=(false,eval e X.env)::starEach [] X.env:=by rfl) (hpl:(backTo pos (starEach [] X.env)).any (·.1)=false:=by rfl) (hK:X.K=p.K:=by rfl):Bx (PE X (.Call (.Attribute ob "index" apos) [e] [] pos) (tD p (Bw lA fo fr))):=
 ⟨zh hK PySem.F.slot_list_index PySem.F.type_list_index DN AV ho.h ha.h hbase hfew hline hs hpl⟩
end
structure EB(P:Program)(w:World)(K:W.Frag)(mg:Str->Option Value)(base:Heap)(p:Pa)(k:Nat)(x:Str)(n:Nat)(F:List D->aB->aj D):Prop where
 len:∀ds μ,ds.length≠n->F ds μ=.bad
 fn:∃f fd ps,mg x=some (.ref f)/\W.keepIn K (.ref f)=true/\ix K fd ps []/\vZ P w K mg base xQ k f fd ps (Ef p n F)
theorem HI{P:Program}{w:World}{K:W.Frag}{mg:Str->Option Value}{base:Heap}{p:Pa}{k n:Nat}{x qual:Str}{st:Stmt}{f:Addr}{fd:FuncData}{N ps:List Str}{fb:MS}
  (F:h7 K x qual st f fd) (S:aV N ps (au st)) (hn:ps.length=n) (hm:mg x=some (.ref f)) (hb:ix K fd ps [])
  (body : ∀ (cdv : Value) (A : Around) (outer : List Env) (s : Shared) (H : Hp) (E : XK), fM k (A.deeper (envOfC qual (au st) s.heap.objs.size f cdv)) ->
   Bx (jt (qH xQ P w K mg base N qual (au st) f cdv A outer s H E).nox (cG st) (iz p fb))):EB P w K mg base p (k+1) x n (iH n N.length fb):=by
 refine⟨fun ds μ h=>by unfold iH;rw[Oc h],f,fd,ps,hm,F.kp,hb,?_⟩;refine F.okH S (fun vs H Q E h=>h.1.trans hn.symm) fun cdv A outer s H vs Q E hr h=>?_;refine⟨_,(body cdv A outer s H E hr).h,?_⟩;obtain⟨hl,α,ds,μ,S1,R1,P1⟩:=h;unfold iH at P1;have hd:ds.length=n:=by rw[<- R1.length];exact hl
 rw[Ob hd]at P1;have P2:=qk S1 P1;unfold start;rw[hl];refine⟨α,_,μ,S1,j9 R1 _,?_⟩;cases e:fb (ds.map some++List.replicate (N.length-n) none) μ with
 |ret d μ'=>rw[e]at P2;exact fun H' α' v x s r=>P2 H' α' x s v r
 |next ρ μ'=>rw[e]at P2;exact fun H' α' σ' x s r=>P2 H' α' x s .non (bH.mpr rfl)
 |exc x μ'=>rw[e]at P2;exact P2
 |brk ρ μ'=>rw[e]at P2;exact P2.elim
 |cnt ρ μ'=>rw[e]at P2;exact P2.elim
 |bad=>rw[e]at P2;exact P2.elim
theorem EJ {X:Cx}{p:Pa}{k n:Nat}{x:Str}{F:List D->aB->aj D}{a:Expr}{es:List Expr}{fr:MA}{pos px:Pos} (h:EB X.prog X.w X.K X.mg X.base p k x n F) (hr:fM k X.A) (ha:Bx (PA X (a::es) (mC p fr))) (hg:Gl X x:=by rfl) (hdb:(x == ("__debug__" : Str))=false:=by decide)
  (he:starEach (a::es) X.env=(false,eval a X.env)::starEach es X.env:=by rfl) (hpl:(backTo pos (starEach es X.env)).any (·.1)=false:=by rfl):Bx (PE X (.Call (.Name x px) (a::es) [] pos) (tD p (aI F fr))):=Bx.mk (by
 obtain⟨f,fd,ps,h1,h2,h3,h4⟩:=h.fn;refine(DC (dvs:=[]) (E:=E0) h4 hr hg h1 h2 h3 .nil BY ha.h hdb he hpl).weak fun σ H Q ⟨α,ρ,μ,S,R,P⟩=>⟨α,ρ,μ,S,R,(aK.bind P).imp fun ds μ1 H1 α1 X1 S1 P1 vs rv=>?_⟩;show Ef p n F (vs++[]) H1 Q E0;rw[OY];refine⟨?_,α1,ds,μ1,S1,rv,P1⟩;by_cases hl:ds.length=n
 ·rw[rv.length];exact hl
 ·rw[h.len ds μ1 hl]at P1;exact P1.elim)
theorem sM:bootBuiltins "ValueError" = some (.type "ValueError"):=PyProof.Rows.Boot.«ValueError»
def DS(K:W.Frag)(u:Value)(subs known:List Str):Bool:=known.all fun c=>match W.nsIn K mainGlobals c with
 |some (some (.ref C))=>W.excCls K C&&W.kitOne K (.ref C) u == some (subs.contains c)
 |_=>false
theorem cb.of{K:W.Frag}{u:Value}{subs known:List Str}(h:DS K u subs known=true):cb K u subs known:=fun c hc=>by
 have q:=Q6.mp h c hc;split at q
 ·rename_i C e;rw[PH]at q;exact⟨C,e,q.1,R9.mp q.2⟩
 ·cases q
def JN(K:W.Frag)(R:Addr)(known:List Str):Bool:=known.all fun c=>match W.nsIn K mainGlobals c with
 |some (some (.ref C))=>W.exmOne K (.ref C) (.ref R) == some true
 |_=>false
theorem vY.of{K:W.Frag}{r:Str}{R:Addr}{known:List Str}(h:JN K R known=true):vY K r R known:=fun c hc=>by
 have q:=Q6.mp h c hc;split at q
 ·rename_i C e;exact⟨C,e,R9.mp q⟩
 ·cases q
theorem vI.of{K:W.Frag}{base:Heap}{mg:Str->Option Value}{x nm q:Str}{C N:Addr}{bs bm:List Value}{hd:Bool}{sn:List Str}{sub:List Value}{ab:Bool}{col:Option Bool}{dd:Option Addr}{k0 k1 k2 k3 k5:Option Value}(X:K.In base)(G:base.Ns mainGlobals mg)(e:W.nsIn K mainGlobals x=some (some (.ref C)))
  (l:K.lookup C=some (excClassObj nm q C N bs bm hd sn sub ab col dd k0 k1 k2 k3 k5 "ValueError.__new__")) (h1:W.nsOkIn K N=true) (h2:W.nsIn K N "__init__" = some none) (h3:W.tailIn K [.type "ValueError",.type "Exception",.type "BaseException",.type "object"] bm=true):vI mg base x C:=
 ⟨_,_,_,_,⟨W.mg_of X G e,bm,N,nm,q,bs,hd,sn,sub,ab,col,dd,k0,k1,k2,k3,k5,_,X _ _ l,.of_isNs (W.isNs_of_in X h1),W.nsMap_none_of_in X h1 h2,W.tail_of_in X h3⟩,PySem.F.excBase_ValueError⟩
theorem LR{P:Program}{w:World}{X:Cx}:jv (Hr P w) X E0:=fun _ _ _ _ _ _ _ h=>by
 obtain⟨_,_,_,_,_,_,_,_,_,_,_,_,_,q⟩:=h;exact q.elim
section
variable{X:Cx}{k n:Nat}{x:Str}{F:List D->aB->aj D}{a b c d:Expr}{es:List Expr}{fr:MA}{pos px:Pos}
theorem CZ {xw:DX->aB->Hp->List Addr->Prop} (h:lJ X.prog X.w X.K X.mg X.base k x n F) (hr:gr k X.A) (ha:Bx (PA X (a::es) (mC ⟨X.K,X.w,xw⟩ fr))) (hg:Gl X x:=by rfl) (hdb:(x == ("__debug__" : Str))=false:=by decide)
  (he:starEach (a::es) X.env=(false,eval a X.env)::starEach es X.env:=by rfl) (hpl:(backTo pos (starEach es X.env)).any (·.1)=false:=by rfl):Bx (PE X (.Call (.Name x px) (a::es) [] pos) (tD ⟨X.K,X.w,xw⟩ (aI (fun ds μ=>(F ds μ).nox) fr))):=Bx.mk (by
 obtain⟨f,fd,ps,h1,h2,h3,h4⟩:=h.fn;refine(qd (dvs:=[]) (E:=E0) h4 hr hg h1 h2 h3 .nil LR ha.h hdb he hpl).weak fun σ H Q ⟨α,ρ,μ,S,R,P⟩=>⟨α,ρ,μ,S,R,(aK.bind P).imp fun ds μ1 H1 α1 X1 S1 P1 vs rv=>?_⟩;show Mn X.K X.w n F (vs++[]) H1 Q E0;rw[OY]
 have P2:aK (Eg X.K X.w E0) H1 α1 (F ds μ1) (RV (Eg X.K X.w E0) Q):=by
  cases e:F ds μ1 with
  |ok d μ'=>rw[e]at P1;exact P1
  |exc y μ'=>rw[e]at P1;exact False.elim P1
  |bad=>rw[e]at P1;exact P1
 refine⟨?_,α1,ds,μ1,S1,rv,P2⟩;by_cases hl:ds.length=n
 ·rw[rv.length];exact hl
 ·rw[h.len ds μ1 hl]at P2;exact P2.elim)
variable{p:Pa}{ta tb tc td:TE}{fa fb fc fd:ME}{op op' op'':CmpOp}{r r' r'':R2}{o1 o2 o3:D->D->aB->aj D}
end
section
variable{X:Cx}
end
section
variable{p:Pa}
end
section
variable{X:Cx}{p:Pa}{e ob:Expr}{fo:ME}{fr:MA}{pos apos:Pos}
end
end L2
namespace L2
open PySem PySem.Spec PyProof.Rows RS
section
variable{X:Cx}{p:Pa}{a b:Expr}{fa fb:ME}{pos:Pos}
end
section
variable(K:W.Frag)(H:Hp)
mutual
def sv:PyData->V->Prop
 |.none,v=>v=.non
 |.bool b,v=>v=.bl b
 |.int i,v=>v=.int i
 |.str x,v=>v=.str x
 |.tuple xs,v=>∃a vs,v=.ref a/\gP K H a vs/\RdGs xs vs
 |.list xs,v=>∃a vs,v=.ref a/\gu K H a vs/\RdGs xs vs
 |.dict kvs,v=>kvs=[]/\∃a,v=.ref a/\H a=some (.dK [])
def RdGs:List PyData->List V->Prop
 |[],vs=>vs=[]
 |x::xs,vs=>∃v r,vs=v::r/\sv x v/\RdGs xs r
end
end
mutual
def Ks:PyData->Bool
 |.list _=>false
 |.tuple xs=>noLs xs
 |_=>true
def noLs:List PyData->Bool
 |[]=>true
 |x::xs=>Ks x&&noLs xs
end
section
variable{X:Cx}{pins:List (Addr×Obj)}{σ:St}{H:Hp}{s:Shared}
theorem JF{a:Addr}(h:(a == sysModules)=false):a≠sysModules:=by simpa using h
mutual
theorem tj(I:aY X pins σ H s):∀(d:PyData)(x:V)(v:Value),sv X.K H d x->ck x v->∃as,Reads s.heap v d as/\(Ks d=true->sysModules∉as)
 |.none,_,_,h,r=>by simp only[sv]at h;subst h;cases r;exact⟨_,.none,fun _ z=>by cases z⟩
 |.bool b,_,_,h,r=>by simp only[sv]at h;subst h;cases r;exact⟨_,.bool b,fun _ z=>by cases z⟩
 |.int b,_,_,h,r=>by simp only[sv]at h;subst h;obtain⟨t,rfl⟩:=r;exact⟨_,.int b t,fun _ z=>by cases z⟩
 |.str b,_,_,h,r=>by simp only[sv]at h;subst h;obtain⟨t,rfl⟩:=r;exact⟨_,.str b t,fun _ z=>by cases z⟩
 |.tuple xs,_,_,h,r=>by
  simp only[sv]at h;obtain⟨a,vs,rfl,h1,h2⟩:=h;cases r;obtain⟨its,rv,⟨o,e1,e2,n,e3⟩,_⟩:=I.tuple h1;obtain⟨as,q,hn⟩:=readsAllG_of I xs vs its h2 rv;exact⟨_,.tuple e1 e2 e3 (by simpa using q),fun z=>hn (by simpa only[Ks] using z)⟩
 |.list xs,_,_,h,r=>by
  simp only[sv]at h;obtain⟨a,vs,rfl,h1,h2⟩:=h;cases r;obtain⟨its,rv,⟨o,n,e1,e2,_,e3⟩,_⟩:=I.list h1;obtain⟨as,q,_⟩:=readsAllG_of I xs vs its h2 rv;exact⟨_,.list e1 e2 e3 (by simpa using q),fun z=>by simp only[Ks]at z;cases z⟩
 |.dict kvs,_,_,h,r=>by
  simp only[sv]at h;obtain⟨rfl,a,rfl,h1⟩:=h;cases r;obtain⟨_,hS,vs,rv,o,es,n,e1,e2,e3,_,e4,_⟩:([]:List (sx×V)).length<=sizeLine/\(a == sysModules)=false/\∃vs,KV ([]:List (sx×V)) vs/\s.heap.DictOf (qh X.prog X.w) a vs:=I.hok a _ h1;cases rv
  have hes:es.toList=[]:=by
   generalize es.toList=l at e4;cases e4;rfl
  refine⟨[a]++[],Reads.dict (as:=[]) (bs:=[]) e1 e2.1 e3 ?_ ?_,fun _ z=>?_⟩
  ·rw[hes];exact .nil
  ·rw[hes];exact .nil
  ·simp at z;exact JF hS z.symm
theorem readsAllG_of(I:aY X pins σ H s):∀(ds:List PyData)(xs:List V)(vs:List Value),RdGs X.K H ds xs->bh xs vs->∃as,ReadsAll s.heap vs ds as/\(noLs ds=true->sysModules∉as)
 |[],_,_,h,r=>by simp only[RdGs]at h;subst h;cases r;exact⟨_,.nil,fun _ z=>by cases z⟩
 |d::ds,_,_,h,r=>by
  simp only[RdGs]at h;obtain⟨v,q,rfl,h1,h2⟩:=h;cases r with
  |cons r rr=>
   obtain⟨as,g1,n1⟩:=tj I d _ _ h1 r;obtain⟨bs,g2,n2⟩:=readsAllG_of I ds _ _ h2 rr;refine⟨_,.cons g1 g2,fun z=>?_⟩;simp only[noLs,PH]at z;intro y;rcases Ou.mp y with y|y
   ·exact n1 z.1 y
   ·exact n2 z.2 y
end
end
def Cs(K:W.Frag):List V->Hp->VK->Prop:=fun xs H Q=>(∃a d,xs=[.ref a]/\sv K H d (.ref a)/\d.showable=true/\(d.hasDict=true->Ks d=true)/\d.depth<=60/\d.shown.length<=sizeLine/\Q (.str d.shown) H) \/
 (xs=[.non]/\Q (.str "None") H)\/(∃a:Int,xs=[.int a]/\a.natAbs.log2<1920/\Q (.str (toString a)) H)\/(∃b:Bool,xs=[.bl b]/\Q (.str (if b then "True" else "False")) H)\/∃x:Str,xs=[.str x]/\(reprText x).length<=sizeLine/\Q (.str (reprText x)) H
theorem y9 {X:Cx} (hu:X.A.units+64<cLine) (hg:X.A.guards=some []):c6 X (.builtin "repr") (Cs X.K):=by
 intro pins s σ H xs us Q I r h;rcases h with⟨a,d,rfl,h1,hs,hd,hdp,hz,q⟩|⟨rfl,q⟩|⟨a,rfl,ha,q⟩|⟨b,rfl,q⟩|⟨x,rfl,hx,q⟩
 ·obtain⟨u,rfl,ru⟩:=fI r;cases ru;obtain⟨as,r1,hn⟩:=tj I d (.ref a) (.ref a) h1 rfl;exact PySem.repr_of_reads' (h₀:=s.heap) r1 hs (fun z=>hn (hd z)) hg (by omega) (fun _ _ e=>e) (fun h' u tk hk=>⟨.str _,H,I.kept hk,⟨u,rfl⟩,q⟩) hz
 ·obtain⟨u,rfl,ru⟩:=fI r;cases ru;exact PySem.P.repr_of_none ⟨.str _,H,I.kept (fun _ _ e=>e),⟨_,rfl⟩,q⟩
 ·obtain⟨u,rfl,t,rfl⟩:=fI r;exact PySem.P.repr_of_int ha ⟨.str _,H,I.kept (fun _ _ e=>e),⟨_,rfl⟩,q⟩
 ·obtain⟨u,rfl,ru⟩:=fI r;cases ru;refine PySem.P.repr_of_bool ⟨.str _,H,I.kept (fun _ _ e=>e),⟨_,rfl⟩,?_⟩;cases b <;> exact q
 ·obtain⟨u,rfl,t,rfl⟩:=fI r;exact PySem.P.repr_of_str ⟨.str _,H,I.kept (fun _ _ e=>e),⟨_,rfl⟩,q⟩ hx
def vS:D->Option PyData
 |.non=>some .none
 |.bl b=>some (.bool b)
 |.int i=>some (.int i)
 |.str x=>some (.str x)
 |_=>none
def nN(f:D->Option PyData):List D->Option (List PyData)
 |[]=>some []
 |x::xs=>(f x).bind fun a=>(nN f xs).map fun r=>a::r
def xN(μ:aB):Nat->D->Option PyData
 |0,d=>vS d
 |n+1,d=>match d with
  |.tup xs=>(nN (xN μ n) xs).map .tuple
  |.frz xs=>(nN (xN μ n) xs).map .list
  |.obj k=>match μ[k]? with
   |some (.lst xs)=>(nN (xN μ n) xs).map .list
   |some .dic=>some (.dict [])
   |_=>none
  |d=>vS d
section
variable{K:W.Frag}{w:World}{H:Hp}{α:List Addr}{μ:aB}
theorem w4{d:D}{q:PyData}{v:V}(h:vS d=some q)(r:aS K H α d v):sv K H q v:=by
 cases d with
 |non=>cases h;simp only[sv];exact bH.mp r
 |bl b=>cases h;simp only[sv];exact aW.mp r
 |int b=>cases h;simp only[sv];exact av.mp r
 |str b=>cases h;simp only[sv];exact bq.mp r
 |tup _=>cases h
 |frz _=>cases h
 |obj _=>cases h
theorem uI{f:D->Option PyData}(hf:∀d q v,f d=some q->aS K H α d v->sv K H q v):∀{ds:List D}{qs:List PyData}{vs:List V},nN f ds=some qs->Reps K H α ds vs->RdGs K H qs vs:=by
 intro ds
 induction ds with
 |nil=>intro qs vs h r;cases h;simp only[Reps]at r;simp only[RdGs];exact r
 |cons d ds ih=>
  intro qs vs h r;simp only[nN]at h;cases e1:f d with
  |none=>rw[e1]at h;cases h
  |some a=>
   rw[e1]at h;cases e2:nN f ds with
   |none=>rw[e2]at h;cases h
   |some t=>
    rw[e2]at h;cases h;simp only[Reps]at r;obtain⟨v,r',rfl,h1,h2⟩:=r;simp only[RdGs];exact⟨v,r',rfl,hf d a v e1 h1,ih e2 h2⟩
theorem HU(S:gO K w H α μ):∀(n:Nat)(d:D)(q:PyData)(v:V),xN μ n d=some q->aS K H α d v->sv K H q v:=by
 intro n
 induction n with
 |zero=>intro d q v h r;exact w4 h r
 |succ n ih=>
  intro d q v h r;unfold xN at h;split at h
  ·rename_i xs;cases e:nN (xN μ n) xs with
   |none=>rw[e]at h;cases h
   |some qs=>
    rw[e]at h;cases h;obtain⟨a,us,rfl,h1,h2⟩:=aO.mp r;simp only[sv];exact⟨a,us,rfl,h1,uI ih e h2⟩
  ·rename_i xs;cases e:nN (xN μ n) xs with
   |none=>rw[e]at h;cases h
   |some qs=>
    rw[e]at h;cases h;obtain⟨a,us,rfl,h1,h2⟩:=bx.mp r;simp only[sv];exact⟨a,us,rfl,h1.sq,uI ih e h2⟩
  ·rename_i k;split at h
   ·rename_i xs hx;cases e:nN (xN μ n) xs with
    |none=>rw[e]at h;cases h
    |some qs=>
     rw[e]at h;cases h;obtain⟨a,ea,us,h1,h2⟩:=S.at hx;obtain⟨a',rfl,ea'⟩:=aT.mp r;rw[ea]at ea';cases ea';simp only[sv];exact⟨a,us,rfl,.inl (.inl h1),uI ih e h2⟩
   ·rename_i hx;cases h;obtain⟨a,ea,h1⟩:=S.at hx;obtain⟨a',rfl,ea'⟩:=aT.mp r;rw[ea]at ea';cases ea';simp only[sv];exact⟨trivial,a,rfl,h1⟩
   ·cases h
  ·exact w4 h r
end
def qf(q:PyData):Bool:=q.showable&&(!q.hasDict || Ks q)&&decide (q.depth<=60)&&decide (q.shown.length<=sizeLine)
def fF(ds:List D)(μ:aB):aj D:=match ds with
 |[.non]=>.ok (.str "None") μ
 |[.int a]=>if a.natAbs.log2<1920 then .ok (.str (toString a)) μ else .bad
 |[.bl b]=>.ok (.str (if b then "True" else "False")) μ
 |[.str x]=>if (reprText x).length<=sizeLine then .ok (.str (reprText x)) μ else .bad
 |[d]=>match xN μ 5 d with
  |some q=>if um d=true/\qf q=true then .ok (.str q.shown) μ else .bad
  |none=>.bad
 |_=>.bad
theorem DH{p:Pa}:vy p fF (Cs p.K):=by
 intro ds vs H α μ Q S r P;unfold fF at P;split at P
 ·obtain⟨v,rfl,r1⟩:=r.one;rw[bH.mp r1];exact .inr (.inl ⟨rfl,P.now S _ (bq.mpr rfl)⟩)
 ·obtain ⟨v, rfl, r1⟩ := r.one;rw[av.mp r1];split at P
  ·rename_i ha;exact .inr (.inr (.inl ⟨_,rfl,ha,P.now S _ (bq.mpr rfl)⟩))
  ·exact P.elim
 ·obtain⟨v,rfl,r1⟩:=r.one;rw[aW.mp r1];exact .inr (.inr (.inr (.inl ⟨_,rfl,P.now S _ (bq.mpr rfl)⟩)))
 ·obtain ⟨v, rfl, r1⟩ := r.one;rw[bq.mp r1];split at P
  ·rename_i ha;exact .inr (.inr (.inr (.inr ⟨_,rfl,ha,P.now S _ (bq.mpr rfl)⟩)))
  ·exact P.elim
 ·rename_i d _ _ _ _;split at P
  ·rename_i q hq;split at P
   ·rename_i hf;obtain⟨v,rfl,r1⟩:=r.one;obtain⟨a,rfl⟩:=yS hf.1 r1;have h2:=hf.2;unfold qf at h2;simp only[PH,Sd]at h2;refine .inl ⟨a,q,rfl,HU S 5 d q _ hq r1,h2.1.1.1,fun z=>?_,h2.1.2,h2.2,P.now S _ (bq.mpr rfl)⟩;have h3:=h2.1.1.2;rw[z]at h3;simpa using h3
   ·exact P.elim
  ·exact P.elim
 ·exact P.elim
theorem z5 {X:Cx}{p:Pa}{k:Nat} (hr:gr k X.A) (hK:X.K=p.K:=by rfl):pK X p "repr" fF:=⟨_,_,.inl ⟨_,rfl⟩,by decide +kernel,y9 hr.units hr.gd,hK ▸ DH,by decide,by decide⟩
end L2
namespace L2
open PySem PySem.Spec PyProof.Rows RS
def Pk(X:Cx)(p:Pa)(f:Addr)(F:List D->aB->aj D):Prop:=W.keepIn X.K (.ref f)=true /\
 ∀(pins:List (Addr×Obj))(σ:St)(H:Hp)(s:Shared)(Q:VK)(us:List Value)(vs:List V)(α:List Addr)(ds:List D)(μ:aB),aY X pins σ H s->bh vs us->gO X.K X.w H α μ->Reps X.K H α ds vs->aK p H α (F ds μ) (RV p Q) ->
  wpAny (model X.prog X.w) X.A (call (.ref f) us) (EP X pins σ Q) X.xe s
inductive Aa(X:Cx)(p:Pa):List Expr->List (List D->aB->aj D)->List Addr->Prop where
 |nil:Aa X p [] [] []
 |cons {x:Str}{q:Pos}{f:Addr}{F:List D->aB->aj D}{es:List Expr}{Fs:List (List D->aB->aj D)}{fs:List Addr} (hg:Gl X x) (hm:X.mg x=some (.ref f)) (hdb:(x == ("__debug__" : Str))=false) (h:Pk X p f F) (r:Aa X p es Fs fs) :
   Aa X p (.Name x q::es) (F::Fs) (f::fs)
def NA(vs:List V):TA:=fun _ H Q=>Q vs H
section
variable{X:Cx}{p:Pa}{es:List Expr}{Fs:List (List D->aB->aj D)}{fs:List Addr}
theorem Aa.pa(h:Aa X p es Fs fs):PA X es (NA (fs.map V.ref)):=by
 induction h with
 |nil=>exact qP
 | @cons x q f F es Fs fs hg hm hdb h r ih=>exact jd (uH (v:=.ref f) hg hm rfl hdb) ih
theorem Aa.len(h:Aa X p es Fs fs):fs.length=Fs.length:=by
 induction h with
 |nil=>rfl
 |cons hg hm hdb h r ih=>simp only[Qm,ih]
theorem Aa.get(h:Aa X p es Fs fs):∀(i:Nat)(F:List D->aB->aj D),Fs[i]?=some F->∃f,fs[i]?=some f/\Pk X p f F:=by
 induction h with
 |nil=>intro i F e;cases e
 |cons hg hm hdb h r ih=>
  intro i F e;cases i with
  |zero=>cases e;exact⟨_,rfl,h⟩
  |succ i=>exact ih i F e
end
def qJ(Fs:List (List D->aB->aj D))(i:Nat)(fr:MA):ME:=fun ρ μ=>match ρ[i]? with
 |some (some (.int j))=>if 0<=j then (match Fs[j.toNat]? with
   |some F=>(fr ρ μ).bind F
   |none=>.bad) else .bad
 |_=>.bad
section
variable{X:Cx}{p:Pa}{es:List Expr}{Fs:List (List D->aB->aj D)}{i:Nat}{x:Str}{a:Expr}{as:List Expr}{fr:MA}{pos ps pl pn:Pos}
theorem nH(o b:Expr)(sp:Pos)(args:List Expr)(keywords:List Keyword)(pos:Pos)(env:Env):eval (.Call (.Subscript o b sp) args keywords pos) env=(do
  callWith pos (<- eval (.Subscript o b sp) env) [] (backTo pos (starEach args env)) (backToKw pos (keywordEach keywords env))):=rfl
theorem HL (hs:∃fs,Aa X p es Fs fs) (ha:Bx (PA X (a::as) (mC p fr))) (hn:Fs.length<=8:=by decide) (hN:X.N[i]?=some x:=by rfl) (hv:KD X.env.scope x:=by first|exact Or.inl rfl|exact Or.inr (Or.inl rfl)|exact Or.inr (Or.inr rfl)) (hd:(x == ("__debug__" : Str))=false:=by decide) (hcd:(x == ("__classdict__" : Str))=false:=by decide)
  (hK:X.K=p.K:=by rfl) (hw:X.w=p.w:=by rfl) (he:starEach (a::as) X.env=(false,eval a X.env)::starEach as X.env:=by rfl) (hpl:(backTo pos (starEach as X.env)).any (·.1)=false:=by rfl) :
  Bx (PE X (.Call (.Subscript (.List es pl) (.Name x pn) ps) (a::as) [] pos) (tD p (qJ Fs i fr))):=Bx.mk (by
 obtain⟨fs,hs⟩:=hs;intro pins s σ H Q I ⟨α,ρ,μ,S,R,P⟩;unfold qJ at P
 obtain⟨j,F,e1,h0,e2,P⟩:∃(j:Int)(F:List D->aB->aj D),ρ[i]?=some (some (.int j))/\0<=j/\Fs[j.toNat]?=some F/\aK p H α ((fr ρ μ).bind F) (RV p Q):=by
  split at P
  ·rename_i j e;split at P
   ·rename_i h0;split at P
    ·rename_i F e2;exact⟨j,F,e,h0,e2,P⟩
    ·exact P.elim
   ·exact P.elim
  ·exact P.elim
 obtain⟨f,e3,k1,k2⟩:=hs.get _ _ e2;obtain⟨v,g1,g2⟩:=R.at' i _ e1;have g3:=av.mp g2;subst g3;have hlen:(fs.map V.ref).length=Fs.length:=by rw[Pf,hs.len]
 have hj:j.toNat<Fs.length:=(Ow.mp e2).1
 have hat:atI (fs.map V.ref) j=some (.ref f):=by
  unfold atI zc;rw[Ob h0,Ob (by omega)];show (fs.map V.ref)[j.toNat]?=_;rw[Pb,e3];rfl
 have E1:PE X (.Subscript (.List es pl) (.Name x pn) ps) (Kx (Ht X.K) (KL (NA (fs.map V.ref))) (Hs i)):=G8 zM (Cw hs.pa) (Cv hN hv hd hcd) (fun _ _=>rfl);rw[nH];refine OG (dr (E1 pins s σ H (fun v H1=>v=.ref f/\∃q,H q=none/\H1=dg H q (.lst (fs.map V.ref))) I ?_) fun u s1 ⟨v,H1,I1,r1,hv1,q,hq,hH1⟩=>?_)
 ·refine⟨by rw[hlen];exact Ol hn (by decide),fun q hq=>⟨_,g1,q,fs.map V.ref,j,.ref f,rfl,rfl,gu.of cJ,hat,rfl,q,hq,rfl⟩⟩
 ·subst hv1 hH1;cases r1;have X1:p.X H (dg H q (.lst (fs.map V.ref))) α α:=cE hq;have S1:p.S (dg H q (.lst (fs.map V.ref))) α μ:=S.same X1 fun a ha=>bG fun z=>ha (by rw[z];exact hq);refine W.callWith_K (h₀:=X.base) I1.ok.mod.kin k1 (dr (ha.h pos pins s1 σ _ (fun vs H2=>∃α2 ds μ2,gO X.K X.w H2 α2 μ2/\Reps X.K H2 α2 ds vs/\aK p H2 α2 (F ds μ2) (RV p Q)) I1 ?_) fun us s2 ⟨vs,H2,I2,r2,α2,ds,μ2,S2,R2,P2⟩=>⟨I2.kIn,?_⟩) he hpl
  ·refine ⟨α, ρ, μ, S1, R.mono X1, (aK.bind (aK.from X1 P)).imp fun ds μ1 H2 α2 X2 S2 P2 vs rv => ⟨α2, ds, μ1, ?_, ?_, P2⟩⟩
   ·rw[hK,hw];exact S2
   ·rw[hK];exact rv
  ·exact k2 pins σ H2 s2 Q us vs α2 ds μ2 I2 r2 S2 R2 P2)
end
section
variable{X:Cx}{E:XK}{k n:Nat}{x:Str}{F:List D->aB->aj D}
theorem K2(h:lJ X.prog X.w X.K X.mg X.base k x n F)(hp:jv (Hr X.prog X.w) X E)(hr:gr k X.A):∃f,X.mg x=some (.ref f)/\Pk X (Eg X.K X.w E) f F:=by
 obtain⟨f,fd,ps,h1,h2,h3,h4⟩:=h.fn;refine⟨f,h1,h2,fun pins σ H s Q us vs α ds μ I r S R P=>?_⟩;refine Cg (dvs:=[]) (ds:=[]) (E:=E) h4 hr h3 .nil hp I r ?_;show Mn X.K X.w n F (vs++[]) H Q E;rw[OY];refine⟨?_,α,ds,μ,S,R,P⟩;by_cases hl:ds.length=n
 ·rw[R.length];exact hl
 ·rw[h.len ds μ hl]at P;exact P.elim
theorem FH{p:Pa}:∃fs,Aa X p [] [] fs:=⟨[],.nil⟩
theorem wz {p:Pa}{q:Pos}{es:List Expr}{Fs:List (List D->aB->aj D)} (h:∃f,X.mg x=some (.ref f)/\Pk X p f F) (r:∃fs,Aa X p es Fs fs) (hg:Gl X x:=by rfl) (hdb:(x == ("__debug__" : Str))=false:=by decide):∃fs,Aa X p (.Name x q::es) (F::Fs) fs:=
 let ⟨f,h1,h2⟩:=h;let ⟨fs,r⟩:=r;⟨f::fs,.cons hg h1 hdb h2 r⟩
end
end L2
namespace L2
open PySem PySem.W PyProof.Rows RS
section
variable{prog:Program}{w:World}{A:Around}{E:Value->Shared->Prop}
theorem Li{s0:Shared}{its:List Value}{J S:Addr}{fp:List Addr}{St:Nat->Heap->Prop}(Wk:Walks prog w A.in1 J fp [J] its.length (fun i v=>its[i]?=some v) St)(n1:J≠S)(nS:S∉fp)
  (n4:s0.heap.get? J=none) (n5:s0.heap.get? S=none) {lt:Nat->Nat->Bool}{R:Result->Shared->Prop}
  (hc:∀(i b:Nat) v v0,its[i]?=some v->its[b]?=some v0->∀h tk,Kp s0 h->xZ .Lt A.in1 {s0 with heap:=h,toks:=tk} v v0 (lt i b))
  (hR:∀v h tk,its[argBest lt (its.length-1)]?=some v->Kp s0 h->R (.ok (.ret v)) {s0 with heap:=h,toks:=tk}) :
  ∀(k j:Nat)(h:Heap)(tk c:Nat)(v0:Value),its.length-(j+1)=k->j+1<=its.length->Kp s0 h->St (j+1) h->its[argBest lt j]?=some v0->h.get? S=some (K8 #[v0,v0] c) ->
   codeAny (model prog w) A (.builtin "min.loop" ⟨[.ref J,.none,.ref S],[]⟩) R {s0 with heap:=h,toks:=tk}:=by
 have nm:(toString "min" ++ toString ".loop" : String) = "min.loop" := by decide
 have kJ:∀{h h':Heap},Kp s0 h->(∀b o,b ∉ [J]->h.get? b=some o->h'.get? b=some o)->Kp s0 h':=fun k1 k2 b ob e=>k2 b ob (fun z=>by
  simp only[Os,RA,RB]at z
  subst z;rw[n4]at e;cases e) (k1 b ob e)
 have kS:∀{h:Heap}{o:Obj->Obj},Kp s0 h->Kp s0 (h.update S o):=fun k1 b ob e=>by
  have:S≠b:=fun z=>by subst z;rw[n5]at e;cases e
  exact(PU _ _ this).trans (k1 b ob e)
 intro k
 induction k with
 |zero=>
  intro j h tk c v0 hk hj kp hi hb hS;have je:j+1=its.length:=by omega
  rw[je]at hi;have je':j=its.length-1:=by omega
  subst je';refine Rm Sw ?_;rw[Rn Sx _];refine OG (Q9 (a:=S) hS rfl ?_);refine OG (Sy (Wk.done _ _ _ hi fun h' tk' hm=>?_));have hS':=hm S _ (by simpa using n1.symm) hS;refine OG (m:=updateSeq S fun _=>#[]) ?_;exact SA hS' rfl (OG (SB (OM (hR _ _ _ hb (kS (kJ kp hm))))))
 |succ k ih=>
  intro j h tk c v0 hk hj kp hi hb hS;have jl:j+1<its.length:=by omega
  refine Rm Sw ?_;rw[Rn Sx _];refine OG (Q9 (a:=S) hS rfl ?_);refine OG (Sy (Wk.item (j+1) _ _ _ jl hi fun v h' tk' hP hst hm=>?_));have hS':=hm S _ (by simpa using n1.symm) hS;have kp':=kJ kp hm;refine OG (m:=tryCatch (holding [v,v] (richCompare .Lt v v0 >>= _)) _) (Sy (OH (OG (hc (j+1) _ v v0 hP hb h' tk' kp' prog w _ _ ?_))));refine OG (OH (OC (OG (SB (OM ?_)))));cases e:lt (j+1) (argBest lt j) with
  |false=>
   simp only[Ql,Pp];refine OG (SB ?_);rw[nm];refine OM ⟨Rq Sx _,ih (j+1) h' tk' c v0 (by omega) jl kp' hst ?_ hS'⟩;show its[if lt (j+1) (argBest lt j)=true then j+1 else argBest lt j]?=_;rw[e];exact hb
  |true=>
   simp only[Pq];refine OG ?_;refine SA hS' rfl (OG (SB ?_));rw[nm];refine OM ⟨Rq Sx _,ih (j+1) _ tk' _ v (by omega) jl (kS kp') (Wk.frame _ _ _ hst fun b hb o e=>?_) ?_ (PR _ hS' rfl)⟩
   ·exact(PU _ _ (show S≠b from fun z=>nS (by rw[z];exact hb))).trans e
   ·show its[if lt (j+1) (argBest lt j)=true then j+1 else argBest lt j]?=_;rw[e];exact hP
theorem CV{s0:Shared}{its:List Value}{J S:Addr}{fp:List Addr}{St:Nat->Heap->Prop}(Wk:Walks prog w A.in1 J fp [J] its.length (fun i v=>its[i]?=some v) St)(n1:J≠S)(nS:S∉fp)
  (n4:s0.heap.get? J=none) (n5:s0.heap.get? S=none) {lt:Nat->Nat->Bool}{R:Result->Shared->Prop} (hn:its≠[])
  (hc:∀(i b:Nat) v v0,its[i]?=some v->its[b]?=some v0->∀h tk,Kp s0 h->xZ .Lt A.in1 {s0 with heap:=h,toks:=tk} v v0 (lt i b))
  (hR:∀v h tk,its[argBest lt (its.length-1)]?=some v->Kp s0 h->R (.ok (.ret v)) {s0 with heap:=h,toks:=tk}) {h:Heap}{tk c:Nat} (kp:Kp s0 h) (hi:St 0 h) (hS:h.get? S=some (K8 #[] c)) :
  codeAny (model prog w) A (.builtin "min.loop" ⟨[.ref J,.none,.ref S],[]⟩) R {s0 with heap:=h,toks:=tk}:=by
 have nm:(toString "min" ++ toString ".loop" : String) = "min.loop" := by decide
 have kJ:∀{h h':Heap},Kp s0 h->(∀b o,b ∉ [J]->h.get? b=some o->h'.get? b=some o)->Kp s0 h':=fun k1 k2 b ob e=>k2 b ob (fun z=>by
  simp only[Os,RA,RB]at z
  subst z;rw[n4]at e;cases e) (k1 b ob e)
 have kS:∀{h:Heap}{o:Obj->Obj},Kp s0 h->Kp s0 (h.update S o):=fun k1 b ob e=>by
  have:S≠b:=fun z=>by subst z;rw[n5]at e;cases e
  exact(PU _ _ this).trans (k1 b ob e)
 have hl:0<its.length:=So.mpr hn;refine Rm Sw ?_;rw[Rn Sx _];refine OG (Q9 (a:=S) hS rfl ?_);refine OG (Sy (Wk.item 0 _ _ _ hl hi fun v h' tk' hP hst hm=>?_));have hS':=hm S _ (by simpa using n1.symm) hS;refine OG (m:=updateSeq S fun _=>#[v,v]) ?_;refine SA hS' rfl ?_;rw[nm];refine OM ⟨Rq Sx _,Li Wk n1 nS n4 n5 hc hR (its.length-1) 0 _ tk' _ v rfl hl (kS (kJ kp hm)) (Wk.frame _ _ _ hst fun b hb o e=>?_) hP (PR _ hS' rfl)⟩;exact(PU _ _ (show S≠b from fun z=>nS (by rw[z];exact hb))).trans e
end
section
variable{X:Cx}
abbrev vx(ps:List PyData)(i j:Nat):Bool:=match ps[i]?,ps[j]? with
 |some p,some q=>decide (dk .Lt p q=some true)
 |_,_=>false
def G0(K:W.Frag):List V->Hp->VK->Prop:=fun xs H Q=>∃(a:Addr)(vs:List V)(ps:List PyData),xs=[.ref a]/\(gu K H a vs\/gP K H a vs)/\vs≠[]/\ps.length=vs.length /\
 (∀(i:Nat) v p,vs[i]?=some v->ps[i]?=some p->nK K H p v/\dO p=true)/\(∀p∈ps,∀q∈ps,(dk .Lt p q).isSome=true)/\∀v,vs[argBest (vx ps) (vs.length-1)]?=some v->Q v H
theorem wb{its:List Value}:(fun(i:Nat) v=>its.toArray[i]?=some v)=(fun i v=>its[i]?=some v):=by funext i v;simp
theorem Bp (x:Value):argsOk "min" ⟨[x],[]⟩:=by unfold argsOk;kernel_rfl
theorem Bg (hc:X.calm=true) (hu:X.A.units+64<cLine):c6 X (.builtin "min") (G0 X.K):=by
 intro pins s σ H xs us Q I r h;obtain⟨a,vs,ps,rfl,ha,hne,hlen,hrd,hcm,q⟩:=h;obtain⟨u,rfl,ru⟩:=fI r;cases ru;have nm:(toString "min" ++ toString ".loop" : String) = "min.loop" := by decide
 have cmp:∀(its:List Value),bh vs its->∀(i b:Nat) v v0,its[i]?=some v->its[b]?=some v0->∀h tk,Kp s h->xZ .Lt X.A.in1 {s with heap:=h,toks:=tk} v v0 (vx ps i b):=by
  intro its rv i b v v0 ev e0 h tk kp pr wo E' Q' hQ
  have i1:i<vs.length:=by
   have:=(Ow.mp ev).1;rw[rv.length];exact this
  have i0:b<vs.length:=by
   have:=(Ow.mp e0).1;rw[rv.length];exact this
  obtain⟨u0,e0',r0⟩:=rv.get (RZ i0);obtain⟨u1,e1',r1⟩:=rv.get (RZ i1);rw[e0]at e0';cases e0';rw[ev]at e1';cases e1';have p1:ps[i]?=some ps[i]:=RZ (by omega);have p0:ps[b]?=some ps[b]:=RZ (by omega);obtain⟨h1,h3⟩:=hrd i _ _ (RZ i1) p1;obtain⟨h2,h4⟩:=hrd b _ _ (RZ i0) p0;have I':aY X pins σ H {s with heap:=h,toks:=tk}:=I.kept kp;obtain⟨as,k1⟩:=du I' ps[i] _ _ h1 r1;obtain⟨bs,k2⟩:=du I' ps[b] _ _ h2 r0;have h5:=hcm _ (RX (by omega:i<ps.length)) _ (RX (by omega:b<ps.length))
  have h6:dk .Lt ps[i] ps[b]=some (vx ps i b):=by
   unfold vx;rw[p1,p0];show _=some (decide (dk .Lt ps[i] ps[b]=some true));cases e:dk .Lt ps[i] ps[b] with
   |none=>rw[e]at h5;cases h5
   |some k=>cases k <;> rfl
  refine rj rfl ps[i] ps[b] X.A.in1 _ _ _ as bs _ k1 k2 (cq h3) (cq h4) ?_ h6 pr wo E' Q' hQ;unfold dO at h3;simp only[PH,Sd]at h3;have:=Nat.min_le_left ps[i].depth ps[b].depth;show X.A.units+1+_<_;omega
 have fin:∀(its:List Value),bh vs its->∀v h tk,its[argBest (vx ps) (its.length-1)]?=some v->Kp s h->EP X pins σ Q v {s with heap:=h,toks:=tk}:=by
  intro its rv v h tk e kp;have hl:=rv.length;rw[<- hl]at e
  have i1:argBest (vx ps) (vs.length-1)<vs.length:=by
   have:=(Ow.mp e).1;omega
  obtain⟨u1,e1',r1⟩:=rv.get (RZ i1);rw[e]at e1';cases e1';exact⟨_,H,I.kept kp,r1,q _ (RZ i1)⟩
 refine Ka F.kind_min F.plain_min F.entry_min (Bp _) ?_;refine OG (m:=Builtin.Builtins.bindParams "min" ["key", "default"] 0 ⟨[],[]⟩) (Rt (a:=[none,none]) rfl ?_);refine OG (OM ?_);rcases ha with ha|ha
 ·obtain ⟨its, rv, pl, hz⟩ := I.list ha;have alt:a<s.heap.objs.size:=by obtain⟨o,n,e,_⟩:=pl;exact Oe e
  have W0:=RC (prog:=X.prog) (w:=X.w) (A:=X.A.in1) (show X.A.in1.handled=none from I.ok.hd hc) s.heap.objs.size a (Oh alt) its.toArray;rw[OX,wb]at W0;refine OG (Ry pl.isList ?_);refine OG (PJ ?_);rw[nm];refine OM ⟨Rq Sx _,CV (s0:=s) (A:=X.A) (its:=its) (J:=s.heap.objs.size) (lt:=vx ps) W0 ?_ ?_ ?_ ?_ ?_ (cmp its rv) (fin its rv) ?_ ?_ (OQ _ rfl)⟩
  ·rw[RR];exact Oh (Qn _)
  ·rw[RR];simp only[Os,RA,RB];rintro (z|z);exact absurd z (OL (Qn _));exact absurd z (OL (Qo alt))
  ·exact qg (OR _)
  ·rw[RR];exact qg (Sm _)
  ·intro z;subst z;exact hne (RY.mp rv.length)
  ·exact fun b ob e=>OP _ (OP _ e)
  ·exact⟨⟨_,OP _ (OQ _ rfl),rfl,rfl⟩,pl.isList.at fun o e=>OP _ (OP _ e)⟩
 ·obtain ⟨its, rv, pl, hz⟩ := I.tuple ha;have alt:a<s.heap.objs.size:=by obtain⟨o,e,_⟩:=pl;exact Oe e
  have pl':s.heap.IsTuple a its.toArray:=pl;have W0:=RE (prog:=X.prog) (w:=X.w) (A:=X.A.in1) (show X.A.in1.handled=none from I.ok.hd hc) s.heap.objs.size a (Oh alt) its.toArray;rw[OX,wb]at W0;refine OG (RD pl' ?_);refine OG (PJ ?_);rw[nm];refine OM ⟨Rq Sx _,CV (s0:=s) (A:=X.A) (its:=its) (J:=s.heap.objs.size) (lt:=vx ps) W0 ?_ ?_ ?_ ?_ ?_ (cmp its rv) (fin its rv) ?_ ?_ (OQ _ rfl)⟩
  ·rw[RR];exact Oh (Qn _)
  ·rw[RR];simp only[Os,RA,RB];rintro (z|z);exact absurd z (OL (Qn _));exact absurd z (OL (Qo alt))
  ·exact qg (OR _)
  ·rw[RR];exact qg (Sm _)
  ·intro z;subst z;exact hne (RY.mp rv.length)
  ·exact fun b ob e=>OP _ (OP _ e)
  ·exact⟨⟨_,OP _ (OQ _ rfl),rfl,rfl⟩,pl'.at fun o e=>OP _ (OP _ e)⟩
def BB(μ:aB)(d:D):Option (List D):=match d with
 |.tup xs=>some xs
 |.obj n=>match μ[n]? with
  |some (.lst xs)=>some xs
  |_=>none
 |_=>none
def kv(μ:aB):List D->Option (List PyData)
 |[]=>some []
 |d::ds=>match mz μ d,kv μ ds with
  |some p,some ps=>some (p::ps)
  |_,_=>none
def nZ(ps:List PyData):Bool:=ps.all fun p=>dO p&&ps.all fun q=>(dk .Lt p q).isSome
def ke(ds:List D)(μ:aB):aj D:=match ds with
 |[d]=>match xU d μ with
  |some _=>vE ds μ
  |none=>match BB μ d with
   |some xs=>match kv μ xs with
    |some ps=>if nZ ps=true then (match xs[argBest (vx ps) (xs.length-1)]? with
      |some x=>.ok x μ
      |none=>.bad) else .bad
    |none=>.bad
   |none=>.bad
 |ds=>vE ds μ
theorem v7{μ:aB}:∀{xs:List D}{ps:List PyData},kv μ xs=some ps->ps.length=xs.length
 |[],ps,h=>by simp only[kv,Q3]at h;subst h;rfl
 |d::ds,ps,h=>by
  unfold kv at h;split at h
  ·rename_i p ps' e1 e2;simp only[Q3]at h;subst h;simp[v7 e2]
  ·cases h
theorem v8{μ:aB}:∀{xs:List D}{ps:List PyData},kv μ xs=some ps->∀(i:Nat) d p,xs[i]?=some d->ps[i]?=some p->mz μ d=some p
 |[],ps,h,i,d,p,h1,h2=>by cases h1
 |x::ds,ps,h,i,d,p,h1,h2=>by
  unfold kv at h;split at h
  ·rename_i p' ps' e1 e2;simp only[Q3]at h;subst h;cases i with
   |zero=>cases h1;cases h2;exact e1
   |succ i=>exact v8 e2 i d p h1 h2
  ·cases h
theorem FY{p:Pa}:vy p ke (fun xs H Q=>G0 p.K xs H Q\/(BV p.K xs H Q\/∃i j,xs=[.int i,.int j]/\Q (.int (if j<i then j else i)) H)):=by
 intro ds vs H α μ Q S r P;unfold ke at P;split at P
 ·rename_i d;split at P
  ·exact .inr (yd _ vs H α μ Q S r P)
  ·split at P
   ·rename_i xs hx;split at P
    ·rename_i ps hp;split at P
     ·rename_i hall;split at P
      ·rename_i x hxx;obtain⟨v,rfl,r1⟩:=r.one
       have key:∃(a:Addr)(us:List V),v=.ref a/\(gu p.K H a us\/gP p.K H a us)/\p.Rs H α xs us:=by
        cases d with
        |tup ys=>
         simp only[BB,Q3]at hx;subst hx;obtain⟨a,us,rfl,h1,h2⟩:=aO.mp r1;exact⟨a,us,rfl,.inr h1,h2⟩
        |obj n=>
         simp only[BB]at hx;split at hx
         ·rename_i ys e;simp only[Q3]at hx;subst hx;obtain⟨a,us,rfl,a1,h1,rr⟩:=cS S r1 e;exact⟨a,us,rfl,.inl (gu.of h1),rr⟩
         ·cases hx
        |non=>cases hx
        |bl b=>cases hx
        |int i=>cases hx
        |str x=>cases hx
        |frz xs=>cases hx
       obtain⟨a,us,rfl,hs,rr⟩:=key;have hl:=rr.length;have hpl:=v7 hp;refine .inl ⟨a,us,ps,rfl,hs,?_,by omega,fun i v q h1 h2=>?_,fun q hq q' hq'=>?_,fun v hv=>?_⟩
       ·intro z;rw[z]at hl;have:xs=[]:=RY.mp hl.symm;rw[this]at hxx;cases hxx
       ·obtain⟨y,hy,ry⟩:=rr.getV h1;refine⟨l0 S (v8 hp i y q hy h2) ry,?_⟩;have:=Q6.mp hall q (Pd h2);exact(SC.mp this).1
       ·have:=Q6.mp hall q hq;exact Q6.mp (SC.mp this).2 q' hq'
       ·rw[hl]at hv;obtain⟨y,hy,ry⟩:=rr.getV hv;rw[hxx]at hy;cases hy;exact P.now S _ ry
      ·exact P.elim
     ·exact P.elim
    ·exact P.elim
   ·exact P.elim
 ·exact .inr (yd _ vs H α μ Q S r P)
theorem yu {p:Pa} (hu:X.A.units+64<cLine) (hc:X.calm=true:=by rfl) (hK:X.K=p.K:=by rfl):pK X p "min" ke:=⟨_,_,.inl ⟨_,rfl⟩,by decide +kernel,(Bg hc hu).or ((tX hc).or (tW hc)),hK ▸ FY,by decide,by decide⟩
end
end L2
namespace Lw
open PySem L2
section
variable{P:Program}{w:World}{K:W.Frag}{mg:Str->Option Value}{base:Heap}
structure Nm(mg:Str->Option Value):Prop where
 ValueError:mg "ValueError" = none
 all:mg "all" = none
 bool:mg "bool" = none
 int:mg "int" = none
 isinstance:mg "isinstance" = none
 len:mg "len" = none
 list:mg "list" = none
 max:mg "max" = none
 min:mg "min" = none
 range:mg "range" = none
 repr:mg "repr" = none
 set:mg "set" = none
 sorted:mg "sorted" = none
 tuple:mg "tuple" = none
theorem xp:aV ["thing"] ["thing"] (au jm):=⟨rfl,rfl,rfl,by decide +kernel,rfl,by decide +kernel,by decide +kernel⟩
def ka:MS:=bV (fK (ky (d9 "int") (ai 0)) (vX (ky (d9 "bool") (ai 0))))
def dH:List D->aB->aj D:=iH 1 1 ka
theorem oN:aV ["thing", "least", "most"] ["thing", "least", "most"] (au ff):=⟨rfl,rfl,rfl,by decide +kernel,rfl,by decide +kernel,by decide +kernel⟩
def fX:MS:=bV (fK (aI dH (ag (ai 0) (aD))) (kM (fC .LtE) (fC .LtE) (ai 1) (ai 0) (ai 2)))
def bj:List D->aB->aj D:=iH 3 3 fX
theorem xq:aV ["many", "thing"] ["many", "thing"] (au jn):=⟨rfl,rfl,rfl,by decide +kernel,rfl,by decide +kernel,by decide +kernel⟩
def mq:MS:=bV (aI bj (ag (ai 1) (ag (cC (.int 0)) (ag (aA jA (ai 0) (cC (.int 1))) (aD)))))
def gf:List D->aB->aj D:=iH 2 2 mq
theorem va:aV ["many", "thing"] ["many", "thing"] (au gE):=⟨rfl,rfl,rfl,by decide +kernel,rfl,by decide +kernel,by decide +kernel⟩
theorem sm:(["place", "many"]:List Str).Nodup:=by decide +kernel
def iq:ME:=aI gf (ag (ai 1) (ag (ai 0) (aD)))
def kY:MS:=bV (fK (ky (d9 "tuple") (ai 1)) (aI nQ (ag (cA (fB (ai 1)) [none,some 0] (aq 0) (cg) (iq)) (aD))))
def dE:List D->aB->aj D:=iH 2 2 kY
theorem u9:aV ["things"] ["things"] (au gD):=⟨rfl,rfl,rfl,by decide +kernel,rfl,by decide +kernel,by decide +kernel⟩
theorem sk:(["at", "things"]:List Str).Nodup:=by decide +kernel
def jx:ME:=aA (fC .Lt) (aA bR (ai 1) (aA jA (ai 0) (cC (.int 1)))) (aA bR (ai 1) (ai 0))
def kX:MS:=bV (aI nQ (ag (cA (nP xW (ag (cC (.int 1)) (ag (aI mE (ag (ai 0) (aD))) (aD)))) [none,some 0] (aq 0) (cg) (jx)) (aD)))
def dD:List D->aB->aj D:=iH 1 1 kX
theorem yJ:aV ["thing"] ["thing"] (au j5):=⟨rfl,rfl,rfl,by decide +kernel,rfl,by decide +kernel,by decide +kernel⟩
def oK:MS:=bV (aI bj (ag (ai 0) (ag (cC (.int 1)) (ag (cC (.int 6)) (aD)))))
def g6:List D->aB->aj D:=iH 1 1 oK
theorem yI:aV ["many", "thing"] ["many", "thing"] (au j4):=⟨rfl,rfl,rfl,by decide +kernel,rfl,by decide +kernel,by decide +kernel⟩
def oJ:MS:=bV (fK (aI dE (ag (ai 0) (ag (ai 1) (aD)))) (fK (aA (iA false) (aI mE (ag (ai 1) (aD))) (cC (.int 2))) (aA (iA true) (aA bR (ai 1) (cC (.int 0))) (aA bR (ai 1) (cC (.int 1))))))
def g5:List D->aB->aj D:=iH 2 2 oJ
theorem AD:aV ["many", "thing"] ["many", "thing"] (au lD):=⟨rfl,rfl,rfl,by decide +kernel,rfl,by decide +kernel,by decide +kernel⟩
def rG:MS:=bV (fK (aI g5 (ag (ai 0) (ag (ai 1) (aD)))) (aA (fC .Lt) (aA bR (ai 1) (cC (.int 0))) (aA bR (ai 1) (cC (.int 1)))))
def i3:List D->aB->aj D:=iH 2 2 rG
theorem yH:aV ["many", "thing"] ["many", "thing"] (au i4):=⟨rfl,rfl,rfl,by decide +kernel,rfl,by decide +kernel,by decide +kernel⟩
theorem vk:(["tie", "many"]:List Str).Nodup:=by decide +kernel
def jo:ME:=aI i3 (ag (ai 1) (ag (ai 0) (aD)))
def oI:MS:=bV (fK (ky (d9 "tuple") (ai 1)) (fK (aI nQ (ag (cA (fB (ai 1)) [none,some 0] (aq 0) (cg) (jo)) (aD))) (aI dD (ag (ai 1) (aD)))))
def g4:List D->aB->aj D:=iH 2 2 oI
theorem kP:aV ["thing", "many", "ties"] ["thing"] (au jj):=⟨rfl,rfl,rfl,by decide +kernel,rfl,by decide +kernel,by decide +kernel⟩
def ml:MS:=bf (mD (ja (cD (eA (ky (d9 "tuple") (ai 0)))) (i8 (aA (iA true) (aI mE (ag (ai 0) (aD))) (cC (.int 2))))) (bV (cC (.bl false))) (cZ))
 (bf (bB (ai 0) (fu 2 (br (aq 1) (br (aq 2) (fv)))))
 (bV (fK (aI g6 (ag (ai 1) (aD))) (aI g4 (ag (ai 1) (ag (ai 2) (aD)))))))
def di:List D->aB->aj D:=iH 1 3 ml
theorem rX:aV ["ties", "front"] ["ties", "front"] (au dw):=⟨rfl,rfl,rfl,by decide +kernel,rfl,by decide +kernel,by decide +kernel⟩
theorem jN:(["a", "b", "front"]:List Str).Nodup:=by decide +kernel
theorem jM:(["a", "b", "front"]:List Str).Nodup:=by decide +kernel
def km:ME:=ai 1
def iF:MT:=i8 (aA (sr false) (ai 0) (ai 2))
def kj:ME:=ai 0
def iE:MT:=i8 (aA (sr false) (ai 1) (ai 2))
def lS:MS:=bV (aA cQ (cA (fB (ai 0)) [none,none,some 1] (fu 2 (br (aq 0) (br (aq 1) (fv)))) (iF) (km)) (cA (fB (ai 0)) [none,none,some 1] (fu 2 (br (aq 0) (br (aq 1) (fv)))) (iE) (kj)))
def fQ:List D->aB->aj D:=iH 2 2 lS
theorem cN:aV ["web", "start", "many", "ties", "fars", "far", "front", "place"] ["web", "start"] (au gF):=⟨rfl,rfl,rfl,by decide +kernel,rfl,by decide +kernel,by decide +kernel⟩
theorem so:(["place", "fars"]:List Str).Nodup:=by decide +kernel
def lR:ME:=ai 0
def jw:MT:=i8 (aA (uc false) (aA bR (ai 1) (ai 0)) (cC .non))
def fP:MS:=bB (ai 5) (oZ (ai 4) (ai 7))
def fO:MS:=bf (xV 5 qG (cC (.int 1)))
 (bf (bB (cA (fB (aI fQ (ag (ai 3) (ag (ai 6) (aD))))) [none,some 4] (aq 0) (jw) (lR)) (aq 6))
 (pH (fB (ai 6)) (aq 7) fP))
def pE:MS:=bf (bB (ai 0) (fu 2 (br (aq 2) (br (aq 3) (fv)))))
 (bf (bB (aA sA (iS (ag (cC .non) (aD))) (ai 2)) (aq 4))
 (bf (bB (cC (.int 0)) (oZ (ai 4) (ai 1)))
 (bf (bB (cC (.int 0)) (aq 5))
 (bf (bB (iS (ag (ai 1) (aD))) (aq 6))
 (bf (uh 100 (eA (ai 6)) fO)
 (bV (ai 4)))))))
def gm:List D->aB->aj D:=iH 2 8 pE
theorem fe:aV ["web", "k", "many", "ties", "one", "fars"] ["web", "k"] (au gC):=⟨rfl,rfl,rfl,by decide +kernel,rfl,by decide +kernel,by decide +kernel⟩
theorem sj:(["other", "one", "k", "fars"]:List Str).Nodup:=by decide +kernel
def ip:ME:=bE (ag (ai 1) (ag (ai 0) (aD)))
def ik:MT:=qK (i8 (aA (uc true) (aA bR (ai 3) (ai 0)) (cC .non))) (i8 (aA (fC .LtE) (aA bR (ai 3) (ai 0)) (ai 2)))
def il:MS:=bf (bB (aI (fun ds μ=>(gm ds μ).nox) (ag (ai 0) (ag (ai 4) (aD)))) (aq 5))
 (xV 3 qG (cA (nP xW (ag (aA cQ (ai 4) (cC (.int 1))) (ag (ai 2) (aD)))) [none,some 4,some 1,some 5] (aq 0) (ik) (ip)))
def pD:MS:=bf (mD (cD (eA (aI (fun ds μ=>(bj ds μ).nox) (ag (ai 1) (ag (cC (.int 1)) (ag (cC (.int 6)) (aD))))))) (ui "NoNumber") (cZ))
 (bf (bB (aA bR (ai 0) (cC (.int 0))) (aq 2))
 (bf (bB (iS (aD)) (aq 3))
 (bf (pH (nP lX (ag (ai 2) (aD))) (aq 4) il)
 (bV (bE (ag (ai 2) (ag (aI gX (ag (ai 3) (aD))) (aD))))))))
def eP:List D->aB->aj D:=iH 2 6 pD
theorem xo:aV ["web"] ["web"] (au jk):=⟨rfl,rfl,rfl,by decide +kernel,rfl,by decide +kernel,by decide +kernel⟩
def rV:MS:=bV (aI eP (ag (ai 0) (ag (cC (.int 2)) (aD))))
def f9:List D->aB->aj D:=iH 1 1 rV
theorem u7:aV ["web", "thing"] ["web", "thing"] (au iL):=⟨rfl,rfl,rfl,by decide +kernel,rfl,by decide +kernel,by decide +kernel⟩
def kW:MS:=bV (fK (aI di (ag (ai 1) (aD))) (aA (iA false) (aI (fun ds μ=>(f9 ds μ).nox) (ag (ai 1) (aD))) (ai 0)))
def dc:List D->aB->aj D:=iH 2 2 kW
theorem rY:aV ["web", "thing"] ["web", "thing"] (au gH):=⟨rfl,rfl,rfl,by decide +kernel,rfl,by decide +kernel,by decide +kernel⟩
def jz:MS:=mD (ja (cD (eA (aI (fun ds μ=>(di ds μ).nox) (ag (ai 1) (aD))))) (i8 (aA (iA true) (aA bR (ai 1) (cC (.int 0))) (aA bR (ai 0) (cC (.int 0)))))) (ui "NoRoot") (cZ)
def bP:List D->aB->aj D:=iH 2 2 jz
theorem eR:aV ["web", "other", "ties", "reached", "lacks", "more"] ["web", "other"] (au dy):=⟨rfl,rfl,rfl,by decide +kernel,rfl,by decide +kernel,by decide +kernel⟩
theorem oU:(["tie", "reached"]:List Str).Nodup:=by decide +kernel
theorem oS:(["tie", "ties"]:List Str).Nodup:=by decide +kernel
def ko:ME:=ai 0
def ki:MT:=i8 (aA (sr true) (ai 0) (ai 1))
def kn:ME:=ai 0
def kh:MT:=i8 (aA (sr true) (ai 0) (ai 1))
def jy:MS:=bf (qE (aI bP (ag (ai 0) (ag (ai 1) (aD)))))
 (bf (bB (aA bR (ai 0) (cC (.int 1))) (aq 2))
 (bf (bB (aA bR (aI f9 (ag (ai 1) (aD))) (cC (.int 1))) (aq 3))
 (bf (bB (aI gX (ag (cA (fB (ai 2)) [none,some 3] (aq 0) (ki) (ko)) (aD))) (aq 4))
 (bf (bB (aI gX (ag (cA (fB (ai 3)) [none,some 2] (aq 0) (kh) (kn)) (aD))) (aq 5))
 (bV (bE (ag (ai 4) (ag (ai 5) (aD)))))))))
def cx:List D->aB->aj D:=iH 2 6 jy
theorem dz:aV ["web", "other", "lacks", "more", "a", "b", "word"] ["web", "other"] (au gG):=⟨rfl,rfl,rfl,by decide +kernel,rfl,by decide +kernel,by decide +kernel⟩
def ir:MS:=bf (bB (aI cx (ag (ai 0) (ag (ai 1) (aD)))) (fu 2 (br (aq 2) (br (aq 3) (fv)))))
 (bf (mD (qK (cD (eA (ai 2))) (cD (eA (ai 3)))) (bV (cC .non)) (cZ))
 (bf (bB (aI ke (ag (aA cQ (ai 2) (ai 3)) (aD))) (fu 2 (br (aq 4) (br (aq 5) (fv)))))
 (bf (bB (Mp (i8 (aA (sr false) (bE (ag (ai 4) (ag (ai 5) (aD)))) (ai 2))) (cC (.str "lacks")) (cC (.str "more"))) (aq 6))
 (bV (bE (ag (ai 6) (ag (ai 4) (ag (ai 5) (aD)))))))))
def bO:List D->aB->aj D:=iH 2 7 ir
theorem pM:aV ["_law_script", "_law_k"] ["_law_script", "_law_k"] (au fV):=⟨rfl,rfl,rfl,by decide +kernel,rfl,by decide +kernel,by decide +kernel⟩
def i6:MS:=bf (mD (i8 (aA (fC .Lt) (ai 1) (aI mE (ag (ai 0) (aD))))) (bV (aA bR (ai 0) (ai 1))) (cZ))
 (bV (cC (.int 0)))
def eU:List D->aB->aj D:=iH 2 2 i6
theorem nz:aV ["_law_seed"] ["_law_seed"] (au iM):=⟨rfl,rfl,rfl,by decide +kernel,rfl,by decide +kernel,by decide +kernel⟩
def pF:MS:=bf (bB (aA vD (aA cQ (ai 0) (cC (.int 7919))) (cC (.int 2147483647))) (aq 0))
 (bV (aA vD (aA cQ (aA cQ (aA sA (ai 0) (ai 0)) (aA sA (cC (.int 48271)) (ai 0))) (cC (.int 12345))) (cC (.int 2147483629))))
def gn:List D->aB->aj D:=iH 1 1 pF
theorem k6:aV ["_law_cell", "_law_left"] ["_law_cell"] (au gI):=⟨rfl,rfl,rfl,by decide +kernel,rfl,by decide +kernel,by decide +kernel⟩
def lU:MS:=bf (bB (aI vF (ag (ai 0) (ag (aA jA (cC (.int 0)) (ai 0)) (aD)))) (aq 1))
 (bV (iS (ag (ai 1) (ag (aI vV (ag (aA (fC .GtE) (ai 1) (aA Ai (cC (.int 10)) (cC (.int 18)))) (aD))) (ag (aA vD (ai 1) (cC (.int 1000003))) (aD))))))
def fR:List D->aB->aj D:=iH 1 2 lU
theorem nA:aV ["_law_pen", "_law_many", "_law_found"] ["_law_pen", "_law_many"] (au iN):=⟨rfl,rfl,rfl,by decide +kernel,rfl,by decide +kernel,by decide +kernel⟩
def kZ:MS:=bf (mD (i8 (aA (iA false) (aA bR (ai 0) (cC (.int 1))) (cC (.int 1)))) (bf (bB (aA vD (aA bR (ai 0) (cC (.int 0))) (ai 1)) (aq 2))
 (bf (bB (aA vW (aA bR (ai 0) (cC (.int 0))) (ai 1)) (oZ (ai 0) (cC (.int 0))))
 (bV (ai 2)))) (cZ))
 (bf (bB (aI gn (ag (aA cQ (aI gn (ag (aA bR (ai 0) (cC (.int 2))) (aD))) (cC (.int 7))) (aD))) (oZ (ai 0) (cC (.int 2))))
 (bV (aA vD (aA vW (aA bR (ai 0) (cC (.int 2))) (cC (.int 64))) (ai 1))))
def aR:List D->aB->aj D:=iH 2 3 kZ
theorem sG:aV ["_law_found"] ["_law_found"] (au ij):=⟨rfl,rfl,rfl,by decide +kernel,rfl,by decide +kernel,by decide +kernel⟩
def vt:MS:=bV (fK (ky (d9 "int") (ai 0)) (vX (ky (d9 "bool") (ai 0))))
def cw:List D->aB->aj D:=iH 1 1 vt
theorem iD:aV ["_law_e", "_law_marks"] ["_law_e"] (au fU):=⟨rfl,rfl,rfl,by decide +kernel,rfl,by decide +kernel,by decide +kernel⟩
def lp:MS:=bf (bB (iS (ag (ky (lY [] ["NoNumber", "NoRoot"]) (ai 0)) (ag (ky (lY ["NoNumber"] ["NoNumber", "NoRoot"]) (ai 0)) (ag (ky (lY [] ["NoNumber", "NoRoot"]) (ai 0)) (ag (ky (lY ["NoRoot"] ["NoNumber", "NoRoot"]) (ai 0)) (aD)))))) (aq 1))
 (bf (bB (aA cQ (ai 1) (iS (ag (ky (lY [] ["NoNumber", "NoRoot"]) (ai 0)) (ag (ky (lY [] ["NoNumber", "NoRoot"]) (ai 0)) (ag (ky (lY [] ["NoNumber", "NoRoot"]) (ai 0)) (ag (ky (lY [] ["NoNumber", "NoRoot"]) (ai 0)) (aD))))))) (aq 1))
 (bf (mD (ja (cD (eA (ky (lY ["NoNumber", "NoRoot"] ["NoNumber", "NoRoot"]) (ai 0)))) (i8 (aA (iA true) (Bw lB (ai 1) (ag (cC (.bl true)) (aD))) (cC (.int 1))))) (bV (cC (.str "other"))) (cZ))
 (bV (aA bR (iS (ag (cC (.str "place")) (ag (cC (.str "number")) (ag (cC (.str "line")) (ag (cC (.str "root")) (ag (cC (.str "tree")) (ag (cC (.str "web")) (ag (cC (.str "text")) (ag (cC (.str "great")) (aD)))))))))) (Bw lA (ai 1) (ag (cC (.bl true)) (aD)))))))
def eT:List D->aB->aj D:=iH 1 2 lp
theorem rZ:aV ["_law_many", "_law_ties"] ["_law_many", "_law_ties"] (au eQ):=⟨rfl,rfl,rfl,by decide +kernel,rfl,by decide +kernel,by decide +kernel⟩
theorem jO:(["_law_a", "_law_b"]:List Str).Nodup:=by decide +kernel
def iG:ME:=bE (ag (aI vE (ag (ai 0) (ag (ai 1) (aD)))) (ag (aI vF (ag (ai 0) (ag (ai 1) (aD)))) (aD)))
def lT:MS:=bV (bE (ag (ai 0) (ag (aI gX (ag (aI lz (ag (aI xY (ag (cA (fB (ai 1)) [none,none] (fu 2 (br (aq 0) (br (aq 1) (fv)))) (cg) (iG)) (aD))) (aD))) (aD))) (aD))))
def bQ:List D->aB->aj D:=iH 2 2 lT
theorem df:aV ["_law_pen", "_law_most", "_law_many", "_law_share", "_law_ties", "_law_one"] ["_law_pen", "_law_most"] (au de):=⟨rfl,rfl,rfl,by decide +kernel,rfl,by decide +kernel,by decide +kernel⟩
theorem lK:(["_law_other", "_law_one", "_law_pen", "_law_share"]:List Str).Nodup:=by decide +kernel
def dM:ME:=bE (ag (ai 0) (ag (ai 1) (aD)))
def dJ:MT:=i8 (aA (iA false) (aI aR (ag (ai 2) (ag (ai 3) (aD)))) (cC (.int 0)))
def cV:MS:=qE (Bw iJ (ai 4) (ag (cA (nP lX (ag (ai 5) (aD))) [none,some 5,some 0,some 3] (aq 0) (dJ) (dM)) (aD)))
def jP:MS:=bf (bB (aA cQ (cC (.int 1)) (aI aR (ag (ai 0) (ag (ai 1) (aD))))) (aq 2))
 (bf (bB (aA cQ (cC (.int 2)) (aI aR (ag (ai 0) (ag (cC (.int 3)) (aD))))) (aq 3))
 (bf (bB (iS (aD)) (aq 4))
 (bf (pH (nP lX (ag (ai 2) (aD))) (aq 5) cV)
 (bV (aI bQ (ag (ai 2) (ag (ai 4) (aD))))))))
def bU:List D->aB->aj D:=iH 2 6 jP
theorem pL:aV ["_law_web", "_law_place"] ["_law_web", "_law_place"] (au dQ):=⟨rfl,rfl,rfl,by decide +kernel,rfl,by decide +kernel,by decide +kernel⟩
theorem jq:(["_law_a", "_law_b", "_law_place"]:List Str).Nodup:=by decide +kernel
def hZ:ME:=aA jA (aA cQ (ai 0) (ai 1)) (ai 2)
def g9:MT:=i8 (aA (sr false) (ai 2) (bE (ag (ai 0) (ag (ai 1) (aD)))))
def ll:MS:=bV (cA (fB (aA bR (ai 0) (cC (.int 1)))) [none,none,some 1] (fu 2 (br (aq 0) (br (aq 1) (fv)))) (g9) (hZ))
def eS:List D->aB->aj D:=iH 2 2 ll
theorem dB:aV ["_law_web", "_law_ties", "_law_place", "_law_near", "_law_one"] ["_law_web"] (au dA):=⟨rfl,rfl,rfl,by decide +kernel,rfl,by decide +kernel,by decide +kernel⟩
theorem my:(["_law_other", "_law_one"]:List Str).Nodup:=by decide +kernel
def d8:ME:=bE (ag (ai 1) (ag (ai 0) (aD)))
def d5:MT:=i8 (aA (fC .Lt) (ai 1) (ai 0))
def d7:MS:=qE (Bw iJ (ai 1) (ag (cA (fB (ai 3)) [none,some 4] (aq 0) (d5) (d8)) (aD)))
def d6:MS:=bf (bB (aI eS (ag (ai 0) (ag (ai 2) (aD)))) (aq 3))
 (pH (fB (ai 3)) (aq 4) d7)
def kr:MS:=bf (bB (aI mL (ag (aA bR (ai 0) (cC (.int 1))) (aD))) (aq 1))
 (bf (pH (nP lX (ag (aA bR (ai 0) (cC (.int 0))) (aD))) (aq 2) d6)
 (bV (aI bQ (ag (aA bR (ai 0) (cC (.int 0))) (ag (ai 1) (aD))))))
def bJ:List D->aB->aj D:=iH 1 5 kr
theorem cj:aV ["_law_pen", "_law_most", "_law_web", "_law_way", "_law_one", "_law_pair", "_law_some"] ["_law_pen", "_law_most"] (au dR):=⟨rfl,rfl,rfl,by decide +kernel,rfl,by decide +kernel,by decide +kernel⟩
theorem nF:(["_law_tie", "_law_pair"]:List Str).Nodup:=by decide +kernel
def fq:ME:=ai 0
def fm:MT:=i8 (aA (iA true) (ai 0) (ai 1))
def gN:MS:=bf (bB (aI bU (ag (ai 0) (ag (ai 1) (aD)))) (aq 2))
 (bf (bB (aI aR (ag (ai 0) (ag (cC (.int 4)) (aD)))) (aq 3))
 (bf (mD (i8 (aA (iA false) (ai 3) (cC (.int 0)))) (bV (ai 2)) (cZ))
 (bf (bB (aI bJ (ag (ai 2) (aD))) (aq 2))
 (bf (mD (qK (i8 (aA (iA false) (ai 3) (cC (.int 3)))) (i8 (aA (fC .Gt) (aA bR (ai 2) (cC (.int 0))) (cC (.int 1))))) (bf (bB (aI aR (ag (ai 0) (ag (aA jA (aA bR (ai 2) (cC (.int 0))) (cC (.int 1))) (aD)))) (aq 4))
 (bf (bB (bE (ag (ai 4) (ag (aA cQ (aA cQ (ai 4) (cC (.int 1))) (aI aR (ag (ai 0) (ag (aA jA (aA jA (aA bR (ai 2) (cC (.int 0))) (cC (.int 1))) (ai 4)) (aD))))) (aD)))) (aq 5))
 (bf (bB (cA (fB (aA bR (ai 2) (cC (.int 1)))) [none,some 5] (aq 0) (fm) (fq)) (aq 6))
 (bf (mD (i8 (aA (sr true) (ai 5) (aA bR (ai 2) (cC (.int 1))))) (qE (Bw lC (ai 6) (ag (ai 5) (aD)))) (cZ))
 (bB (aI bQ (ag (aA bR (ai 2) (cC (.int 0))) (ag (ai 6) (aD)))) (aq 2)))))) (cZ))
 (bV (ai 2))))))
def cT:List D->aB->aj D:=iH 2 7 gN
theorem fk:aV ["_law_thing", "_law_last", "_law_tie"] ["_law_thing"] (au fg):=⟨rfl,rfl,rfl,by decide +kernel,rfl,by decide +kernel,by decide +kernel⟩
def cf:MS:=bf (mD (ja (cD (eA (ky (d9 "tuple") (ai 2)))) (ja (i8 (aA (iA true) (aI mE (ag (ai 2) (aD))) (cC (.int 2)))) (ja (cD (eA (aI cw (ag (aA bR (ai 2) (cC (.int 0))) (aD))))) (cD (eA (aI cw (ag (aA bR (ai 2) (cC (.int 1))) (aD)))))))) (bV (cC (.bl false))) (cZ))
 (bf (mD (ja (cD (i8 (qp (fC .LtE) (fC .Lt) (fC .Lt) (cC (.int 0)) (aA bR (ai 2) (cC (.int 0))) (aA bR (ai 2) (cC (.int 1))) (aA bR (ai 0) (cC (.int 0)))))) (i8 (aA (fC .LtE) (ai 2) (ai 1)))) (bV (cC (.bl false))) (cZ))
 (bB (ai 2) (aq 1)))
def kq:MS:=bf (mD (ja (cD (eA (ky (d9 "tuple") (ai 0)))) (ja (i8 (aA (iA true) (aI mE (ag (ai 0) (aD))) (cC (.int 2)))) (ja (cD (eA (aI cw (ag (aA bR (ai 0) (cC (.int 0))) (aD))))) (cD (i8 (kM (fC .Lt) (fC .Lt) (cC (.int 0)) (aA bR (ai 0) (cC (.int 0))) (cC (.int 7)))))))) (bV (cC (.bl false))) (cZ))
 (bf (mD (cD (eA (ky (d9 "tuple") (aA bR (ai 0) (cC (.int 1)))))) (bV (cC (.bl false))) (cZ))
 (bf (bB (bE (ag (ky vC (cC (.int 1))) (ag (ky vC (cC (.int 1))) (aD)))) (aq 1))
 (bf (pH (fB (aA bR (ai 0) (cC (.int 1)))) (aq 2) cf)
 (bV (cC (.bl true))))))
def cH:List D->aB->aj D:=iH 1 3 kq
theorem bA:aV ["_law_pen", "_law_web", "_law_many", "_law_ties", "_law_odd", "_law_spot", "_law_pair", "_law_wrong", "_law_bent", "_law_some"] ["_law_pen", "_law_web"] (au fj):=⟨rfl,rfl,rfl,by decide +kernel,rfl,by decide +kernel,by decide +kernel⟩
def ku:MS:=bf (bB (ai 1) (fu 2 (br (aq 2) (br (aq 3) (fv)))))
 (bf (bB (aA bR (iS (ag (aA cQ (ai 2) (cC (.int 1))) (ag (cC (.int 0)) (ag (cC (.int 7)) (ag (ky vC (cC (.int 1))) (ag (cC (.bl true)) (ag (cC .non) (ag (cC (.str "2")) (ag (bE (ag (cC (.int 2)) (aD))) (ag (aA Ai (cC (.int 10)) (cC (.int 30))) (aD))))))))))) (aI aR (ag (ai 0) (ag (cC (.int 9)) (aD))))) (aq 4))
 (bf (bB (aI aR (ag (ai 0) (ag (aA cQ (aI mE (ag (ai 3) (aD))) (cC (.int 1))) (aD)))) (aq 5))
 (bf (bB (aA bR (aA cQ (ai 3) (bE (ag (bE (ag (cC (.int 0)) (ag (cC (.int 1)) (aD)))) (aD)))) (ai 5)) (aq 6))
 (bf (bB (iS (ag (bE (ag (aA bR (ai 6) (cC (.int 1))) (ag (aA bR (ai 6) (cC (.int 0))) (aD)))) (ag (aI mL (ag (ai 6) (aD))) (ag (bE (ag (aA bR (ai 6) (cC (.int 0))) (aD))) (ag (aA cQ (ai 6) (bE (ag (cC (.int 0)) (aD)))) (ag (bE (ag (aA bR (ai 6) (cC (.int 0))) (ag (ai 2) (aD)))) (ag (bE (ag (aA bR (ai 6) (cC (.int 0))) (ag (ai 4) (aD)))) (ag (cC .non) (ag (bE (ag (cC (.int 0)) (ag (cC (.int 0)) (aD)))) (aD)))))))))) (aq 7))
 (bf (bB (aA cQ (aA cQ (Ej (ai 3) (En) (kH (ai 5))) (bE (ag (aA bR (ai 7) (aI aR (ag (ai 0) (ag (cC (.int 8)) (aD))))) (aD)))) (Ej (ai 3) (kH (aA cQ (ai 5) (cC (.int 1)))) (En))) (aq 8))
 (bf (bB (iS (ag (bE (ag (ai 4) (ag (ai 3) (aD)))) (ag (bE (ag (ai 2) (ag (ai 8) (aD)))) (ag (bE (ag (ai 2) (ag (ai 8) (aD)))) (ag (bE (ag (ai 2) (ag (aI mL (ag (ai 3) (aD))) (aD)))) (ag (iS (ag (ai 2) (ag (ai 3) (aD)))) (ag (bE (ag (ai 2) (aD))) (ag (bE (ag (ai 2) (ag (ai 3) (ag (bE (aD)) (aD))))) (aD))))))))) (aq 9))
 (bf (bB (aA cQ (ai 9) (iS (ag (bE (ag (ai 2) (ag (aA vU (ai 3) (ky vC (cC (.int 1)))) (aD)))) (ag (bE (ag (ai 2) (ag (aA cQ (ai 3) (Ej (ai 3) (En) (kH (cC (.int 1))))) (aD)))) (ag (cC .non) (ag (ai 3) (ag (Ey) (ag (bE (ag (ai 2) (ag (Ej (ai 3) (kH (cC (.int 1))) (En)) (aD)))) (ag (bE (ag (ai 2) (ag (bE (aD)) (aD)))) (aD)))))))))) (aq 9))
 (bV (aA bR (ai 9) (aI aR (ag (ai 0) (ag (cC (.int 14)) (aD)))))))))))))
def dS:List D->aB->aj D:=iH 2 10 ku
theorem mw:aV ["_law_found", "_law_due"] ["_law_found", "_law_due"] (au cU):=⟨rfl,rfl,rfl,by decide +kernel,rfl,by decide +kernel,by decide +kernel⟩
theorem lr:(["_law_one"]:List Str).Nodup:=by decide +kernel
theorem lq:(["_law_number"]:List Str).Nodup:=by decide +kernel
def dq:ME:=aI cw (ag (ai 0) (aD))
def fG:ME:=fK (ky (d9 "tuple") (ai 0)) (aI nQ (ag (cA (fB (ai 0)) [none] (aq 0) (cg) (dq)) (aD)))
def jr:MS:=bf (mD (ja (cD (eA (ky (d9 "tuple") (ai 0)))) (i8 (aA (iA true) (ai 0) (ai 1)))) (bV (cC (.bl false))) (cZ))
 (bV (aI nQ (ag (cA (fB (ai 0)) [none] (aq 0) (cg) (fG)) (aD))))
def bN:List D->aB->aj D:=iH 2 2 jr
theorem kf:aV ["_law_way", "_law_web", "_law_other", "_law_e"] ["_law_way", "_law_web", "_law_other"] (au fT):=⟨rfl,rfl,rfl,by decide +kernel,rfl,by decide +kernel,by decide +kernel⟩
def bT:MS:=bV (qJ [cx,bO] 0 (ag (ai 1) (ag (ai 2) (aD))))
def hV:MS:=bV (aI eT (ag (ai 3) (aD)))
def gM:MS:=Ae ["NoNumber", "NoRoot"] 3 4 bT hV
def bI:List D->aB->aj D:=iH 3 4 gM
theorem cP:aV ["_law_web", "_law_other", "_law_held", "_law_found", "_law_like", "_law_told", "_law_made", "_law_due", "_law_words"] ["_law_web", "_law_other"] (au bX):=⟨rfl,rfl,rfl,by decide +kernel,rfl,by decide +kernel,by decide +kernel⟩
theorem pX:(["_law_way", "_law_web", "_law_other"]:List Str).Nodup:=by decide +kernel
theorem pW:(["_law_tie", "_law_made"]:List Str).Nodup:=by decide +kernel
theorem pV:(["_law_tie", "_law_web"]:List Str).Nodup:=by decide +kernel
theorem pU:(["_law_tie"]:List Str).Nodup:=by decide +kernel
theorem pT:(["_law_tie"]:List Str).Nodup:=by decide +kernel
theorem pS:(["_law_one"]:List Str).Nodup:=by decide +kernel
def gL:ME:=aI bI (ag (ai 0) (ag (ai 1) (ag (ai 2) (aD))))
def lj:ME:=ai 0
def lg:MT:=i8 (aA (sr true) (ai 0) (ai 1))
def lh:ME:=ai 0
def k9:MT:=i8 (aA (sr true) (ai 0) (aA bR (ai 1) (cC (.int 1))))
def gK:ME:=bE (ag (ai 0) (ag (cC (.str "lacks")) (aD)))
def gJ:ME:=bE (ag (ai 0) (ag (cC (.str "more")) (aD)))
def eV:ME:=aI cw (ag (ai 0) (aD))
def kb:MS:=bf (bB (aI fF (ag (ai 1) (aD))) (aq 2))
 (bf (bB (aI dc (ag (ai 0) (ag (ai 1) (aD)))) (aq 3))
 (bf (bB (fK (aI cH (ag (ai 1) (aD))) (aA (iA false) (aA bR (ai 1) (cC (.int 0))) (aA bR (ai 0) (cC (.int 0))))) (aq 4))
 (bf (mD (ja (cD (eA (ky (d9 "bool") (ai 3)))) (i8 (aA (iA true) (ai 3) (fK (ai 4) (aA (iA false) (aI bJ (ag (ai 1) (aD))) (ai 0)))))) (bV (cC (.bl false))) (cZ))
 (bf (bB (cA (nP lX (ag (cC (.int 2)) (aD))) [none,some 0,some 1] (aq 0) (cg) (gL)) (aq 5))
 (bf (mD (i8 (aA (Aj true) (aI fF (ag (ai 1) (aD))) (ai 2))) (bV (cC (.bl false))) (cZ))
 (bf (mD (cD (eA (ai 4))) (bV (aA (iA false) (ai 5) (iS (ag (cC (.str "root")) (ag (cC (.str "root")) (aD)))))) (cZ))
 (bf (bB (aA bR (aI bJ (ag (ai 1) (aD))) (cC (.int 1))) (aq 6))
 (bf (bB (bE (ag (aI gX (ag (cA (fB (aA bR (ai 0) (cC (.int 1)))) [none,some 6] (aq 0) (lg) (lj)) (aD))) (ag (aI gX (ag (cA (fB (ai 6)) [none,some 0] (aq 0) (k9) (lh)) (aD))) (aD)))) (aq 7))
 (bf (mD (ja (cD (eA (ky (d9 "tuple") (aA bR (ai 5) (cC (.int 0)))))) (i8 (aA (iA true) (aI mE (ag (aA bR (ai 5) (cC (.int 0))) (aD))) (cC (.int 2))))) (bV (cC (.bl false))) (cZ))
 (bf (mD (ja (cD (eA (aI bN (ag (aA bR (aA bR (ai 5) (cC (.int 0))) (cC (.int 0))) (ag (aA bR (ai 7) (cC (.int 0))) (aD)))))) (cD (eA (aI bN (ag (aA bR (aA bR (ai 5) (cC (.int 0))) (cC (.int 1))) (ag (aA bR (ai 7) (cC (.int 1))) (aD))))))) (bV (cC (.bl false))) (cZ))
 (bf (bB (aA cQ (cA (fB (aA bR (ai 7) (cC (.int 0)))) [none] (aq 0) (cg) (gK)) (cA (fB (aA bR (ai 7) (cC (.int 1)))) [none] (aq 0) (cg) (gJ))) (aq 8))
 (bf (mD (i8 (aA (iA false) (ai 8) (iS (aD)))) (bV (aA (uc false) (aA bR (ai 5) (cC (.int 1))) (cC .non))) (cZ))
 (bV (fK (aA (iA false) (aA bR (ai 5) (cC (.int 1))) (aA cQ (bE (ag (aA bR (aI ke (ag (ai 8) (aD))) (cC (.int 1))) (aD))) (aA bR (aI ke (ag (ai 8) (aD))) (cC (.int 0))))) (aI nQ (ag (cA (fB (Ej (aA bR (ai 5) (cC (.int 1))) (kH (cC (.int 1))) (En))) [none] (aq 0) (cg) (eV)) (aD)))))))))))))))))
def bC:List D->aB->aj D:=iH 2 9 kb
theorem kL:aV ["_law_script", "_law_cell", "_law_pen", "_law_one", "_law_web", "_law_other", "_law_again", "_law_thing"] ["_law_script"] (au jS):=⟨rfl,rfl,rfl,by decide +kernel,rfl,by decide +kernel,by decide +kernel⟩
theorem DM:(["_law_tie", "_law_pen"]:List Str).Nodup:=by decide +kernel
theorem DL:(["_law_turn", "_law_pen", "_law_one"]:List Str).Nodup:=by decide +kernel
def mZ:ME:=ai 0
def mX:MT:=i8 (aA (iA false) (aI aR (ag (ai 1) (ag (cC (.int 2)) (aD)))) (cC (.int 0)))
def qu:ME:=aI dS (ag (ai 1) (ag (ai 2) (aD)))
def qt:MS:=mD (ja (cD (eA (aI bC (ag (ai 4) (ag (ai 7) (aD)))))) (cD (eA (aI bC (ag (ai 5) (ag (ai 7) (aD))))))) (bV (cC (.bl false))) (cZ)
def qr:MS:=bf (bB (aI fR (ag (ai 1) (aD))) (aq 2))
 (bf (bB (aI bU (ag (ai 2) (ag (cC (.int 6)) (aD)))) (aq 3))
 (bf (bB (aI bJ (ag (ai 3) (aD))) (aq 4))
 (bf (bB (aI cT (ag (ai 2) (ag (cC (.int 6)) (aD)))) (aq 5))
 (bf (bB (bE (ag (aA bR (ai 4) (cC (.int 0))) (ag (aI gX (ag (cA (fB (aA bR (ai 4) (cC (.int 1)))) [none,some 2] (aq 0) (mX) (mZ)) (aD))) (aD)))) (aq 6))
 (pH (fB (aA cQ (iS (ag (ai 3) (ag (ai 4) (ag (ai 6) (ag (ai 5) (ag (bE (ag (aA bR (ai 4) (cC (.int 0))) (ag (bE (aD)) (aD)))) (aD))))))) (cA (nP lX (ag (cC (.int 4)) (aD))) [none,some 2,some 3] (aq 0) (cg) (qu)))) (aq 7) qt)))))
def Hm:MS:=bf (mD (ja (cD (eA (aI bC (ag (bE (ag (cC (.int 1)) (ag (bE (aD)) (aD)))) (ag (bE (ag (cC (.int 1)) (ag (bE (aD)) (aD)))) (aD)))))) (cD (eA (aI bC (ag (bE (ag (cC (.int 3)) (ag (bE (ag (bE (ag (cC (.int 0)) (ag (cC (.int 1)) (aD)))) (ag (bE (ag (cC (.int 0)) (ag (cC (.int 2)) (aD)))) (ag (bE (ag (cC (.int 1)) (ag (cC (.int 2)) (aD)))) (aD))))) (aD)))) (ag (bE (ag (cC (.int 3)) (ag (bE (ag (bE (ag (cC (.int 0)) (ag (cC (.int 1)) (aD)))) (ag (bE (ag (cC (.int 0)) (ag (cC (.int 2)) (aD)))) (aD)))) (aD)))) (aD))))))) (bV (cC (.bl false))) (cZ))
 (bf (pH (fB (aA cQ (iS (ag (aI eU (ag (ai 0) (ag (cC (.int 0)) (aD)))) (aD))) (Ej (ai 0) (kH (cC (.int 1))) (kH (cC (.int 8)))))) (aq 1) qr)
 (bV (cC (.bl true))))
def v3:List D->aB->aj D:=iH 1 8 Hm
theorem xu (nm:Nm mg) {f:Addr}{fd:FuncData} (F:h7 K "is_whole" "is_whole" jm f fd) (hm:mg "is_whole" = some (.ref f)):dY P w K mg base (dW K w) 1 "is_whole" 1 dH:=
 dj F xp rfl hm (F.b1 (by rfl) fun _ _ _ _ _ _ _=>by rfl) fun cdv A outer s H E hr=>
 a9 (bu (iT (jb (T:="int") (by decide) CT (by decide) (by decide) nm.isinstance nm.int (aJ 0)) (jC (GP (jb (T:="bool") (by decide) uR (by decide) (by decide) nm.isinstance nm.bool (aJ 0))))))
theorem oO (nm:Nm mg) {f:Addr}{fd:FuncData} (F:h7 K "is_whole_from" "is_whole_from" ff f fd) (hm:mg "is_whole_from" = some (.ref f)) (d_is_whole:dY P w K mg base (dW K w) 1 "is_whole" 1 dH):dY P w K mg base (dW K w) 2 "is_whole_from" 3 bj:=
 dj F oN rfl hm (F.b3 (by rfl) fun _ _ _ _ _ _ _ _ _=>by rfl) fun cdv A outer s H E hr=>
 a9 (bu (iT (aZ d_is_whole (hr.mono (by decide)) (aN (aJ 0) (bg))) (jC (Lg (iV (op:=.LtE) hr.units) (iV (op:=.LtE) hr.units) (aJ 1) (aJ 0) (aJ 2)))))
theorem xv (nm:Nm mg) {f:Addr}{fd:FuncData} (F:h7 K "is_place" "is_place" jn f fd) (hm:mg "is_place" = some (.ref f)) (d_is_whole_from:dY P w K mg base (dW K w) 2 "is_whole_from" 3 bj):dY P w K mg base (dW K w) 3 "is_place" 2 gf:=
 dj F xq rfl hm (F.b2 (by rfl) fun _ _ _ _ _ _ _ _=>by rfl) fun cdv A outer s H E hr=>
 a9 (bu (aZ d_is_whole_from (hr.mono (by decide)) (aN (aJ 1) (aN (bz) (aN (qC (aJ 0) (bz)) (bg))))))
theorem ve (nm:Nm mg) {f:Addr}{fd:FuncData} (F:h7 K "is_places" "is_places" gE f fd) (hm:mg "is_places" = some (.ref f)) (d_is_place:dY P w K mg base (dW K w) 3 "is_place" 2 gf):dY P w K mg base (dW K w) 4 "is_places" 2 dE:=
 dj F va rfl hm (F.b2 (by rfl) fun _ _ _ _ _ _ _ _=>by rfl) fun cdv A outer s H E hr=>
 a9 (bu (iT (jb (T:="tuple") (by decide) gB (by decide) (by decide) nm.isinstance nm.tuple (aJ 1)) (jC (cy sS nm.all (aN (dh (b9 (N:=["many", "thing"]) (sc:=au gE) (Nc:=["place", "many"]) (cap:=[none,some 0]) rfl rfl (by decide +kernel)) (pZ (aJ 1)) (fun _ _ _ _ _=>i7 0 sm) (fun _ _ _ _ _=>kE) (fun _ _ _ _ _=>aZ d_is_place (hr.mono (by decide)) (aN (aJ 1) (aN (aJ 0) (bg))))) (bg))))))
theorem vd (nm:Nm mg) {f:Addr}{fd:FuncData} (F:h7 K "is_rising" "is_rising" gD f fd) (hm:mg "is_rising" = some (.ref f)):dY P w K mg base (dW K w) 1 "is_rising" 1 dD:=
 dj F u9 rfl hm (F.b1 (by rfl) fun _ _ _ _ _ _ _=>by rfl) fun cdv A outer s H E hr=>
 a9 (bu (cy sS nm.all (aN (dh (b9 (N:=["things"]) (sc:=au gD) (Nc:=["at", "things"]) (cap:=[none,some 0]) rfl rfl (by decide +kernel)) (K6 nm.range (aN (bz) (aN (cy o8 nm.len (aN (aJ 0) (bg))) (bg)))) (fun _ _ _ _ _=>i7 0 sk) (fun _ _ _ _ _=>kE) (fun _ _ _ _ _=>kF (iV (op:=.Lt) hr.units) (bD (aJ 1) (qC (aJ 0) (bz))) (bD (aJ 1) (aJ 0)))) (bg))))
theorem yQ (nm:Nm mg) {f:Addr}{fd:FuncData} (F:h7 K "is_many" "is_many" j5 f fd) (hm:mg "is_many" = some (.ref f)) (c_MOST_PLACES:∃t,mg "MOST_PLACES" = some (.int 6 t)) (d_is_whole_from:dY P w K mg base (dW K w) 2 "is_whole_from" 3 bj):dY P w K mg base (dW K w) 3 "is_many" 1 g6:=
 dj F yJ rfl hm (F.b1 (by rfl) fun _ _ _ _ _ _ _=>by rfl) fun cdv A outer s H E hr=>
 a9 (bu (aZ d_is_whole_from (hr.mono (by decide)) (aN (aJ 0) (aN (bz) (aN (KJ c_MOST_PLACES) (bg))))))
theorem yP (nm:Nm mg) {f:Addr}{fd:FuncData} (F:h7 K "is_pair" "is_pair" j4 f fd) (hm:mg "is_pair" = some (.ref f)) (d_is_places:dY P w K mg base (dW K w) 4 "is_places" 2 dE):dY P w K mg base (dW K w) 5 "is_pair" 2 g5:=
 dj F yI rfl hm (F.b2 (by rfl) fun _ _ _ _ _ _ _ _=>by rfl) fun cdv A outer s H E hr=>
 a9 (bu (iT (aZ d_is_places (hr.mono (by decide)) (aN (aJ 0) (aN (aJ 1) (bg)))) (iT (kF (pI hr.units) (cy o8 nm.len (aN (aJ 1) (bg))) (bz)) (jC (kF (sy hr.units) (bD (aJ 1) (bz)) (bD (aJ 1) (bz)))))))
theorem AQ (nm:Nm mg) {f:Addr}{fd:FuncData} (F:h7 K "is_tie" "is_tie" lD f fd) (hm:mg "is_tie" = some (.ref f)) (d_is_pair:dY P w K mg base (dW K w) 5 "is_pair" 2 g5):dY P w K mg base (dW K w) 6 "is_tie" 2 i3:=
 dj F AD rfl hm (F.b2 (by rfl) fun _ _ _ _ _ _ _ _=>by rfl) fun cdv A outer s H E hr=>
 a9 (bu (iT (aZ d_is_pair (hr.mono (by decide)) (aN (aJ 0) (aN (aJ 1) (bg)))) (jC (kF (iV (op:=.Lt) hr.units) (bD (aJ 1) (bz)) (bD (aJ 1) (bz))))))
theorem yO (nm:Nm mg) {f:Addr}{fd:FuncData} (F:h7 K "is_ties" "is_ties" i4 f fd) (hm:mg "is_ties" = some (.ref f)) (d_is_tie:dY P w K mg base (dW K w) 6 "is_tie" 2 i3) (d_is_rising:dY P w K mg base (dW K w) 1 "is_rising" 1 dD):dY P w K mg base (dW K w) 7 "is_ties" 2 g4:=
 dj F yH rfl hm (F.b2 (by rfl) fun _ _ _ _ _ _ _ _=>by rfl) fun cdv A outer s H E hr=>
 a9 (bu (iT (jb (T:="tuple") (by decide) gB (by decide) (by decide) nm.isinstance nm.tuple (aJ 1)) (iT (cy sS nm.all (aN (dh (b9 (N:=["many", "thing"]) (sc:=au i4) (Nc:=["tie", "many"]) (cap:=[none,some 0]) rfl rfl (by decide +kernel)) (pZ (aJ 1)) (fun _ _ _ _ _=>i7 0 vk) (fun _ _ _ _ _=>kE) (fun _ _ _ _ _=>aZ d_is_tie (hr.mono (by decide)) (aN (aJ 1) (aN (aJ 0) (bg))))) (bg))) (jC (aZ d_is_rising (hr.mono (by decide)) (aN (aJ 1) (bg)))))))
theorem xr (nm:Nm mg) {f:Addr}{fd:FuncData} (F:h7 K "web_good" "web_good" jj f fd) (hm:mg "web_good" = some (.ref f)) (d_is_many:dY P w K mg base (dW K w) 3 "is_many" 1 g6) (d_is_ties:dY P w K mg base (dW K w) 7 "is_ties" 2 g4):dY P w K mg base (dW K w) 8 "web_good" 1 di:=
 dj F kP rfl hm (F.b1 (by rfl) fun _ _ _ _ _ _ _=>by rfl) fun cdv A outer s H E hr=>
 aL (iR (lW (lI (dZ (qv (jb (T:="tuple") (by decide) gB (by decide) (by decide) nm.isinstance nm.tuple (aJ 0)))) (kd (cO (sy hr.units) (cy o8 nm.len (aN (aJ 0) (bg))) (bz))))) (a9 (bu (vw))) (eC))
 (aL (mG (aJ 0) (mJ (dX (i7 1 kP.nd) (dX (i7 2 kP.nd) (mK)))))
 (a9 (bu (iT (aZ d_is_many (hr.mono (by decide)) (aN (aJ 1) (bg))) (jC (aZ d_is_ties (hr.mono (by decide)) (aN (aJ 1) (aN (aJ 2) (bg)))))))))
theorem r8 (nm:Nm mg) {f:Addr}{fd:FuncData} (F:h7 K "next_places" "next_places" dw f fd) (hm:mg "next_places" = some (.ref f)):dY P w K mg base (dW K w) 1 "next_places" 2 fQ:=
 dj F rX rfl hm (F.b2 (by rfl) fun _ _ _ _ _ _ _ _=>by rfl) fun cdv A outer s H E hr=>
 a9 (bu (dC (dh (b9 (N:=["ties", "front"]) (sc:=au dw) (Nc:=["a", "b", "front"]) (cap:=[none,none,some 1]) rfl rfl (by decide +kernel)) (pZ (aJ 0)) (fun _ _ _ _ _=>mJ (dX (i7 0 jN) (dX (i7 1 jN) (mK)))) (fun _ _ _ _ _=>jB (cO (Ew hr.units) (aJ 0) (aJ 2))) (fun _ _ _ _ _=>aJ 1)) (dh (b9 (N:=["ties", "front"]) (sc:=au dw) (Nc:=["a", "b", "front"]) (cap:=[none,none,some 1]) rfl rfl (by decide +kernel)) (pZ (aJ 0)) (fun _ _ _ _ _=>mJ (dX (i7 0 jM) (dX (i7 1 jM) (mK)))) (fun _ _ _ _ _=>jB (cO (Ew hr.units) (aJ 1) (aJ 2))) (fun _ _ _ _ _=>aJ 0))))
theorem vf (nm:Nm mg) {f:Addr}{fd:FuncData} (F:h7 K "fars_from" "fars_from" gF f fd) (hm:mg "fars_from" = some (.ref f)) (d_next_places:dY P w K mg base (dW K w) 1 "next_places" 2 fQ):dY P w K mg base (dW K w) 2 "fars_from" 2 gm:=
 dj F cN rfl hm (F.b2 (by rfl) fun _ _ _ _ _ _ _ _=>by rfl) fun cdv A outer s H E hr=>
 aL (mG (aJ 0) (mJ (dX (i7 2 cN.nd) (dX (i7 3 cN.nd) (mK)))))
 (aL (bF 4 cN.nd (BM (iu (aN (GL) (bg))) (aJ 2)))
 (aL (mG (bz) (zl (aJ 4) (aJ 1)))
 (aL (bF 5 cN.nd (bz))
 (aL (bF 6 cN.nd (iu (aN (aJ 1) (bg))))
 (aL (Fm 100 SD (qv (aJ 6)) (aL (GV 5 cN.nd (bz))
 (aL (yc 6 cN.nd (b9 (N:=["web", "start", "many", "ties", "fars", "far", "front", "place"]) (sc:=au gF) (Nc:=["place", "fars"]) (cap:=[none,some 4]) rfl rfl (by decide +kernel)) (pZ (aZ d_next_places (hr.mono (by decide)) (aN (aJ 3) (aN (aJ 6) (bg))))) (fun _ _ _ _ _=>i7 0 so) (fun _ _ _ _ _=>jB (cO (Hf) (bD (aJ 1) (aJ 0)) (GL))) (fun _ _ _ _ _=>aJ 0))
 (a9 (oY SD (pZ (aJ 6)) (i7 7 cN.nd) (a9 (mG (aJ 5) (zl (aJ 4) (aJ 7)))))))))
 (a9 (bu (aJ 4))))))))
theorem vb (nm:Nm mg) {f:Addr}{fd:FuncData} (F:h7 K "steps_web" "steps_web" gC f fd) (hm:mg "steps_web" = some (.ref f)) (c_MOST_STEPS:∃t,mg "MOST_STEPS" = some (.int 6 t)) {a_NoNumber:Addr} (k_NoNumber:W.nsIn K mainGlobals "NoNumber" = some (some (.ref a_NoNumber))) (o_NoNumber:vI mg base "NoNumber" a_NoNumber) (d_is_whole_from:dY P w K mg base (dW K w) 2 "is_whole_from" 3 bj) (d_fars_from:dY P w K mg base (dW K w) 2 "fars_from" 2 gm):lJ P w K mg base 3 "steps_web" 2 eP:=
 qM F fe rfl hm (F.b2 (by rfl) fun _ _ _ _ _ _ _ _=>by rfl) fun cdv A outer s H E hr=>
 aL (iR (dZ (qv (uw d_is_whole_from (hr.mono (by decide)) (aN (aJ 1) (aN (bz) (aN (KJ c_MOST_STEPS) (bg))))))) (a9 (zr k_NoNumber o_NoNumber)) (eC))
 (aL (bF 2 fe.nd (bD (aJ 0) (bz)))
 (aL (bF 3 fe.nd (iu (bg)))
 (aL (oY PassesOwn.leaving (Ag nm.range (aN (aJ 2) (bg))) (i7 4 fe.nd) (aL (bF 5 fe.nd (uw d_fars_from (hr.mono (by decide)) (aN (aJ 0) (aN (aJ 4) (bg)))))
 (a9 (GV 3 fe.nd (dh (b9 (N:=["web", "k", "many", "ties", "one", "fars"]) (sc:=au gC) (Nc:=["other", "one", "k", "fars"]) (cap:=[none,some 4,some 1,some 5]) rfl rfl (by decide +kernel)) (K6 nm.range (aN (dC (aJ 4) (bz)) (aN (aJ 2) (bg)))) (fun _ _ _ _ _=>i7 0 sj) (fun _ _ _ _ _=>jB (lW (BQ (cO (JT) (bD (aJ 3) (aJ 0)) (GL)) (x8 (cO (iV (op:=.LtE) hr.units) (bD (aJ 3) (aJ 0)) (aJ 2)))))) (fun _ _ _ _ _=>bw (aN (aJ 1) (aN (aJ 0) (bg)))))))))
 (a9 (bu (bw (aN (aJ 2) (aN (cy jY nm.tuple (aN (aJ 3) (bg))) (bg)))))))))
theorem xt (nm:Nm mg) {f:Addr}{fd:FuncData} (F:h7 K "two_step" "two_step" jk f fd) (hm:mg "two_step" = some (.ref f)) (d_steps_web:lJ P w K mg base 3 "steps_web" 2 eP):lJ P w K mg base 4 "two_step" 1 f9:=
 qM F xo rfl hm (F.b1 (by rfl) fun _ _ _ _ _ _ _=>by rfl) fun cdv A outer s H E hr=>
 a9 (bu (p9 d_steps_web zi (hr.mono (by decide)) (aN (aJ 0) (aN (bz) (bg)))))
theorem vc (nm:Nm mg) {f:Addr}{fd:FuncData} (F:h7 K "root_good" "root_good" iL f fd) (hm:mg "root_good" = some (.ref f)) (d_web_good:dY P w K mg base (dW K w) 8 "web_good" 1 di) (d_two_step:lJ P w K mg base 4 "two_step" 1 f9):dY P w K mg base (dW K w) 9 "root_good" 2 dc:=
 dj F u7 rfl hm (F.b2 (by rfl) fun _ _ _ _ _ _ _ _=>by rfl) fun cdv A outer s H E hr=>
 a9 (bu (iT (aZ d_web_good (hr.mono (by decide)) (aN (aJ 1) (bg))) (jC (kF (pI hr.units) (CZ d_two_step (hr.mono (by decide)) (aN (aJ 1) (bg))) (aJ 0)))))
theorem se (nm:Nm mg) {f:Addr}{fd:FuncData} (F:h7 K "check_other" "check_other" gH f fd) (hm:mg "check_other" = some (.ref f)) {a_NoRoot:Addr} (k_NoRoot:W.nsIn K mainGlobals "NoRoot" = some (some (.ref a_NoRoot))) (o_NoRoot:vI mg base "NoRoot" a_NoRoot) (d_web_good:dY P w K mg base (dW K w) 8 "web_good" 1 di):lJ P w K mg base 9 "check_other" 2 bP:=
 qM F rY rfl hm (F.b2 (by rfl) fun _ _ _ _ _ _ _ _=>by rfl) fun cdv A outer s H E hr=>
 a9 (iR (lW (lI (dZ (qv (uw d_web_good (hr.mono (by decide)) (aN (aJ 1) (bg))))) (kd (cO (sy hr.units) (bD (aJ 1) (bz)) (bD (aJ 0) (bz)))))) (a9 (zr k_NoRoot o_NoRoot)) (eC))
theorem sd (nm:Nm mg) {f:Addr}{fd:FuncData} (F:h7 K "differences" "differences" dy f fd) (hm:mg "differences" = some (.ref f)) (d_check_other:lJ P w K mg base 9 "check_other" 2 bP) (d_two_step:lJ P w K mg base 4 "two_step" 1 f9):lJ P w K mg base 10 "differences" 2 cx:=
 qM F eR rfl hm (F.b2 (by rfl) fun _ _ _ _ _ _ _ _=>by rfl) fun cdv A outer s H E hr=>
 aL (ug (p9 d_check_other zi (hr.mono (by decide)) (aN (aJ 0) (aN (aJ 1) (bg)))))
 (aL (bF 2 eR.nd (bD (aJ 0) (bz)))
 (aL (bF 3 eR.nd (bD (p9 d_two_step zi (hr.mono (by decide)) (aN (aJ 1) (bg))) (bz)))
 (aL (bF 4 eR.nd (cy jY nm.tuple (aN (dh (b9 (N:=["web", "other", "ties", "reached", "lacks", "more"]) (sc:=au dy) (Nc:=["tie", "reached"]) (cap:=[none,some 3]) rfl rfl (by decide +kernel)) (pZ (aJ 2)) (fun _ _ _ _ _=>i7 0 oU) (fun _ _ _ _ _=>jB (cO (vQ hr.units) (aJ 0) (aJ 1))) (fun _ _ _ _ _=>aJ 0)) (bg))))
 (aL (bF 5 eR.nd (cy jY nm.tuple (aN (dh (b9 (N:=["web", "other", "ties", "reached", "lacks", "more"]) (sc:=au dy) (Nc:=["tie", "ties"]) (cap:=[none,some 2]) rfl rfl (by decide +kernel)) (pZ (aJ 3)) (fun _ _ _ _ _=>i7 0 oS) (fun _ _ _ _ _=>jB (cO (vQ hr.units) (aJ 0) (aJ 1))) (fun _ _ _ _ _=>aJ 0)) (bg))))
 (a9 (bu (bw (aN (aJ 4) (aN (aJ 5) (bg))))))))))
theorem r9 (nm:Nm mg) {f:Addr}{fd:FuncData} (F:h7 K "first_wrong" "first_wrong" gG f fd) (hm:mg "first_wrong" = some (.ref f)) (d_differences:lJ P w K mg base 10 "differences" 2 cx):lJ P w K mg base 11 "first_wrong" 2 bO:=
 qM F dz rfl hm (F.b2 (by rfl) fun _ _ _ _ _ _ _ _=>by rfl) fun cdv A outer s H E hr=>
 aL (mG (p9 d_differences zi (hr.mono (by decide)) (aN (aJ 0) (aN (aJ 1) (bg)))) (mJ (dX (i7 2 dz.nd) (dX (i7 3 dz.nd) (mK)))))
 (aL (iR (lW (BQ (dZ (qv (aJ 2))) (x8 (dZ (qv (aJ 3)))))) (a9 (bu (GL))) (eC))
 (aL (mG (cy (yu hr.units) nm.min (aN (dC (aJ 2) (aJ 3)) (bg))) (mJ (dX (i7 4 dz.nd) (dX (i7 5 dz.nd) (mK)))))
 (aL (bF 6 dz.nd (MK (cO (Ew hr.units) (bw (aN (aJ 4) (aN (aJ 5) (bg)))) (aJ 2)) (xJ) (xJ)))
 (a9 (bu (bw (aN (aJ 6) (aN (aJ 4) (aN (aJ 5) (bg))))))))))
theorem pQ (nm:Nm mg) {f:Addr}{fd:FuncData} (F:h7 K "_law_cell_at" "_law_cell_at" fV f fd) (hm:mg "_law_cell_at" = some (.ref f)):dY P w K mg base (dW K w) 1 "_law_cell_at" 2 eU:=
 dj F pM rfl hm (F.b2 (by rfl) fun _ _ _ _ _ _ _ _=>by rfl) fun cdv A outer s H E hr=>
 aL (iR (cO (iV (op:=.Lt) hr.units) (aJ 1) (cy o8 nm.len (aN (aJ 0) (bg)))) (a9 (bu (bD (aJ 0) (aJ 1)))) (eC))
 (a9 (bu (bz)))
theorem vg (nm:Nm mg) {f:Addr}{fd:FuncData} (F:h7 K "_law_next" "_law_next" iM f fd) (hm:mg "_law_next" = some (.ref f)):dY P w K mg base (dW K w) 1 "_law_next" 1 gn:=
 dj F nz rfl hm (F.b1 (by rfl) fun _ _ _ _ _ _ _=>by rfl) fun cdv A outer s H E hr=>
 aL (bF 0 nz.nd (vM (dC (aJ 0) (bz)) (bz)))
 (a9 (bu (vM (dC (dC (BM (aJ 0) (aJ 0)) (BM (bz) (aJ 0))) (bz)) (bz))))
theorem si (nm:Nm mg) {f:Addr}{fd:FuncData} (F:h7 K "_law_pen_of" "_law_pen_of" gI f fd) (hm:mg "_law_pen_of" = some (.ref f)):dY P w K mg base (dW K w) 1 "_law_pen_of" 1 fR:=
 dj F k6 rfl hm (F.b1 (by rfl) fun _ _ _ _ _ _ _=>by rfl) fun cdv A outer s H E hr=>
 aL (bF 1 k6.nd (cy Hk nm.max (aN (aJ 0) (aN (qC (bz) (aJ 0)) (bg)))))
 (a9 (bu (iu (aN (aJ 1) (aN (cy Mg nm.int (aN (kF (iV (op:=.GtE) hr.units) (aJ 1) (GQ (bz) (bz))) (bg))) (aN (vM (aJ 1) (bz)) (bg)))))))
theorem vh (nm:Nm mg) {f:Addr}{fd:FuncData} (F:h7 K "_law_draw" "_law_draw" iN f fd) (hm:mg "_law_draw" = some (.ref f)) (d__law_next:dY P w K mg base (dW K w) 1 "_law_next" 1 gn):dY P w K mg base (dW K w) 2 "_law_draw" 2 aR:=
 dj F nA rfl hm (F.b2 (by rfl) fun _ _ _ _ _ _ _ _=>by rfl) fun cdv A outer s H E hr=>
 aL (iR (cO (pI hr.units) (bD (aJ 0) (bz)) (bz)) (aL (bF 2 nA.nd (vM (bD (aJ 0) (bz)) (aJ 1)))
 (aL (mG (B8 (bD (aJ 0) (bz)) (aJ 1)) (zl (aJ 0) (bz)))
 (a9 (bu (aJ 2))))) (eC))
 (aL (mG (aZ d__law_next (hr.mono (by decide)) (aN (dC (aZ d__law_next (hr.mono (by decide)) (aN (bD (aJ 0) (bz)) (bg))) (bz)) (bg))) (zl (aJ 0) (bz)))
 (a9 (bu (vM (B8 (bD (aJ 0) (bz)) (bz)) (aJ 1)))))
theorem sH (nm:Nm mg) {f:Addr}{fd:FuncData} (F:h7 K "_law_whole" "_law_whole" ij f fd) (hm:mg "_law_whole" = some (.ref f)):dY P w K mg base (dW K w) 1 "_law_whole" 1 cw:=
 dj F sG rfl hm (F.b1 (by rfl) fun _ _ _ _ _ _ _=>by rfl) fun cdv A outer s H E hr=>
 a9 (bu (iT (jb (T:="int") (by decide) CT (by decide) (by decide) nm.isinstance nm.int (aJ 0)) (jC (GP (jb (T:="bool") (by decide) uR (by decide) (by decide) nm.isinstance nm.bool (aJ 0))))))
theorem pP (nm:Nm mg) {f:Addr}{fd:FuncData} (F:h7 K "_law_kind_of" "_law_kind_of" fU f fd) (hm:mg "_law_kind_of" = some (.ref f)) {a_NoLine a_NoNumber a_NoPlace a_NoRoot a_NoText a_NoTree a_NoWeb a_TooGreat:Addr} (q_NoLine:cb K (.ref a_NoLine) [] ["NoNumber", "NoRoot"]) (q_NoNumber:cb K (.ref a_NoNumber) ["NoNumber"] ["NoNumber", "NoRoot"]) (q_NoPlace:cb K (.ref a_NoPlace) [] ["NoNumber", "NoRoot"]) (q_NoRoot:cb K (.ref a_NoRoot) ["NoRoot"] ["NoNumber", "NoRoot"]) (q_NoText:cb K (.ref a_NoText) [] ["NoNumber", "NoRoot"]) (q_NoTree:cb K (.ref a_NoTree) [] ["NoNumber", "NoRoot"]) (q_NoWeb:cb K (.ref a_NoWeb) [] ["NoNumber", "NoRoot"]) (q_TooGreat:cb K (.ref a_TooGreat) [] ["NoNumber", "NoRoot"]) (q_ValueError:cb K (.type "ValueError") ["NoNumber", "NoRoot"] ["NoNumber", "NoRoot"]) (m_NoLine:mg "NoLine" = some (.ref a_NoLine)) (m_NoNumber:mg "NoNumber" = some (.ref a_NoNumber)) (m_NoPlace:mg "NoPlace" = some (.ref a_NoPlace)) (m_NoRoot:mg "NoRoot" = some (.ref a_NoRoot)) (m_NoText:mg "NoText" = some (.ref a_NoText)) (m_NoTree:mg "NoTree" = some (.ref a_NoTree)) (m_NoWeb:mg "NoWeb" = some (.ref a_NoWeb)) (m_TooGreat:mg "TooGreat" = some (.ref a_TooGreat)):EB P w K mg base (dW K w) 1 "_law_kind_of" 1 eT:=
 HI F iD rfl hm (F.b1 (by rfl) fun _ _ _ _ _ _ _=>by rfl) fun cdv A outer s H E hr=>
 aL (bF 1 iD.nd (iu (aN (oX q_NoPlace nm.isinstance m_NoPlace (aJ 0)) (aN (oX q_NoNumber nm.isinstance m_NoNumber (aJ 0)) (aN (oX q_NoLine nm.isinstance m_NoLine (aJ 0)) (aN (oX q_NoRoot nm.isinstance m_NoRoot (aJ 0)) (bg)))))))
 (aL (bF 1 iD.nd (dC (aJ 1) (iu (aN (oX q_NoTree nm.isinstance m_NoTree (aJ 0)) (aN (oX q_NoWeb nm.isinstance m_NoWeb (aJ 0)) (aN (oX q_NoText nm.isinstance m_NoText (aJ 0)) (aN (oX q_TooGreat nm.isinstance m_TooGreat (aJ 0)) (bg))))))))
 (aL (iR (lW (lI (dZ (qv (HM q_ValueError nm.isinstance nm.ValueError sM (aJ 0)))) (kd (cO (sy hr.units) (Lf (aJ 1) (aN (vw) (bg))) (bz))))) (a9 (bu (xJ))) (eC))
 (a9 (bu (bD (iu (aN (xJ) (aN (xJ) (aN (xJ) (aN (xJ) (aN (xJ) (aN (xJ) (aN (xJ) (aN (xJ) (bg)))))))))) (Le (aJ 1) (aN (vw) (bg))))))))
theorem sf (nm:Nm mg) {f:Addr}{fd:FuncData} (F:h7 K "_law_web_of" "_law_web_of" eQ f fd) (hm:mg "_law_web_of" = some (.ref f)):dY P w K mg base (dW K w) 1 "_law_web_of" 2 bQ:=
 dj F rZ rfl hm (F.b2 (by rfl) fun _ _ _ _ _ _ _ _=>by rfl) fun cdv A outer s H E hr=>
 a9 (bu (bw (aN (aJ 0) (aN (cy jY nm.tuple (aN (cy Ec nm.sorted (aN (cy (Mc hr.units) nm.set (aN (dh (b9 (N:=["_law_many", "_law_ties"]) (sc:=au eQ) (Nc:=["_law_a", "_law_b"]) (cap:=[none,none]) rfl rfl (by decide +kernel)) (pZ (aJ 1)) (fun _ _ _ _ _=>mJ (dX (i7 0 jO) (dX (i7 1 jO) (mK)))) (fun _ _ _ _ _=>kE) (fun _ _ _ _ _=>bw (aN (cy Md nm.min (aN (aJ 0) (aN (aJ 1) (bg)))) (aN (cy Hk nm.max (aN (aJ 0) (aN (aJ 1) (bg)))) (bg))))) (bg))) (bg))) (bg))) (bg)))))
theorem nE (nm:Nm mg) {f:Addr}{fd:FuncData} (F:h7 K "_law_drawn_web" "_law_drawn_web" de f fd) (hm:mg "_law_drawn_web" = some (.ref f)) (d__law_draw:dY P w K mg base (dW K w) 2 "_law_draw" 2 aR) (d__law_web_of:dY P w K mg base (dW K w) 1 "_law_web_of" 2 bQ):dY P w K mg base (dW K w) 3 "_law_drawn_web" 2 bU:=
 dj F df rfl hm (F.b2 (by rfl) fun _ _ _ _ _ _ _ _=>by rfl) fun cdv A outer s H E hr=>
 aL (bF 2 df.nd (dC (bz) (aZ d__law_draw (hr.mono (by decide)) (aN (aJ 0) (aN (aJ 1) (bg))))))
 (aL (bF 3 df.nd (dC (bz) (aZ d__law_draw (hr.mono (by decide)) (aN (aJ 0) (aN (bz) (bg))))))
 (aL (bF 4 df.nd (iu (bg)))
 (aL (oY SD (Ag nm.range (aN (aJ 2) (bg))) (i7 5 df.nd) (a9 (ug (GR (aJ 4) (aN (dh (b9 (N:=["_law_pen", "_law_most", "_law_many", "_law_share", "_law_ties", "_law_one"]) (sc:=au de) (Nc:=["_law_other", "_law_one", "_law_pen", "_law_share"]) (cap:=[none,some 5,some 0,some 3]) rfl rfl (by decide +kernel)) (Ag nm.range (aN (aJ 5) (bg))) (fun _ _ _ _ _=>i7 0 lK) (fun _ _ _ _ _=>jB (cO (pI hr.units) (aZ d__law_draw (hr.mono (by decide)) (aN (aJ 2) (aN (aJ 3) (bg)))) (bz))) (fun _ _ _ _ _=>bw (aN (aJ 0) (aN (aJ 1) (bg))))) (bg))))))
 (a9 (bu (aZ d__law_web_of (hr.mono (by decide)) (aN (aJ 2) (aN (aJ 4) (bg)))))))))
theorem pO (nm:Nm mg) {f:Addr}{fd:FuncData} (F:h7 K "_law_near_of" "_law_near_of" dQ f fd) (hm:mg "_law_near_of" = some (.ref f)):dY P w K mg base (dW K w) 1 "_law_near_of" 2 eS:=
 dj F pL rfl hm (F.b2 (by rfl) fun _ _ _ _ _ _ _ _=>by rfl) fun cdv A outer s H E hr=>
 a9 (bu (dh (b9 (N:=["_law_web", "_law_place"]) (sc:=au dQ) (Nc:=["_law_a", "_law_b", "_law_place"]) (cap:=[none,none,some 1]) rfl rfl (by decide +kernel)) (pZ (bD (aJ 0) (bz))) (fun _ _ _ _ _=>mJ (dX (i7 0 jq) (dX (i7 1 jq) (mK)))) (fun _ _ _ _ _=>jB (cO (Ew hr.units) (aJ 2) (bw (aN (aJ 0) (aN (aJ 1) (bg)))))) (fun _ _ _ _ _=>qC (dC (aJ 0) (aJ 1)) (aJ 2))))
theorem oQ (nm:Nm mg) {f:Addr}{fd:FuncData} (F:h7 K "_law_two_step" "_law_two_step" dA f fd) (hm:mg "_law_two_step" = some (.ref f)) (d__law_near_of:dY P w K mg base (dW K w) 1 "_law_near_of" 2 eS) (d__law_web_of:dY P w K mg base (dW K w) 1 "_law_web_of" 2 bQ):dY P w K mg base (dW K w) 2 "_law_two_step" 1 bJ:=
 dj F dB rfl hm (F.b1 (by rfl) fun _ _ _ _ _ _ _=>by rfl) fun cdv A outer s H E hr=>
 aL (bF 1 dB.nd (cy yv nm.list (aN (bD (aJ 0) (bz)) (bg))))
 (aL (oY SD (Ag nm.range (aN (bD (aJ 0) (bz)) (bg))) (i7 2 dB.nd) (aL (bF 3 dB.nd (aZ d__law_near_of (hr.mono (by decide)) (aN (aJ 0) (aN (aJ 2) (bg)))))
 (a9 (oY SD (pZ (aJ 3)) (i7 4 dB.nd) (a9 (ug (GR (aJ 1) (aN (dh (b9 (N:=["_law_web", "_law_ties", "_law_place", "_law_near", "_law_one"]) (sc:=au dA) (Nc:=["_law_other", "_law_one"]) (cap:=[none,some 4]) rfl rfl (by decide +kernel)) (pZ (aJ 3)) (fun _ _ _ _ _=>i7 0 my) (fun _ _ _ _ _=>jB (cO (iV (op:=.Lt) hr.units) (aJ 1) (aJ 0))) (fun _ _ _ _ _=>bw (aN (aJ 1) (aN (aJ 0) (bg))))) (bg)))))))))
 (a9 (bu (aZ d__law_web_of (hr.mono (by decide)) (aN (bD (aJ 0) (bz)) (aN (aJ 1) (bg)))))))
theorem pR (nm:Nm mg) {f:Addr}{fd:FuncData} (F:h7 K "_law_any_web" "_law_any_web" dR f fd) (hm:mg "_law_any_web" = some (.ref f)) (d__law_drawn_web:dY P w K mg base (dW K w) 3 "_law_drawn_web" 2 bU) (d__law_draw:dY P w K mg base (dW K w) 2 "_law_draw" 2 aR) (d__law_two_step:dY P w K mg base (dW K w) 2 "_law_two_step" 1 bJ) (d__law_web_of:dY P w K mg base (dW K w) 1 "_law_web_of" 2 bQ):dY P w K mg base (dW K w) 4 "_law_any_web" 2 cT:=
 dj F cj rfl hm (F.b2 (by rfl) fun _ _ _ _ _ _ _ _=>by rfl) fun cdv A outer s H E hr=>
 aL (bF 2 cj.nd (aZ d__law_drawn_web (hr.mono (by decide)) (aN (aJ 0) (aN (aJ 1) (bg)))))
 (aL (bF 3 cj.nd (aZ d__law_draw (hr.mono (by decide)) (aN (aJ 0) (aN (bz) (bg)))))
 (aL (iR (cO (pI hr.units) (aJ 3) (bz)) (a9 (bu (aJ 2))) (eC))
 (aL (bF 2 cj.nd (aZ d__law_two_step (hr.mono (by decide)) (aN (aJ 2) (bg))))
 (aL (iR (lW (BQ (cO (pI hr.units) (aJ 3) (bz)) (x8 (cO (iV (op:=.Gt) hr.units) (bD (aJ 2) (bz)) (bz))))) (aL (bF 4 cj.nd (aZ d__law_draw (hr.mono (by decide)) (aN (aJ 0) (aN (qC (bD (aJ 2) (bz)) (bz)) (bg)))))
 (aL (bF 5 cj.nd (bw (aN (aJ 4) (aN (dC (dC (aJ 4) (bz)) (aZ d__law_draw (hr.mono (by decide)) (aN (aJ 0) (aN (qC (qC (bD (aJ 2) (bz)) (bz)) (aJ 4)) (bg))))) (bg)))))
 (aL (yc 6 cj.nd (b9 (N:=["_law_pen", "_law_most", "_law_web", "_law_way", "_law_one", "_law_pair", "_law_some"]) (sc:=au dR) (Nc:=["_law_tie", "_law_pair"]) (cap:=[none,some 5]) rfl rfl (by decide +kernel)) (pZ (bD (aJ 2) (bz))) (fun _ _ _ _ _=>i7 0 nF) (fun _ _ _ _ _=>jB (cO (sy hr.units) (aJ 0) (aJ 1))) (fun _ _ _ _ _=>aJ 0))
 (aL (iR (cO (vQ hr.units) (aJ 5) (bD (aJ 2) (bz))) (a9 (ug (Lh (aJ 6) (aN (aJ 5) (bg))))) (eC))
 (a9 (bF 2 cj.nd (aZ d__law_web_of (hr.mono (by decide)) (aN (bD (aJ 2) (bz)) (aN (aJ 6) (bg)))))))))) (eC))
 (a9 (bu (aJ 2)))))))
theorem oP (nm:Nm mg) {f:Addr}{fd:FuncData} (F:h7 K "_law_web_like" "_law_web_like" fg f fd) (hm:mg "_law_web_like" = some (.ref f)) (d__law_whole:dY P w K mg base (dW K w) 1 "_law_whole" 1 cw):dY P w K mg base (dW K w) 2 "_law_web_like" 1 cH:=
 dj F fk rfl hm (F.b1 (by rfl) fun _ _ _ _ _ _ _=>by rfl) fun cdv A outer s H E hr=>
 aL (iR (lW (lI (dZ (qv (jb (T:="tuple") (by decide) gB (by decide) (by decide) nm.isinstance nm.tuple (aJ 0)))) (lI (cO (sy hr.units) (cy o8 nm.len (aN (aJ 0) (bg))) (bz)) (lI (dZ (qv (aZ d__law_whole (hr.mono (by decide)) (aN (bD (aJ 0) (bz)) (bg))))) (kd (dZ (Ll (iV (op:=.Lt) hr.units) (iV (op:=.Lt) hr.units) (bz) (bD (aJ 0) (bz)) (bz)))))))) (a9 (bu (vw))) (eC))
 (aL (iR (dZ (qv (jb (T:="tuple") (by decide) gB (by decide) (by decide) nm.isinstance nm.tuple (bD (aJ 0) (bz))))) (a9 (bu (vw))) (eC))
 (aL (bF 1 fk.nd (bw (aN (zf (bz)) (aN (zf (bz)) (bg)))))
 (aL (oY SD (pZ (bD (aJ 0) (bz))) (i7 2 fk.nd) (aL (iR (lW (lI (dZ (qv (jb (T:="tuple") (by decide) gB (by decide) (by decide) nm.isinstance nm.tuple (aJ 2)))) (lI (cO (sy hr.units) (cy o8 nm.len (aN (aJ 2) (bg))) (bz)) (lI (dZ (qv (aZ d__law_whole (hr.mono (by decide)) (aN (bD (aJ 2) (bz)) (bg))))) (kd (dZ (qv (aZ d__law_whole (hr.mono (by decide)) (aN (bD (aJ 2) (bz)) (bg)))))))))) (a9 (bu (vw))) (eC))
 (aL (iR (lW (lI (dZ (HV (iV (op:=.LtE) hr.units) (iV (op:=.Lt) hr.units) (iV (op:=.Lt) hr.units) (bz) (bD (aJ 2) (bz)) (bD (aJ 2) (bz)) (bD (aJ 0) (bz)))) (kd (cO (iV (op:=.LtE) hr.units) (aJ 2) (aJ 1))))) (a9 (bu (vw))) (eC))
 (a9 (bF 1 fk.nd (aJ 2))))))
 (a9 (bu (vw))))))
theorem oR (nm:Nm mg) {f:Addr}{fd:FuncData} (F:h7 K "_law_bent_web" "_law_bent_web" fj f fd) (hm:mg "_law_bent_web" = some (.ref f)) (d__law_draw:dY P w K mg base (dW K w) 2 "_law_draw" 2 aR):dY P w K mg base (dW K w) 3 "_law_bent_web" 2 dS:=
 dj F bA rfl hm (F.b2 (by rfl) fun _ _ _ _ _ _ _ _=>by rfl) fun cdv A outer s H E hr=>
 aL (mG (aJ 1) (mJ (dX (i7 2 bA.nd) (dX (i7 3 bA.nd) (mK)))))
 (aL (bF 4 bA.nd (bD (iu (aN (dC (aJ 2) (bz)) (aN (bz) (aN (bz) (aN (zf (bz)) (aN (vw) (aN (GL) (aN (xJ) (aN (bw (aN (bz) (bg))) (aN (GQ (bz) (bz)) (bg))))))))))) (aZ d__law_draw (hr.mono (by decide)) (aN (aJ 0) (aN (bz) (bg))))))
 (aL (bF 5 bA.nd (aZ d__law_draw (hr.mono (by decide)) (aN (aJ 0) (aN (dC (cy o8 nm.len (aN (aJ 3) (bg))) (bz)) (bg)))))
 (aL (bF 6 bA.nd (bD (dC (aJ 3) (bw (aN (bw (aN (bz) (aN (bz) (bg)))) (bg)))) (aJ 5)))
 (aL (bF 7 bA.nd (iu (aN (bw (aN (bD (aJ 6) (bz)) (aN (bD (aJ 6) (bz)) (bg)))) (aN (cy yv nm.list (aN (aJ 6) (bg))) (aN (bw (aN (bD (aJ 6) (bz)) (bg))) (aN (dC (aJ 6) (bw (aN (bz) (bg)))) (aN (bw (aN (bD (aJ 6) (bz)) (aN (aJ 2) (bg)))) (aN (bw (aN (bD (aJ 6) (bz)) (aN (aJ 4) (bg)))) (aN (GL) (aN (bw (aN (bz) (aN (bz) (bg)))) (bg)))))))))))
 (aL (bF 8 bA.nd (dC (dC (Ac (aJ 3) (mM) (jT (aJ 5))) (bw (aN (bD (aJ 7) (aZ d__law_draw (hr.mono (by decide)) (aN (aJ 0) (aN (bz) (bg))))) (bg)))) (Ac (aJ 3) (jT (dC (aJ 5) (bz))) (mM))))
 (aL (bF 9 bA.nd (iu (aN (bw (aN (aJ 4) (aN (aJ 3) (bg)))) (aN (bw (aN (aJ 2) (aN (aJ 8) (bg)))) (aN (bw (aN (aJ 2) (aN (aJ 8) (bg)))) (aN (bw (aN (aJ 2) (aN (cy yv nm.list (aN (aJ 3) (bg))) (bg)))) (aN (iu (aN (aJ 2) (aN (aJ 3) (bg)))) (aN (bw (aN (aJ 2) (bg))) (aN (bw (aN (aJ 2) (aN (aJ 3) (aN (bw (bg)) (bg))))) (bg))))))))))
 (aL (bF 9 bA.nd (dC (aJ 9) (iu (aN (bw (aN (aJ 2) (aN (HK (aJ 3) (zf (bz))) (bg)))) (aN (bw (aN (aJ 2) (aN (dC (aJ 3) (Ac (aJ 3) (mM) (jT (bz)))) (bg)))) (aN (GL) (aN (aJ 3) (aN (Lc) (aN (bw (aN (aJ 2) (aN (Ac (aJ 3) (jT (bz)) (mM)) (bg)))) (aN (bw (aN (aJ 2) (aN (bw (bg)) (bg)))) (bg)))))))))))
 (a9 (bu (bD (aJ 9) (aZ d__law_draw (hr.mono (by decide)) (aN (aJ 0) (aN (bz) (bg))))))))))))))
theorem mx (nm:Nm mg) {f:Addr}{fd:FuncData} (F:h7 K "_law_tuples_are" "_law_tuples_are" cU f fd) (hm:mg "_law_tuples_are" = some (.ref f)) (d__law_whole:dY P w K mg base (dW K w) 1 "_law_whole" 1 cw):dY P w K mg base (dW K w) 2 "_law_tuples_are" 2 bN:=
 dj F mw rfl hm (F.b2 (by rfl) fun _ _ _ _ _ _ _ _=>by rfl) fun cdv A outer s H E hr=>
 aL (iR (lW (lI (dZ (qv (jb (T:="tuple") (by decide) gB (by decide) (by decide) nm.isinstance nm.tuple (aJ 0)))) (kd (cO (sy hr.units) (aJ 0) (aJ 1))))) (a9 (bu (vw))) (eC))
 (a9 (bu (cy sS nm.all (aN (dh (b9 (N:=["_law_found", "_law_due"]) (sc:=au cU) (Nc:=["_law_one"]) (cap:=[none]) rfl rfl (by decide +kernel)) (pZ (aJ 0)) (fun _ _ _ _ _=>i7 0 lr) (fun _ _ _ _ _=>kE) (fun _ _ _ _ _=>iT (jb (T:="tuple") (by decide) gB (by decide) (by decide) nm.isinstance nm.tuple (aJ 0)) (jC (cy sS nm.all (aN (dh (GD (N:=["_law_one"]) (Nc:=["_law_number"]) (cap:=[none]) rfl rfl (by decide +kernel)) (pZ (aJ 0)) (fun _ _ _ _ _=>i7 0 lq) (fun _ _ _ _ _=>kE) (fun _ _ _ _ _=>aZ d__law_whole (hr.mono (by decide)) (aN (aJ 0) (bg)))) (bg)))))) (bg)))))
theorem pN (nm:Nm mg) {f:Addr}{fd:FuncData} (F:h7 K "_law_told_of" "_law_told_of" fT f fd) (hm:mg "_law_told_of" = some (.ref f)) {a_RootError:Addr} (m_RootError:mg "RootError" = some (.ref a_RootError)) (kn_RootError:vY K "RootError" a_RootError ["NoNumber", "NoRoot"]) (d_first_wrong:lJ P w K mg base 11 "first_wrong" 2 bO) (d_differences:lJ P w K mg base 10 "differences" 2 cx) (d__law_kind_of:EB P w K mg base (dW K w) 1 "_law_kind_of" 1 eT):dY P w K mg base (dW K w) 12 "_law_told_of" 3 bI:=
 dj F kf rfl hm (F.b3 (by rfl) fun _ _ _ _ _ _ _ _ _=>by rfl) fun cdv A outer s H E hr=>
 a9 (Lb yk kf.nd kn_RootError m_RootError (fun pins E=>a9 (bu (HL (wz (K2 d_differences (G9 yk) (hr.mono (by decide))) (wz (K2 d_first_wrong (G9 yk) (hr.mono (by decide))) (FH))) (aN (aJ 1) (aN (aJ 2) (bg)))))) (fun ea=>a9 (bu (EJ d__law_kind_of ((hr.h.mark _).mono (by decide)) (aN (aJ 3) (bg))))))
theorem sI (nm:Nm mg) {f:Addr}{fd:FuncData} (F:h7 K "_law_right" "_law_right" bX f fd) (hm:mg "_law_right" = some (.ref f)) (d_root_good:dY P w K mg base (dW K w) 9 "root_good" 2 dc) (d__law_web_like:dY P w K mg base (dW K w) 2 "_law_web_like" 1 cH) (d__law_two_step:dY P w K mg base (dW K w) 2 "_law_two_step" 1 bJ) (d__law_told_of:dY P w K mg base (dW K w) 12 "_law_told_of" 3 bI) (d__law_tuples_are:dY P w K mg base (dW K w) 2 "_law_tuples_are" 2 bN) (d__law_whole:dY P w K mg base (dW K w) 1 "_law_whole" 1 cw):dY P w K mg base (dW K w) 13 "_law_right" 2 bC:=
 dj F cP rfl hm (F.b2 (by rfl) fun _ _ _ _ _ _ _ _=>by rfl) fun cdv A outer s H E hr=>
 aL (bF 2 cP.nd (cy (z5 hr) nm.repr (aN (aJ 1) (bg))))
 (aL (bF 3 cP.nd (aZ d_root_good (hr.mono (by decide)) (aN (aJ 0) (aN (aJ 1) (bg)))))
 (aL (bF 4 cP.nd (iT (aZ d__law_web_like (hr.mono (by decide)) (aN (aJ 1) (bg))) (jC (kF (pI hr.units) (bD (aJ 1) (bz)) (bD (aJ 0) (bz))))))
 (aL (iR (lW (lI (dZ (qv (jb (T:="bool") (by decide) uR (by decide) (by decide) nm.isinstance nm.bool (aJ 3)))) (kd (cO (sy hr.units) (aJ 3) (iT (aJ 4) (jC (kF (pI hr.units) (aZ d__law_two_step (hr.mono (by decide)) (aN (aJ 1) (bg))) (aJ 0)))))))) (a9 (bu (vw))) (eC))
 (aL (yc 5 cP.nd (b9 (N:=["_law_web", "_law_other", "_law_held", "_law_found", "_law_like", "_law_told", "_law_made", "_law_due", "_law_words"]) (sc:=au bX) (Nc:=["_law_way", "_law_web", "_law_other"]) (cap:=[none,some 0,some 1]) rfl rfl (by decide +kernel)) (Ag nm.range (aN (bz) (bg))) (fun _ _ _ _ _=>i7 0 pX) (fun _ _ _ _ _=>kE) (fun _ _ _ _ _=>aZ d__law_told_of (hr.mono (by decide)) (aN (aJ 0) (aN (aJ 1) (aN (aJ 2) (bg))))))
 (aL (iR (cO (LY) (cy (z5 hr) nm.repr (aN (aJ 1) (bg))) (aJ 2)) (a9 (bu (vw))) (eC))
 (aL (iR (dZ (qv (aJ 4))) (a9 (bu (kF (pI hr.units) (aJ 5) (iu (aN (xJ) (aN (xJ) (bg))))))) (eC))
 (aL (bF 6 cP.nd (bD (aZ d__law_two_step (hr.mono (by decide)) (aN (aJ 1) (bg))) (bz)))
 (aL (bF 7 cP.nd (bw (aN (cy jY nm.tuple (aN (dh (b9 (N:=["_law_web", "_law_other", "_law_held", "_law_found", "_law_like", "_law_told", "_law_made", "_law_due", "_law_words"]) (sc:=au bX) (Nc:=["_law_tie", "_law_made"]) (cap:=[none,some 6]) rfl rfl (by decide +kernel)) (pZ (bD (aJ 0) (bz))) (fun _ _ _ _ _=>i7 0 pW) (fun _ _ _ _ _=>jB (cO (vQ hr.units) (aJ 0) (aJ 1))) (fun _ _ _ _ _=>aJ 0)) (bg))) (aN (cy jY nm.tuple (aN (dh (b9 (N:=["_law_web", "_law_other", "_law_held", "_law_found", "_law_like", "_law_told", "_law_made", "_law_due", "_law_words"]) (sc:=au bX) (Nc:=["_law_tie", "_law_web"]) (cap:=[none,some 0]) rfl rfl (by decide +kernel)) (pZ (aJ 6)) (fun _ _ _ _ _=>i7 0 pV) (fun _ _ _ _ _=>jB (cO (vQ hr.units) (aJ 0) (bD (aJ 1) (bz)))) (fun _ _ _ _ _=>aJ 0)) (bg))) (bg)))))
 (aL (iR (lW (lI (dZ (qv (jb (T:="tuple") (by decide) gB (by decide) (by decide) nm.isinstance nm.tuple (bD (aJ 5) (bz))))) (kd (cO (sy hr.units) (cy o8 nm.len (aN (bD (aJ 5) (bz)) (bg))) (bz))))) (a9 (bu (vw))) (eC))
 (aL (iR (lW (lI (dZ (qv (aZ d__law_tuples_are (hr.mono (by decide)) (aN (bD (bD (aJ 5) (bz)) (bz)) (aN (bD (aJ 7) (bz)) (bg)))))) (kd (dZ (qv (aZ d__law_tuples_are (hr.mono (by decide)) (aN (bD (bD (aJ 5) (bz)) (bz)) (aN (bD (aJ 7) (bz)) (bg))))))))) (a9 (bu (vw))) (eC))
 (aL (bF 8 cP.nd (dC (dh (b9 (N:=["_law_web", "_law_other", "_law_held", "_law_found", "_law_like", "_law_told", "_law_made", "_law_due", "_law_words"]) (sc:=au bX) (Nc:=["_law_tie"]) (cap:=[none]) rfl rfl (by decide +kernel)) (pZ (bD (aJ 7) (bz))) (fun _ _ _ _ _=>i7 0 pU) (fun _ _ _ _ _=>kE) (fun _ _ _ _ _=>bw (aN (aJ 0) (aN (xJ) (bg))))) (dh (b9 (N:=["_law_web", "_law_other", "_law_held", "_law_found", "_law_like", "_law_told", "_law_made", "_law_due", "_law_words"]) (sc:=au bX) (Nc:=["_law_tie"]) (cap:=[none]) rfl rfl (by decide +kernel)) (pZ (bD (aJ 7) (bz))) (fun _ _ _ _ _=>i7 0 pT) (fun _ _ _ _ _=>kE) (fun _ _ _ _ _=>bw (aN (aJ 0) (aN (xJ) (bg)))))))
 (aL (iR (cO (pI hr.units) (aJ 8) (iu (bg))) (a9 (bu (kF (Hf) (bD (aJ 5) (bz)) (GL)))) (eC))
 (a9 (bu (iT (kF (pI hr.units) (bD (aJ 5) (bz)) (dC (bw (aN (bD (cy (yu hr.units) nm.min (aN (aJ 8) (bg))) (bz)) (bg))) (bD (cy (yu hr.units) nm.min (aN (aJ 8) (bg))) (bz)))) (jC (cy sS nm.all (aN (dh (b9 (N:=["_law_web", "_law_other", "_law_held", "_law_found", "_law_like", "_law_told", "_law_made", "_law_due", "_law_words"]) (sc:=au bX) (Nc:=["_law_one"]) (cap:=[none]) rfl rfl (by decide +kernel)) (pZ (Ac (bD (aJ 5) (bz)) (jT (bz)) (mM))) (fun _ _ _ _ _=>i7 0 pS) (fun _ _ _ _ _=>kE) (fun _ _ _ _ _=>aZ d__law_whole (hr.mono (by decide)) (aN (aJ 0) (bg)))) (bg)))))))))))))))))))
theorem Kc (nm:Nm mg) {f:Addr}{fd:FuncData} (F:h7 K "law" "law" jS f fd) (d__law_right:dY P w K mg base (dW K w) 13 "_law_right" 2 bC) (d__law_cell_at:dY P w K mg base (dW K w) 1 "_law_cell_at" 2 eU) (d__law_pen_of:dY P w K mg base (dW K w) 1 "_law_pen_of" 1 fR) (d__law_drawn_web:dY P w K mg base (dW K w) 3 "_law_drawn_web" 2 bU) (d__law_two_step:dY P w K mg base (dW K w) 2 "_law_two_step" 1 bJ) (d__law_any_web:dY P w K mg base (dW K w) 4 "_law_any_web" 2 cT) (d__law_draw:dY P w K mg base (dW K w) 2 "_law_draw" 2 aR) (d__law_bent_web:dY P w K mg base (dW K w) 3 "_law_bent_web" 2 dS):qB P w K mg base xQ 14 f fd ["_law_script"] (Ef (dW K w) 1 v3):=
 L8 F kL rfl fun cdv A outer s H E hr=>
 aL (iR (lW (lI (dZ (qv (aZ d__law_right (hr.mono (by decide)) (aN (bw (aN (bz) (aN (bw (bg)) (bg)))) (aN (bw (aN (bz) (aN (bw (bg)) (bg)))) (bg)))))) (kd (dZ (qv (aZ d__law_right (hr.mono (by decide)) (aN (bw (aN (bz) (aN (bw (aN (bw (aN (bz) (aN (bz) (bg)))) (aN (bw (aN (bz) (aN (bz) (bg)))) (aN (bw (aN (bz) (aN (bz) (bg)))) (bg))))) (bg)))) (aN (bw (aN (bz) (aN (bw (aN (bw (aN (bz) (aN (bz) (bg)))) (aN (bw (aN (bz) (aN (bz) (bg)))) (bg)))) (bg)))) (bg))))))))) (a9 (bu (vw))) (eC))
 (aL (oY SD (pZ (dC (iu (aN (aZ d__law_cell_at (hr.mono (by decide)) (aN (aJ 0) (aN (bz) (bg)))) (bg))) (Ac (aJ 0) (jT (bz)) (jT (bz))))) (i7 1 kL.nd) (aL (bF 2 kL.nd (aZ d__law_pen_of (hr.mono (by decide)) (aN (aJ 1) (bg))))
 (aL (bF 3 kL.nd (aZ d__law_drawn_web (hr.mono (by decide)) (aN (aJ 2) (aN (bz) (bg)))))
 (aL (bF 4 kL.nd (aZ d__law_two_step (hr.mono (by decide)) (aN (aJ 3) (bg))))
 (aL (bF 5 kL.nd (aZ d__law_any_web (hr.mono (by decide)) (aN (aJ 2) (aN (bz) (bg)))))
 (aL (bF 6 kL.nd (bw (aN (bD (aJ 4) (bz)) (aN (cy jY nm.tuple (aN (dh (b9 (N:=["_law_script", "_law_cell", "_law_pen", "_law_one", "_law_web", "_law_other", "_law_again", "_law_thing"]) (sc:=au jS) (Nc:=["_law_tie", "_law_pen"]) (cap:=[none,some 2]) rfl rfl (by decide +kernel)) (pZ (bD (aJ 4) (bz))) (fun _ _ _ _ _=>i7 0 DM) (fun _ _ _ _ _=>jB (cO (pI hr.units) (aZ d__law_draw (hr.mono (by decide)) (aN (aJ 1) (aN (bz) (bg)))) (bz))) (fun _ _ _ _ _=>aJ 0)) (bg))) (bg)))))
 (a9 (oY SD (pZ (dC (iu (aN (aJ 3) (aN (aJ 4) (aN (aJ 6) (aN (aJ 5) (aN (bw (aN (bD (aJ 4) (bz)) (aN (bw (bg)) (bg)))) (bg))))))) (dh (b9 (N:=["_law_script", "_law_cell", "_law_pen", "_law_one", "_law_web", "_law_other", "_law_again", "_law_thing"]) (sc:=au jS) (Nc:=["_law_turn", "_law_pen", "_law_one"]) (cap:=[none,some 2,some 3]) rfl rfl (by decide +kernel)) (Ag nm.range (aN (bz) (bg))) (fun _ _ _ _ _=>i7 0 DL) (fun _ _ _ _ _=>kE) (fun _ _ _ _ _=>aZ d__law_bent_web (hr.mono (by decide)) (aN (aJ 1) (aN (aJ 2) (bg))))))) (i7 7 kL.nd) (a9 (iR (lW (lI (dZ (qv (aZ d__law_right (hr.mono (by decide)) (aN (aJ 4) (aN (aJ 7) (bg)))))) (kd (dZ (qv (aZ d__law_right (hr.mono (by decide)) (aN (aJ 5) (aN (aJ 7) (bg))))))))) (a9 (bu (vw))) (eC)))))))))))
 (a9 (bu (vw))))
end
end Lw
namespace Lv
variable{adj:Int->Int->Prop}{p:Int}
def R(adj:Int->Int->Prop)(p:Int):Nat->Int->Prop
 |0,q=>q=p
 |n+1,q=>R adj p n q\/∃r,adj r q/\R adj p n r
def ua(adj:Int->Int->Prop)(p:Int):Nat->Int->Prop
 |0,q=>q=p
 |n+1,q=>R adj p (n+1) q/\¬ R adj p n q
theorem R.up{n:Nat}{q:Int}(h:R adj p n q):R adj p (n+1) q:=.inl h
theorem R.mono{n m:Nat}{q:Int}(h:R adj p n q)(hm:n<=m):R adj p m q:=by
 induction hm with
 |refl=>exact h
 |step _ ih=>exact ih.up
theorem ua.r{n:Nat}{q:Int}(h:ua adj p n q):R adj p n q:=by
 cases n with
 |zero=>exact h
 |succ n=>exact h.1
theorem R.lev{n:Nat}{q:Int}(h:R adj p n q):∃j,j<=n/\ua adj p j q:=by
 induction n with
 |zero=>exact⟨0,OR _,h⟩
 |succ n ih=>
  by_cases hr:R adj p n q
  ·obtain⟨j,hj,hl⟩:=ih hr;exact⟨j,by omega,hl⟩
  ·exact⟨n+1,OR _,h,hr⟩
theorem ua.low{n j:Nat}{q:Int}(h:ua adj p n q)(hj:j<n):¬ R adj p j q:=by
 cases n with
 |zero=>omega
 |succ n=>exact fun hr=>h.2 (hr.mono (by omega))
theorem ua.one{n m:Nat}{q:Int}(h:ua adj p n q)(h':ua adj p m q):n=m:=by
 rcases Nat.lt_trichotomy n m with z|z|z
 ·exact absurd h.r (h'.low z)
 ·exact z
 ·exact absurd h'.r (h.low z)
theorem jG{n:Nat}{q:Int}:ua adj p (n+1) q↔¬ R adj p n q/\∃r,adj r q/\ua adj p n r:=by
 constructor
 ·rintro ⟨h1, h2⟩
  refine⟨h2,?_⟩;rcases h1 with h1|⟨r,ha,hr⟩
  ·exact absurd h1 h2
  ·refine ⟨r, ha, ?_⟩;cases n with
   |zero=>exact hr
   |succ n=>exact⟨hr,fun z=>h2 (.inr ⟨r,ha,z⟩)⟩
 ·rintro ⟨h1, r, ha, hr⟩
  exact⟨.inr ⟨r,ha,hr.r⟩,h1⟩
def Up(adj:Int->Int->Prop)(p:Int)(D:Int->Prop)(n:Nat)(f:Int->Option Nat):Prop:=∀q,D q->∀j,f q=some j↔(j<=n/\ua adj p j q)
theorem Up.none{D:Int->Prop}{n:Nat}{f:Int->Option Nat}(h:Up adj p D n f){q:Int}(hq:D q):f q=none↔¬ R adj p n q:=by
 constructor
 ·intro e hr;obtain⟨j,hj,hl⟩:=hr.lev;have:=(h q hq j).mpr ⟨hj,hl⟩;rw[e]at this;cases this
 ·intro hr;cases e:f q with
  |none=>rfl
  |some j=>
   obtain⟨hj,hl⟩:=(h q hq j).mp e;exact absurd (hl.r.mono hj) hr
theorem GJ{D:Int->Prop}{f:Int->Option Nat}(h:∀q,D q->f q=if q=p then some 0 else Option.none):Up adj p D 0 f:=fun q hq j=>by
 rw[h q hq];by_cases e:q=p
 ·rw [Ob e];constructor
  ·intro z;cases z;exact⟨OR _,e⟩
  ·rintro ⟨h1, _⟩
   have:j=0:=by omega
   rw[this]
 ·rw [Oc e];constructor
  ·intro z;cases z
  ·rintro ⟨h1, h2⟩
   have:j=0:=by omega
   subst this;exact absurd h2 e
theorem Up.next{D:Int->Prop}{n:Nat}{f f':Int->Option Nat}(h:Up adj p D n f)(hD:∀a b,adj a b->D a)(e:∀q,D q->∀j,f' q=some j↔(f q=some j\/(f q=Option.none/\j=n+1/\∃r,adj r q/\f r=some n))):Up adj p D (n+1) f':=fun q hq j=>by
 rw[e q hq j];constructor
 ·rintro (z | ⟨z1, z2, r, z3, z4⟩)
  ·obtain⟨hj,hl⟩:=(h q hq j).mp z;exact⟨by omega,hl⟩
  ·subst z2;refine⟨OR _,jG.mpr ⟨(h.none hq).mp z1,r,z3,?_⟩⟩;exact((h r (hD r q z3) n).mp z4).2
 ·rintro ⟨hj, hl⟩
  by_cases hn:j<=n
  ·exact .inl ((h q hq j).mpr ⟨hn,hl⟩)
  ·have : j = n + 1 := by omega
   subst this;obtain⟨h1,r,ha,hr⟩:=jG.mp hl;exact .inr ⟨(h.none hq).mpr h1,rfl,r,ha,(h r (hD r q ha) n).mpr ⟨OR _,hr⟩⟩
def qA(adj:Int->Int->Prop)(p:Int)(D:Int->Prop)(f:Int->Option Nat):Prop:=∀q,D q->∀j,f q=some j↔ua adj p j q
theorem qA.eq{D:Int->Prop}{f g:Int->Option Nat}(h:qA adj p D f)(h':qA adj p D g){q:Int}(hq:D q):f q=g q:=by
 apply Option.ext;intro j;rw[h q hq j,h' q hq j]
theorem ua.below{n:Nat}:∀{q:Int},ua adj p n q->∀j,j<=n->∃r,ua adj p j r:=by
 induction n with
 | zero => intro q h j hj; exact ⟨q, by have : j = 0 := by omega
                                        subst this;exact h⟩
 |succ n ih=>
  intro q h j hj;by_cases e:j=n+1
  ·subst e;exact⟨q,h⟩
  ·obtain⟨_,r,_,hr⟩:=jG.mp h;exact ih hr j (by omega)
theorem Up.full{D:Int->Prop}{n:Nat}{f:Int->Option Nat}(h:Up adj p D n f)(hD:∀a b,adj a b->D b)(e:∀q,D q->¬ ua adj p (n+1) q):qA adj p D f:=fun q hq j=>by
 rw[h q hq j];constructor
 ·exact fun z=>z.2
 ·intro hl;refine⟨?_,hl⟩;apply Qh;intro hj;obtain⟨r,hr⟩:=hl.below (n+1) (by omega);obtain⟨_,s,hs,_⟩:=jG.mp hr;exact e r (hD s r hs) hr
theorem JK{m:Nat}(hp:0<=p/\p<m)(hD:∀a b,adj a b->0<=b/\b<m){n:Nat}{q:Int}(h:ua adj p n q):n<m:=by
 have hr:∀j,∃r,j<=n->ua adj p j r:=fun j=>by
  by_cases hj:j<=n
  ·obtain⟨r,hr⟩:=h.below j hj;exact⟨r,fun _=>hr⟩
  ·exact⟨0,fun z=>absurd z hj⟩
 let r:Nat->Int:=fun j=>(hr j).choose
 have hr':∀j,j<=n->ua adj p j (r j):=fun j hj=>(hr j).choose_spec hj
 have rng:∀j,j<=n->0<=r j/\r j<m:=fun j hj=>by
  have:=hr' j hj;cases j with
  |zero=>rw[show r 0=p from this];exact hp
  |succ j=>
   obtain⟨_,s,hs,_⟩:=jG.mp this;exact hD s _ hs
 have nd:((List.range (n+1)).map fun j=>(r j).toNat).Nodup:=by
  rw[List.Nodup,RN];refine List.Pairwise.imp_of_mem (R:=(·<·)) ?_ Q4;intro a b ha hb hab e;rw[Oj]at ha hb;have r1:=rng a (by omega);have r2:=rng b (by omega);have e':r a=r b:=by omega
  have h1:=hr' a (by omega);have h2:=hr' b (by omega);rw[e']at h1;have:=h1.one h2;omega
 have sub:((List.range (n+1)).map fun j=>(r j).toNat) ⊆ List.range m:=fun x hx=>by
  obtain⟨j,hj,rfl⟩:=QJ.mp hx;rw[Oj]at hj⊢;have:=rng j (by omega);omega
 have:=nd.length_le_of_subset sub;rw[Pf,QB,QB]at this;omega
end Lv
namespace Lv
def qw(f:Int->Option Nat)(r:Int)(v:Nat):Int->Option Nat:=fun q=>if q=r then some v else f q
end Lv
namespace Lw
open PySem L2 RS
theorem bL:1000<=sizeLine:=by decide
theorem rh{lo:Int}{n:Nat}:cm lo n=(List.range n).map fun(i:Nat)=>D.int (lo+(i:Int)):=rfl
theorem zy{μ:aB}(s:Int):∃r:Int,gn [.int s] μ=.ok (.int r) μ:=by
 have h0:0<=(s+7919)%2147483647:=SE _ (by decide);have h1:(s+7919)%2147483647<2147483647:=SF _ (by decide);generalize ht:(s+7919)%2147483647=t at h0 h1;refine⟨(t*t+48271*t+12345)%2147483629,?_⟩;have c1:vL t t:=.inl ⟨by omega,by omega⟩;have c2:vL 48271 t:=.inl ⟨by omega,by omega⟩;unfold gn;rw[fE];simp[pF,ht,c1,c2];exact aM (by simp)
def cv(a b c:Int):O:=.lst [.int a,.int b,.int c]
theorem uJ{n:Nat}{a b c:Int}:(cv a b c).low n:=by simp[cv,O.low]
theorem Im{μ:aB}(x:Int):∃a b c:Int,fR [.int x] μ=.ok (.obj μ.length) (μ++[cv a b c]):=by
 have e:∀i j:Int,vF [.int i,.int j] μ=.ok (.int (if j>i then j else i)) μ:=fun _ _=>rfl;have p1:BK 10 18:=⟨by decide,by decide,by decide⟩;have ib:∀k:Bool,∀μ,vV [.bl k] μ=.ok (.int (if k then 1 else 0)) μ:=fun _ _=>rfl;refine⟨(if 0-x>x then 0-x else x),(if cL .GtE (if 0-x>x then 0-x else x) (10^(18:Int).toNat) then 1 else 0),(if 0-x>x then 0-x else x)%1000003,?_⟩;unfold fR;rw[fE];have l3:(3:Nat)<=sizeLine:=by decide
 simp only[lU,aF,aQ,az,ar,aw,ah,ak,aH,bc,aa,ae,af,B3,e,bp,aC,bb,eK,List.set,List.replicate,SG,SH];have pw:Ai (.int 10) (.int 18) μ=.ok (.int (10^(18:Int).toNat)) μ:=nX p1;have md:∀x,vD (.int x) (.int 1000003) μ=.ok (.int (x%1000003)) μ:=fun x=>nX (show (0:Int)<1000003 by decide);simp only[pw,md,aa,ae,ie,ib,Qm,QC,Ob l3,af,aU];rw[zk (by simp)];rfl
theorem E7{μ:aB}{i:Nat}{a b c m:Int}(hp:μ[i]?=some (cv a b c))(h0:0<m)(h1:m<1073741824) :
  ∃r a' b' c':Int,0<=r/\r<m/\aR [.obj i,.int m] μ=.ok (.int r) (μ.set i (cv a' b' c')):=by
 have hi:i<μ.length:=(Ow.mp hp).1;have hp':μ[i]?=some (.lst [.int a,.int b,.int c]):=hp;have md:∀{x:Int}{μ:aB},vD (.int x) (.int m) μ=.ok (.int (x%m)) μ:=fun {x μ}=>nX (show (fun _ j=>(0:Int)<j) x m from h0);have fd:∀{x:Int}{μ:aB},vW (.int x) (.int m) μ=.ok (.int (x / m)) μ:=fun {x μ}=>nX (show EC x m from⟨h0,by omega⟩);have f64:∀{x:Int}{μ:aB},vW (.int x) (.int 64) μ=.ok (.int (x / 64)) μ:=fun {x μ}=>nX (show EC x 64 from⟨by decide,by decide⟩);unfold aR;rw[bK];by_cases hb:b=1
 ·subst hb;refine⟨a%m,a / m,1,c,SE _ (by omega),SF _ h0,?_⟩;simp only[kZ,aF,bW,cB,aH,ah,ak,bc,aa,ae];rw[eM hp' qL];simp only[aa,ae,gy,Qk,Pq,aX,af,aF,aQ,aH,ah,ak,bc];simp only[Ql,Pp,Pq,aF,aQ,aH,ah,ak,bc,aa,ae];rw[eM hp' o9];simp only[aa,ae,md,af,bp,aC,List.replicate,SG,SH,ah,ak,bc,aH,aQ,aF];rw[eM hp' o9];simp only[aa,ae,fd,af,qo,ah,ak,bc];rw[qm hp' (uk (by decide) (by simp))];simp only[aa,ae,af,aC,bb,ah,ak,qN,aU];exact zR (by simp only[Gd]) (uJ (a:=a / m) (b:=1) (c:=c))
 ·obtain ⟨s1, e1⟩ := zy (μ := μ) c;obtain⟨s2,e2⟩:=zy (μ:=μ) (s1+7);refine⟨s2 / 64%m,a,b,s2,SE _ (by omega),SF _ h0,?_⟩;have hb':(b == 1)=false:=by simpa using hb
  simp only[kZ,aF,bW,cB,aH,ah,ak,bc,aa,ae];rw[eM hp' qL];simp only[aa,ae,gy,hb',aX,af,Ql,Pp,bY,aC,aF,aQ,az,ar,aw,aH,ah,ak,bc];rw[eM hp' Hl];simp only[aa,ae,e1,ig,e2,af,qo,ah,ak,bc];rw[qm hp' (uk (by decide) (by simp))];have hg:(μ.set i (.lst ([D.int a,D.int b,D.int c].set (2:Int).toNat (.int s2))))[i]?=some (.lst [D.int a,D.int b,D.int s2]):=by rw[Oy hi];rfl
  simp only[aa,ae,af,aC,bb,aH,ah,ak,bc];rw[eM hg Hl];simp only[aa,ae,f64,md,af,aU];exact zR (by simp) (uJ (a:=a) (b:=b) (c:=s2))
theorem aG{μ g:aB}{i:Nat}{o:O}(h:μ[i]?=some o):(μ++g)[i]?=some o:=by
 rw[O9 (Ow.mp h).1];exact h
theorem uE{μ g:aB}{i:Nat}{o:O}(h:i<μ.length):(μ++g).set i o=μ.set i o++g:=by
 rw[List.set_append_left _ _ h]
theorem ia{μ:aB}{i:Nat}{o:O}(h:i<μ.length):(μ.set i o)[i]?=some o:=Oy h
def gp(m:Int)(k:List Int):Prop:=∃a b:Int,k=[a,b]/\0<=a/\a<b/\b<m
theorem gp.prs{m:Int}{k:List Int}(h:gp m k)(hm:m<=6):k∈prs:=by
 obtain⟨a,b,rfl,h1,h2,h3⟩:=h;exact uG h1 h2 (by omega)
def jD(d:D)(m:Int)(ks:List (List Int)):Prop:=d=.tup [.int m,.tup (ks.map ao)]/\1<=m/\m<=6/\(ks.Pairwise fun a b=>lV a<lV b)/\∀k∈ks,gp m k
theorem xl{m:Int}{ks:List (List Int)}(h0:1<=m)(h1:m<=6)(hk:∀k∈ks,gp m k):jD (.tup [.int m,.tup ((gR ks).map ao)]) m (gR ks):=by
 refine⟨rfl,h0,h1,me.filter _,fun k h=>?_⟩;unfold gR at h;rw[Oi,Sd]at h;exact hk k h.2
theorem cK{m:Int}{ks:List (List Int)}{d:D}(h:jD d m ks):ks.length<=15:=by
 obtain⟨_,_,hm,hp,hk⟩:=h;have hn:ks.Nodup:=hp.imp fun h e=>by subst e;omega
 have hs:ks ⊆ prs:=fun k h=>(hk k h).prs hm;have:=hn.length_le_of_subset hs;rw[zF]at this;exact this
def jQ(p:Int×Int):D:=.tup [.int p.1,.int p.2]
theorem l2:(2:Nat)<=sizeLine:=by decide
theorem NZ{u v:Int}{μ:aB}:vE [.tup [.int u,.int v]] μ=.ok (.int (min u v)) μ:=rfl
theorem N0{u v:Int}{μ:aB}:vF [.tup [.int u,.int v]] μ=.ok (.int (max u v)) μ:=rfl
theorem iy{n:Nat}{d:D}{m:Int}{ks:List (List Int)}(h:jD d m ks):d.low n:=by
 obtain⟨rfl,_⟩:=h;simp
 exact iZ.mpr fun x hx=>by
  obtain⟨k,_,rfl⟩:=QJ.mp hx;simp[ao];exact iZ.mpr (by simp)
theorem lE{lo:Int}{n:Nat}:cm lo (n+1)=.int lo::cm (lo+1) n:=by
 unfold cm;rw[Qx,PM,Qy];congr 1
 ·simp
 ·apply QA;intro i _;simp only[Function.comp_apply];congr 1;omega
theorem og{lo:Int}:cm lo 0=[]:=rfl
theorem wu{lo:Int}{n:Nat}(h:cm lo n=[]):n=0:=by
 cases n with
 |zero=>rfl
 |succ n=>rw[lE]at h;cases h
theorem wZ{x:D}:∀k:Nat,(List.replicate k [x]).flatten=List.replicate k x
 |0=>rfl
 |k+1=>by rw[PZ,P0,wZ k];rfl
theorem l1:(1:Nat)<=sizeLine:=by decide
end Lw
namespace Lw
open PySem L2 RS Lv
def BF:Option Nat->D
 |none=>.non
 |some n=>.int n
def fY(m:Nat)(f:Int->Option Nat):List D:=(List.range m).map fun q:Nat=>BF (f q)
theorem wt{m:Nat}{f:Int->Option Nat}{q:Int}(q0:0<=q)(q1:q<m):atI (fY m f) q=some (BF (f q)):=by
 refine CW q0 ?_;unfold fY;rw[Pb,RL (by omega)];simp only[Option.map_some,Q7 q0]
theorem wq{m:Nat}{f:Int->Option Nat}{q:Int}{v:Nat}(q0:0<=q)(q1:q<m):(fY m f).set q.toNat (.int v)=fY m (qw f q v):=by
 unfold fY;apply RK;intro i;rw[List.getElem?_set,Pf,QB,Pb,Pb];by_cases e:q.toNat=i
 ·rw[Ob e,Ob (by omega),RL (by omega),<- e];simp only[Option.map_some,Q7 q0,qw,Ob rfl];rfl
 ·rw [Oc e];by_cases hi:i<m
  ·rw[RL hi];simp only[Option.map_some,qw];rw[Oc (by omega)]
  ·rw[RM (by rw[QB];omega)];rfl
def Hw(ks:List (List Int)):List (Int×Int):=ks.flatMap fun k=>match k with
 |[u,v]=>[(u,v),(v,u)]
 |_=>[]
def mB(ks:List (List Int))(a b:Int):Prop:=(a,b)∈Hw ks
theorem tH{o:Option Nat}:(BF o).isNon=decide (o=none):=by
 cases o <;> rfl
section
variable{μ0 μ:aB}{m a:Nat}{web:D}{M p u v q r:Int}{n:Nat}{T:Int->Int->Option Nat}{f:Int->Option Nat}
theorem jg{ks:List (List Int)}(hk:∀k∈ks,gp m k){x y:Int}(h:mB ks x y):(0<=x/\x<m)/\(0<=y/\y<m):=by
 unfold mB Hw at h;obtain⟨k,hk',hm⟩:=SI.mp h;obtain⟨u,v,rfl,u0,uv,v1⟩:=hk k hk';simp at hm;omega
end
theorem AE{m:Nat}:fY m (fun _=>none)=List.replicate m .non:=by
 unfold fY BF;rw[List.map_const',QB]
def KA(k:Int):Option Nat->Bool
 |some j=>decide ((j:Int)<=k)
 |none=>false
def kz(T:Int->Int->Option Nat)(k p lo:Int)(c:Nat):List (List Int):=(((List.range c).map fun i:Nat=>lo+(i:Int)).filter fun q=>KA k (T p q)).map fun q=>[p,q]
def Ee(m:Nat)(T:Int->Int->Option Nat)(k:Int):List (List Int):=(List.range m).flatMap fun p:Nat=>kz T k p ((p:Int)+1) (m-(p+1))
theorem wm{T:Int->Int->Option Nat}{k p lo:Int}{c:Nat}:(kz T k p lo c).length<=c:=by
 unfold kz;rw[Pf];refine Ol (SJ _ _) ?_;rw[Pf,QB];exact OR _
theorem rf{T:Int->Int->Option Nat}{k p lo:Int}{c:Nat}{x:List Int}(h:x∈kz T k p lo c):∃q:Int,x=[p,q]/\lo<=q/\q<lo+c:=by
 unfold kz at h;obtain⟨q,hq,rfl⟩:=QJ.mp h;obtain⟨hq,_⟩:=Oi.mp hq;obtain⟨i,hi,rfl⟩:=QJ.mp hq;rw[Oj]at hi;exact⟨_,rfl,by omega,by omega⟩
theorem Fq{T:Int->Int->Option Nat}{k p lo:Int}{c:Nat}:(kz T k p lo c).Pairwise fun a b=>lV a<lV b:=by
 unfold kz;rw[RN];apply List.Pairwise.filter;rw[RN];exact Q4.imp fun {a b} h=>by show p*6+(lo+(a:Int))<p*6+(lo+(b:Int));omega
theorem wd{m:Nat}{T:Int->Int->Option Nat}{k:Int}(h0:1<=m)(h1:m<=6):jD (.tup [.int m,.tup ((Ee m T k).map ao)]) m (Ee m T k):=by
 refine⟨rfl,by omega,by omega,?_,fun x hx=>?_⟩
 ·unfold Ee;rw[List.pairwise_flatMap];refine⟨fun p _=>Fq,?_⟩;refine List.Pairwise.imp_of_mem (R:=(·<·)) ?_ Q4;intro a b ha hb hab x hx y hy;rw[Oj]at ha hb;obtain⟨q,rfl,q0,q1⟩:=rf hx;obtain⟨r,rfl,r0,r1⟩:=rf hy;show (a:Int)*6+q<(b:Int)*6+r;omega
 ·unfold Ee at hx;obtain⟨p,hp,hx⟩:=SI.mp hx;rw[Oj]at hp;obtain⟨q,rfl,q0,q1⟩:=rf hx;exact⟨_,_,rfl,by omega,by omega,by omega⟩
theorem Dn{T:Int->Int->Option Nat}{k p lo:Int}{c:Nat}:((cm lo c).filter fun d=>match d with | .int q=>KA k (T p q)|_=>false).map (fun d=>match d with | .int q=>ao [p,q]|_=>.non)=(kz T k p lo c).map ao:=by
 unfold cm kz;rw[SK,Qy,SK,Qy,Qy];rfl
section
variable{μ0 μ:aB}{m a:Nat}{p q:Int}{k:Int}{T:Int->Int->Option Nat}
end
theorem ng{m:Nat}{T:Int->Int->Option Nat}{k:Int}(h:m<=6):∀n,((List.range n).flatMap fun p:Nat=>kz T k p ((p:Int)+1) (m-(p+1))).length<=6*n
 |0=>by simp
 |n+1=>by
  rw[List.range_succ,SL,Pe];have:=ng (T:=T) (k:=k) h n;have h2:=wm (T:=T) (k:=k) (p:=n) (lo:=(n:Int)+1) (c:=m-(n+1));simp only[SM,SN,OY];omega
theorem wQ{μ:aB}:∀fs:List Int,gQ μ (fs.map D.int)=some (fs.map PyData.int)
 |[]=>rfl
 |x::fs=>by simp only[PM,gQ,wQ fs];rfl
theorem wU:∀fs:List Int,PyData.canLayAll0 (fs.map PyData.int)=true/\PyData.depthAll (fs.map PyData.int)=0
 |[]=>by simp[PyData.canLayAll0,PyData.depthAll]
 |x::fs=>by
  have:=wU fs;simp only[PM,PyData.canLayAll0,PyData.depthAll,PyData.canLay0,PyData.depth,this.1,this.2];exact⟨rfl,rfl⟩
theorem zP{μ:aB}{F:Nat}{fs:List Int}{a:Int}(h:μ[F]?=some (.lst (fs.map D.int))):sr false (.int a) (.obj F) μ=.ok (.bl (decide (a∈fs))) μ:=by
 have e1:mz μ (.int a)=some (.int a):=rfl
 have e2:mz μ (.obj F)=some (.list (fs.map PyData.int)):=by
  unfold mz;dsimp only;rw[h];dsimp only;rw[wQ];rfl
 have f1:dO (.int a)=true:=rfl
 have f2:dO (.list (fs.map PyData.int))=true:=by
  have:=wU fs;simp only[dO,PyData.canLay0,this.1,PyData.depth,this.2,SQ];rfl
 unfold sr;rw[e1,e2];dsimp only[yf];rw[Ob ⟨f1,f2⟩];simp only[Ql,Pp];congr 2;rw[List.any_map];apply OV.mpr;rw[List.any_eq_true,Sd];constructor
 ·rintro ⟨x, hx, e⟩
  have:x=a:=by simpa[PyData.eqv] using e
  subst this;exact hx
 ·intro hx;exact⟨a,hx,by simp[PyData.eqv]⟩
theorem jh{m:Int}{ks:List (List Int)}(hk:∀k∈ks,gp m k){a b:Int}:mB ks a b↔([a,b]∈ks\/[b,a]∈ks):=by
 unfold mB Hw;rw[SI];constructor
 ·rintro ⟨k, hk', hm⟩
  obtain⟨u,v,rfl,_⟩:=hk k hk';simp at hm;rcases hm with⟨rfl,rfl⟩|⟨rfl,rfl⟩
  ·exact .inl hk'
  ·exact .inr hk'
 ·rintro (h | h)
  ·exact⟨_,h,by simp⟩
  ·exact⟨_,h,by simp⟩
theorem oz{m:Int}{t e:List Int->Int}:∀{ks:List (List Int)},(∀k∈ks,gp m k)->∀(P:Int->Bool),∃l:List Int,
  ((ks.map ao).filter (fun d=>match d with | .tup [.int a,.int b]=>P (t [a,b])|_=>false)).map (fun d=>match d with | .tup [.int a,.int b]=>.int (e [a,b])|_=>.non)=l.map D.int/\l.length<=ks.length/\∀x,x∈l↔∃k∈ks,P (t k)=true/\x=e k
 |[],_,P=>⟨[],rfl,OR _,by simp⟩
 |k::ks,h,P=>by
  obtain⟨l,e1,e2,e3⟩:=oz (t:=t) (e:=e) (ks:=ks) (fun x hx=>h x (Oq _ hx)) P;obtain⟨a,b,rfl,_⟩:=h k Oo;rw[PM,Ss];show ∃l:List Int,List.map _ (if P (t [a,b])=true then _ else _)=_/\_;by_cases c:P (t [a,b])=true
  ·rw [Ob c, PM, e1];refine⟨e [a,b]::l,rfl,by simp;omega,fun x=>?_⟩;simp only[Os,e3];constructor
   ·rintro (rfl | ⟨k, hk, z⟩)
    ·exact⟨[a,b],.inl rfl,c,rfl⟩
    ·exact⟨k,.inr hk,z⟩
   ·rintro ⟨k, rfl | hk, z1, z2⟩
    ·exact .inl z2
    ·exact .inr ⟨k,hk,z1,z2⟩
  ·rw [Oc c, e1];refine⟨l,rfl,by simp;omega,fun x=>?_⟩;simp only[Os,e3];constructor
   ·rintro⟨k,hk,z⟩;exact⟨k,.inr hk,z⟩
   ·rintro ⟨k, rfl | hk, z1, z2⟩
    ·exact absurd z1 c
    ·exact⟨k,hk,z1,z2⟩
def Ex:List Int->Int
 |[a,_]=>a
 |_=>0
def Eu:List Int->Int
 |[_,b]=>b
 |_=>0
theorem C8{μ:aB}{m:Int}{F:Nat}{fs:List Int}{ks:List (List Int)}(hk:∀k∈ks,gp m k)(hl:ks.length<=15)(h:μ[F]?=some (.lst (fs.map D.int))) :
  ∃(t:Nat)(g:aB)(ns:List Int),fQ [.tup (ks.map ao),.obj F] μ=.ok (.obj t) (μ++g)/\(μ++g)[t]?=some (.lst (ns.map D.int))/\ns.length<=30/\μ.length<=t/\∀q,q∈ns↔∃r∈fs,mB ks r q:=by
 obtain⟨l1,a1,a2,a3⟩:=oz (t:=Ex) (e:=Eu) hk fun x=>decide (x∈fs);obtain⟨l2',b1,b2,b3⟩:=oz (t:=Eu) (e:=Ex) hk fun x=>decide (x∈fs)
 have c1:=eZ (src:=.fix (ks.map ao)) (g:=fu 2 (br (aq 0) (br (aq 1) (fv)))) (t:=iF) (e:=km) (μ1:=μ)
  (q:=fun d=>match d with | .tup [.int a,.int b]=>decide (Ex [a,b]∈fs)|_=>false) (h:=fun d=>match d with | .tup [.int a,.int b]=>.int (Eu [a,b])|_=>.non)
  (fun ρ=>∃o1 o2,ρ=[o1,o2,some (.obj F)]) (fun _=>trivial) (xs:=ks.map ao) (acc:=[]) (ρ:=[none,none,some (.obj F)]) ⟨_,_,rfl⟩
  (by rw[Pf,QC];exact Ol (by omega) bL)
  (fun x hx a ρ hJJ => by
   obtain⟨o1,o2,ho⟩:=hJJ;obtain⟨k,hk',rfl⟩:=QJ.mp hx;obtain⟨u,v,rfl,_⟩:=hk k hk';subst ho;refine⟨[some (.int u),some (.int v),some (.obj F)],⟨_,_,rfl⟩,rfl,?_,fun _=>rfl⟩;unfold iF;simp only[cB,aH,ak,ah,aa,ae];rw[zP (aG h)]
   rfl)
 have c2:=fun M:aB=>fun hM:M[F]?=some (.lst (fs.map D.int))=>eZ (src:=.fix (ks.map ao)) (g:=fu 2 (br (aq 0) (br (aq 1) (fv)))) (t:=iE) (e:=kj) (μ1:=M)
  (q:=fun d=>match d with | .tup [.int a,.int b]=>decide (Eu [a,b]∈fs)|_=>false) (h:=fun d=>match d with | .tup [.int a,.int b]=>.int (Ex [a,b])|_=>.non)
  (fun ρ=>∃o1 o2,ρ=[o1,o2,some (.obj F)]) (fun _=>trivial) (xs:=ks.map ao) (acc:=[]) (ρ:=[none,none,some (.obj F)]) ⟨_,_,rfl⟩
  (by rw[Pf,QC];exact Ol (by omega) bL)
  (fun x hx a ρ hJJ => by
   obtain⟨o1,o2,ho⟩:=hJJ;obtain⟨k,hk',rfl⟩:=QJ.mp hx;obtain⟨u,v,rfl,_⟩:=hk k hk';subst ho;refine⟨[some (.int u),some (.int v),some (.obj F)],⟨_,_,rfl⟩,rfl,?_,fun _=>rfl⟩;unfold iE;simp only[cB,aH,ak,ah,aa,ae];rw[zP (aG hM)]
   rfl)
 rw[Qg,a1]at c1;have c2':=c2 (μ++[O.lst (l1.map D.int)]) (aG h);rw[Qg,b1]at c2';refine⟨((μ++[O.lst (l1.map D.int)])++[O.lst (l2'.map D.int)]).length,([O.lst (l1.map D.int)]++[O.lst (l2'.map D.int)])++[O.lst ((l1++l2').map D.int)],l1++l2',?_,?_,by rw[Pe];omega,by simp,fun q=>?_⟩
 ·unfold fQ;rw[bK];simp only[lS,bb,aH,bZ,cF,ah,aa,ae,fS,bo,List.replicate];rw[show fH [none,none,some 1] (some (D.tup (List.map ao ks))::some (D.obj F)::List.replicate (2-2) none)=[none,none,some (.obj F)] from rfl,c1];simp only[aa,ae];rw[c2'];simp only[aa,ae]
  have ad:cQ (.obj μ.length) (.obj (μ++[O.lst (l1.map D.int)]).length) ((μ++[O.lst (l1.map D.int)])++[O.lst (l2'.map D.int)])=.ok (.obj ((μ++[O.lst (l1.map D.int)])++[O.lst (l2'.map D.int)]).length) (((μ++[O.lst (l1.map D.int)])++[O.lst (l2'.map D.int)])++[O.lst ((l1++l2').map D.int)]):=by
   unfold cQ;dsimp only;rw[aE,aG aE];dsimp only;rw[Ob,QR];rw[Pf,Pf];exact Ol (show _<=1000 by omega) bL
  rw[ad,af,aU,zk (by simp)];simp only[Qa]
 ·rw[<- Qa,<- Qa];exact aE
 ·rw [Ou, a3, b3];constructor
  ·rintro (⟨k, hk', z1, z2⟩ | ⟨k, hk', z1, z2⟩)
   ·obtain⟨u,v,rfl,_⟩:=hk k hk';subst z2;exact⟨u,SR z1,(jh hk).mpr (.inl hk')⟩
   ·obtain⟨u,v,rfl,_⟩:=hk k hk';subst z2;exact⟨v,SR z1,(jh hk).mpr (.inr hk')⟩
  ·rintro ⟨r, hr, ha⟩
   rcases (jh hk).mp ha with z|z
   ·exact .inl ⟨_,z,Qi hr,rfl⟩
   ·exact .inr ⟨_,z,Qi hr,rfl⟩
theorem rq{μ:aB}{i j:Nat}{o o':O}(h:μ[j]?=some o')(ne:i≠j):(μ.set i o)[j]?=some o':=by rw[OA ne];exact h
def bS(k:List Int):PyData:=.tuple (k.map PyData.int)
theorem ot{μ:aB}{m:Int}:∀{ks:List (List Int)},(∀k∈ks,gp m k)->gQ μ (ks.map ao)=some (ks.map bS)
 |[],_=>rfl
 |k::ks,h=>by
  obtain⟨a,b,rfl,_⟩:=h k Oo;have ih:=ot (μ:=μ) fun x hx=>h x (Oq _ hx);simp only[PM,gQ,ih];rfl
theorem oq{μ:aB}{m:Int}:∀{ks:List (List Int)},(∀k∈ks,gp m k)->toPs μ (ks.map ao)=some (ks.map bS)
 |[],_=>rfl
 |k::ks,h=>by
  obtain⟨a,b,rfl,_⟩:=h k Oo;have ih:=oq (μ:=μ) fun x hx=>h x (Oq _ hx);simp only[PM,toPs,ih];rfl
theorem lF{m:Int}:∀{ks:List (List Int)},(∀k∈ks,gp m k)->PyData.canLayAll0 (ks.map bS)=true/\PyData.depthAll (ks.map bS)<=1
 |[],_=>by simp[PyData.canLayAll0,PyData.depthAll]
 |k::ks,h=>by
  obtain⟨a,b,rfl,_⟩:=h k Oo;have ih:=lF fun x hx=>h x (Oq _ hx);simp only[PM,PyData.canLayAll0,PyData.depthAll,ih.1,bS,PL,PyData.canLay0,PyData.depth];refine⟨rfl,?_⟩;have:=ih.2;omega
def xR(m:Int)(ks:List (List Int)):PyData:=.tuple [.int m,.tuple (ks.map bS)]
theorem p7{μ:aB}{d:D}{m:Int}{ks:List (List Int)}(h:jD d m ks):mz μ d=some (xR m ks):=by
 obtain⟨rfl,_,_,_,hk⟩:=h
 have e:xM μ (.tup (ks.map ao))=some (.tuple (ks.map bS)):=by
  simp only[xM,oq hk,Option.map_some]
 unfold mz;dsimp only;simp only[gQ,Bz,xM,e,oq hk,Option.map_some,Qr];rfl
theorem p8{d:D}{m:Int}{ks:List (List Int)}(h:jD d m ks):dO (xR m ks)=true:=by
 obtain⟨_,_,_,_,hk⟩:=h;have:=lF hk;simp only[dO,xR,PyData.canLay0,PyData.canLayAll0,this.1,PyData.depth,PyData.depthAll,SQ,SS];exact Qi (by have:=this.2;omega)
end Lw
namespace Lw
open PySem L2 RS
def Pn(μ0:aB)(i:Nat)(μ:aB):Prop:=∃a b c g,μ=μ0.set i (cv a b c)++g
theorem Pn.app{μ0 μ g:aB}{i:Nat}(h:Pn μ0 i μ):Pn μ0 i (μ++g):=by
 obtain⟨a,b,c,g',rfl⟩:=h;exact⟨a,b,c,g'++g,by rw[Qa]⟩
theorem Pn.get{μ0 μ:aB}{i:Nat}(h:Pn μ0 i μ)(hi:i<μ0.length):∃a b c,μ[i]?=some (cv a b c):=by
 obtain⟨a,b,c,g',rfl⟩:=h;exact⟨a,b,c,aG (ia hi)⟩
theorem Pn.set{μ0 μ:aB}{i:Nat}{a b c:Int}(h:Pn μ0 i μ)(hi:i<μ0.length):Pn μ0 i (μ.set i (cv a b c)):=by
 obtain⟨a',b',c',g',rfl⟩:=h;exact⟨a,b,c,g',by rw[uE (by simpa using hi),List.set_set]⟩
theorem Pn.len{μ0 μ:aB}{i:Nat}(h:Pn μ0 i μ):μ0.length<=μ.length:=by
 obtain⟨a',b',c',g',rfl⟩:=h;simp
theorem Pn.self{μ0:aB}{i:Nat}{a b c:Int}(h:μ0[i]?=some (cv a b c)):Pn μ0 i μ0:=by
 refine⟨a,b,c,[],?_⟩;rw[OY];apply RK;intro j;by_cases e:i=j
 ·subst e;rw[ia (Ow.mp h).1,h]
 ·rw[OA e]
theorem Pn.draw{μ0 μ:aB}{i:Nat}{m:Int}(h:Pn μ0 i μ)(hi:i<μ0.length)(h0:0<m)(h1:m<1073741824) :
  ∃r a b c:Int,0<=r/\r<m/\aR [.obj i,.int m] μ=.ok (.int r) (μ.set i (cv a b c))/\Pn μ0 i (μ.set i (cv a b c)):=by
 obtain⟨a,b,c,hp⟩:=h.get hi;obtain⟨r,a',b',c',r0,r1,e⟩:=E7 hp h0 h1;exact⟨r,a',b',c',r0,r1,e,h.set hi⟩
theorem Pn.gc{μ0 μ:aB}{i:Nat}{d:D}(h:Pn μ0 i μ)(hd:d.low μ0.length):∃a b c,p6 μ0 (.ok d μ)=.ok d (μ0.set i (cv a b c)):=by
 obtain⟨a,b,c,g',rfl⟩:=h;exact⟨a,b,c,CG hd uJ⟩
theorem A6{n:Nat}{d:D}{m:Int}{ks:List (List Int)}(h:jD d m ks):d.low n:=iy h
theorem tq{m:Int}{ks:List (List Int)}(h:∀k∈ks,gp m k):dO (.tuple (ks.map bS))=true:=by
 have:=lF h;simp only[dO,PyData.canLay0,this.1,PyData.depth,SQ];exact Qi (by omega)
theorem CO{β:Type}{xs:List β}{r:Nat}(h:r<=xs.length):jR xs none (some (r:Int))=xs.take r:=by
 unfold jR;rw[HT.sIx_none,HT.sIx_nat];simp[Nat.min_eq_left h]
end Lw
namespace Lv
def rg(m:Nat):List Int:=(List.range m).map Int.ofNat
theorem JG{m:Nat}{p:Int}:p∈rg m↔0<=p/\p<m:=by
 unfold rg;rw[QJ];constructor
 ·rintro ⟨i, hi, rfl⟩
  have:=Oj.mp hi;exact⟨Int.natCast_nonneg _,by simpa using this⟩
 ·rintro ⟨h0, h1⟩
  exact⟨p.toNat,Oj.mpr (by omega),by simp;omega⟩
theorem Co{m:Nat}:(rg m).length=m:=by simp[rg]
structure N5(m k:Nat)(w:List Int):Prop where
 len:w.length=k+1
 nd:w.Nodup
 rng:∀p∈w,0<=p/\p<(m:Int)
theorem ng{m:Nat}{f:List Int->List (List Int)}(h:∀w,(f w).length<=m):∀l:List (List Int),(l.flatMap f).length<=l.length*m
 |[]=>by simp
 |w::l=>by
  rw[SM,Pe,Qm,Qf];have:=h w;have:=ng h l;omega
end Lv
namespace Lw
open PySem L2 RS Lv
theorem dv{U:Type}{en:U->D}{src:su}{g:MG}{t:MT}{e:ME}{μ1:aB}{q:U->Bool}{h:U->D}(R:Ro->Prop)(ho:∀a,eD src (μ1++[.lst a])) :
  ∀{us:List U}{acc:List D}{ρ:Ro},R ρ->acc.length+us.length<=sizeLine->(∀x∈us,∀a ρ,R ρ->∃ρ1,R ρ1/\g (en x) ρ (μ1++[.lst a])=.ok ρ1 (μ1++[.lst a])/\t ρ1 (μ1++[.lst a])=.ok (q x) (μ1++[.lst a])/\(q x=true->e ρ1 (μ1++[.lst a])=.ok (h x) (μ1++[.lst a]))) ->
   compLoop src μ1.length g t e (us.map en) ρ (μ1++[.lst acc])=.ok (.obj μ1.length) (μ1++[.lst (acc++(us.filter q).map h)])
 |[],acc,ρ,hr,hl,he=>by
  rw[PL];unfold compLoop;rw[Ob (ho acc)];simp
 |x::xs,acc,ρ,hr,hl,he=>by
  obtain⟨ρ1,r1,e1,e2,e3⟩:=he x Oo acc ρ hr;rw[PM];unfold compLoop;rw[Ob (ho acc),e1];simp only[ae,aa];rw[e2];simp only[ae,aa];have he':=fun y hy=>he y (Oq _ hy);simp only[Qm]at hl;cases hq:q x with
  |false=>
   rw[Oc OK,dv R ho r1 (by omega) he',Ss,hq];rfl
  |true=>
   rw[Ob rfl,e3 hq];simp only[ae,aa];rw[om (by omega)];simp only[aa,ae];rw[dv R ho r1 (by simp;omega) he',Ss,hq];simp
theorem nh{U:Type}:∀{us:List U},us.filter (fun _=>true)=us
 |[]=>rfl
 |_::us=>by rw[Ss,Ob rfl,nh]
def KB:D->Bool
 |.int _=>true
 |_=>false
def Eh(m:Nat):D->Bool
 |.int i=>decide (0<=i/\i<(m:Int))
 |_=>false
def Em(μ:aB)(d:D):Prop:=z6 μ d≠none
theorem zI{μ:aB}{n:Nat}(h:Em μ (.obj n)):(∃xs,μ[n]?=some (.lst xs))\/μ[n]?=some .dic:=by
 unfold Em z6 at h;dsimp only at h;split at h
 ·rename_i xs e;exact .inl ⟨xs,e⟩
 ·rename_i e;exact .inr e
 ·exact absurd rfl h
theorem Gi {μ:aB}{d:D} (h:Em μ d):∃b,d9 "int" d μ=.ok (.bl b) μ/\(b=true->∃c,d9 "bool" d μ=.ok (.bl c) μ/\(!c)=KB d)/\(b=false->KB d=false):=by
 cases d with
 |non=>exact⟨false,rfl,nofun,fun _=>rfl⟩
 |bl b=>exact⟨true,rfl,fun _=>⟨true,rfl,rfl⟩,nofun⟩
 |int i=>exact⟨true,rfl,fun _=>⟨false,rfl,rfl⟩,nofun⟩
 |str x=>exact⟨false,rfl,nofun,fun _=>rfl⟩
 |tup xs=>exact⟨false,rfl,nofun,fun _=>rfl⟩
 |frz xs=>exact⟨false,rfl,nofun,fun _=>rfl⟩
 |obj n=>
  refine⟨false,?_,nofun,fun _=>rfl⟩;unfold d9 z6;rcases zI h with⟨xs,e⟩|e <;> simp only[e] <;> rfl
theorem C5{μ:aB}{d:D}(h:Em μ d):dH [d] μ=.ok (.bl (KB d)) μ:=by
 obtain⟨b,h1,h2,h3⟩:=Gi h;unfold dH;rw[fE];simp only[ka,List.replicate,bb,cX,zU,iW,ah,aa,ae,h1,aX];cases b with
 |false=>
  rw[Oc OK,af,aU,h3 rfl];exact aM (by simp)
 |true=>
  obtain⟨c,c1,c2⟩:=h2 rfl;rw[Ob rfl,c1];simp only[aa,ae,aX,af,aU,c2];exact aM (by simp)
theorem C7{μ:aB}{m:Nat}{d:D}(h:Em μ d):gf [.int m,d] μ=.ok (.bl (Eh m d)) μ:=by
 have hw:bj [d,.int 0,.int ((m:Int)-1)] μ=.ok (.bl (Eh m d)) μ:=by
  unfold bj;rw[nW];simp only[fX,List.replicate,bb,cX,az,ar,aw,ah,ak,aa,ae,C5 h,aX,w9];cases d with
  |int i=>
   rw[show KB (.int i)=true from rfl,Ob rfl];simp only[ie,aa,ae,aX];by_cases c:cL .LtE 0 i=true
   ·rw [Ob c, af, aU]
    rw[show cL .LtE i ((m:Int)-1)=Eh m (.int i) from by
     have c':(0:Int)<=i:=SR c;show decide (i<=(m:Int)-1)=decide (0<=i/\i<(m:Int))
     exact RI.mpr ⟨fun z=>⟨c',by omega⟩,fun z=>by omega⟩]
    exact aM (by simp)
   ·rw [Oc c, af, aU]
    rw[show Eh m (.int i)=false from by
     have c':¬ (0:Int)<=i:=fun z=>c (Qi z)
     exact N8 (fun z=>c' z.1)]
    exact aM (by simp)
  |_=>
   rw[show KB _=false from rfl,Oc OK,af,aU];exact aM (by simp)
 unfold gf;rw[bK];simp only[mq,List.replicate,bb,az,ar,aw,ah,ak,bc,aH,aa,ae];rw[show jA (.int m) (.int 1) μ=.ok (.int ((m:Int)-1)) μ from rfl];simp only[aa,ae,hw,af,aU];exact aM (by simp)
theorem DI{μ g:aB}{d:D}(h:Em μ d):Em (μ++g) d:=by
 cases d with
 |obj n=>
  unfold Em z6;rcases zI h with⟨xs,e⟩|e <;> simp only[aG e] <;> exact nofun
 |_=>exact h
theorem Cd:100000<=sizeLine:=by decide
theorem yD{μ:aB}{m:Nat}{xs:List D}(h:∀x∈xs,Em μ x)(hl:xs.length<=1000):dE [.int m,.tup xs] μ=.ok (.bl (xs.all (Eh m))) μ:=by
 have c:=dv (U:=D) (en:=fun x=>x) (src:=.fix xs) (g:=aq 0) (t:=cg) (e:=iq) (μ1:=μ) (q:=fun _=>true) (h:=fun x=>.bl (Eh m x)) (fun ρ=>∃o,ρ=[o,some (.int m)]) (fun _=>trivial) (us:=xs) (acc:=[]) (ρ:=[none,some (.int m)]) ⟨_,rfl⟩
  (by rw[QC];exact Ol (by omega) bL)
  (fun x hx a ρ hJJ => by
   obtain⟨o,e⟩:=hJJ;subst e;refine⟨[some x,some (.int m)],⟨_,rfl⟩,rfl,rfl,fun _=>?_⟩;unfold iq
   simp only[az,ar,aw,ak,ah,aa,ae,C7 (DI (h x hx))])
 rw[List.map_id',Qg,nh]at c;unfold dE;rw[bK];simp only[kY,List.replicate,bb,cX,iW,ak,ah,aa,ae];rw[show d9 "tuple" (.tup xs) μ=.ok (.bl true) μ from rfl];simp only[aa,ae,aX,Pq,az,ar,aw,bZ,cF,ak,ah,fS,bo];rw[show fH [none,some 0] _=[none,some (.int m)] from rfl,c];simp only[aa,ae];rw[iI (bs:=xs.map (Eh m)) (by rw[aE,Qy];rfl)];simp only[af,ae,aU];rw[show (xs.map (Eh m)).all id=xs.all (Eh m) from by rw[Sl];rfl];exact eG (by simp)
theorem wV{μ:aB}{m:Int}{ks:List (List Int)}{a b:Int}(hk:∀k∈ks,gp m k):sr false (.tup [.int a,.int b]) (.tup (ks.map ao)) μ=.ok (.bl (decide ([a,b]∈ks))) μ:=by
 have e1:mz μ (.tup [.int a,.int b])=some (.tuple [.int a,.int b]):=rfl
 have e2:mz μ (.tup (ks.map ao))=some (.tuple (ks.map bS)):=by
  simp only[mz,ot hk,Option.map_some]
 unfold sr;rw[e1,e2];dsimp only[yf];rw[Ob ⟨rfl,tq hk⟩];simp only[Ql,Pp];congr 2;rw[List.any_map];apply OV.mpr;rw[List.any_eq_true,Sd];constructor
 ·rintro ⟨k, hk', e⟩
  obtain⟨u,v,rfl,_⟩:=hk k hk';have:u=a/\v=b:=by simpa[bS,PyData.eqv,PyData.eqvAll] using e
  rw[<- this.1,<- this.2];exact hk'
 ·intro h;exact⟨_,h,by simp[bS,PyData.eqv,PyData.eqvAll]⟩
theorem LV{μ:aB}{a b:Int}:vE [.int a,.int b] μ=.ok (.int (min a b)) μ:=by
 show aj.ok (D.int (if b<a then b else a)) μ=_;congr 2;split <;> omega
theorem LX{μ:aB}{a b:Int}:vF [.int a,.int b] μ=.ok (.int (max a b)) μ:=by
 show aj.ok (D.int (if b>a then b else a)) μ=_;congr 2;split <;> omega
abbrev NR(w:List Int):D:=.tup (w.map D.int)
theorem JI{n:Nat}{w:List Int}:(NR w).low n:=by simp only[qi];exact iZ.mpr fun x hx=>by obtain⟨k,_,rfl⟩:=QJ.mp hx;simp
theorem IL{m:Nat}:cm 0 ((m:Int)).toNat=(rg m).map D.int:=by
 unfold cm rg;rw[Qy];simp
theorem eN{f g:MS}{ρ ρ':Ro}{μ μ':aB}(h:f ρ μ=.next ρ' μ'):bf f g ρ μ=g ρ' μ':=by rw[aF,h,aC]
def ud(v:Nat)(f:Int->Option Nat)(qs:List Int):Int->Option Nat:=qs.foldl (fun f q=>qw f q v) f
theorem rF{v:Nat}:∀(qs:List Int)(f:Int->Option Nat)(q:Int),ud v f qs q=if q∈qs then some v else f q
 |[],f,q=>by simp[ud]
 |x::qs,f,q=>by
  have:=rF (v:=v) qs (qw f x v) q;unfold ud at this⊢;rw[Qb,this];by_cases h:q∈qs
  ·rw[Ob h,Ob (Oq _ h)]
  ·rw [Oc h];unfold qw;by_cases e:q=x
   ·rw[Ob e,Ob (by simp[e])]
   ·rw[Oc e,Oc (by simp[e,h])]
section
variable{μ0:aB}{m A:Nat}{p:Int}{ks:List (List Int)}{w:D}
theorem Gv{M:aB}{A t n:Nat}{f:Int->Option Nat}{fs:List Int}{o0 o1 o2 o3:Option D}{o7:Option D}(hA:M[A]?=some (.lst (fY m f)))(ht:M[t]?=some (.lst (fs.map D.int)))(hne:A≠t)(hfs:∀q∈fs,0<=q/\q<(m:Int)) :
  ∃o7',pH (fB (ai 6)) (aq 7) fP [o0,o1,o2,o3,some (.obj A),some (.int n),some (.obj t),o7] M=.next [o0,o1,o2,o3,some (.obj A),some (.int n),some (.obj t),o7'] (M.set A (.lst (fY m (ud n f fs)))):=by
 have hAl:A<M.length:=(Ow.mp hA).1
 have run:=mU (src:=.own t (fs.map D.int)) (g:=aq 7) (fb:=fP)
  (fun xs ρ μ1=>∃ys zs:List Int,xs=zs.map D.int/\fs=ys++zs/\μ1=M.set A (.lst (fY m (ud n f ys)))/\∃o7,ρ=[o0,o1,o2,o3,some (.obj A),some (.int n),some (.obj t),o7])
  (fun ρ μ1 ⟨ys,zs,_,_,e,_⟩=>by subst e;exact rq ht hne)
  (fun x xs ρ μ1 hJJ => by
   obtain⟨ys,zs,hx,hf,e,o7,eρ⟩:=hJJ;subst e eρ;cases zs with
   |nil=>cases hx
   |cons z zs=>
    injection hx with h1 h2
    subst h1 h2;have hz:=hfs z (by rw[hf];simp);have hlen:(fY m (ud n f ys)).length=m:=by unfold fY;rw[Pf,QB]
    refine⟨rq ht hne,_,_,[o0,o1,o2,o3,some (.obj A),some (.int n),some (.obj t),some (.int z)],M.set A (.lst (fY m (ud n f (ys++[z])))),rfl,?_,ys++[z],zs,rfl,by rw[hf];simp,rfl,_,rfl⟩;show fP [o0,o1,o2,o3,some (.obj A),some (.int n),some (.obj t),some (.int z)] _=_;unfold fP;simp only[aQ,ak,ah,af,qo,aa,ae];rw[qm (ia hAl) (uk hz.1 (by rw[hlen];exact hz.2)),wq hz.1 hz.2];simp only[aa,ae,af,List.set_set];unfold ud;rw[Rk]
    rfl)
  (xs:=fs.map D.int) (ρ:=[o0,o1,o2,o3,some (.obj A),some (.int n),some (.obj t),o7]) (μ:=M)
  ⟨[], fs, rfl, rfl, by
   apply RK;intro j;by_cases e:A=j
   ·subst e;rw[ia hAl,hA];rfl
   ·rw[OA e],_,rfl⟩
 obtain⟨ρ',μ',⟨ys,zs,hx,hf,e,o7',eρ⟩,run⟩:=run;subst e eρ
 have hz:zs=[]:=by cases zs with
  |nil=>rfl
  |cons=>cases hx
 subst hz;rw[OY]at hf;subst hf;refine⟨o7',?_⟩;simp only[l6,cF,ak,ah,aa,ae];rw[jW ht];simp only[af,ae,gY];exact run
theorem Gu{M:aB}{A t n:Nat}{f:Int->Option Nat}{fs:List Int}{o0 o1 o2 o7:Option D}(hk:∀k∈ks,gp m k)(hl:ks.length<=15)(hA:M[A]?=some (.lst (fY m f)))(ht:M[t]?=some (.lst (fs.map D.int)))(hne:A≠t)
  (hU:Up (mB ks) p (fun q=>0<=q/\q<m) n f) (hfs:∀q,q∈fs↔((0<=q/\q<(m:Int))/\f q=some n)) :
  ∃(t':Nat)(fs':List Int)(f':Int->Option Nat)(g:aB)(o7':Option D),fO [o0,o1,o2,some (.tup (ks.map ao)),some (.obj A),some (.int n),some (.obj t),o7] M=.next [o0,o1,o2,some (.tup (ks.map ao)),some (.obj A),some (.int ((n+1:Nat):Int)),some (.obj t'),o7'] ((M++g).set A (.lst (fY m f'))) /\
   (M++g)[t']?=some (.lst (fs'.map D.int))/\A≠t'/\Up (mB ks) p (fun q=>0<=q/\q<m) (n+1) f'/\∀q,q∈fs'↔((0<=q/\q<(m:Int))/\f' q=some (n+1)):=by
 obtain⟨s,g,ns,e1,e2,e3,e4,e5⟩:=C8 hk hl ht;have hA':=aG (g:=g) hA;have hAl:A<M.length:=(Ow.mp hA).1
 have hnsD:∀q∈ns,0<=q/\q<(m:Int):=fun q hq=>by
  obtain⟨r,_,ha⟩:=(e5 q).mp hq;exact(jg hk ha).2
 have c:=eZ (src:=.own s (ns.map D.int)) (g:=aq 0) (t:=jw) (e:=lR) (μ1:=M++g) (q:=fun d=>match d with | .int q=>decide (f q=none)|_=>false) (h:=fun d=>d)
  (fun ρ=>∃o,ρ=[o,some (.obj A)]) (fun a=>aG e2) (xs:=ns.map D.int) (acc:=[]) (ρ:=[none,some (.obj A)]) ⟨_,rfl⟩
  (by rw[Pf,QC];exact Ol (by omega) bL)
  (fun x hx a ρ hJJ => by
   obtain⟨o,ho⟩:=hJJ;obtain⟨q,hq,rfl⟩:=QJ.mp hx;subst ho;refine⟨[some (.int q),some (.obj A)],⟨_,rfl⟩,rfl,?_,fun _=>rfl⟩;unfold jw;simp only[cB,aH,ak,ah,bc,aa,ae];rw[eM (aG hA') (wt (hnsD q hq).1 (hnsD q hq).2)]
   simp only[aa,ae,CK,tH,Ql,Pp,aX])
 have hfl:((ns.map D.int).filter fun d=>match d with | .int q=>decide (f q=none)|_=>false).map (fun d=>d)=(ns.filter fun q=>decide (f q=none)).map D.int:=by
  rw[List.map_id',SK];rfl
 rw[Qg,hfl]at c
 have hmem:∀q,q∈(ns.filter fun q=>decide (f q=none))↔(f q=none/\∃r,mB ks r q/\f r=some n):=fun q=>by
  rw[Oi,Sd,e5];constructor
  ·rintro ⟨⟨r, hr, ha⟩, hn⟩
   exact⟨hn,r,ha,((hfs r).mp hr).2⟩
  ·rintro ⟨hn, r, ha, hr⟩
   exact⟨⟨r,(hfs r).mpr ⟨(jg hk ha).1,hr⟩,ha⟩,hn⟩
 have hD':∀q,q∈(ns.filter fun q=>decide (f q=none))->0<=q/\q<(m:Int):=fun q hq=>hnsD q (Oi.mp hq).1;have hne':A≠(M++g).length:=by rw[Pe];omega
 obtain⟨o7',er⟩:=Gv (m:=m) (n:=n+1) (f:=f) (fs:=ns.filter fun q=>decide (f q=none)) (o0:=o0) (o1:=o1) (o2:=o2) (o3:=some (.tup (ks.map ao))) (o7:=o7) (M:=(M++g)++[O.lst ((ns.filter fun q=>decide (f q=none)).map D.int)]) (aG hA') aE hne' hD';refine⟨(M++g).length,ns.filter fun q=>decide (f q=none),ud (n+1) f (ns.filter fun q=>decide (f q=none)),g++[O.lst ((ns.filter fun q=>decide (f q=none)).map D.int)],o7',?_,by rw[<- Qa];exact aE,hne',?_,fun q=>?_⟩
 ·unfold fO
  have s1:xV 5 qG (cC (.int 1)) [o0,o1,o2,some (.tup (ks.map ao)),some (.obj A),some (.int n),some (.obj t),o7] M=.next [o0,o1,o2,some (.tup (ks.map ao)),some (.obj A),some (.int ((n+1:Nat):Int)),some (.obj t),o7] M:=by
   push_cast;rfl
  rw[eN s1,aF,aQ,bZ,cF,az];simp only[ar,aw,ak,ah,aa,ae,e1];rw[jW e2];simp only[aa,ae,gY];rw[show fH [none,some 4] [o0,o1,o2,some (.tup (ks.map ao)),some (.obj A),some (.int ((n+1:Nat):Int)),some (.obj t),o7]=[none,some (.obj A)] from rfl,c];simp only[af,ae,bp,SG,SH,aC];rw[er,<- Qa]
 ·refine hU.next (fun a b h => (jg hk h).1) fun q hq j => ?_;rw[rF];by_cases hm:q∈ns.filter fun q=>decide (f q=none)
  ·rw [Ob hm];have:=(hmem q).mp hm;constructor
   ·intro e;cases e;exact .inr ⟨this.1,rfl,this.2⟩
   ·rintro (z | ⟨_, z, _⟩)
    ·rw[this.1]at z;cases z
    ·rw[z]
  ·rw [Oc hm];constructor
   ·exact .inl
   ·rintro (z | ⟨z1, z2, z3⟩)
    ·exact z
    ·exact absurd ((hmem q).mpr ⟨z1,z3⟩) hm
 ·rw [rF];constructor
  ·intro hm;exact⟨hD' q hm,by rw[Ob hm]⟩
  ·rintro ⟨hq, z⟩
   by_cases hm:q∈ns.filter fun q=>decide (f q=none)
   ·exact hm
   ·rw[Oc hm]at z;have:=((hU q hq (n+1)).mp z).1;omega
end
theorem w6{μ0:aB}{m A:Nat}{p:Int}{ks:List (List Int)}{o0 o1 o2:Option D}(hk:∀k∈ks,gp m k)(hl:ks.length<=15)(hp:0<=p/\p<(m:Int))(hA0:μ0.length<=A) :
  ∀(c n:Nat)(f:Int->Option Nat)(fs:List Int)(M:aB)(t:Nat)(o7:Option D),M[A]?=some (.lst (fY m f))->M[t]?=some (.lst (fs.map D.int))->A≠t->Up (mB ks) p (fun q=>0<=q/\q<m) n f ->
   (∀q,q∈fs↔((0<=q/\q<(m:Int))/\f q=some n))->(∀i,i<μ0.length->M[i]?=μ0[i]?)->n<=m->m<n+c ->
   ∃ρ' M' f',lZ (eA (ai 6)) fO c [o0,o1,o2,some (.tup (ks.map ao)),some (.obj A),some (.int n),some (.obj t),o7] M=.next ρ' M'/\(∃o5 o6 o7,ρ'=[o0,o1,o2,some (.tup (ks.map ao)),some (.obj A),o5,o6,o7]) /\
    M'[A]?=some (.lst (fY m f'))/\(∀i,i<μ0.length->M'[i]?=μ0[i]?)/\qA (mB ks) p (fun q=>0<=q/\q<m) f'
 |0,n,f,fs,M,t,o7,hA,ht,hne,hU,hfs,hpre,h1,h2=>by omega
 |c+1,n,f,fs,M,t,o7,hA,ht,hne,hU,hfs,hpre,h1,h2=>by
  have tr:eA (ai 6) [o0,o1,o2,some (.tup (ks.map ao)),some (.obj A),some (.int n),some (.obj t),o7] M=.ok (!(fs.map D.int).isEmpty) M:=by
   simp only[eJ,ak,ah,aa,ae];unfold xS;dsimp only;rw[ht]
  unfold lZ;rw[tr,af];cases fs with
  |nil=>
   refine⟨_,M,f,rfl,⟨_,_,_,rfl⟩,hA,hpre,hU.full (fun a b h=>(jg hk h).2) fun q hq hl=>?_⟩;obtain⟨_,r,ha,hr⟩:=jG.mp hl;have:=(hfs r).mpr ⟨(jg hk ha).1,(hU r (jg hk ha).1 n).mpr ⟨OR _,hr⟩⟩;cases this
  |cons x fs=>
   have hx:=(hfs x).mp Oo;have hnm:n<m:=JK (m:=m) hp (fun a b h=>(jg hk h).2) ((hU x hx.1 n).mp hx.2).2;obtain⟨t',fs',f',g,o7',e,ht',hne',hU',hfs'⟩:=Gu (o0:=o0) (o1:=o1) (o2:=o2) (o7:=o7) hk hl hA ht hne hU hfs;have hAl:A<(M++g).length:=by rw[Pe];have:=(Ow.mp hA).1;omega
   rw[Ob (show (!(List.map D.int (x::fs)).isEmpty)=true from rfl),e,zK]
   exact w6 hk hl hp hA0 c (n+1) f' fs' ((M++g).set A (.lst (fY m f'))) t' o7' (ia hAl) (rq ht' hne') hne' hU' hfs' (fun i hi=>by
    rw[OA (by omega),O9 (by have:=(Ow.mp hA).1;omega)];exact hpre i hi) (by omega) (by omega)
theorem zz{μ:aB}{m:Nat}{p:Int}{ks:List (List Int)}(h:jD (.tup [.int m,.tup (ks.map ao)]) m ks)(p0:0<=p)(p1:p<(m:Int)) :
  ∃A μ' f,gm [.tup [.int m,.tup (ks.map ao)],.int p] μ=.ok (.obj A) (μ++μ')/\(μ++μ')[A]?=some (.lst (fY m f))/\μ.length<=A/\qA (mB ks) p (fun q=>0<=q/\q<m) f:=by
 have hlen:=cK h;obtain⟨_,h0,h1,hpw,hk⟩:=h;have hm6:m<=6:=by omega
 let M0:aB:=(μ++[.lst [.non]])++[.lst (fY m fun _=>none)]
 have hM0:M0[(μ++[O.lst [.non]]).length]?=some (.lst (fY m fun _=>none)):=aE;have hlen0:(fY m fun _=>none).length=m:=by unfold fY;rw[Pf,QB]
 let A:Nat:=(μ++[O.lst [.non]]).length
 have hAl:A<M0.length:=(Ow.mp hM0).1;let M1:aB:=M0.set A (.lst (fY m (qw (fun _=>none) p 0)))
 have hM1:M1[A]?=some (.lst (fY m (qw (fun _=>none) p 0))):=ia hAl
 have hpreM:∀i,i<μ.length->(M1++[O.lst [.int p]])[i]?=μ[i]?:=fun i hi=>by
  have:i<M1.length:=by simp only[M1,M0,PV,Pe];omega
  rw[O9 this];simp only[M1];rw[OA (by simp only[A,Pe];omega)];simp only[M0];rw[Qa,O9 hi]
 obtain⟨ρ',M',f',ew,⟨o5,o6,o7,eρ⟩,hA',hpre,hF⟩:=w6 (μ0:=μ) (o0:=some (.tup [.int m,.tup (ks.map ao)])) (o1:=some (.int p)) (o2:=some (.int m)) hk hlen ⟨p0,p1⟩ (show μ.length<=A by simp only[A,Pe];omega) 100 0 (qw (fun _=>none) p 0) [p] (M1++[O.lst [.int p]]) M1.length none
  (aG hM1) aE (by simp only [M1, PV]; omega) (GJ fun q _ => by unfold qw; rfl) (fun q => by
   unfold qw;rw[Qw];constructor
   ·rintro rfl;exact⟨⟨p0,p1⟩,by rw[Ob rfl]⟩
   ·rintro ⟨_, z⟩
    by_cases e:q=p
    ·exact e
    ·rw[Oc e]at z;cases z) hpreM (by omega) (by omega)
 subst eρ
 obtain⟨g,hg⟩:∃g,M'=μ++g:=by
  refine⟨M'.drop μ.length,?_⟩;apply RK;intro i;by_cases hi:i<μ.length
  ·rw[O9 hi,hpre i hi]
  ·rw[O7 (by omega),QW];congr 1;omega
 refine⟨A,g,f',?_,by rw[<- hg];exact hA',by simp only[A,Pe];omega,hF⟩;unfold gm;rw[bK];have l2':[D.int m,D.tup (ks.map ao)].length=2:=rfl
 have s1:bB (ai 0) (fu 2 (br (aq 2) (br (aq 3) (fv)))) [some (.tup [.int m,.tup (ks.map ao)]),some (.int p),none,none,none,none,none,none] μ=.next [some (.tup [.int m,.tup (ks.map ao)]),some (.int p),some (.int m),some (.tup (ks.map ao)),none,none,none,none] μ:=by
  simp only[aQ,ah,af,Gx,Ob l2',D2,Gy,bp,aa,ae,SG,SH]
 have s2:bB (aA sA (iS (ag (cC .non) (aD))) (ai 2)) (aq 4) [some (.tup [.int m,.tup (ks.map ao)]),some (.int p),some (.int m),some (.tup (ks.map ao)),none,none,none,none] μ=.next [some (.tup [.int m,.tup (ks.map ao)]),some (.int p),some (.int m),some (.tup (ks.map ao)),some (.obj A),none,none,none] M0:=by
  simp only[aQ,aH,eK,ar,aw,bc,aa,ae,Qm,QC,Ob l1,ak,ah];unfold sA;dsimp only;rw[aE];dsimp only;have hz:(6:Nat)<=sizeLine:=by decide
  rw[Ob (by refine⟨by omega,by omega,?_⟩;simp only[Qm,QC];omega)];simp only[Pm,wZ,af,ae,bp,SG,SH,M0,A,AE]
 have s3:bB (cC (.int 0)) (oZ (ai 4) (ai 1)) [some (.tup [.int m,.tup (ks.map ao)]),some (.int p),some (.int m),some (.tup (ks.map ao)),some (.obj A),none,none,none] M0=.next [some (.tup [.int m,.tup (ks.map ao)]),some (.int p),some (.int m),some (.tup (ks.map ao)),some (.obj A),none,none,none] M1:=by
  simp only[aQ,bc,af,qo,ak,ah,aa,ae];rw[qm hM0 (uk p0 (by rw[hlen0];exact p1)),show (D.int 0)=.int ((0:Nat):Int) from rfl,wq p0 p1];rfl
 have s4:bB (cC (.int 0)) (aq 5) [some (.tup [.int m,.tup (ks.map ao)]),some (.int p),some (.int m),some (.tup (ks.map ao)),some (.obj A),none,none,none] M1=.next [some (.tup [.int m,.tup (ks.map ao)]),some (.int p),some (.int m),some (.tup (ks.map ao)),some (.obj A),some (.int ((0:Nat):Int)),none,none] M1:=rfl
 have s5:bB (iS (ag (ai 1) (aD))) (aq 6) [some (.tup [.int m,.tup (ks.map ao)]),some (.int p),some (.int m),some (.tup (ks.map ao)),some (.obj A),some (.int ((0:Nat):Int)),none,none] M1=.next [some (.tup [.int m,.tup (ks.map ao)]),some (.int p),some (.int m),some (.tup (ks.map ao)),some (.obj A),some (.int ((0:Nat):Int)),some (.obj M1.length),none] (M1++[O.lst [.int p]]):=by
  simp only[aQ,eK,ar,aw,ak,ah,aa,ae,Qm,QC,Ob l1,af,bp,SG,SH]
 unfold pE;simp only[List.replicate];rw[eN s1,eN s2,eN s3,eN s4,eN s5,eN (show uh 100 (eA (ai 6)) fO _ _=_ from ew)];simp only[bb,ak,ah,af,ae,aU];rw[zk (by simp only[mR,A,Pe];omega),hg]
theorem sT{μ:aB}{k:Int}(h0:1<=k)(h1:k<=6):bj [.int k,.int 1,.int 6] μ=.ok (.bl true) μ:=by
 have w:dH [.int k] μ=.ok (.bl true) μ:=by
  unfold dH;rw[fE];have e1:d9 "int" (.int k) μ=.ok (.bl true) μ:=rfl;have e2:d9 "bool" (.int k) μ=.ok (.bl false) μ:=rfl;simp only[ka,bb,cX,iW,zU,ah,aa,ae,e1,e2,aX,Pq,Rj,af,aU];exact aM (by simp)
 unfold bj;rw[nW];simp only[fX,bb,cX,az,ar,aw,ak,ah,aa,ae,w,aX,Pq,w9,ie];rw[show cL .LtE 1 k=true from Qi h0,show cL .LtE k 6=true from Qi h1];simp only[aX,aa,ae,Pq,af,aU];exact aM (by simp)
theorem IK{m:Nat}{f g:Int->Option Nat}(h:∀q:Int,0<=q/\q<(m:Int)->f q=g q):fY m f=fY m g:=by
 unfold fY;apply QA;intro i hi;rw[Oj]at hi;rw[h i (by omega)]
theorem ET{M:aB}{m A:Nat}{p k:Int}{T:Int->Int->Option Nat}(hA:M[A]?=some (.lst (fY m (T p))))(hm:m<=6)(p0:0<=p)(p1:p<m) :
  compLoop (.fix (cm (p+1) ((m:Int)-(p+1)).toNat)) M.length (aq 0) ik ip (cm (p+1) ((m:Int)-(p+1)).toNat) [none,some (.int p),some (.int k),some (.obj A)] (M++[.lst []])=.ok (.obj M.length) (M++[.lst ((kz T k p (p+1) ((m:Int)-(p+1)).toNat).map ao)]):=by
 have:=eZ (src:=.fix (cm (p+1) ((m:Int)-(p+1)).toNat)) (g:=aq 0) (t:=ik) (e:=ip) (μ1:=M) (q:=fun d=>match d with | .int q=>KA k (T p q)|_=>false)
  (h:=fun d=>match d with | .int q=>ao [p,q]|_=>.non) (fun ρ=>∃o,ρ=[o,some (.int p),some (.int k),some (.obj A)]) (fun _=>trivial) (xs:=cm (p+1) ((m:Int)-(p+1)).toNat) (acc:=[]) (ρ:=[none,some (.int p),some (.int k),some (.obj A)]) ⟨none,rfl⟩
  (by unfold cm;rw[Pf,QC,QB];exact Ol (by omega) bL)
  (fun x hx acc ρ ⟨o, ho⟩ => by
   unfold cm at hx;obtain⟨i,hi,rfl⟩:=QJ.mp hx;rw[Oj]at hi;subst ho;refine⟨[some (.int (p+1+(i:Int))),some (.int p),some (.int k),some (.obj A)],⟨_,rfl⟩,rfl,?_,fun _=>?_⟩
   ·have hix := eM (μ := M ++ [.lst acc]) (aG hA) (wt (f := T p) (m := m) (q := p + 1 + (i : Int)) (by omega) (by omega));unfold ik;simp only[mW,cB,aH,ak,ah,bc,aa,ae,hix,CK,tH,aX];cases e:T p (p+1+(i:Int)) with
    |none=>rfl
    |some j=>
     simp only[N8 (show ¬ some j=none by simp),Rj,Pq,ie,aa,ae,aX,BF];rfl
   ·unfold ip;simp only[cM,ar,aw,ak,ah,aa,ae,Qm,QC,Ob l2]
    rfl)
 rw[this,Qg];exact OE (fun z=>aj.ok (D.obj M.length) (M++[O.lst z])) (Dn (T:=T) (k:=k) (p:=p) (lo:=p+1) (c:=((m:Int)-(p+1)).toNat))
theorem As{μ:aB}{m:Nat}{k:Int}{ks:List (List Int)}{T:Int->Int->Option Nat}(h:jD (.tup [.int m,.tup (ks.map ao)]) m ks)(k0:1<=k)(k1:k<=6)
  (hT:∀p:Int,0<=p->p<m->qA (mB ks) p (fun q=>0<=q/\q<m) (T p)) :
  eP [.tup [.int m,.tup (ks.map ao)],.int k] μ=.ok (.tup [.int m,.tup ((Ee m T k).map ao)]) μ:=by
 have hG:=h;obtain⟨_,h0,h1,hp,hk⟩:=h;have hm6:m<=6:=by omega
 have run:=mU (src:=.fix (cm 0 m)) (g:=aq 4) (fb:=il)
  (fun xs ρ μ1=>∃(n c:Nat)(o4 o5:Option D),xs=cm n c/\n+c=m/\ρ=[some (.tup [.int m,.tup (ks.map ao)]),some (.int k),some (.int m),some (.obj μ.length),o4,o5]/\(∀i,i<μ.length->μ1[i]?=μ[i]?)/\μ1[μ.length]?=some (.lst (((List.range n).flatMap fun p:Nat=>kz T k p ((p:Int)+1) (m-(p+1))).map ao)))
  (fun _ _ _=>trivial)
  (fun x r ρ μ1 ⟨n, c, o4, o5, e1, e3, e4, e5, e6⟩ => by
   subst e4;cases c with
   |zero=>rw[og]at e1;cases e1
   |succ c=>
    rw[lE]at e1;injection e1 with ex er
    subst ex er;obtain⟨A,g,f,ef,hA,hAl,hF⟩:=zz (μ:=μ1) (p:=(n:Int)) hG (by omega) (by omega);have hrow:fY m f=fY m (T n):=IK fun q hq=>hF.eq (hT n (by omega) (by omega)) hq;rw[hrow]at hA;have q3:=ET (k:=k) (p:=(n:Int)) hA hm6 (by omega) (by omega);rw[show ((m:Int)-((n:Int)+1)).toNat=m-(n+1) by omega]at q3;have hlen:=ng (T:=T) (k:=k) hm6 n;have hrl:=wm (T:=T) (k:=k) (p:=n) (lo:=(n:Int)+1) (c:=m-(n+1));have hml:μ.length<μ1.length:=(Ow.mp e6).1;have e6':((μ1++g)++[O.lst ((kz T k n ((n:Int)+1) (m-(n+1))).map ao)])[μ.length]?=some (.lst (((List.range n).flatMap fun p:Nat=>kz T k p ((p:Int)+1) (m-(p+1))).map ao)):=aG (aG e6);refine⟨trivial,_,μ1,[some (.tup [.int m,.tup (ks.map ao)]),some (.int k),some (.int m),some (.obj μ.length),some (.int n),some (.obj A)],((μ1++g)++[O.lst ((kz T k n ((n:Int)+1) (m-(n+1))).map ao)]).set μ.length (O.lst (((List.range (n+1)).flatMap fun p:Nat=>kz T k p ((p:Int)+1) (m-(p+1))).map ao)),rfl,?_,n+1,c,some (.int n),some (.obj A),by push_cast;rfl,by omega,rfl,fun i hi=>?_,?_⟩
    ·show il [some (.tup [.int m, .tup (ks.map ao)]), some (.int k), some (.int m), some (.obj μ.length), some (.int n), o5] μ1 = _;unfold il
     have s1:bB (aI (fun ds μ=>(gm ds μ).nox) (ag (ai 0) (ag (ai 4) (aD)))) (aq 5) [some (.tup [.int m,.tup (ks.map ao)]),some (.int k),some (.int m),some (.obj μ.length),some (.int n),o5] μ1=.next [some (.tup [.int m,.tup (ks.map ao)]),some (.int k),some (.int m),some (.obj μ.length),some (.int n),some (.obj A)] (μ1++g):=by
      simp only[aQ,az,ar,aw,ak,ah,aa,ae,ef,af,bp,SG,SH]
     rw[eN s1];unfold xV;simp only[ak,ah,af,bZ,ic,ar,aw,aH,bc,aa,ae,ig];rw[uO (by omega) (by omega) (by omega) (by omega)];simp only[aa,ae,bo];rw[show ((m:Int)-((n:Int)+1)).toNat=m-(n+1) by omega];rw[show fH [none,some 4,some 1,some 5] [some (D.tup [D.int ↑m,D.tup (List.map ao ks)]),some (D.int k),some (.int m),some (D.obj μ.length),some (D.int n),some (.obj A)]=[none,some (.int n),some (.int k),some (.obj A)] from rfl,q3];simp only[af,ae];unfold qG;dsimp only;rw[e6',aE];dsimp only
     rw[Ob (by
      rw[Pf,Pf]
      exact Ol (show _<=1000 by omega) bL)]
     simp only[af,ae,SG,SH,List.range_succ,SL,QR,SM,SN,OY]
    ·rw[OA (by omega),Qa,O9 (by omega)];exact e5 i hi
    ·exact ia (by rw[Pe,Pe];omega))
  (xs:=cm 0 m) (ρ:=[some (.tup [.int m,.tup (ks.map ao)]),some (.int k),some (.int m),some (.obj μ.length),none,none]) (μ:=μ++[.lst []])
  ⟨0,m,none,none,rfl,by omega,rfl,fun i hi=>by rw[O9 hi],aE⟩
 obtain⟨ρ',μ',⟨n,c,o4,o5,e1,e3,e4,e5,e6⟩,run⟩:=run;subst e4;have hz:=wu e1.symm;subst hz;have hnm:n=m:=by omega
 subst hnm;have hg:jD (.tup [.int n,.tup ((Ee n T k).map ao)]) n (Ee n T k):=wd (by omega) hm6
 obtain⟨g,hpre⟩:∃g,μ'=μ++g:=by
  refine⟨μ'.drop μ.length,?_⟩;apply RK;intro i;by_cases hi:i<μ.length
  ·rw[O9 hi,e5 i hi]
  ·rw[O7 (by omega),QW];congr 1;omega
 unfold eP;rw[bK];simp only[pD,List.replicate];rw[aF,bW,dm,eJ,az];simp only[ar,aw,ak,ah,bc,aa,ae,sT k0 k1,dG,Q8,af,Ql,Pp,bY,aC];simp only[aF,aQ,aH,ah,bc,aa,ae,cW,af,bp,aC,SG,SH,eK,aw,QC,Ob (Qv sizeLine),l6,ic,ar,ak];rw[jX (by omega) (by omega)];simp only[af,ae,bo,Pm];rw[run];simp only[aC,bb,cM,ar,aw,aH,az,ak,ah,bc,aa,ae];rw[jV e6];simp only[aa,ae,Qm,QC,Ob l2,af,aU];rw[hpre];exact eG (iy hg)
end Lw
namespace Lv
section
variable{adj adj':Int->Int->Prop}{D:Int->Prop}{p:Int}
theorem R.add{q:Int}{n:Nat}(h:R adj p n q):∀{k:Nat}{r:Int},R adj q k r->R adj p (n+k) r
 |0,r,e=>by have:r=q:=e;subst this;exact h
 |k+1,r,e=>by
  rcases e with e|⟨t,e1,e2⟩
  ·exact .inl (R.add h e)
  ·exact .inr ⟨t,e1,R.add h e2⟩
theorem uU{n:Nat}:∀{k:Nat}{q:Int},R adj p (n+k) q->∃r,R adj p n r/\R adj r k q
 |0,q,h=>⟨q,h,rfl⟩
 |k+1,q,h=>by
  rcases h with h|⟨t,h1,h2⟩
  ·obtain⟨r,a,b⟩:=uU (k:=k) h;exact⟨r,a,.inl b⟩
  ·obtain⟨r,a,b⟩:=uU (k:=k) h2;exact⟨r,a,.inr ⟨t,h1,b⟩⟩
theorem R.one{a b:Int}(h:adj a b):R adj a 1 b:=.inr ⟨a,h,rfl⟩
theorem R.rev(hs:∀a b,adj a b->adj b a):∀{n:Nat}{q:Int},R adj p n q->R adj q n p
 |0,q,h=>by have:q=p:=h;exact this.symm
 |n+1,q,h=>by
  rcases h with h|⟨r,h1,h2⟩
  ·exact .inl (R.rev hs h)
  ·have:=R.add (R.one (hs _ _ h1)) (R.rev hs h2);rw[Nat.add_comm]at this;exact this
end
end Lv
namespace Lw
open PySem L2 RS Lv
theorem B9:∀{xs ys:List (List Int)},xs.Pairwise (fun a b=>lV a<lV b)->ys.Pairwise (fun a b=>lV a<lV b)->(∀k,k∈xs↔k∈ys)->xs=ys
 |[],ys,_,_,h=>by
  cases ys with
  |nil=>rfl
  |cons y ys=>exact absurd ((h y).mpr Oo) RA
 |x::xs,[],_,_,h=>absurd ((h x).mp Oo) RA
 |x::xs,y::ys,hx,hy,h=>by
  obtain⟨x1,x2⟩:=QP.mp hx;obtain⟨y1,y2⟩:=QP.mp hy
  have e:x=y:=by
   rcases Os.mp ((h x).mp Oo) with z|z
   ·exact z
   ·rcases Os.mp ((h y).mpr Oo) with u | u
    ·exact u.symm
    ·have:=y1 x z;have:=x1 y u;omega
  subst e;congr 1;refine B9 x2 y2 fun k=>?_;constructor
  ·intro hk;rcases Os.mp ((h k).mp (Oq _ hk)) with z|z
   ·subst z;have:=x1 k hk;omega
   ·exact z
  ·intro hk;rcases Os.mp ((h k).mpr (Oq _ hk)) with z|z
   ·subst z;have:=y1 k hk;omega
   ·exact z
theorem wX{d d':D}{m m':Int}{ks ks':List (List Int)}(h:jD d m ks)(h':jD d' m' ks')(e:∀a b:Int,[a,b]∈ks↔[a,b]∈ks'):ks=ks':=by
 refine B9 h.2.2.2.1 h'.2.2.2.1 fun k=>?_;constructor
 ·intro hk;obtain⟨a,b,rfl,_⟩:=h.2.2.2.2 k hk;exact(e a b).mp hk
 ·intro hk;obtain⟨a,b,rfl,_⟩:=h'.2.2.2.2 k hk;exact(e a b).mpr hk
abbrev aP(m:Nat)(ks:List (List Int)):D:=.tup [.int m,.tup (ks.map ao)]
abbrev GW(m:Nat)(ks:List (List Int)):Prop:=jD (aP m ks) m ks
open Classical in
def js(m:Nat)(ks:List (List Int))(k:Nat):List (List Int):=prs.filter fun x=>decide (x.getD 1 0<(m:Int)/\R (mB ks) (x.getD 0 0) k (x.getD 1 0))
open Classical in
theorem ya{m k:Nat}{ks:List (List Int)}{a b:Int}(hm:m<=6):[a,b]∈js m ks k↔(0<=a/\a<b/\b<(m:Int)/\R (mB ks) a k b):=by
 unfold js;rw[Oi,decide_eq_true_iff];constructor
 ·rintro ⟨h1, h2, h3⟩
  obtain⟨c,d,e,g1,g2,g3⟩:=gk h1;injection e with e1 e2
  injection e2 with e2 _
  subst e1 e2;exact⟨g1,g2,h2,h3⟩
 ·rintro ⟨h1, h2, h3, h4⟩
  exact⟨uG h1 h2 (by omega),h3,h4⟩
theorem eX{m k:Nat}{ks:List (List Int)}(h0:1<=m)(hm:m<=6):GW m (js m ks k):=by
 refine⟨rfl,by omega,by omega,me.filter _,fun x hx=>?_⟩;obtain⟨a,b,rfl,g1,g2,g3⟩:=gk (Oi.mp hx).1;obtain⟨h1,h2,h3,_⟩:=(ya hm).mp hx;exact⟨a,b,rfl,h1,h2,h3⟩
theorem EX{m:Nat}{T:Int->Int->Option Nat}{k:Int}{a b:Int}:[a,b]∈Ee m T k↔(0<=a/\a<b/\b<(m:Int)/\KA k (T a b)=true):=by
 unfold Ee kz;rw[SI];constructor
 ·rintro ⟨p, hp, h⟩
  obtain⟨q,hq,e⟩:=QJ.mp h;injection e with e1 e2
  injection e2 with e2 _
  subst e1 e2;obtain⟨h1,h2⟩:=Oi.mp hq;obtain⟨i,hi,e⟩:=QJ.mp h1;have:=Oj.mp hi;have:=Oj.mp hp;exact⟨by omega,by omega,by omega,h2⟩
 ·rintro ⟨h1, h2, h3, h4⟩
  refine⟨a.toNat,Oj.mpr (by omega),QJ.mpr ⟨b,Oi.mpr ⟨QJ.mpr ⟨(b-a-1).toNat,Oj.mpr (by omega),by omega⟩,?_⟩,?_⟩⟩
  ·rw[Q7 h1];exact h4
  ·rw[Q7 h1]
theorem Hb{m k:Nat}{ks:List (List Int)}{p q:Int}{f:Int->Option Nat}(h:qA (mB ks) p (fun q=>0<=q/\q<(m:Int)) f)(hq:0<=q/\q<(m:Int)):KA k (f q)=true↔R (mB ks) p k q:=by
 constructor
 ·intro e;cases c:f q with
  |none=>rw[c]at e;cases e
  |some n=>
   rw[c]at e;have hn:(n:Int)<=k:=SR e;exact((h q hq n).mp c).r.mono (by omega)
 ·intro e;obtain⟨j,hj,hl⟩:=R.lev e;rw[(h q hq j).mpr hl];exact Qi (by omega)
theorem Ib{m k:Nat}{ks:List (List Int)}{T:Int->Int->Option Nat}(h0:1<=m)(hm:m<=6)(hT:∀p:Int,0<=p->p<m->qA (mB ks) p (fun q=>0<=q/\q<m) (T p)):Ee m T k=js m ks k:=by
 refine wX (wd h0 hm) (eX h0 hm) fun a b=>?_;rw[EX,ya hm];constructor
 ·rintro ⟨h1, h2, h3, h4⟩
  exact⟨h1,h2,h3,(Hb (hT a h1 (by omega)) ⟨by omega,h3⟩).mp h4⟩
 ·rintro ⟨h1, h2, h3, h4⟩
  exact⟨h1,h2,h3,(Hb (hT a h1 (by omega)) ⟨by omega,h3⟩).mpr h4⟩
theorem tu{m:Int}:∀{xs ys:List (List Int)},(∀k∈xs,gp m k)->(∀k∈ys,gp m k)->(PyData.eqvAll (xs.map bS) (ys.map bS)=true↔xs=ys)
 |[],[],_,_=>by simp[PyData.eqvAll]
 |[],_::_,_,_=>by simp[PyData.eqvAll]
 |_::_,[],_,_=>by simp[PyData.eqvAll]
 |x::xs,y::ys,hx,hy=>by
  have ih:=tu (xs:=xs) (ys:=ys) (fun k h=>hx k (Oq _ h)) (fun k h=>hy k (Oq _ h));obtain⟨a,b,rfl,_⟩:=hx x Oo;obtain⟨c,d,rfl,_⟩:=hy y Oo;simp only[PM,PyData.eqvAll,PH,ih,bS,PyData.eqv,PL,R9,SU]
theorem NG{μ:aB}{neg:Bool}{m:Nat}{ks ks':List (List Int)}(h:GW m ks)(h':GW m ks'):iA neg (aP m ks) (aP m ks') μ=.ok (.bl (if neg then !decide (ks=ks') else decide (ks=ks'))) μ:=by
 have e:PyData.eqv (xR m ks) (xR m ks')=decide (ks=ks'):=by
  apply OV.mpr;rw[decide_eq_true_iff,<- tu h.2.2.2.2 h'.2.2.2.2];simp only[xR,PyData.eqv,PyData.eqvAll,Qk,SQ,SS]
 unfold iA;rw[p7 h,p7 h'];dsimp only;rw[Ob ⟨p8 h,p8 h'⟩,e]
end Lw
namespace Lw
open PySem L2 RS Lv
section
variable{m:Nat}{ks:List (List Int)}
theorem GW.m0(h:GW m ks):1<=m:=by have:=h.2.1;omega
theorem GW.m6(h:GW m ks):m<=6:=by have:=h.2.2.1;omega
theorem HB(h:GW m ks){a b:Int}(e:mB ks a b):mB ks b a:=(jh h.2.2.2.2).mpr ((jh h.2.2.2.2).mp e).symm
theorem HC(h:GW m ks){a b:Int}(e:mB ks a b):(0<=a/\a<(m:Int))/\(0<=b/\b<(m:Int)):=jg h.2.2.2.2 e
end
end Lw
namespace Lw
open PySem L2 RS Lv
def Eo(k k':List Int):Bool:=match k,k' with
 |[a,b],[c,d]=>decide (a<c) || (decide (a=c)&&decide (b<d))
 |_,_=>false
theorem Bd{μ:aB}{a b c d:Int}:fC .Lt (ao [a,b]) (ao [c,d]) μ=.ok (.bl (Eo [a,b] [c,d])) μ:=by
 have e:fC .Lt (ao [a,b]) (ao [c,d]) μ=(match cmpPs .Lt [.int a,.int b] [.int c,.int d] with|some k=>.ok (.bl k) μ|none=>.bad):=rfl;rw[e];simp only[cmpPs,dk,PyData.eqv,Eo];by_cases h1:a=c
 ·subst h1;by_cases h2:b=d
  ·subst h2;simp[cL]
  ·simp[h2,cL]
 ·simp[h1,cL]
def MJ(k:List Int):Prop:=∃a b,k=[a,b]
def KM(ks:List (List Int)):Bool:=(List.range (ks.length-1)).all fun i=>Eo (ks.getD i []) (ks.getD (i+1) [])
theorem Mi:jx=aA (fC .Lt) (aA bR (ai 1) (aA jA (ai 0) (cC (.int 1)))) (aA bR (ai 1) (ai 0)):=rfl
theorem Ft{μ:aB}{ks:List (List Int)}(hk:∀k∈ks,MJ k)(a:List D)(i:Nat)(hi:i<ks.length-1) :
  (aA (fC .Lt) (aA bR (ai 1) (aA jA (ai 0) (cC (.int 1)))) (aA bR (ai 1) (ai 0))) [some (.int (1+(i:Int))),some (.tup (ks.map ao))] (μ++[.lst a])=.ok (.bl (Eo (ks.getD i []) (ks.getD (i+1) []))) (μ++[.lst a]):=by
 have h1:i<ks.length:=by omega
 have h2:i+1<ks.length:=by omega
 obtain⟨x,y,e1⟩:=hk ks[i] (RX h1);obtain⟨u,v,e2⟩:=hk ks[i+1] (RX h2)
 have g1:atI (ks.map ao) (1+(i:Int)-1)=some (ao [x,y]):=by
  rw[show (1+(i:Int)-1)=((i:Nat):Int) by omega];exact jZ (by rw[Pb,RZ h1,e1];rfl)
 have g2:atI (ks.map ao) (1+(i:Int))=some (ao [u,v]):=by
  rw[show (1+(i:Int))=((i+1:Nat):Int) by omega];exact jZ (by rw[Pb,RZ h2,e2];rfl)
 have k1:ks.getD i []=[x,y]:=by rw[RJ,RZ h1,e1];rfl
 have k2:ks.getD (i+1) []=[u,v]:=by rw[RJ,RZ h2,e2];rfl
 rw[k1,k2];simp only[aH,ak,ah,bc,aa,ae,B3];rw[fZ g1];simp only[aa,ae];rw[fZ g2];simp only[aa,ae];exact Bd
theorem Do{μ:aB}{ks:List (List Int)}(hk:∀k∈ks,MJ k)(hl:ks.length<1000) :
  compLoop (su.fix (cm 1 (ks.length-1))) μ.length (aq 0) cg (aA (fC CmpOp.Lt) (aA bR (ai 1) (aA jA (ai 0) (cC (D.int 1)))) (aA bR (ai 1) (ai 0))) (cm 1 (ks.length-1)) [none,some (D.tup (List.map ao ks))] (μ++[O.lst []]) =
   .ok (.obj μ.length) (μ++[.lst (((List.range (ks.length-1)).map fun i=>Eo (ks.getD i []) (ks.getD (i+1) [])).map D.bl)]):=by
 have:=eZ (src:=.fix (cm 1 (ks.length-1))) (g:=aq 0) (t:=cg) (e:=aA (fC .Lt) (aA bR (ai 1) (aA jA (ai 0) (cC (.int 1)))) (aA bR (ai 1) (ai 0))) (μ1:=μ) (q:=fun _=>true)
  (h:=fun d=>match d with | .int j=>.bl (Eo (ks.getD (j-1).toNat []) (ks.getD ((j-1).toNat+1) []))|_=>.non) (fun ρ=>∃o,ρ=[o,some (.tup (ks.map ao))]) (fun _=>trivial) (xs:=cm 1 (ks.length-1)) (acc:=[]) (ρ:=[none,some (.tup (ks.map ao))]) ⟨none,rfl⟩
  (by rw[rh,Pf,QB,QC];exact Ol (by omega) bL)
  (fun x hx a ρ ⟨o, ho⟩ => by
   rw[rh]at hx;obtain⟨i,hi,rfl⟩:=QJ.mp hx;refine⟨[some (.int (1+(i:Int))),some (.tup (ks.map ao))],⟨_,rfl⟩,by subst ho;rfl,rfl,fun _=>?_⟩;rw[Ft hk a i (by simpa using hi)];dsimp only
   rw[show (1+(i:Int)-1).toNat=i by omega])
 rw[this,SV.mpr (fun _ _=>rfl),rh,Qy,Qg,Qy];congr 4;apply QA;intro i _;show D.bl (Eo (ks.getD (1+(i:Int)-1).toNat []) (ks.getD ((1+(i:Int)-1).toNat+1) []))=_;rw[show (1+(i:Int)-1).toNat=i by omega];rfl
theorem Au{μ:aB}{ks:List (List Int)}(hk:∀k∈ks,MJ k)(hl:ks.length<1000):dD [.tup (ks.map ao)] μ=.ok (.bl (KM ks)) μ:=by
 unfold dD;rw[fE];simp only[kX,bb,az,ar,bZ,ic,bc,aw,aa,ae,ah,ly,Pf];rw[uO (by omega) (by omega) (by omega) (by omega)];have hn:((ks.length:Int)-1).toNat=ks.length-1:=by omega
 simp only[aa,ae,bo,hn];rw[show fH [none,some 0] (some (D.tup (List.map ao ks))::List.replicate (1-1) none)=[none,some (D.tup (List.map ao ks))] from rfl];rw[Mi,Do hk hl];simp only[aa,ae];rw[iI aE];simp only[af,ae,aU];rw[eG (by simp)];simp[KM,Sl,SW]
theorem E6{μ:aB}{m:Nat}(h0:1<=m)(h1:m<=6):g6 [.int m] μ=.ok (.bl true) μ:=by
 unfold g6;rw[fE];simp only[oK,List.replicate,bb,az,ar,aw,ah,bc,aa,ae,sT (show (1:Int)<=(m:Int) by omega) (show (m:Int)<=6 by omega),af,aU];exact aM (by simp)
theorem E4{μ:aB}{m:Nat}{a b:Int}(ha:0<=a/\a<(m:Int))(hb:0<=b/\b<(m:Int))(hn:a≠b):g5 [.int m,.tup [.int a,.int b]] μ=.ok (.bl true) μ:=by
 have h1:dE [.int m,.tup [.int a,.int b]] μ=.ok (.bl true) μ:=by
  rw[yD (fun x hx=>by simp only[Os,RA,RB]at hx;rcases hx with rfl|rfl <;> exact nofun) (by simp)];congr 2;simp only[PX,List.all_nil,SS,Eh,PH,Sd];exact⟨ha,hb⟩
 have h2:iA true (.int a) (.int b) μ=.ok (.bl true) μ:=by
  show aj.ok (D.bl (!(a == b))) μ=_;rw[N9.mpr hn];rfl
 have i0:bR (.tup [.int a,.int b]) (.int 0) μ=.ok (.int a) μ:=rfl;have i1:bR (.tup [.int a,.int b]) (.int 1) μ=.ok (.int b) μ:=rfl;have l2:iA false (.int (([.int a,.int b]:List D).length:Int)) (.int 2) μ=.ok (.bl true) μ:=rfl;unfold g5;rw[bK];simp only[oJ,List.replicate,bb,cX,az,ar,aw,ah,ak,bc,aa,ae,h1,aX,Pq,aH,ly,l2,i0,i1,h2,af,aU];exact aM (by simp)
theorem Il{μ:aB}{m:Nat}{a b:Int}(h0:0<=a)(h1:a<b)(h2:b<(m:Int)):i3 [.int m,.tup [.int a,.int b]] μ=.ok (.bl true) μ:=by
 have hp:=E4 (μ:=μ) (m:=m) (a:=a) (b:=b) ⟨h0,by omega⟩ ⟨by omega,h2⟩ (by omega);have i0:bR (.tup [.int a,.int b]) (.int 0) μ=.ok (.int a) μ:=rfl;have i1:bR (.tup [.int a,.int b]) (.int 1) μ=.ok (.int b) μ:=rfl;unfold i3;rw[bK];simp only[rG,List.replicate,bb,cX,az,ar,aw,ah,ak,bc,aa,ae,hp,aX,Pq,aH,i0,i1,ie,af,aU];rw[show cL .Lt a b=true from Qi h1];exact aM (by simp)
theorem IM{m:Int}:∀{ks:List (List Int)},(∀k∈ks,gp m k)->m<=6->ks.Pairwise (fun a b=>lV a<lV b)->∀i,i<ks.length-1->Eo (ks.getD i []) (ks.getD (i+1) [])=true:=fun {ks} hk hm hp i hi=>by
 have h1:i<ks.length:=by omega
 have h2:i+1<ks.length:=by omega
 have e1:ks.getD i []=ks[i]:=by rw[RJ,RZ h1];rfl
 have e2:ks.getD (i+1) []=ks[i+1]:=by rw[RJ,RZ h2];rfl
 have lt:=QF.mp hp i (i+1) h1 h2 (by omega);rw[e1,e2];obtain⟨a,b,ea,a1,a2,a3⟩:=hk _ (RX h1);obtain⟨c,d,ec,c1,c2,c3⟩:=hk _ (RX h2);rw[ea,ec]at lt⊢;have lt':a*6+b<c*6+d:=lt;unfold Eo;dsimp only;by_cases z:a<c
 ·rw[Qi z];rfl
 ·have : a = c := by omega
  rw[N8 z,Qi this,Qi (show b<d by omega)];rfl
theorem E3{μ:aB}{m:Nat}{ks:List (List Int)}(h:GW m ks):g4 [.int m,.tup (ks.map ao)] μ=.ok (.bl true) μ:=by
 have hl:=cK h
 have hr:dD [.tup (ks.map ao)] (μ++[.lst (ks.map fun _=>D.bl true)])=.ok (.bl true) (μ++[.lst (ks.map fun _=>D.bl true)]):=by
  rw[Au (fun k hk=>by obtain⟨a,b,e,_⟩:=h.2.2.2.2 k hk;exact⟨a,b,e⟩) (by omega)];congr 2;exact Q6.mpr fun i hi=>IM h.2.2.2.2 (by have:=h.m6;omega) h.2.2.2.1 i (by simpa using hi)
 have c:=dv (U:=List Int) (en:=ao) (src:=.fix (ks.map ao)) (g:=aq 0) (t:=cg) (e:=jo) (μ1:=μ) (q:=fun _=>true) (h:=fun _=>.bl true) (fun ρ=>∃o,ρ=[o,some (.int m)]) (fun _=>trivial) (us:=ks) (acc:=[]) (ρ:=[none,some (.int m)]) ⟨_,rfl⟩
  (by rw[QC];exact Ol (by omega) bL)
  (fun k hk a ρ hJJ => by
   obtain⟨o,e⟩:=hJJ;subst e;obtain⟨x,y,rfl,g1,g2,g3⟩:=h.2.2.2.2 k hk;refine⟨[some (ao [x,y]),some (.int m)],⟨_,rfl⟩,rfl,rfl,fun _=>?_⟩;unfold jo;simp only[az,ar,aw,ah,ak,aa,ae]
   exact Il g1 g2 g3)
 rw[nh,Qg]at c;unfold g4;rw[bK];simp only[oI,List.replicate,bb,cX,iW,az,ar,aw,ah,ak,bc,aa,ae];rw[show d9 "tuple" (.tup (ks.map ao)) μ=.ok (.bl true) μ from rfl];simp only[aa,ae,aX,Pq,bZ,cF,ak,ah];rw[show vB (.tup (ks.map ao)) μ=.ok (.fix (ks.map ao)) μ from rfl];simp only[aa,ae,bo];rw[show fH [none,some 0] (some (.int m)::some (.tup (ks.map ao))::List.replicate (2-2) none)=[none,some (.int m)] from rfl,c];simp only[aa,ae];rw[show ks.map (fun _=>D.bl true)=(ks.map fun _=>true).map D.bl from by rw[Qy];rfl];rw[iI aE];rw[show (ks.map fun _=>true).all id=true from by simp];simp only[aa,ae,aX,Pq,az,ar,aw,ak,ah];rw[show (ks.map fun _=>true).map D.bl=ks.map (fun _=>D.bl true) from by rw[Qy];rfl,hr];simp only[af,ae,aU];exact eG (by simp)
theorem yC{μ:aB}{m:Nat}{ks:List (List Int)}(h:GW m ks):di [aP m ks] μ=.ok (.bl true) μ:=by
 have l2:iA true (.int (([.int (m:Int),.tup (ks.map ao)]:List D).length:Int)) (.int 2) μ=.ok (.bl false) μ:=rfl;unfold di;rw[fE];simp only[ml,List.replicate,aF,bW,iX,dm,eJ,iW,ah,aa,ae];rw[show d9 "tuple" (.tup [.int (m:Int),.tup (ks.map ao)]) μ=.ok (.bl true) μ from rfl];simp only[aa,ae,dG,Q8,Ql,Pp,cB,aH,az,ar,aw,ah,bc,ly,l2,aX,af,bY,aC,aQ];simp only[aF,aQ,ah,aa,ae,af];rw[show fu 2 (br (aq 1) (br (aq 2) fv)) (.tup [.int (m:Int),.tup (ks.map ao)]) [some (.tup [.int (m:Int),.tup (ks.map ao)]),none,none] μ=.ok [some (.tup [.int (m:Int),.tup (ks.map ao)]),some (.int m),some (.tup (ks.map ao))] μ from rfl];simp only[af,aC,bb,cX,az,ar,aw,ak,ah,aa,ae,E6 h.m0 h.m6,aX,Pq,E3 h,aU];exact aM (by simp)
mutual
def Kn(μ:aB):D->Prop
 |.tup xs=>xs.length<1000/\Kns μ xs
 |.obj n=>∃tn,z6 μ (.obj n)=some tn/\tn ≠ "int" /\ tn ≠ "bool" /\ tn ≠ "tuple"
 |_=>True
def Kns(μ:aB):List D->Prop
 |[]=>True
 |x::xs=>Kn μ x/\Kns μ xs
end
theorem uK{μ:aB}:∀{xs:List D},Kns μ xs↔∀x∈xs,Kn μ x
 |[]=>by simp[Kns]
 |x::xs=>by simp[Kns,uK (xs:=xs)]
theorem EK{μ g:aB}{n:Nat}{tn:String}(h:z6 μ (.obj n)=some tn):z6 (μ++g) (.obj n)=some tn:=by
 unfold z6 at h⊢;dsimp only at h⊢;cases e:μ[n]? with
 |none=>rw[e]at h;cases h
 |some o=>rw[O9 (Ow.mp e).1,e];rw[e]at h;exact h
mutual
theorem uL{μ:aB}(g:aB):∀{d:D},Kn μ d->Kn (μ++g) d
 |.non,_=>by simp[Kn]
 |.bl _,_=>by simp[Kn]
 |.int _,_=>by simp[Kn]
 |.str _,_=>by simp[Kn]
 |.frz _,_=>by simp[Kn]
 |.obj n,h=>by
  simp only[Kn]at h⊢;obtain⟨tn,h1,h2⟩:=h;exact⟨tn,EK h1,h2⟩
 |.tup xs,h=>by
  simp only[Kn]at h⊢;exact⟨h.1,kns_more g h.2⟩
theorem kns_more{μ:aB}(g:aB):∀{xs:List D},Kns μ xs->Kns (μ++g) xs
 |[],_=>by simp[Kns]
 |x::xs,h=>by
  simp only[Kns]at h⊢;exact⟨uL g h.1,kns_more g h.2⟩
end
def isInt:D->Bool
 |.int _=>true
 |_=>false
def bM:D->Bool
 |.tup _=>true
 |_=>false
def eE(a b:Int):D->Bool
 |.int i=>decide (a<=i)&&decide (i<=b)
 |_=>false
theorem A2 {μ:aB}{d:D} (h:Kn μ d):∃b,d9 "int" d μ=.ok (.bl b) μ/\(b=true↔(isInt d=true\/∃c,d=.bl c)):=by
 cases d with
 |obj n=>
  simp only[Kn]at h;obtain⟨tn,h1,h2,h3,h4⟩:=h;refine⟨_,by unfold d9;rw[h1],?_⟩;simp[kC,isInt,h2,h3]
 |non=>exact⟨_,rfl,by simp[kC,isInt]⟩
 |bl b=>exact⟨_,rfl,by simp[kC,isInt]⟩
 |int b=>exact⟨_,rfl,by simp[kC,isInt]⟩
 |str b=>exact⟨_,rfl,by simp[kC,isInt]⟩
 |tup b=>exact⟨_,rfl,by simp[kC,isInt]⟩
 |frz b=>exact⟨_,rfl,by simp[kC,isInt]⟩
theorem DV {μ:aB}{d:D} (h:Kn μ d):∃b,d9 "bool" d μ=.ok (.bl b) μ/\(b=true↔∃c,d=.bl c):=by
 cases d with
 |obj n=>
  simp only[Kn]at h;obtain⟨tn,h1,h2,h3,h4⟩:=h;refine⟨_,by unfold d9;rw[h1],?_⟩;simp[kC,h2,h3]
 |non=>exact⟨_,rfl,by simp[kC]⟩
 |bl b=>exact⟨_,rfl,by simp[kC]⟩
 |int b=>exact⟨_,rfl,by simp[kC]⟩
 |str b=>exact⟨_,rfl,by simp[kC]⟩
 |tup b=>exact⟨_,rfl,by simp[kC]⟩
 |frz b=>exact⟨_,rfl,by simp[kC]⟩
theorem iQ {μ:aB}{d:D} (h:Kn μ d):d9 "tuple" d μ=.ok (.bl (bM d)) μ:=by
 cases d with
 |obj n=>
  simp only[Kn]at h;obtain⟨tn,h1,h2,h3,h4⟩:=h;unfold d9;rw[h1];simp[kC,bM,h4]
 |non=>rfl
 |bl b=>rfl
 |int b=>rfl
 |str b=>rfl
 |tup b=>rfl
 |frz b=>rfl
theorem rJ{μ:aB}{d:D}(h:Kn μ d):dH [d] μ=.ok (.bl (isInt d)) μ:=by
 obtain⟨b1,e1,f1⟩:=A2 h;obtain⟨b2,e2,f2⟩:=DV h;unfold dH;rw[fE]
 have:(b1 && !b2)=isInt d:=by
  cases d <;> simp[isInt]at f1 f2⊢ <;> simp[f1,f2]
 simp[ka,e1,e2];cases b1 <;> cases b2 <;> simp at this⊢ <;> rw[<- this] <;> exact aM (by simp)
theorem jJ{μ:aB}{d:D}(h:Kn μ d):cw [d] μ=.ok (.bl (isInt d)) μ:=rJ h
theorem we{μ:aB}{d:D}{a b:Int}(h:Kn μ d):bj [d,.int a,.int b] μ=.ok (.bl (eE a b d)) μ:=by
 unfold bj;rw[nW];simp[fX,rJ h]
 cases d <;> simp[isInt,eE] <;> first
  |exact aM (by simp)
  |skip
 simp[cL];split <;> (rename_i hc;simp[hc];exact aM (by simp))
theorem yE{μ:aB}{d:D}{m:Int}(h:Kn μ d):gf [.int m,d] μ=.ok (.bl (eE 0 (m-1) d)) μ:=by
 unfold gf;rw[bK];simp[mq,we h];exact aM (by simp)
theorem Ax{μ:aB}{d:D}(h:Kn μ d):g6 [d] μ=.ok (.bl (eE 1 6 d)) μ:=by
 unfold g6;rw[fE];simp[oK,we h];exact aM (by simp)
def nJ(m:Int):D->Bool
 |.tup xs=>xs.all (eE 0 (m-1))
 |_=>false
theorem xb{μ:aB}{xs:List D}{h:D->Bool}{e:ME}{c:D}(hl:xs.length<=sizeLine)(he:∀x∈xs,∀a,e [some x,some c] (μ++[.lst a])=.ok (.bl (h x)) (μ++[.lst a])) :
  compLoop (.fix xs) μ.length (aq 0) cg e xs [none,some c] (μ++[.lst []])=.ok (.obj μ.length) (μ++[.lst ((xs.map h).map D.bl)]):=by
 have:=eZ (src:=.fix xs) (g:=aq 0) (t:=cg) (e:=e) (μ1:=μ) (q:=fun _=>true) (h:=fun x=>D.bl (h x)) (fun ρ=>∃o,ρ=[o,some c]) (fun _=>trivial) (xs:=xs) (acc:=[]) (ρ:=[none,some c]) ⟨none,rfl⟩ (by simpa using hl)
  (fun x hx a ρ ⟨o,ho⟩=>⟨[some x,some c],⟨_,rfl⟩,by subst ho;rfl,rfl,fun _=>he x hx a⟩)
 rw[this,SV.mpr (fun _ _=>rfl)];simp[Qy,SW]
theorem qX:1000<=sizeLine:=by decide
theorem Av{μ:aB}{d:D}{m:Int}(h:Kn μ d):dE [.int m,d] μ=.ok (.bl (nJ m d)) μ:=by
 unfold dE;rw[bK];simp[kY,iQ h];cases d with
 |tup xs=>
  simp only[bM,Pq,nJ];simp;simp only[Kn]at h;rw[xb (h:=eE 0 (m-1)) (Ol (Om h.1) qX) fun x hx a=>?_]
  ·simp;rw[iI (bs:=xs.map (eE 0 (m-1))) (by simp)];simp[Sl,SW];exact eG (by simp)
  ·simp[iq];exact yE (uL _ (uK.mp h.2 x hx))
 |non=>simp[bM,nJ];exact aM (by simp)
 |bl b=>simp[bM,nJ];exact aM (by simp)
 |int b=>simp[bM,nJ];exact aM (by simp)
 |str b=>simp[bM,nJ];exact aM (by simp)
 |frz b=>simp[bM,nJ];exact aM (by simp)
 |obj b=>simp[bM,nJ];exact aM (by simp)
def mH(m:Int)(d:D):Bool:=nJ m d&&(match d with
 |.tup [.int a,.int b]=>a != b
 |_=>false)
def dN(m:Int)(d:D):Bool:=nJ m d&&(match d with
 |.tup [.int a,.int b]=>decide (a<b)
 |_=>false)
theorem Dv{m:Int}{xs:List D}(h:nJ m (.tup xs)=true):∃ns:List Int,xs=ns.map D.int/\∀n∈ns,0<=n/\n<=m-1:=by
 simp only[nJ]at h
 induction xs with
 |nil=>exact⟨[],rfl,by simp⟩
 |cons x r ih=>
  rw[PX,PH]at h;obtain⟨ns,e,f⟩:=ih h.2;cases x with
  |int i=>
   simp[eE]at h;exact⟨i::ns,by rw[e];rfl,fun n hn=>(Os.mp hn).elim (fun z=>by rw[z];exact h.1) (f n)⟩
  |non=>simp[eE]at h
  |bl b=>simp[eE]at h
  |str b=>simp[eE]at h
  |tup b=>simp[eE]at h
  |frz b=>simp[eE]at h
  |obj b=>simp[eE]at h
theorem Aw{μ:aB}{d:D}{m:Int}(h:Kn μ d):g5 [.int m,d] μ=.ok (.bl (mH m d)) μ:=by
 unfold g5;rw[bK];simp[oJ,Av h];cases hp:nJ m d with
 |false=>simp[mH,hp];exact aM (by simp)
 |true=>
  cases d with
  |tup xs=>
   obtain⟨ns,rfl,_⟩:=Dv hp;simp
   match ns with
   |[]=>simp[mH];exact aM (by simp)
   |[a]=>simp[mH];exact aM (by simp)
   |[a,b]=>
    simp only[Qm,QC,PM,PL];simp[fZ (o9),fZ (qL),mH,hp];simp at hp;rw[hp];simp[bne];exact aM (by simp)
   |a::b::c::r=>
    have:((r.length:Int)+1+1+1 == 2)=false:=by simp;omega
    simp[this,mH];exact aM (by simp)
  |non=>simp[nJ]at hp
  |bl b=>simp[nJ]at hp
  |int b=>simp[nJ]at hp
  |str b=>simp[nJ]at hp
  |frz b=>simp[nJ]at hp
  |obj b=>simp[nJ]at hp
theorem C6{μ:aB}{d:D}{m:Int}(h:Kn μ d):i3 [.int m,d] μ=.ok (.bl (dN m d)) μ:=by
 unfold i3;rw[bK];simp[rG,Aw h];cases hp:mH m d with
 |false=>
  have:dN m d=false:=by
   unfold mH at hp;unfold dN;cases hq:nJ m d with
   |false=>rfl
   |true=>
    rw[hq]at hp;simp only[SQ]at hp⊢;split at hp
    ·simp at hp⊢;omega
    ·rfl
  simp[this];exact aM (by simp)
 |true=>
  unfold mH at hp;rw[PH]at hp;obtain⟨hp1,hp2⟩:=hp;split at hp2
  ·rename_i a b;simp[fZ (o9),fZ (qL),dN,hp1,cL];exact aM (by simp)
  ·cases hp2
theorem qW{m:Int}{d:D}(h:dN m d=true):∃a b:Int,d=ao [a,b]/\0<=a/\a<b/\b<=m-1:=by
 unfold dN at h;rw[PH]at h;obtain⟨h1,h2⟩:=h;split at h2
 ·rename_i a b;simp[nJ,eE]at h1;simp at h2;exact⟨a,b,rfl,by omega,h2,by omega⟩
 ·cases h2
def gx(k k':List Int):Bool:=match k,k' with
 |[a,b],[c,d]=>decide (a<c) || (decide (a=c)&&decide (b<d))
 |_,_=>false
theorem xE{μ:aB}{a b c d:Int}:fC .Lt (ao [a,b]) (ao [c,d]) μ=.ok (.bl (gx [a,b] [c,d])) μ:=by
 have e:fC .Lt (ao [a,b]) (ao [c,d]) μ=(match cmpPs .Lt [.int a,.int b] [.int c,.int d] with|some k=>.ok (.bl k) μ|none=>.bad):=rfl;rw[e];simp only[cmpPs,dk,PyData.eqv,gx];by_cases h1:a=c
 ·subst h1;by_cases h2:b=d
  ·subst h2;simp[cL]
  ·simp[h2,cL]
 ·simp[h1,cL]
theorem vm{μ:aB}{a b c d:Int}:fC .LtE (ao [a,b]) (ao [c,d]) μ=.ok (.bl (!gx [c,d] [a,b])) μ:=by
 have e:fC .LtE (ao [a,b]) (ao [c,d]) μ=(match dk .LtE (.tuple [.int a,.int b]) (.tuple [.int c,.int d]) with|some k=>.ok (.bl k) μ|none=>.bad):=rfl;rw[e]
 have le:∀x y:Int,decide (x<=y)=!decide (y<x):=fun x y=>by
  by_cases h:x<=y
  ·rw[Qi h,N8 (by omega)];rfl
  ·rw[N8 h,Qi (by omega)];rfl
 simp only[dk,cmpPs,PyData.eqv,gx];by_cases h1:a=c
 ·subst h1;by_cases h2:b=d
  ·subst h2;simp[cL]
  ·simp[h2,cL,le]
 ·have h3:¬ c=a:=fun z=>h1 z.symm;simp[h1,h3,cL,le]
def B7(k:List Int):Prop:=∃a b,k=[a,b]
def gT(ks:List (List Int)):Bool:=(List.range (ks.length-1)).all fun i=>gx (ks.getD i []) (ks.getD (i+1) [])
theorem ma{lo:Int}{n:Nat}:cm lo n=(List.range n).map fun(i:Nat)=>D.int (lo+(i:Int)):=rfl
theorem GK:jx=aA (fC .Lt) (aA bR (ai 1) (aA jA (ai 0) (cC (.int 1)))) (aA bR (ai 1) (ai 0)):=rfl
theorem AF{μ:aB}{ks:List (List Int)}(hk:∀k∈ks,B7 k)(a:List D)(i:Nat)(hi:i<ks.length-1) :
  (aA (fC .Lt) (aA bR (ai 1) (aA jA (ai 0) (cC (.int 1)))) (aA bR (ai 1) (ai 0))) [some (.int (1+(i:Int))),some (.tup (ks.map ao))] (μ++[.lst a])=.ok (.bl (gx (ks.getD i []) (ks.getD (i+1) []))) (μ++[.lst a]):=by
 have h1:i<ks.length:=by omega
 have h2:i+1<ks.length:=by omega
 obtain⟨x,y,e1⟩:=hk ks[i] (RX h1);obtain⟨u,v,e2⟩:=hk ks[i+1] (RX h2)
 have g1:atI (ks.map ao) (1+(i:Int)-1)=some (ao [x,y]):=by
  rw[show (1+(i:Int)-1)=((i:Nat):Int) by omega];exact jZ (by rw[Pb,RZ h1,e1];rfl)
 have g2:atI (ks.map ao) (1+(i:Int))=some (ao [u,v]):=by
  rw[show (1+(i:Int))=((i+1:Nat):Int) by omega];exact jZ (by rw[Pb,RZ h2,e2];rfl)
 have k1:ks.getD i []=[x,y]:=by rw[RJ,RZ h1,e1];rfl
 have k2:ks.getD (i+1) []=[u,v]:=by rw[RJ,RZ h2,e2];rfl
 rw[k1,k2];simp only[aH,ak,ah,bc,aa,ae,B3];rw[fZ g1];simp only[aa,ae];rw[fZ g2];simp only[aa,ae];exact xE
theorem yL{μ:aB}{ks:List (List Int)}(hk:∀k∈ks,B7 k)(hl:ks.length<1000) :
  compLoop (su.fix (cm 1 (ks.length-1))) μ.length (aq 0) cg (aA (fC CmpOp.Lt) (aA bR (ai 1) (aA jA (ai 0) (cC (D.int 1)))) (aA bR (ai 1) (ai 0))) (cm 1 (ks.length-1)) [none,some (D.tup (List.map ao ks))] (μ++[O.lst []]) =
   .ok (.obj μ.length) (μ++[.lst (((List.range (ks.length-1)).map fun i=>gx (ks.getD i []) (ks.getD (i+1) [])).map D.bl)]):=by
 have:=eZ (src:=.fix (cm 1 (ks.length-1))) (g:=aq 0) (t:=cg) (e:=aA (fC .Lt) (aA bR (ai 1) (aA jA (ai 0) (cC (.int 1)))) (aA bR (ai 1) (ai 0))) (μ1:=μ) (q:=fun _=>true)
  (h:=fun d=>match d with | .int j=>.bl (gx (ks.getD (j-1).toNat []) (ks.getD ((j-1).toNat+1) []))|_=>.non) (fun ρ=>∃o,ρ=[o,some (.tup (ks.map ao))]) (fun _=>trivial) (xs:=cm 1 (ks.length-1)) (acc:=[]) (ρ:=[none,some (.tup (ks.map ao))]) ⟨none,rfl⟩
  (by rw[ma,Pf,QB,QC];exact Ol (by omega) qX)
  (fun x hx a ρ ⟨o, ho⟩ => by
   rw[ma]at hx;obtain⟨i,hi,rfl⟩:=QJ.mp hx;refine⟨[some (.int (1+(i:Int))),some (.tup (ks.map ao))],⟨_,rfl⟩,by subst ho;rfl,rfl,fun _=>?_⟩;rw[AF hk a i (by simpa using hi)];dsimp only
   rw[show (1+(i:Int)-1).toNat=i by omega])
 rw[this,SV.mpr (fun _ _=>rfl),ma,Qy,Qg,Qy];congr 4;apply QA;intro i _;show D.bl (gx (ks.getD (1+(i:Int)-1).toNat []) (ks.getD ((1+(i:Int)-1).toNat+1) []))=_;rw[show (1+(i:Int)-1).toNat=i by omega];rfl
theorem xj{μ:aB}{ks:List (List Int)}(hk:∀k∈ks,B7 k)(hl:ks.length<1000):dD [.tup (ks.map ao)] μ=.ok (.bl (gT ks)) μ:=by
 unfold dD;rw[fE];simp only[kX,bb,az,ar,bZ,ic,bc,aw,aa,ae,ah,ly,Pf];rw[uO (by omega) (by omega) (by omega) (by omega)];have hn:((ks.length:Int)-1).toNat=ks.length-1:=by omega
 simp only[aa,ae,bo,hn];rw[show fH [none,some 0] (some (D.tup (List.map ao ks))::List.replicate (1-1) none)=[none,some (D.tup (List.map ao ks))] from rfl];rw[GK,yL hk hl];simp only[aa,ae];rw[iI aE];simp only[af,ae,aU];rw[eG (by simp)];simp[gT,Sl,SW]
def jc:D->List Int
 |.tup [.int a,.int b]=>[a,b]
 |_=>[]
def iw(m:Int)(d:D):Bool:=match d with
 |.tup ts=>ts.all (dN m)&&gT (ts.map jc)
 |_=>false
def cI(d:D):Bool:=match d with
 |.tup [.int m,ts]=>decide (1<=m)&&decide (m<=6)&&iw m ts
 |_=>false
theorem xh{m:Int}{ts:List D}(h:ts.all (dN m)=true):∃ks:List (List Int),ts=ks.map ao/\ts.map jc=ks/\∀k∈ks,∃a b:Int,k=[a,b]/\0<=a/\a<b/\b<=m-1:=by
 induction ts with
 |nil=>exact⟨[],rfl,rfl,by simp⟩
 |cons x r ih=>
  rw[PX,PH]at h;obtain⟨ks,e1,e2,e3⟩:=ih h.2;obtain⟨a,b,rfl,h1,h2,h3⟩:=qW h.1;refine⟨[a,b]::ks,by rw[e1];rfl,by rw[PM,e2];rfl,fun k hk=>?_⟩;rcases Os.mp hk with z|z
  ·exact⟨a,b,z,h1,h2,h3⟩
  ·exact e3 k z
theorem Ar{μ:aB}{d:D}{m:Int}(h:Kn μ d):g4 [.int m,d] μ=.ok (.bl (iw m d)) μ:=by
 unfold g4;rw[bK];simp[oI,iQ h];cases d with
 |tup ts=>
  simp only[bM,Pq,iw];simp only[Kn]at h;rw[fS];simp only[aa,ae,bo];rw[xb (h:=dN m) (Ol (Om h.1) qX) fun x hx a=>?_]
  ·simp only [aa, ae];rw[iI aE];simp only[aa,ae,aX];cases ha:ts.all (dN m) with
   |false=>
    have:((ts.map (dN m)).all id)=false:=by rw[Sl];simpa[SW] using ha
    rw[this];simp;exact eG (by simp)
   |true=>
    have:((ts.map (dN m)).all id)=true:=by rw[Sl];simpa[SW] using ha
    rw[this];obtain⟨ks,e1,e2,e3⟩:=xh ha;simp only[Pq,SQ];rw[e2,e1,xj (fun k hk=>let ⟨a,b,e,_⟩:=e3 k hk;⟨a,b,e⟩) (by rw[e1]at h;simpa using h.1)];simp;exact eG (by simp)
  ·simp[jo];exact C6 (uL _ (uK.mp h.2 x hx))
 |non=>simp[bM,iw];exact aM (by simp)
 |bl b=>simp[bM,iw];exact aM (by simp)
 |int b=>simp[bM,iw];exact aM (by simp)
 |str b=>simp[bM,iw];exact aM (by simp)
 |frz b=>simp[bM,iw];exact aM (by simp)
 |obj b=>simp[bM,iw];exact aM (by simp)
theorem yb{μ:aB}{d:D}(h:Kn μ d):di [d] μ=.ok (.bl (cI d)) μ:=by
 unfold di;rw[fE];simp[ml,iQ h];cases d with
 |tup xs=>
  simp only[Kn]at h;simp[bM]
  match xs,h with
  |[],h=>simp[cI];exact aM (by simp)
  |[x],h=>simp[cI];exact aM (by simp)
  |[x,y],h=>
   simp only[Kns]at h;simp[Ax h.2.1];cases x with
   |int m=>
    simp[eE];cases hm:(decide (1<=m)&&decide (m<=6)) with
    |false=>
     simp[cI,hm];have:¬ (1<=m/\m<=6):=by simpa using hm
     rw[Oc this];simp;exact aM (by simp)
    |true=>
     have:1<=m/\m<=6:=by simpa using hm
     rw[Ob this];simp[Ar h.2.2.1,cI,this];exact aM (by simp)
   |non=>simp[eE,cI];exact aM (by simp)
   |bl b=>simp[eE,cI];exact aM (by simp)
   |str b=>simp[eE,cI];exact aM (by simp)
   |tup b=>simp[eE,cI];exact aM (by simp)
   |frz b=>simp[eE,cI];exact aM (by simp)
   |obj b=>simp[eE,cI];exact aM (by simp)
  |x::y::z::r,h=>
   have:((r.length:Int)+1+1+1 == 2)=false:=by simp;omega
   simp[this,cI];exact aM (by simp)
 |non=>simp[bM,cI];exact aM (by simp)
 |bl b=>simp[bM,cI];exact aM (by simp)
 |int b=>simp[bM,cI];exact aM (by simp)
 |str b=>simp[bM,cI];exact aM (by simp)
 |frz b=>simp[bM,cI];exact aM (by simp)
 |obj b=>simp[bM,cI];exact aM (by simp)
def gA(m:Int):List Int->List D->Bool
 |_,[]=>true
 |k,x::r=>dN m x&&gx k (jc x)&&gA m (jc x) r
theorem d2{μ:aB}{b:Bool}:p6 μ (.ok (.bl b) μ)=.ok (.bl b) μ:=aM (by simp)
theorem EO{m a b:Int}:dN m (.tup [.int a,.int b])=(decide (0<=a)&&decide (a<b)&&decide (b<m)):=by
 simp only[dN,nJ,PX,List.all_nil,eE,SS];by_cases h1:0<=a <;> by_cases h2:a<b <;> by_cases h3:b<m <;> simp[h1,h2,h3] <;> omega
theorem Ge{μ:aB}{m la lb:Int}{ts:D}{x:D}(h:Kn μ x):cf [some (.tup [.int m,ts]),some (ao [la,lb]),some x] μ =
  if (dN m x&&gx [la,lb] (jc x))=true then .next [some (.tup [.int m,ts]),some x,some x] μ else .ret (.bl false) μ:=by
 unfold cf;simp[iQ h];cases x with
 |tup xs=>
  simp only[Kn]at h;simp[bM]
  match xs,h with
  |[],h=>simp[dN]
  |[x],h=>simp[dN]
  |[x,y],h=>
   simp only[Kns]at h;simp[fZ (o9),fZ (qL),jJ h.2.1,jJ h.2.2.1];cases hx:isInt x with
   |false=>
    have:dN m (.tup [x,y])=false:=by cases x <;> simp[isInt]at hx <;> simp[dN]
    simp[this]
   |true=>
    cases hy:isInt y with
    |false=>
     have:dN m (.tup [x,y])=false:=by cases x <;> cases y <;> simp[isInt]at hx hy <;> simp[dN]
     simp[this]
    |true=>
     cases x <;> simp[isInt]at hx;cases y <;> simp[isInt]at hy;rename_i a b;have e:=vm (μ:=μ) (a:=a) (b:=b) (c:=la) (d:=lb);simp only[ao,PM,PL]at e;simp only[ao,PM,PL,EO,jc];by_cases h1:0<=a
     ·by_cases h2 : a < b
      ·by_cases h3 : b < m
       ·simp[cL,h1,h2,h3,e];cases gx [la,lb] [a,b] <;> simp
       ·simp[cL,h1,h2,h3]
      ·simp[cL,h1,h2]
     ·simp[cL,h1]
  |x::y::z::r,h=>
   have:¬ ((r.length:Int)+1+1+1=2):=by omega
   simp[this,dN]
 |non=>simp[bM,dN,nJ]
 |bl b=>simp[bM,dN,nJ]
 |int b=>simp[bM,dN,nJ]
 |str b=>simp[bM,dN,nJ]
 |frz b=>simp[bM,dN,nJ]
 |obj b=>simp[bM,dN,nJ]
theorem zL{μ:aB}{m:Int}{tt:D}{src:su}(hs:eD src μ):∀{ts:List D}{la lb:Int}{o:Option D},Kns μ ts->∃ρ,iB src (aq 2) cf ts [some (.tup [.int m,tt]),some (ao [la,lb]),o] μ =
  if gA m [la,lb] ts=true then .next ρ μ else .ret (.bl false) μ
 |[],la,lb,o,h=>⟨[some (.tup [.int m,tt]),some (ao [la,lb]),o],by rw[iB,Ob hs,gA];rfl⟩
 |x::r,la,lb,o,h=>by
  simp only[Kns]at h
  have e:iB src (aq 2) cf (x::r) [some (.tup [.int m,tt]),some (ao [la,lb]),o] μ=(cf [some (.tup [.int m,tt]),some (ao [la,lb]),some x] μ).loop (iB src (aq 2) cf r):=by
   rw[iB,Ob hs];rfl
  rw[e,Ge h.1];cases hc:(dN m x&&gx [la,lb] (jc x)) with
  |false=>
   refine⟨[],?_⟩;simp only[gA,hc,OO];simp
  |true=>
   have ht:dN m x=true:=by
    rw[PH]at hc;exact hc.1
   obtain⟨a,b,rfl,_⟩:=qW ht;obtain⟨ρ,e2⟩:=zL hs (m:=m) (tt:=tt) (ts:=r) (la:=a) (lb:=b) (o:=some (ao [a,b])) h.2;refine⟨ρ,?_⟩;simp only[Pq,zK,gA,hc,SQ];exact e2
theorem oh{k k':List Int}{r:List (List Int)}:gT (k::k'::r)=(gx k k'&&gT (k'::r)):=by
 unfold gT;simp only[Qm,Nat.add_sub_cancel];rw[Qx,PX,Sl];rfl
theorem ph{m:Int}:∀{ts:List D}{k:List Int},gA m k ts=(ts.all (dN m)&&gT (k::ts.map jc))
 |[],k=>by simp[gA,gT]
 |x::r,k=>by
  rw[gA,ph (ts:=r),PM,oh,PX];cases dN m x <;> cases gx k (jc x) <;> cases r.all (dN m) <;> simp
theorem yV{m:Int}{ts:List D}:gA m [-1,-1] ts=(ts.all (dN m)&&gT (ts.map jc)):=by
 rw[ph];cases ts with
 |nil=>simp[gT]
 |cons x r=>
  rw[PM,oh];cases ht:(x::r).all (dN m) with
  |false=>rfl
  |true=>
   rw[PX,PH]at ht;obtain⟨a,b,rfl,h1,_⟩:=qW ht.1
   have:gx [-1,-1] (jc (ao [a,b]))=true:=by
    simp[jc,ao,gx];omega
   rw[this];rfl
theorem uD{μ:aB}{d:D}(h:Kn μ d):cH [d] μ=.ok (.bl (cI d)) μ:=by
 unfold cH;rw[fE];simp[kq,iQ h];cases d with
 |tup xs=>
  simp only[Kn]at h;simp[bM]
  match xs,h with
  |[],h=>simp[cI];exact d2
  |[x],h=>simp[cI];exact d2
  |[x,y],h=>
   simp only[Kns]at h;simp[fZ (o9),fZ (qL),jJ h.2.1];cases x with
   |int m=>
    simp[isInt,cL];by_cases h1:1<=m
    ·have h1' : 0 < m := by omega
     by_cases h2:m<=6
     ·have h2' : m < 7 := by omega
      simp[h1',h2',iQ h.2.2.1];cases y with
      |tup ts=>
       simp[bM,OW];have hk:=h.2.2.1;simp only[Kn]at hk;obtain⟨ρ,e⟩:=zL (src:=.fix ts) (m:=m) (tt:=.tup ts) (ts:=ts) (la:=-1) (lb:=-1) (o:=none) trivial hk.2;simp only[ao,PM,PL]at e;rw[e,yV];have hw:cI (.tup [.int m,.tup ts])=(ts.all (dN m)&&gT (ts.map jc)):=by simp[cI,h1,h2,iw]
       rw[hw];cases (ts.all (dN m)&&gT (ts.map jc)) <;> simp <;> exact d2
      |non=>simp[bM,cI,iw];exact d2
      |bl b=>simp[bM,cI,iw];exact d2
      |int b=>simp[bM,cI,iw];exact d2
      |str b=>simp[bM,cI,iw];exact d2
      |frz b=>simp[bM,cI,iw];exact d2
      |obj b=>simp[bM,cI,iw];exact d2
     ·have h2' : ¬ m < 7 := by omega
      simp[h1',h1,h2,h2',cI];exact d2
    ·have h1' : ¬ 0 < m := by omega
     simp[h1,h1',cI];exact d2
   |non=>simp[isInt,cI];exact d2
   |bl b=>simp[isInt,cI];exact d2
   |str b=>simp[isInt,cI];exact d2
   |tup b=>simp[isInt,cI];exact d2
   |frz b=>simp[isInt,cI];exact d2
   |obj b=>simp[isInt,cI];exact d2
  |x::y::z::r,h=>
   have:¬ ((r.length:Int)+1+1+1=2):=by omega
   simp[this,cI];exact d2
 |non=>simp[bM,cI];exact d2
 |bl b=>simp[bM,cI];exact d2
 |int b=>simp[bM,cI];exact d2
 |str b=>simp[bM,cI];exact d2
 |frz b=>simp[bM,cI];exact d2
 |obj b=>simp[bM,cI];exact d2
def mm(p:Int×Int):List Int:=[min p.1 p.2,max p.1 p.2]
def PP(m:Nat)(p:Int×Int):Prop:=(0<=p.1/\p.1<(m:Int))/\(0<=p.2/\p.2<(m:Int))/\p.1≠p.2
theorem PP.ok{m:Nat}{p:Int×Int}(h:PP m p):gp m (mm p):=⟨_,_,rfl,by have:=h.1;have:=h.2.1;omega,by have:=h.2.2;omega,by have:=h.1;have:=h.2.1;omega⟩
theorem Da{m:Nat}{ps:List (Int×Int)}{a b:Int}(hm:m<=6)(hps:∀p∈ps,PP m p):[a,b]∈gR (ps.map mm)↔∃p∈ps,mm p=[a,b]:=by
 unfold gR;rw[Oi,Sd,QJ];exact⟨fun h=>h.2,fun h=>⟨by obtain⟨p,hp,e⟩:=h;rw[<- e];exact(hps p hp).ok.prs (by omega),h⟩⟩
theorem qc{m:Nat}{ps:List (Int×Int)}(h0:1<=m)(hm:m<=6)(hps:∀p∈ps,PP m p):GW m (gR (ps.map mm)):=xl (by omega) (by omega) fun k hk=>by obtain⟨p,hp,rfl⟩:=QJ.mp hk;exact(hps p hp).ok
theorem oa{μ:aB}{m t:Nat}{ps:List (Int×Int)}(h0:1<=m)(hm:m<=6)(hl:ps.length<=100000)(ht:μ[t]?=some (.lst (ps.map jQ)))(hps:∀p∈ps,PP m p):bQ [.int m,.obj t] μ=.ok (aP m (gR (ps.map mm))) μ:=by
 have c:=dv (U:=Int×Int) (en:=jQ) (src:=.own t (ps.map jQ)) (g:=fu 2 (br (aq 0) (br (aq 1) (fv)))) (t:=cg) (e:=iG) (μ1:=μ) (q:=fun _=>true) (h:=fun p=>ao (mm p)) (fun ρ=>∃o o',ρ=[o,o']) (fun _=>aG ht) (us:=ps) (acc:=[]) (ρ:=[none,none]) ⟨_,_,rfl⟩
  (by rw[QC];exact Ol (by omega) Cd)
  (fun p hp a ρ hJJ => by
   obtain⟨o,o',e⟩:=hJJ;subst e;refine⟨[some (.int p.1),some (.int p.2)],⟨_,_,rfl⟩,rfl,rfl,fun _=>?_⟩;unfold iG;simp only[cM,az,ar,aw,ah,ak,aa,ae,LV,LX,Qm,QC,Ob l2]
   rfl)
 rw[nh,Qg,show ps.map (fun p=>ao (mm p))=(ps.map mm).map ao from by rw[Qy];rfl]at c
 have hk:∀k∈ps.map mm,k∈prs:=fun k hk=>by
  obtain⟨p,hp,rfl⟩:=QJ.mp hk;exact(hps p hp).ok.prs (by omega)
 let M1:aB:=μ++[O.lst ((ps.map mm).map ao)]
 have s1:xY [.obj μ.length] M1=.ok (.obj M1.length) (M1++[.set (ju (ps.map mm))]):=by
  unfold xY;dsimp only;rw[show M1[μ.length]?=some (.lst ((ps.map mm).map ao)) from aE];dsimp only;unfold vN;rw[wN hk]
 have s2:lz [.obj M1.length] (M1++[.set (ju (ps.map mm))])=.ok (.obj (M1++[O.set (ju (ps.map mm))]).length) ((M1++[.set (ju (ps.map mm))])++[.lst ((gR (ps.map mm)).map ao)]):=by
  unfold lz;dsimp only;rw[aE];dsimp only;rw[xm]
 unfold bQ;rw[bK];simp only[lT,List.replicate,bb,cM,ar,aw,az,ak,ah,aa,ae,bZ,cF];rw[jW ht];simp only[aa,ae,gY];rw[show fH [none,none] _=[none,none] from rfl,c];simp only[aa,ae];rw[show xY [.obj μ.length] (μ++[O.lst ((ps.map mm).map ao)])=_ from s1];simp only[aa,ae];rw[s2];simp only[aa,ae];rw[jV aE];simp only[aa,ae,Qm,QC,Ob l2,af,aU,M1,Qa];exact eG (iy (qc h0 hm hps))
theorem Km{μ0 μ1:aB}{i:Nat}{m q:Nat}{sh:Int}(hi:i<μ0.length)(h:Pn μ0 i μ1)(hq:q<m)(m6:m<=6)(s0:0<sh)(s1:sh<1000) :
  ∃(qs:List (Int×Int))(μ2:aB),(∀p∈qs,PP m p)/\qs.length<=q/\Pn μ0 i μ2/\μ2.length=μ1.length/\(∀j o,i≠j->μ1[j]?=some o->μ2[j]?=some o)/\compLoop (.fix (cm 0 q)) μ1.length (aq 0) dJ dM (cm 0 q) [none,some (.int q),some (.obj i),some (.int sh)] (μ1++[.lst []])=.ok (.obj μ1.length) (μ2++[.lst (qs.map jQ)]):=by
 have run:=jI (src:=.fix (cm 0 q)) (g:=aq 0) (t:=dJ) (e:=dM) (n:=μ1.length)
  (fun xs ys ρ μ2 s=>s=[]/\μ2.length=μ1.length/\Pn μ0 i μ2/\(∀j o,i≠j->μ1[j]?=some o->μ2[j]?=some o)/\(∃o,ρ=[o,some (.int q),some (.obj i),some (.int sh)])/\∃(lo n:Nat)(qs:List (Int×Int)),xs=cm lo n/\lo+n=q/\ys=qs.map jQ/\qs.length<=lo/\(∀p∈qs,PP m p))
  (fun ys ρ μ2 s ⟨_,e1,_⟩=>⟨e1,trivial⟩)
  (fun x r ys ρ μ2 s hJJ => by
   obtain⟨es,e1,e2,ek,⟨o,e4⟩,lo,n,qs,e5,e7,e8,e9,e10⟩:=hJJ;subst es e4 e8;cases n with
   |zero=>rw[og]at e5;cases e5
   |succ n=>
    rw[lE]at e5;injection e5 with ex er
    subst ex er;have i2:i<μ2.length:=Of hi e2.len;obtain⟨v,a,b,c,v0,v1,ed,hp⟩:=(e2.app (g:=[.lst (qs.map jQ)])).draw (m:=sh) hi s0 (by omega);rw[uE i2]at ed;refine⟨e1,trivial,[some (.int lo),some (.int q),some (.obj i),some (.int sh)],μ2,[],v == 0,μ2.set i (cv a b c),[],rfl,?_,fun hc=>?_,fun hc=>?_⟩
    ·unfold dJ;simp only[cB,aH,az,ar,aw,ak,ah,bc,aa,ae,ed,gy,Ql,Pp,aX]
    ·refine ⟨jQ ((lo : Int), (q : Int)), μ2.set i (cv a b c), [], ?_, ?_, by simpa using e1, rfl, by simpa using e1, e2.set hi, fun j o ne z => by rw [OA ne]; exact ek j o ne z, ⟨_, rfl⟩, lo + 1, n, qs ++ [((lo : Int), (q : Int))], by push_cast; rfl, by omega, by simp, by simp; omega, fun p hp => ?_⟩
     ·unfold dM;simp only[cM,ar,aw,ak,ah,aa,ae,Qm,QC,Ob l2];rfl
     ·rw[Pf];exact Of (show qs.length<1000 by omega) bL
     ·rcases Ou.mp hp with z | z
      ·exact e10 p z
      ·simp at z;subst z;exact⟨⟨by dsimp only;omega,by dsimp only;omega⟩,⟨by dsimp only;omega,by dsimp only;omega⟩,by dsimp only;omega⟩
    ·exact⟨rfl,by simpa using e1,e2.set hi,fun j o ne z=>by rw[OA ne];exact ek j o ne z,⟨_,rfl⟩,lo+1,n,qs,by push_cast;rfl,by omega,rfl,by omega,e10⟩)
  (xs:=cm 0 q) (ys:=[]) (ρ:=[none,some (.int q),some (.obj i),some (.int sh)]) (μ1:=μ1) (s:=[])
  ⟨rfl,rfl,h,fun _ _ _ z=>z,⟨_,rfl⟩,0,q,[],rfl,by omega,rfl,by simp,fun p hp=>by cases hp⟩
 obtain⟨ys',ρ',μ2,s',⟨es,e1,e2,ek,⟨o,e4⟩,lo,n,qs,e5,e7,e8,e9,e10⟩,run⟩:=run;subst es e8;exact⟨qs,μ2,e10,by omega,e2,e1,ek,run⟩
theorem Pn.put{μ0 M:aB}{i t:Nat}{o:O}(h:Pn μ0 i M)(ht:μ0.length<=t):Pn μ0 i (M.set t o):=by
 obtain⟨a,b,c,g,rfl⟩:=h;refine⟨a,b,c,g.set (t-μ0.length) o,?_⟩;rw[List.set_append_right _ _ (by simpa using ht)];simp
theorem Gw{M:aB}{t u:Nat}{xs ys:List D}(ht:M[t]?=some (.lst xs))(hu:M[u]?=some (.lst ys))(hl:xs.length+ys.length<=1000):iJ (.obj t) [.obj u] M=.ok .non (M.set t (.lst (xs++ys))):=by
 unfold iJ;dsimp only;rw[ht,hu];dsimp only;rw[Ob (Ol hl bL)]
theorem yg{M:aB}{t:Nat}{xs:List D}(h:M[t]?=some (.lst xs)):Bu (.obj t) M=true:=by
 unfold Bu;dsimp only;rw[h]
theorem wg{μ:aB}{i:Nat}{a b c:Int}(hp:μ[i]?=some (cv a b c)):∃m ks a' b' c',GW m ks/\bU [.obj i,.int 6] μ=.ok (aP m ks) (μ.set i (cv a' b' c')):=by
 have hi:i<μ.length:=(Ow.mp hp).1;obtain⟨v,a1,b1,c1,v0,v1,ed,P1⟩:=(Pn.self hp).draw (m:=6) hi (by decide) (by decide);obtain⟨m,em⟩:∃m:Nat,(1:Int)+v=(m:Int):=⟨(1+v).toNat,by omega⟩;obtain⟨s,a2,b2,c2,s0,s1,ed2,P2⟩:=P1.draw (m:=3) hi (by decide) (by decide);let M2:aB:=(μ.set i (cv a1 b1 c1)).set i (cv a2 b2 c2)
 have lM2:M2.length=μ.length:=by simp[M2]
 obtain⟨ρ',M',⟨n,cc,ps,o5,e1,e2,e3,e4,e5,e6,e7⟩,run⟩:=mU (src:=.fix (cm 0 m)) (g:=aq 5) (fb:=cV)
  (fun xs ρ M=>∃(n cc:Nat)(ps:List (Int×Int))(o5:Option D),xs=cm n cc/\n+cc=m/\ρ=[some (.obj i),some (.int 6),some (.int m),some (.int (2+s)),some (.obj M2.length),o5]/\Pn μ i M/\M[M2.length]?=some (.lst (ps.map jQ))/\ps.length<=6*n/\∀p∈ps,PP m p)
  (fun _ _ _=>trivial)
  (fun x xs ρ M hJJ => by
   obtain⟨n,cc,ps,o5,e1,e2,e3,e4,e5,e6,e7⟩:=hJJ;subst e3;cases cc with
   |zero=>rw[og]at e1;cases e1
   |succ cc=>
    rw[lE]at e1;injection e1 with ex er
    subst ex er;obtain⟨qs,M3,q1,q2,q3,q4,q5,q6⟩:=Km (m:=m) (q:=n) (sh:=2+s) hi e4 (by omega) (by omega) (by omega) (by omega);have t3:(M3++[O.lst (qs.map jQ)])[M2.length]?=some (.lst (ps.map jQ)):=aG (q5 _ _ (by omega) e5);have u3:(M3++[O.lst (qs.map jQ)])[M.length]?=some (.lst (qs.map jQ)):=by rw[<- q4];exact aE
    have ex:=Gw t3 u3 (by rw[Pf,Pf];omega);refine⟨trivial,_,_,[some (.obj i),some (.int 6),some (.int m),some (.int (2+s)),some (.obj M2.length),some (.int n)],(M3++[O.lst (qs.map jQ)]).set M2.length (.lst (ps.map jQ++qs.map jQ)),rfl,?_,n+1,cc,ps++qs,some (.int n),by push_cast;rfl,by omega,rfl,(q3.app).put (by omega),?_,by rw[Pe];omega,fun p hp=>?_⟩
    ·show cV [some (.obj i),some (.int 6),some (.int m),some (.int (2+s)),some (.obj M2.length),some (.int n)] M=_;unfold cV;simp only[mV,vT,ak,ah,aa,ae,yg e5,Pq,ar,aw,bZ,ic];rw[jX (by omega) (by omega)];simp only[aa,ae,bo,Pm];rw[show fH [none,some 5,some 0,some 3] [some (D.obj i),some (D.int 6),some (D.int m),some (D.int (2+s)),some (D.obj M2.length),some (D.int n)]=[none,some (.int n),some (.obj i),some (.int (2+s))] from rfl,q6];simp only[aa,ae,ex,af]
    ·rw[ia (by have:=(Ow.mp t3).1;exact this),QR]
    ·rcases Ou.mp hp with z | z
     ·exact e7 p z
     ·exact q1 p z)
  (xs:=cm 0 m) (ρ:=[some (.obj i),some (.int 6),some (.int m),some (.int (2+s)),some (.obj M2.length),none]) (μ:=M2++[.lst []])
  ⟨0,m,[],none,rfl,by omega,rfl,P2.app,aE,by simp,fun p hp=>by cases hp⟩
 have hz:=wu e1.symm;subst hz e3;have hg:GW m (gR (ps.map mm)):=qc (by omega) (by omega) e7;obtain⟨a7,b7,c7,hgc⟩:=e4.gc (iy hg);refine⟨m,_,a7,b7,c7,hg,?_⟩;unfold bU;rw[bK];simp only[jP,List.replicate];rw[aF,aQ];simp only[aH,bc,az,ar,aw,ah,ak,aa,ae,ed,ig,em,af,bp,aC,SG,SH];rw[aF,aQ];simp only[aH,bc,az,ar,aw,ah,ak,aa,ae,ed2,ig,af,bp,aC,SG,SH];rw[aF,aQ];simp only[eK,aw,aa,ae,QC,Ob (Qv sizeLine),af,bp,aC,SG,SH];rw[aF,l6];simp only[ic,ar,aw,ak,ah,aa,ae];rw[jX (by omega) (by omega)];simp only[af,ae,bo,Pm];rw[show iB (.fix (cm 0 m)) (aq 5) cV (cm 0 m) [some (.obj i),some (.int 6),some (.int m),some (.int (2+s)),some (.obj M2.length),none] (M2++[O.lst []])=_ from run];simp only[aC,bb,az,ar,aw,ak,ah,aa,ae,oa (show 1<=m by omega) (by omega) (by omega) e5 e7,af,aU];exact hgc
def pG(k:List Int):Int×Int:=(k.getD 0 0,k.getD 1 0)
def Ah(p:Int)(k:List Int):Bool:=decide (p=(pG k).1) || decide (p=(pG k).2)
def fJ(ks:List (List Int))(p:Int):List Int:=(ks.filter (Ah p)).map fun k=>(pG k).1+(pG k).2-p
def i9(l:List Int)(x:Int):List (Int×Int):=(l.filter fun y=>decide (x<y)).map fun y=>(x,y)
def By(m:Nat)(ks:List (List Int)):List (Int×Int):=ks.map pG++(rg m).flatMap fun p=>(fJ ks p).flatMap (i9 (fJ ks p))
theorem D1{M:aB}{t u:Nat}{xs ys:List D}(ht:M[t]?=some (.lst xs))(hu:M[u]?=some (.lst ys))(hl:xs.length+ys.length<=100000):iJ (.obj t) [.obj u] M=.ok .non (M.set t (.lst (xs++ys))):=by
 unfold iJ;dsimp only;rw[ht,hu];dsimp only;rw[Ob (Ol hl Cd)]
theorem J1{μ:aB}{p a b:Int}:sr false (.int p) (.tup [.int a,.int b]) μ=.ok (.bl (decide (p=a) || decide (p=b))) μ:=by
 show aj.ok (D.bl ((a == p) || ((b == p) || false))) μ=_;congr 2;rw[Bool.or_false];congr 1
 ·apply OV.mpr;rw[R9,Sd];exact eq_comm
 ·apply OV.mpr;rw[R9,Sd];exact eq_comm
section
variable{m:Nat}{ks:List (List Int)}
theorem wH(h:GW m ks){p:Int}:(fJ ks p).length<=15:=by
 have:=cK h;unfold fJ;rw[Pf];exact Ol (SJ _ _) this
theorem jF(h:GW m ks){p x:Int}:x∈fJ ks p↔mB ks p x:=by
 rw[jh h.2.2.2.2];unfold fJ;rw[QJ];constructor
 ·rintro ⟨k, hk, rfl⟩
  obtain⟨h1,h2⟩:=Oi.mp hk;obtain⟨a,b,rfl,_⟩:=h.2.2.2.2 k h1;have h3:p=a\/p=b:=by simpa[Ah,pG] using h2
  rcases h3 with rfl|rfl
  ·left;rw[show (pG [p,b]).1+(pG [p,b]).2-p=b from by show p+b-p=b;omega];exact h1
  ·right;rw[show (pG [a,p]).1+(pG [a,p]).2-p=a from by show a+p-p=a;omega];exact h1
 ·rintro (h1 | h1)
  ·exact⟨[p,x],Oi.mpr ⟨h1,by simp[Ah,pG]⟩,by show p+x-p=x;omega⟩
  ·exact⟨[x,p],Oi.mpr ⟨h1,by simp[Ah,pG]⟩,by show x+p-p=x;omega⟩
theorem E5{μ:aB}{p:Int}(h:GW m ks):eS [aP m ks,.int p] μ=.ok (.obj μ.length) (μ++[.lst ((fJ ks p).map D.int)]):=by
 have n2:0+1+1<=sizeLine:=l2
 have c:=dv (U:=List Int) (en:=ao) (src:=.fix (ks.map ao)) (g:=fu 2 (br (aq 0) (br (aq 1) (fv)))) (t:=g9) (e:=hZ) (μ1:=μ) (q:=Ah p) (h:=fun k=>.int ((pG k).1+(pG k).2-p)) (fun ρ=>∃o o',ρ=[o,o',some (.int p)]) (fun _=>trivial) (us:=ks) (acc:=[]) (ρ:=[none,none,some (.int p)]) ⟨_,_,rfl⟩
  (by rw[QC];have:=cK h;exact Ol (by omega) bL)
  (fun k hk a ρ hJJ => by
   obtain⟨o,o',e⟩:=hJJ;subst e;obtain⟨x,y,rfl,_⟩:=h.2.2.2.2 k hk;refine⟨[some (.int x),some (.int y),some (.int p)],⟨_,_,rfl⟩,rfl,?_,fun _=>?_⟩
   ·unfold g9;simp only[cB,aH,cM,ar,aw,ak,ah,aa,ae,Qm,QC,Ob n2,J1,aX];rfl
   ·unfold hZ;simp only[aH,ak,ah,aa,ae,ig]
    rfl)
 rw[Qg,show (ks.filter (Ah p)).map (fun k=>D.int ((pG k).1+(pG k).2-p))=(fJ ks p).map D.int from by unfold fJ;rw[Qy];rfl]at c;unfold eS;rw[bK];simp only[ll,List.replicate,bb,bZ,cF,aH,ah,bc,aa,ae,d4,fS,bo];rw[show fH [none,none,some 1] _=[none,none,some (.int p)] from rfl,c];simp only[af,ae,aU];exact zk (by simp)
theorem EL{M:aB}{N:Nat}{l:List Int}{x:Int}(hN:M[N]?=some (.lst (l.map D.int)))(hl:l.length<=15):compLoop (.own N (l.map D.int)) M.length (aq 0) d5 d8 (l.map D.int) [none,some (.int x)] (M++[.lst []])=.ok (.obj M.length) (M++[.lst ((i9 l x).map jQ)]):=by
 have c:=dv (U:=Int) (en:=D.int) (src:=.own N (l.map D.int)) (g:=aq 0) (t:=d5) (e:=d8) (μ1:=M) (q:=fun y=>decide (x<y)) (h:=fun y=>jQ (x,y)) (fun ρ=>∃o,ρ=[o,some (.int x)]) (fun _=>aG hN) (us:=l) (acc:=[]) (ρ:=[none,some (.int x)]) ⟨_,rfl⟩
  (by rw[QC];exact Ol (by omega) bL)
  (fun y hy a ρ hJJ => by
   obtain⟨o,e⟩:=hJJ;subst e;refine⟨[some (.int y),some (.int x)],⟨_,rfl⟩,rfl,?_,fun _=>?_⟩
   ·unfold d5;simp only[cB,aH,ak,ah,aa,ae,ie,aX];rfl
   ·unfold d8;simp only[cM,ar,aw,ak,ah,aa,ae,Qm,QC,Ob l2]
    rfl)
 rw[Qg,show (l.filter fun y=>decide (x<y)).map (fun y=>jQ (x,y))=(i9 l x).map jQ from by unfold i9;rw[Qy];rfl]at c;exact c
theorem qZ{l:List Int}{x:Int}:(i9 l x).length<=l.length:=by
 unfold i9;rw[Pf];exact SJ _ _
theorem ql{α β:Type}{f:α->List β}{k:Nat}(h:∀x,(f x).length<=k):∀l:List α,(l.flatMap f).length<=l.length*k
 |[]=>by simp
 |w::l=>by
  rw[SM,Pe,Qm,Qf];have:=h w;have:=ql h l;omega
theorem Ca{M:aB}{T N:Nat}{ps:List (Int×Int)}{l:List Int}{o0 o2:Option D}(hT:M[T]?=some (.lst (ps.map jQ)))(hN:M[N]?=some (.lst (l.map D.int)))(ne:T≠N)(hl:l.length<=15)(hp:ps.length<=10000):∀(xs:List Int)(dn:List Int)(M1:aB)(o4:Option D),l=dn++xs->M1[T]?=some (.lst ((ps++dn.flatMap (i9 l)).map jQ))->(∀j o,T≠j->M[j]?=some o->M1[j]?=some o) ->
  ∃(M2:aB)(o4':Option D),iB (.own N (l.map D.int)) (aq 4) d7 (xs.map D.int) [o0,some (.obj T),o2,some (.obj N),o4] M1=.next [o0,some (.obj T),o2,some (.obj N),o4'] M2/\M2[T]?=some (.lst ((ps++l.flatMap (i9 l)).map jQ))/\(∀j o,T≠j->M[j]?=some o->M2[j]?=some o)
 |[],dn,M1,o4,e,h1,h2=>by
  rw[OY]at e;subst e;refine⟨M1,o4,?_,h1,h2⟩;rw[PL];unfold iB;rw[Ob (show eD (.own N _) M1 from h2 N _ ne hN)]
 |x::xs,dn,M1,o4,e,h1,h2=>by
  have hN1:=h2 N _ ne hN;have c:=EL (M:=M1) (x:=x) hN1 hl
  have fl:(dn.flatMap (i9 l)).length<=15*15:=by
   have h3:=ql (f:=i9 l) (k:=15) (fun y=>Ol qZ hl) dn;have h4:dn.length<=15:=by have:=OE List.length e;simp at this;omega
   exact Ol h3 (SX 15 h4)
  have rl:(i9 l x).length<=15:=Ol qZ hl;have ex:=D1 (M:=M1++[.lst ((i9 l x).map jQ)]) (aG h1) aE (by rw[Pf,Pf,Pe];omega);have tl:T<M1.length:=(Ow.mp h1).1
  obtain⟨M2,o4',r1,r2,r3⟩:=Ca (o0:=o0) (o2:=o2) hT hN ne hl hp xs (dn++[x]) ((M1++[O.lst ((i9 l x).map jQ)]).set T (.lst ((ps++dn.flatMap (i9 l)).map jQ++(i9 l x).map jQ))) (some (.int x)) (by rw[e];simp)
   (by rw[ia (by rw[Pe];omega),SL,SM,SN,OY,<- Qa,QR (l₂:=i9 l x)])
   (fun j o nj z=>by rw[OA nj];exact aG (h2 j o nj z))
  refine⟨M2,o4',?_,r2,r3⟩;rw[PM];unfold iB;rw[Ob (show eD (.own N _) M1 from hN1)];simp only[bp,af,ae,SG,SH]
  rw[show d7 [o0,some (.obj T),o2,some (.obj N),some (.int x)] M1=.next [o0,some (.obj T),o2,some (.obj N),some (.int x)] ((M1++[O.lst ((i9 l x).map jQ)]).set T (.lst ((ps++dn.flatMap (i9 l)).map jQ++(i9 l x).map jQ))) from by
   unfold d7;simp only[mV,vT,ak,ah,aa,ae,yg h1,Pq,ar,aw,bZ,cF];rw[jW hN1];simp only[aa,ae,gY];rw[show fH [none,some 4] [o0,some (D.obj T),o2,some (D.obj N),some (D.int x)]=[none,some (.int x)] from rfl,c]
   simp only[aa,ae,ex,af]]
  exact r1
end
end Lw
namespace Lw
open PySem L2 RS Lv
section
variable{m:Nat}{ks:List (List Int)}
def sP(ks:List (List Int))(l:List Int):List (Int×Int):=l.flatMap fun p=>(fJ ks p).flatMap (i9 (fJ ks p))
theorem AU(h:GW m ks){p:Int}:((fJ ks p).flatMap (i9 (fJ ks p))).length<=225:=by
 have hl:=wH h (p:=p);have h3:=ql (f:=i9 (fJ ks p)) (k:=15) (fun y=>Ol qZ hl) (fJ ks p);exact Ol h3 (SX 15 hl)
theorem wC(h:GW m ks)(l:List Int):(sP ks l).length<=l.length*225:=ql (fun p=>AU h) l
theorem zt{T:Nat}{μ:aB}(h:GW m ks):∀(xs dn:List Int)(M:aB)(o2 o3 o4:Option D),dn.length+xs.length<=6->M[T]?=some (.lst ((ks.map pG++sP ks dn).map jQ))->μ.length<=T->(∀j,j<μ.length->M[j]?=μ[j]?) ->
  ∃(M':aB)(o2' o3' o4':Option D),iB (.fix ((rg m).map D.int)) (aq 2) d6 (xs.map D.int) [some (aP m ks),some (.obj T),o2,o3,o4] M=.next [some (aP m ks),some (.obj T),o2',o3',o4'] M'/\M'[T]?=some (.lst ((ks.map pG++sP ks (dn++xs)).map jQ))/\(∀j,j<μ.length->M'[j]?=μ[j]?)
 |[],dn,M,o2,o3,o4,hl,hT,hμ,hk=>by
  refine⟨M,o2,o3,o4,?_,by rw[OY];exact hT,hk⟩;rw[PL];unfold iB;rw[Ob (show eD (.fix _) M from trivial)]
 |p::xs,dn,M,o2,o3,o4,hl,hT,hμ,hk=>by
  have nl:=wH h (p:=p);have pl:=wC h dn;have kl:=cK h;simp only[Qm]at hl;have tl:T<M.length:=(Ow.mp hT).1
  obtain⟨M2,o4',r1,r2,r3⟩:=Ca (M:=M++[.lst ((fJ ks p).map D.int)]) (T:=T) (N:=M.length) (ps:=ks.map pG++sP ks dn) (l:=fJ ks p) (o0:=some (aP m ks)) (o2:=some (.int p)) (aG hT) aE (by omega) nl
   (by
    rw[Pe,Pf];have:dn.length*225<=6*225:=SX 225 (by omega)
    omega) (fJ ks p) [] (M++[.lst ((fJ ks p).map D.int)]) o4 rfl (by rw[SN,OY];exact aG hT) (fun _ _ _ z=>z)
  obtain⟨M',o2',o3',o4'',q1,q2,q3⟩:=zt h xs (dn++[p]) M2 (some (.int p)) (some (.obj M.length)) o4' (by rw[Pe];simp only[Qm,QC];omega)
   (by rw [r2]; unfold sP; rw [SL, SM, SN, OY, Qa]) hμ (fun j hj => by
    have hj':j<M.length:=by
     have:j<T:=by omega
     omega
    rw[r3 j M[j] (by omega) (by rw[O9 hj',RZ hj']),<- hk j hj,RZ hj'])
  refine⟨M',o2',o3',o4'',?_,by rw[q2,Qa];rfl,q3⟩;rw[PM];unfold iB;rw[Ob (show eD (.fix _) M from trivial)];simp only[bp,af,ae,SG,SH]
  rw[show d6 [some (aP m ks),some (.obj T),some (.int p),o3,o4] M=.next [some (aP m ks),some (.obj T),some (.int p),some (.obj M.length),o4'] M2 from by
   unfold d6;rw[aF,aQ];simp only[az,ar,aw,ak,ah,aa,ae,E5 h,af,bp,aC,SG,SH];rw[l6];simp only[cF,ak,ah,aa,ae];rw[jW (show (M++[O.lst ((fJ ks p).map D.int)])[M.length]?=some (.lst ((fJ ks p).map D.int)) from aE)];simp only[af,ae,gY]
   exact r1]
  exact q1
theorem ue(h:GW m ks):∀p∈By m ks,PP m p:=fun p hp=>by
 rcases Ou.mp hp with z|z
 ·obtain⟨k,hk,rfl⟩:=QJ.mp z;obtain⟨a,b,rfl,h1,h2,h3⟩:=h.2.2.2.2 k hk;exact⟨⟨h1,by show a<(m:Int);omega⟩,⟨by show 0<=b;omega,h3⟩,by show a≠b;omega⟩
 ·obtain⟨q,hq,z⟩:=SI.mp z;obtain⟨x,hx,z⟩:=SI.mp z;obtain⟨y,hy,rfl⟩:=QJ.mp z;obtain⟨hy,hxy⟩:=Oi.mp hy;have ax:=HC h ((jF h).mp hx);have ay:=HC h ((jF h).mp hy);have:=SR hxy;exact⟨ax.2,ay.2,by dsimp only;omega⟩
theorem HR(h:GW m ks):gR ((By m ks).map mm)=js m ks 2:=by
 have m0:=h.m0;have m6:=h.m6;refine wX (qc m0 m6 (ue h)) (eX m0 m6) fun a b=>?_;rw[Da m6 (ue h),ya m6];constructor
 ·rintro ⟨p, hp, e⟩
  have pp:=ue h p hp;unfold mm at e;simp only[SU,and_true]at e;have hab:0<=a/\a<b/\b<(m:Int):=by obtain⟨⟨_,_⟩,⟨_,_⟩,_⟩:=pp;omega
  refine⟨hab.1,hab.2.1,hab.2.2,?_⟩
  have key:mB ks p.1 p.2\/∃q,mB ks p.1 q/\mB ks q p.2:=by
   rcases Ou.mp hp with z|z
   ·obtain⟨k,hk,rfl⟩:=QJ.mp z;obtain⟨x,y,rfl,_⟩:=h.2.2.2.2 k hk;exact .inl ((jh h.2.2.2.2).mpr (.inl hk))
   ·obtain⟨q,hq,z⟩:=SI.mp z;obtain⟨x,hx,z⟩:=SI.mp z;obtain⟨y,hy,rfl⟩:=QJ.mp z;exact .inr ⟨q,HB h ((jF h).mp hx),(jF h).mp (Oi.mp hy).1⟩
  have r:R (mB ks) p.1 2 p.2:=by
   rcases key with k|⟨q,k1,k2⟩
   ·exact(R.one k).mono (by decide)
   ·exact(R.one k1).add (R.one k2)
  by_cases c:p.1<=p.2
  ·have e1 : a = p.1 := by omega
   have e2:b=p.2:=by omega
   rw[e1,e2];exact r
  ·have e1 : a = p.2 := by omega
   have e2:b=p.1:=by omega
   rw[e1,e2];exact r.rev fun x y z=>HB h z
 ·rintro ⟨h1, h2, h3, r⟩
  obtain⟨c,r1,r2⟩:=uU (n:=1) (k:=1) r
  have st:∀{x y:Int},R (mB ks) x 1 y->y=x\/mB ks x y:=fun {x y} z=>by
   rcases z with z|⟨t,z1,z2⟩
   ·exact .inl z
   ·have:t=x:=z2;subst this;exact .inr z1
  have one:mB ks a b->∃p∈By m ks,mm p=[a,b]:=fun z=>by
   have hk:[a,b]∈ks:=by
    rcases (jh h.2.2.2.2).mp z with z|z
    ·exact z
    ·obtain⟨x,y,e,_⟩:=h.2.2.2.2 _ z;simp only[SU,and_true]at e;omega
   refine⟨(a,b),Ov _ (QJ.mpr ⟨[a,b],hk,rfl⟩),?_⟩;unfold mm;rw[Int.min_eq_left (by dsimp only;omega),Int.max_eq_right (by dsimp only;omega)]
  rcases st r1 with rfl|k1
  ·rcases st r2 with rfl | k2
   ·omega
   ·exact one k2
  ·rcases st r2 with rfl | k2
   ·exact one k1
   ·have hc:=(HC h k1).2;refine⟨(a,b),OU _ (SI.mpr ⟨c,JG.mpr hc,SI.mpr ⟨a,(jF h).mpr (HB h k1),QJ.mpr ⟨b,Oi.mpr ⟨(jF h).mpr k2,Qi h2⟩,rfl⟩⟩⟩),?_⟩;unfold mm;rw[Int.min_eq_left (by dsimp only;omega),Int.max_eq_right (by dsimp only;omega)]
theorem mP{μ:aB}(h:GW m ks):bJ [aP m ks] μ=.ok (aP m (js m ks 2)) μ:=by
 have m0:=h.m0;have m6:=h.m6;have kl:=cK h
 have e0:ks.map ao=(ks.map pG).map jQ:=by
  rw[Qy];apply QA;intro k hk;obtain⟨a,b,rfl,_⟩:=h.2.2.2.2 k hk;rfl
 obtain⟨M',o2,o3,o4,run,hT,hk⟩:=zt (T:=μ.length) (μ:=μ) h (rg m) [] (μ++[.lst (ks.map ao)]) none none none (by rw[Co];simpa using m6) (by rw[e0];show _=some (O.lst ((ks.map pG++[]).map jQ));rw[OY];exact aE) (OR _) (fun j hj=>O9 hj);rw[Qg]at hT
 obtain⟨g,hpre⟩:∃g,M'=μ++g:=by
  refine⟨M'.drop μ.length,?_⟩;apply RK;intro i;by_cases hi:i<μ.length
  ·rw[O9 hi,hk i hi]
  ·rw[O7 (by omega),QW];congr 1;omega
 have hr:∀μ,lX [.int (m:Int)] μ=.ok (.fix ((rg m).map D.int)) μ:=fun μ=>by rw[jX (by omega) (by omega),IL]
 have wo:=oa (μ:=M') m0 m6 (ps:=By m ks) (by
  unfold By;rw[Pe,Pf];have:=wC h (rg m);unfold sP at this;rw[Co]at this;have h2:m*225<=6*225:=SX 225 m6
  omega) hT (ue h)
 rw[HR h]at wo;unfold bJ;rw[fE];simp only[kr,List.replicate];rw[aF,aQ];simp only[az,ar,aw,aH,ah,bc,aa,ae,d4];rw[show mL [.tup (ks.map ao)] μ=.ok (.obj μ.length) (μ++[.lst (ks.map ao)]) from rfl];simp only[af,ae,bp,aC,SG,SH];rw[aF,l6];simp only[ic,ar,aw,aH,ah,bc,aa,ae,cW,hr,af,bo];rw[run];simp only[aC,bb,az,ar,aw,aH,ak,ah,bc,aa,ae,cW,wo,af,aU];rw[hpre];exact eG (iy (eX m0 m6))
end
end Lw
namespace Lw
open PySem L2 RS Lv
theorem tJ{μ:aB}{m:Int}{ks:List (List Int)}{a b:Int}(hk:∀k∈ks,gp m k):sr true (.tup [.int a,.int b]) (.tup (ks.map ao)) μ=.ok (.bl (!decide ([a,b]∈ks))) μ:=by
 have e:=wV (μ:=μ) (a:=a) (b:=b) hk;unfold sr at e⊢;split at e
 ·split at e
  ·split at e
   ·rename_i hf;rw[Ob hf,Ob rfl];rw[Oc OK]at e;injection e with e1
    injection e1 with e2
    rw[e2]
   ·cases e
  ·cases e
 ·cases e
theorem F6{μ:aB}{a b c d:Int}:iA true (.tup [.int a,.int b]) (.tup [.int c,.int d]) μ=.ok (.bl (!(decide (a=c)&&decide (b=d)))) μ:=by
 show aj.ok (D.bl (!((a == c)&&((b == d)&&true)))) μ=_;congr 3;rw[SS];rfl
section
variable{m:Nat}{ks:List (List Int)}
theorem Ip{μ:aB}{i:Nat}{a b c:Int}(hp:μ[i]?=some (cv a b c)):∃m ks a' b' c',GW m ks/\cT [.obj i,.int 6] μ=.ok (aP m ks) (μ.set i (cv a' b' c')):=by
 have hi:i<μ.length:=(Ow.mp hp).1;obtain⟨m,ks,a1,b1,c1,h,ed⟩:=wg hp;have m0:=h.m0;have m6:=h.m6;let M1:aB:=μ.set i (cv a1 b1 c1)
 have P1:Pn μ i M1:=(Pn.self hp).set hi;obtain⟨w,a2,b2,c2,w0,w1,ew,P2⟩:=P1.draw (m:=4) hi (by decide) (by decide);let M2:aB:=M1.set i (cv a2 b2 c2)
 have ed':bU [.obj i,.int 6] μ=.ok (aP m ks) M1:=ed;have ew':aR [.obj i,.int 4] M1=.ok (.int w) M2:=ew;have hg:=eX (k:=2) (ks:=ks) m0 m6;by_cases z0:w=0
 ·obtain⟨a7,b7,c7,hgc⟩:=P2.gc (iy h);refine⟨m,ks,a7,b7,c7,h,?_⟩;unfold cT;rw[bK];simp only[gN,List.replicate];rw[aF,aQ];simp only[az,ar,aw,ak,ah,aa,ae,ed',af,bp,aC,SG,SH];rw[aF,aQ];simp only[az,ar,aw,ak,ah,bc,aa,ae,ew',af,bp,aC,SG,SH];rw[aF,bW];simp only[cB,aH,ak,ah,bc,aa,ae,gy,Ql,Pp,aX,af];rw[show (w == 0)=true from by rw[R9];exact z0];simp only[Pq,bb,ak,ah,af,ae,qN,aU];exact hgc
 ·by_cases z3 : w = 3 /\ 1 < m
  ·
   obtain⟨u,a3,b3,c3,u0,u1,eu,P3⟩:=P2.draw (m:=(m:Int)-1) hi (by omega) (by omega);obtain⟨v,a4,b4,c4,v0,v1,ev',P4⟩:=P3.draw (m:=(m:Int)-1-u) hi (by omega) (by omega);let M4:aB:=(M2.set i (cv a3 b3 c3)).set i (cv a4 b4 c4)
   let y:Int:=u+1+v
   let ls:List (List Int):=(js m ks 2).filter fun k=>!(decide (k.getD 0 0=u)&&decide (k.getD 1 0=y))
   have cc:=dv (U:=List Int) (en:=ao) (src:=.fix ((js m ks 2).map ao)) (g:=aq 0) (t:=fm) (e:=fq) (μ1:=M4) (q:=fun k=>!(decide (k.getD 0 0=u)&&decide (k.getD 1 0=y))) (h:=ao) (fun ρ=>∃o,ρ=[o,some (.tup [.int u,.int y])]) (fun _=>trivial) (us:=js m ks 2) (acc:=[]) (ρ:=[none,some (.tup [.int u,.int y])]) ⟨_,rfl⟩
    (by rw[QC];have:=cK hg;exact Ol (by omega) bL)
    (fun k hk a ρ hJJ => by
     obtain⟨o,e⟩:=hJJ;subst e;obtain⟨x,z,rfl,_⟩:=hg.2.2.2.2 k hk;refine⟨[some (ao [x,z]),some (.tup [.int u,.int y])],⟨_,rfl⟩,rfl,?_,fun _=>by unfold fq;rw[ah]⟩;unfold fm;simp only[cB,aH,ak,ah,aa,ae];rw[show iA true (ao [x,z]) (.tup [.int u,.int y]) (M4++[O.lst a])=_ from F6];simp only[aa,ae,aX]
     rfl)
   rw[Qg]at cc;let ps:List (Int×Int):=ls.map pG++(if ([u,y]∈js m ks 2) then [] else [(u,y)])
   have pp:∀p∈ps,PP m p:=by
    intro p hp;rcases Ou.mp hp with z|z
    ·obtain⟨k,hk,rfl⟩:=QJ.mp z;obtain⟨x,y',rfl,h1,h2,h3⟩:=hg.2.2.2.2 k (Oi.mp hk).1;exact⟨⟨h1,by show x<(m:Int);omega⟩,⟨by show 0<=y';omega,h3⟩,by show x≠y';omega⟩
    ·split at z
     ·cases z
     ·rw[Qw.mp z];exact⟨⟨u0,by show u<(m:Int);omega⟩,⟨by show 0<=u+1+v;omega,by show u+1+v<(m:Int);omega⟩,by show u≠u+1+v;omega⟩
   have e0:ls.map ao=(ls.map pG).map jQ:=by
    rw[Qy];apply QA;intro k hk;obtain⟨x,z,rfl,_⟩:=hg.2.2.2.2 k (Oi.mp hk).1;rfl
   have lsl:ls.length<=15:=Ol (SJ _ _) (cK hg);let M6:aB:=M4++[O.lst (ps.map jQ)]
   have psl:ps.length<=100000:=by
    simp only[ps,Pe,Pf];split <;> simp only[Qm,QC] <;> omega
   have wo:=oa (μ:=M6) (t:=M4.length) m0 m6 psl aE pp;have gw:=qc m0 m6 pp;obtain⟨a7,b7,c7,hgc⟩:=(P4.app (g:=[O.lst (ps.map jQ)])).gc (iy gw);refine⟨m,_,a7,b7,c7,gw,?_⟩;have n2:0+1+1<=sizeLine:=l2;unfold cT;rw[bK];simp only[gN,List.replicate];rw[aF,aQ];simp only[az,ar,aw,ak,ah,aa,ae,ed',af,bp,aC,SG,SH];rw[aF,aQ];simp only[az,ar,aw,ak,ah,bc,aa,ae,ew',af,bp,aC,SG,SH];rw[aF,bW];simp only[cB,aH,ak,ah,bc,aa,ae,gy,Ql,Pp,aX,af];rw[show (w == 0)=false from by rw[N9];exact z0];simp only[Ql,Pp,bY,aC];rw[aF,aQ];simp only[az,ar,aw,ak,ah,aa,ae,mP h,af,bp,aC,SG,SH];rw[aF,bW];simp only[mW,cB,aH,ak,ah,bc,aa,ae,gy,Ql,Pp,aX,cW,ie];rw[show (w == 3)=true from by rw[R9];exact z3.1,Ob rfl,show cL .Gt (m:Int) 1=true from Qi (by have:=z3.2;show (1:Int)<m;omega)];simp only[af,ae,Pq];rw[aF,aQ];simp only[az,ar,aw,aH,ak,ah,bc,aa,ae,cW];rw[show jA (.int m) (.int 1) M2=.ok (.int ((m:Int)-1)) M2 from rfl];simp only[aa,ae];rw[show aR [.obj i,.int ((m:Int)-1)] M2=.ok (.int u) (M2.set i (cv a3 b3 c3)) from eu];simp only[af,ae,bp,aC,SG,SH];rw[aF,aQ];simp only[cM,az,ar,aw,aH,ak,ah,bc,aa,ae,cW,ig];rw[show jA (.int m) (.int 1) (M2.set i (cv a3 b3 c3))=.ok (.int ((m:Int)-1)) (M2.set i (cv a3 b3 c3)) from rfl];simp only[aa,ae];rw[show jA (.int ((m:Int)-1)) (.int u) (M2.set i (cv a3 b3 c3))=.ok (.int ((m:Int)-1-u)) (M2.set i (cv a3 b3 c3)) from rfl];simp only[aa,ae];rw[show aR [.obj i,.int ((m:Int)-1-u)] (M2.set i (cv a3 b3 c3))=.ok (.int v) M4 from ev'];simp only[aa,ae,ig,Qm,QC,Ob n2,af,bp,aC,SG,SH];rw[aF,aQ];simp only[bZ,cF,aH,ak,ah,bc,aa,ae,d4,fS,bo];rw[show fH [none,some 5] [some (D.obj i),some (D.int 6),some (aP m (js m ks 2)),some (D.int w),some (D.int u),some (D.tup [D.int u,D.int (u+1+v)]),none]=[none,some (.tup [.int u,.int y])] from rfl];rw[show compLoop (.fix ((js m ks 2).map ao)) M4.length (aq 0) fm fq ((js m ks 2).map ao) [none,some (.tup [.int u,.int y])] (M4++[O.lst []])=.ok (.obj M4.length) (M4++[O.lst (ls.map ao)]) from cc];simp only[af,ae,bp,aC,SG,SH];rw[aF,bW];simp only[cB,aH,ak,ah,bc,aa,ae,d4];rw[show sr true (.tup [.int u,.int (u+1+v)]) (.tup ((js m ks 2).map ao)) (M4++[O.lst (ls.map ao)])=_ from tJ hg.2.2.2.2];simp only[aa,ae,aX,af];by_cases hc:[u,u+1+v]∈js m ks 2
   ·rw [Qi hc];simp only[Q8,Ql,Pp,bY,aC];have ep:ps=ls.map pG:=by simp only[ps,y];rw[Ob hc,OY]
    rw[aQ];simp only[az,ar,aw,aH,ak,ah,bc,aa,ae,cW];rw[show bQ [.int m,.obj M4.length] (M4++[O.lst (ls.map ao)])=.ok (aP m (gR (ps.map mm))) (M4++[O.lst (ps.map jQ)]) from by rw[e0,<- ep];exact wo];simp only[af,ae,bp,aC,SG,SH,bb,ak,ah,aU];exact hgc
   ·rw [N8 hc];simp only[Rj,Pq];have ep:ps=ls.map pG++[(u,u+1+v)]:=by simp only[ps,y];rw[Oc hc]
    rw[mV,vT];simp only[ak,ah,aa,ae];rw[yg (show (M4++[O.lst (ls.map ao)])[M4.length]?=some (.lst (ls.map ao)) from aE),Ob rfl];simp only[ar,aw,ak,ah,aa,ae]
    rw[show lC (.obj M4.length) [.tup [.int u,.int (u+1+v)]] (M4++[O.lst (ls.map ao)])=.ok .non (M4++[O.lst (ps.map jQ)]) from by
     unfold lC;dsimp only;rw[aE];dsimp only;rw[Ob (by rw[Pf];exact Of (show ls.length<1000 by omega) bL),qY,e0,ep,QR]
     rfl]
    simp only[af,ae,aC];rw[aQ];simp only[az,ar,aw,aH,ak,ah,bc,aa,ae,cW];rw[show bQ [.int m,.obj M4.length] (M4++[O.lst (ps.map jQ)])=.ok (aP m (gR (ps.map mm))) (M4++[O.lst (ps.map jQ)]) from wo];simp only[af,ae,bp,aC,SG,SH,bb,ak,ah,aU];exact hgc
  ·obtain ⟨a7, b7, c7, hgc⟩ := P2.gc (iy hg);refine⟨m,_,a7,b7,c7,hg,?_⟩;unfold cT;rw[bK];simp only[gN,List.replicate];rw[aF,aQ];simp only[az,ar,aw,ak,ah,aa,ae,ed',af,bp,aC,SG,SH];rw[aF,aQ];simp only[az,ar,aw,ak,ah,bc,aa,ae,ew',af,bp,aC,SG,SH];rw[aF,bW];simp only[cB,aH,ak,ah,bc,aa,ae,gy,Ql,Pp,aX,af];rw[show (w == 0)=false from by rw[N9];exact z0];simp only[Ql,Pp,bY,aC];rw[aF,aQ];simp only[az,ar,aw,ak,ah,aa,ae,mP h,af,bp,aC,SG,SH];rw[aF,bW];simp only[mW,cB,aH,ak,ah,bc,aa,ae,gy,Ql,Pp,aX,cW,ie];by_cases c3:w=3
   ·rw[show (w == 3)=true from by rw[R9];exact c3,Ob rfl,show cL .Gt (m:Int) 1=false from N8 (by show ¬ (1:Int)<m;intro z;exact z3 ⟨c3,by omega⟩)];simp only[af,ae,Ql,Pp,bY,aC,bb,ak,ah,aU];exact hgc
   ·rw[show (w == 3)=false from by rw[N9];exact c3];simp only[Ql,Pp,af,ae,bY,aC,bb,ak,ah,aU];exact hgc
end
def MD(w:Nat)(q:PyData):Prop:=q.showable=true/\q.leavesShort 40=true/\q.weight<=w/\q.hasDict=false
def GT(T:aB->Prop)(n w:Nat)(d:D):Prop:=(∃q,(∀μ,T μ->xN μ n d=some q)/\MD w q/\q.depth<=n)/\∀μ,T μ->Kn μ d
theorem GT.w{T:aB->Prop}{n w w':Nat}{d:D}(h:GT T n w d)(hw:w<=w'):GT T n w' d:=by
 obtain⟨⟨q,h1,⟨a,b,c,e⟩,h3⟩,h4⟩:=h;exact⟨⟨q,h1,⟨a,b,Ol c hw,e⟩,h3⟩,h4⟩
theorem GT.of{T:aB->Prop}{n w:Nat}{d:D}(h:GT (fun _=>True) n w d):GT T n w d:=by
 obtain⟨⟨q,h1,h2,h3⟩,h4⟩:=h;exact⟨⟨q,fun μ _=>h1 μ trivial,h2,h3⟩,fun μ _=>h4 μ trivial⟩
section
variable{T:aB->Prop}{n w k:Nat}
theorem Kd{μ:aB}{d:D}{q:PyData}(h:vS d=some q):xN μ n d=some q:=by
 cases n with
 |zero=>exact h
 |succ n=>
  cases d with
  |tup _=>cases h
  |frz _=>cases h
  |obj _=>cases h
  |_=>exact h
theorem mT{d:D}{q:PyData}(h:vS d=some q)(o:MD w q)(hd:q.depth=0):GT T n w d:=by
 refine⟨⟨q,fun μ _=>Kd h,o,by omega⟩,fun μ _=>?_⟩;cases d with
 |tup _=>cases h
 |frz _=>cases h
 |obj _=>cases h
 |_=>simp[Kn]
theorem AR{i:Int}(h0:-1<=i)(h1:i<=8):MD 8 (.int i):=by
 have:i=-1\/i=0\/i=1\/i=2\/i=3\/i=4\/i=5\/i=6\/i=7\/i=8:=by omega
 rcases this with rfl|rfl|rfl|rfl|rfl|rfl|rfl|rfl|rfl|rfl <;> exact⟨by decide +kernel,by decide +kernel,by decide +kernel,rfl⟩
theorem SY{i:Int}(h0:-1<=i)(h1:i<=8):GT T n 8 (.int i):=mT rfl (AR h0 h1) rfl
theorem J6:GT T n 110 (.int 1000000000000000000000000000000):=mT rfl ⟨by decide +kernel,by decide +kernel,by decide +kernel,rfl⟩ rfl
theorem L5{b:Bool}:GT T n 8 (.bl b):=mT rfl ⟨rfl,rfl,by simp[PyData.weight],rfl⟩ rfl
theorem CF:GT T n 8 .non:=mT rfl ⟨rfl,rfl,by simp[PyData.weight],rfl⟩ rfl
theorem J4:GT T n 8 (.str "2"):=mT rfl ⟨rfl,by decide +kernel,by decide +kernel,rfl⟩ rfl
theorem rp:∀{xs:List D},(∀x∈xs,GT T n w x)->∃qs,(∀μ,T μ->nN (xN μ n) xs=some qs)/\PyData.showableAll qs=true/\PyData.leavesShortAll 40 qs=true/\PyData.weightAll qs<=xs.length*(w+1)/\PyData.hasDictAll qs=false/\PyData.depthAll qs<=n/\∀μ,T μ->Kns μ xs
 |[],_=>⟨[],fun _ _=>rfl,rfl,rfl,by simp[PyData.weightAll],rfl,by simp[PyData.depthAll],fun _ _=>by simp[Kns]⟩
 |x::xs,h=>by
  obtain⟨⟨q,q1,⟨a,b,c,e⟩,q3⟩,q4⟩:=h x Oo;obtain⟨qs,r1,r2,r3,r4,r5,r6,r7⟩:=rp fun y hy=>h y (Oq _ hy);refine⟨q::qs,fun μ hμ=>?_,?_,?_,?_,?_,?_,fun μ hμ=>?_⟩
  ·simp only[nN,q1 μ hμ,r1 μ hμ,Qr,Option.map_some]
  ·simp only[PyData.showableAll,a,r2,Rc]
  ·simp only[PyData.leavesShortAll,b,r3,Rc]
  ·simp only[PyData.weightAll,Qm,Qf];omega
  ·simp only[PyData.hasDictAll,e,r5,Bool.or_self]
  ·simp only[PyData.depthAll];exact Nat.max_le.mpr ⟨q3,r6⟩
  ·simp only[Kns];exact⟨q4 μ hμ,r7 μ hμ⟩
theorem gU{xs:List D}(h:∀x∈xs,GT T n w x)(hl:xs.length<=k)(hk:k<1000):GT T (n+1) (k*(w+1)) (.tup xs):=by
 obtain⟨qs,r1,r2,r3,r4,r5,r6,r7⟩:=rp h;refine⟨⟨.tuple qs,fun μ hμ=>?_,⟨?_,?_,?_,?_⟩,?_⟩,fun μ hμ=>?_⟩
 ·show (nN (xN μ n) xs).map PyData.tuple=_;rw[r1 μ hμ];rfl
 ·simp only[PyData.showable,r2]
 ·simp only[PyData.leavesShort,r3]
 ·simp only[PyData.weight];exact Ol r4 (SX _ hl)
 ·simp only[PyData.hasDict,r5]
 ·simp only[PyData.depth];omega
 ·simp only[Kn];exact⟨by omega,r7 μ hμ⟩
theorem yj{t:Nat}{xs:List D}(ht:∀μ,T μ->μ[t]?=some (.lst xs))(h:∀x∈xs,GT T n w x)(hl:xs.length<=k):GT T (n+1) (k*(w+1)) (.obj t):=by
 obtain⟨qs,r1,r2,r3,r4,r5,r6,r7⟩:=rp h;refine⟨⟨.list qs,fun μ hμ=>?_,⟨?_,?_,?_,?_⟩,?_⟩,fun μ hμ=>?_⟩
 ·unfold xN;dsimp only;rw[ht μ hμ];dsimp only;rw[r1 μ hμ];rfl
 ·simp only[PyData.showable,r2]
 ·simp only[PyData.leavesShort,r3]
 ·simp only[PyData.weight];exact Ol r4 (SX _ hl)
 ·simp only[PyData.hasDict,r5]
 ·simp only[PyData.depth];omega
 ·simp only[Kn];refine⟨"list",?_,by decide,by decide,by decide⟩;unfold z6;dsimp only;rw[ht μ hμ]
end
theorem uM{T:aB->Prop}{w:Nat}{d:D}(h:GT T 5 w d)(hw:w<=300000)(hr:um d=true):∃x,∀μ,T μ->Kn μ d/\fF [d] μ=.ok (.str x) μ:=by
 obtain⟨⟨q,q1,⟨a,b,c,e⟩,q3⟩,q4⟩:=h;refine⟨q.shown,fun μ hμ=>⟨q4 μ hμ,?_⟩⟩
 have hl:q.shown.length<=sizeLine:=by
  have h1:=PyData.shown_le 40 (by decide) q b;have h2:(40+2)*q.weight<=42*300000:=Nat.mul_le_mul (OR _) (by omega);rw[OW];omega
 have ok:qf q=true:=by
  unfold qf;rw[a,e,Qi (show q.depth<=60 by omega),Qi hl];rfl
 cases d with
 |tup xs=>unfold fF;dsimp only;rw[q1 μ hμ];dsimp only;rw[Ob ⟨rfl,ok⟩]
 |frz xs=>unfold fF;dsimp only;rw[q1 μ hμ];dsimp only;rw[Ob ⟨rfl,ok⟩]
 |obj k=>unfold fF;dsimp only;rw[q1 μ hμ];dsimp only;rw[Ob ⟨rfl,ok⟩]
 |_=>cases hr
theorem yq{β:Type}{xs:List β}{r:Nat}{n:Int}(e:n=(r:Int)):jR xs (some n) none=xs.drop r:=by
 subst e;unfold jR;have h1:HT.sIx xs.length 0 (some (r:Int))=min r xs.length:=HT.sIx_nat _ _ r;have h2:HT.sIx xs.length xs.length none=xs.length:=rfl;rw[h1,h2];by_cases h:r<=xs.length
 ·rw[Nat.min_eq_left h,QH (by rw[Pv];exact OR _)]
 ·rw[Nat.min_eq_right (by omega),Q2,List.take_zero,List.drop_eq_nil_of_le (by omega)]
theorem LM{μ:aB}:Ai (.int 10) (.int 30) μ=.ok (.int 1000000000000000000000000000000) μ:=by
 rw[show (Ai:D->D->aB->aj D)=GN BK fun i j=>.int (i^j.toNat) from rfl,nX (show BK 10 30 from⟨by decide,by decide,by decide⟩)];rfl
theorem uu{xs:List D}{r:Int}{n:Nat}(h0:0<=r)(h1:r<(n:Int))(hl:xs.length=n):∃d,atI xs r=some d/\d∈xs:=by
 have h:r.toNat<xs.length:=by omega
 exact⟨xs[r.toNat],CW h0 (RZ h),RX h⟩
theorem j3{xs ys:List D}{M:aB}(h:xs.length+ys.length<=1000):cQ (.tup xs) (.tup ys) M=.ok (.tup (xs++ys)) M:=by
 unfold cQ;dsimp only;rw[Ob (Ol h bL)]
theorem GH{M:aB}{a b:Nat}{xs ys:List D}(ha:M[a]?=some (.lst xs))(hb:M[b]?=some (.lst ys))(h:xs.length+ys.length<=1000):cQ (.obj a) (.obj b) M=.ok (.obj M.length) (M++[.lst (xs++ys)]):=by
 unfold cQ;dsimp only;rw[ha,hb];dsimp only;rw[Ob (Ol h bL)]
def Nw(T:aB->Prop)(n0 n w:Nat)(d:D):Prop:=GT (fun _=>True) n w d\/(GT T n w d/\¬ d.low n0)
section
variable{T:aB->Prop}{n0 n w k:Nat}
theorem Nw.wk{w':Nat}{d:D}(h:Nw T n0 n w d)(hw:w<=w'):Nw T n0 n w' d:=h.elim (fun z=>.inl (z.w hw)) fun z=>.inr ⟨z.1.w hw,z.2⟩
theorem Nw.gt{d:D}(h:Nw T n0 n w d):GT T n w d:=h.elim (fun z=>z.of) fun z=>z.1
theorem uj{xs:List D}(h:∀x∈xs,Nw T n0 n w x)(hl:xs.length<=k)(hk:k<1000):Nw T n0 (n+1) (k*(w+1)) (.tup xs):=by
 by_cases c:∀x∈xs,GT (fun _=>True) n w x
 ·exact .inl (gU c hl hk)
 ·obtain⟨x,hx,hn⟩:∃x∈xs,¬ GT (fun _=>True) n w x:=by
   rcases Classical.em (∃x∈xs,¬ GT (fun _=>True) n w x) with z|z
   ·exact z
   ·exact absurd (fun x hx=>QK fun y=>z ⟨x,hx,y⟩) c
  refine .inr ⟨gU (fun y hy=>(h y hy).gt) hl hk,fun z=>?_⟩;rcases h x hx with y|⟨_,y⟩
  ·exact hn y
  ·rw[qi]at z;exact y (iZ.mp z x hx)
end
def Kw(l:Nat)(M M':aB):Prop:=∀(j:Nat) o,l<=j->M[j]?=some o->M'[j]?=some o
def Mr(l:Nat)(M:aB)(d:D):Prop:=∃x,∀μ,Kw l M μ->Kn μ d/\fF [d] μ=.ok (.str x) μ
section
variable{m:Nat}{ks:List (List Int)}{μ:aB}
theorem qj{T:aB->Prop}{n:Nat}{a b:Int}(a0:-1<=a)(a8:a<=8)(b0:-1<=b)(b8:b<=8):GT T (n+1) 18 (.tup [.int a,.int b]):=gU (k:=2) (w:=8) (fun x hx=>by
 simp only[Os,RA,RB]at hx;rcases hx with rfl|rfl
 ·exact SY a0 a8
 ·exact SY b0 b8) (by simp) (by decide)
theorem qS{T:aB->Prop}{n:Nat}(h:GW m ks){x:D}(hx:x∈ks.map ao):GT T (n+1) 18 x:=by
 obtain⟨k,hk,rfl⟩:=QJ.mp hx;obtain⟨a,b,rfl,h1,h2,h3⟩:=h.2.2.2.2 k hk;have:=h.m6;exact qj (by omega) (by omega) (by omega) (by omega)
theorem J3{T:aB->Prop}{n:Nat}(h:GW m ks):GT T (n+3) 1000 (aP m ks):=by
 have hl:=cK h;have hm:=h.m6;have t:GT T (n+2) (15*(18+1)) (.tup (ks.map ao)):=gU (fun x hx=>qS h hx) (by rw[Pf];exact hl) (by decide)
 exact(gU (k:=2) (w:=15*(18+1)) (fun x hx=>by
  simp only[Os,RA,RB]at hx;rcases hx with rfl|rfl
  ·exact(SY (by omega) (by omega)).w (by decide)
  ·exact t) (by simp) (by decide)).w (by decide)
theorem C9{P:Nat}{a b c:Int}(hp:μ[P]?=some (cv a b c))(h:GW m ks):∃d μ',dS [.obj P,aP m ks] μ=.ok d μ'/\Pn μ P μ'/\Mr μ.length μ' d:=by
 have m0:=h.m0;have m6:=h.m6;have kl:=cK h;have hP:P<μ.length:=(Ow.mp hp).1;let ts:List D:=ks.map ao
 have tl:ts.length<=15:=by simp only[ts,Pf];exact kl
 let odds:List D:=[.int ((m:Int)+1),.int 0,.int 7,.int (-1),.bl true,.non,.str "2",.tup [.int 2],.int 1000000000000000000000000000000]
 let M1:aB:=μ++[O.lst odds]
 have P1:Pn μ P M1:=(Pn.self hp).app;obtain⟨r1,a2,b2,c2,r10,r11,e1,P2⟩:=P1.draw (m:=9) hP (by decide) (by decide);let M2:aB:=M1.set P (cv a2 b2 c2)
 have t2:M2[μ.length]?=some (.lst odds):=by rw[OA (by omega)];exact aE
 obtain⟨odd,eo,ho⟩:=uu (xs:=odds) (n:=9) r10 r11 rfl
 have go:∀(T:aB->Prop) n,GT T (n+1) 110 odd:=fun T n=>by
  simp only[odds,Os,RA,RB]at ho;rcases ho with rfl|rfl|rfl|rfl|rfl|rfl|rfl|rfl|rfl
  ·exact(SY (by omega) (by omega)).w (by decide)
  ·exact(SY (by omega) (by omega)).w (by decide)
  ·exact(SY (by omega) (by omega)).w (by decide)
  ·exact(SY (by omega) (by omega)).w (by decide)
  ·exact L5.w (by decide)
  ·exact CF.w (by decide)
  ·exact J4.w (by decide)
  ·exact(gU (k:=1) (w:=8) (fun x hx=>by rw[Qw.mp hx];exact SY (by omega) (by omega)) (by simp) (by decide)).w (by decide)
  ·exact J6
 obtain⟨sp,a3,b3,c3,s0,s1,e2,P3⟩:=P2.draw (m:=(ks.length:Int)+1) hP (by omega) (by omega);obtain⟨sp,rfl⟩:∃k:Nat,sp=(k:Int):=⟨sp.toNat,by omega⟩;let M3:aB:=M2.set P (cv a3 b3 c3)
 obtain⟨pr,epr,hpr⟩:=uu (xs:=ts++[.tup [.int 0,.int 1]]) (n:=ks.length+1) (r:=(sp:Int)) (by omega) (by push_cast;omega) (by simp[ts])
 obtain⟨x,y,rfl,x0,x5,y0,y5⟩:∃x y:Int,pr=.tup [.int x,.int y]/\0<=x/\x<=6/\0<=y/\y<=6:=by
  rcases Ou.mp hpr with z|z
  ·obtain⟨k,hk,rfl⟩:=QJ.mp z;obtain⟨u,v,rfl,h1,h2,h3⟩:=h.2.2.2.2 k hk;exact⟨u,v,rfl,by omega,by omega,by omega,by omega⟩
  ·rw[Qw.mp z];exact⟨0,1,rfl,by decide,by decide,by decide,by decide⟩
 let wr:List D:=[.tup [.int y,.int x],.obj M3.length,.tup [.int x],.tup [.int x,.int y,.int 0],.tup [.int x,.int m],.tup [.int x,odd],.non,.tup [.int 0,.int 0]]
 let M4:aB:=M3++[O.lst [.int x,.int y]]++[O.lst wr]
 have P4:Pn μ P M4:=(P3.app (g:=[O.lst [.int x,.int y]])).app;obtain⟨r2,a5,b5,c5,r20,r21,e3,P5⟩:=P4.draw (m:=8) hP (by decide) (by decide);let M5:aB:=M4.set P (cv a5 b5 c5)
 have lM:μ.length<=M3.length:=P3.len;have t5:M5[(M3++[O.lst [.int x,.int y]]).length]?=some (.lst wr):=by rw[OA (by rw[Pe];omega)];exact aE
 obtain⟨W,eW,hW⟩:=uu (xs:=wr) (n:=8) r20 r21 rfl;let bent:List D:=ts.take sp++[W]++ts.drop (sp+1)
 let S1:List D:=[.tup [odd,.tup ts],.tup [.int m,.tup bent],.tup [.int m,.tup bent],.tup [.int m,.obj M5.length],.obj (M5++[O.lst ts]).length,.tup [.int m],.tup [.int m,.tup ts,.tup []]]
 let M6:aB:=M5++[O.lst ts]++[O.lst [.int m,.tup ts]]++[O.lst S1]
 let S2:List D:=[.tup [.int m,.tup ts.reverse],.tup [.int m,.tup (ts++ts.take 1)],.non,.tup ts,.obj M6.length,.tup [.int m,.tup (ts.drop 1)],.tup [.int m,.tup []]]
 let M7:aB:=M6++[O.dic]++[O.lst S2]++[O.lst (S1++S2)]
 have P7:Pn μ P M7:=((((P5.app (g:=[O.lst ts])).app (g:=[O.lst [.int m,.tup ts]])).app (g:=[O.lst S1])).app (g:=[O.dic])).app.app;obtain⟨r3,a8,b8,c8,r30,r31,e4,P8⟩:=P7.draw (m:=14) hP (by decide) (by decide);let M8:aB:=M7.set P (cv a8 b8 c8)
 have l5:M5.length=M4.length:=by simp[M5]
 have l4:M4.length=M3.length+2:=by simp[M4]
 have t8:M8[(M6++[O.dic]++[O.lst S2]).length]?=some (.lst (S1++S2)):=by
  rw[OA (by simp only[M6,Pe,Qm,QC];omega)];exact aE
 obtain⟨d,ed,hd⟩:=uu (xs:=S1++S2) (n:=14) r30 r31 rfl;have keep:∀j o,μ.length<=j->M7[j]?=some o->∀μ',Kw μ.length M8 μ'->μ'[j]?=some o:=fun j o ne e μ' k=>k j o ne (by rw[OA (by omega)];exact e)
 have oL:∀μ',Kw μ.length M8 μ'->μ'[M3.length]?=some (.lst [.int x,.int y]):=keep _ _ (by omega) (aG (aG (aG (aG (aG (aG (by
  show M5[M3.length]?=_;rw[OA (by omega)]
  exact aG aE)))))))
 have oA:∀μ',Kw μ.length M8 μ'->μ'[M5.length]?=some (.lst ts):=keep _ _ (by omega) (aG (aG (aG (aG (aG aE)))));have oB:∀μ',Kw μ.length M8 μ'->μ'[(M5++[O.lst ts]).length]?=some (.lst [.int m,.tup ts]):=keep _ _ (by rw[Pe];omega) (aG (aG (aG (aG aE))));have oC:∀μ',Kw μ.length M8 μ'->μ'[M6.length]?=some .dic:=keep _ _ (by simp only[M6,Pe];omega) (aG (aG aE));let T:aB->Prop:=Kw μ.length M8
 have gi:∀(T:aB->Prop) n,GT T n 110 (.int (m:Int)):=fun T n=>(SY (by omega) (by omega)).w (by decide);have gts:∀(T:aB->Prop) n (l:List D),(∀z∈l,z∈ts)->l.length<=17->GT T (n+2) 323 (.tup l):=fun T n l hl hk=>gU (k:=17) (w:=18) (fun z hz=>qS h (hl z hz)) hk (by decide)
 have gW:Nw T μ.length 3 333 W:=by
  simp only[wr,Os,RA,RB]at hW;rcases hW with rfl|rfl|rfl|rfl|rfl|rfl|rfl|rfl
  ·exact .inl ((qj (n:=2) (by omega) (by omega) (by omega) (by omega)).w (by decide))
  ·refine .inr ⟨(yj (T:=T) (n:=2) (k:=2) (w:=8) oL (fun z hz=>by
    simp only[Os,RA,RB]at hz;rcases hz with rfl|rfl
    ·exact SY (by omega) (by omega)
    ·exact SY (by omega) (by omega)) (by simp)).w (by decide),by rw[mR];omega⟩
  ·exact .inl ((gU (n:=2) (k:=1) (w:=8) (fun z hz=>by rw[Qw.mp hz];exact SY (by omega) (by omega)) (by simp) (by decide)).w (by decide))
  ·exact .inl ((gU (n:=2) (k:=3) (w:=8) (fun z hz=>by
    simp only[Os,RA,RB]at hz;rcases hz with rfl|rfl|rfl
    ·exact SY (by omega) (by omega)
    ·exact SY (by omega) (by omega)
    ·exact SY (by omega) (by omega)) (by simp) (by decide)).w (by decide))
  ·exact .inl ((qj (n:=2) (by omega) (by omega) (by omega) (by omega)).w (by decide))
  ·exact .inl ((gU (n:=2) (k:=2) (w:=110) (fun z hz=>by
    simp only[Os,RA,RB]at hz;rcases hz with rfl|rfl
    ·exact(SY (by omega) (by omega)).w (by decide)
    ·exact go _ 1) (by simp) (by decide)).w (by decide))
  ·exact .inl (CF.w (by decide))
  ·exact .inl ((qj (n:=2) (by omega) (by omega) (by omega) (by omega)).w (by decide))
 have bl:bent.length<=17:=by
  simp only[bent,Pe,O5,Pv,Qm,QC];omega
 have gb:Nw T μ.length 4 5678 (.tup bent):=uj (n:=3) (k:=17) (w:=333) (fun z hz=>by
  rcases Ou.mp hz with hz|hz
  ·rcases Ou.mp hz with hz | hz
   ·exact .inl ((qS (n:=2) h (QX hz)).w (by decide))
   ·rw[Qw.mp hz];exact gW
  ·exact .inl ((qS (n:=2) h (QY hz)).w (by decide))) bl (by decide)
 have tw:∀z:D,Nw T μ.length 4 6000 z->Nw T μ.length 5 18003 (.tup [.int (m:Int),z]):=fun z hz=>(uj (k:=3) (w:=6000) (fun u hu=>by
  simp only[Os,RA,RB]at hu;rcases hu with rfl|rfl
  ·exact .inl ((gi _ 4).w (by decide))
  ·exact hz) (by simp) (by decide))
 have pts:∀l:List D,(∀z∈l,z∈ts)->l.length<=17->Nw T μ.length 4 6000 (.tup l):=fun l hl hk=>.inl ((gts _ 2 l hl hk).w (by decide))
 have all:(Nw T μ.length 5 18003 d/\um d=true)\/d=.non\/d=.obj M6.length:=by
  simp only[S1,S2,Ou,Os,RA,RB]at hd;rcases hd with (rfl|rfl|rfl|rfl|rfl|rfl|rfl)|rfl|rfl|rfl|rfl|rfl|rfl|rfl
  ·refine .inl ⟨uj (k := 3) (w := 6000) (fun u hu => ?_) (by simp) (by decide), rfl⟩;simp only[Os,RA,RB]at hu;rcases hu with rfl|rfl
   ·exact .inl ((go _ 3).w (by decide))
   ·exact pts ts (fun z hz=>hz) (by omega)
  ·exact .inl ⟨tw _ (gb.wk (by decide)),rfl⟩
  ·exact .inl ⟨tw _ (gb.wk (by decide)),rfl⟩
  ·refine .inl ⟨tw _ (.inr ⟨(yj (T:=T) (n:=3) (k:=15) (w:=18) oA (fun z hz=>qS h hz) tl).w (by decide),by rw[mR];omega⟩),rfl⟩
  ·refine .inl ⟨.inr ⟨(yj (T := T) (n := 4) (k := 2) (w := 6000) oB (fun z hz => ?_) (by simp)).w (by decide), by rw [mR, Pe]; omega⟩, rfl⟩;simp only[Os,RA,RB]at hz;rcases hz with rfl|rfl
   ·exact(gi _ 4).w (by decide)
   ·exact(gts _ 2 ts (fun z hz=>hz) (by omega)).w (by decide)
  ·refine .inl ⟨.inl ((gU (n:=4) (k:=1) (w:=110) (fun z hz=>by rw[Qw.mp hz];exact gi _ 4) (by simp) (by decide)).w (by decide)),rfl⟩
  ·refine .inl ⟨uj (k := 3) (w := 6000) (fun u hu => ?_) (by simp) (by decide), rfl⟩;simp only[Os,RA,RB]at hu;rcases hu with rfl|rfl|rfl
   ·exact .inl ((gi _ 4).w (by decide))
   ·exact pts ts (fun z hz=>hz) (by omega)
   ·exact pts [] (fun z hz=>by cases hz) (by simp)
  ·exact .inl ⟨tw _ (pts ts.reverse (fun z hz=>List.mem_reverse.mp hz) (by rw[Sv];omega)),rfl⟩
  ·refine .inl ⟨tw _ (pts (ts ++ ts.take 1) (fun z hz => ?_) (by rw [Pe, O5]; omega)), rfl⟩;rcases Ou.mp hz with hz|hz
   ·exact hz
   ·exact QX hz
  ·exact .inr (.inl rfl)
  ·exact .inl ⟨.inl ((gts _ 3 ts (fun z hz=>hz) (by omega)).w (by decide)),rfl⟩
  ·exact .inr (.inr rfl)
  ·exact .inl ⟨tw _ (pts (ts.drop 1) (fun z hz=>QY hz) (by rw[Pv];omega)),rfl⟩
  ·exact .inl ⟨tw _ (pts [] (fun z hz=>by cases hz) (by simp)),rfl⟩
 have fin:∃μ',p6 μ (.ok d M8)=.ok d μ'/\Pn μ P μ'/\Mr μ.length μ' d:=by
  rcases CH (μ:=μ) (d:=d) (μ':=M8) with e|⟨e,hlow⟩
  ·refine ⟨M8, e, P8, ?_⟩;rcases all with⟨g,hr⟩|rfl|rfl
   ·exact uM g.gt (by decide) hr
   ·exact⟨_,fun μ' _=>⟨by simp[Kn],rfl⟩⟩
   ·refine ⟨(PyData.dict []).shown, fun μ' k => ⟨?_, ?_⟩⟩
    ·simp only[Kn];refine⟨"dict",?_,by decide,by decide,by decide⟩;unfold z6;dsimp only;rw[oC μ' k]
    ·unfold fF xN;dsimp only;rw[oC μ' k];dsimp only;rw[Ob ⟨rfl,by decide +kernel⟩]
  ·refine ⟨_, e, ?_, ?_⟩
   ·obtain⟨u,v,w,g,hg⟩:=P8;rw[show M8=μ.set P (cv u v w)++g from hg];exact⟨u,v,w,[],by rw[Sr (by simp),QH (by simp),OY]⟩
   ·rcases all with ⟨g, hr⟩ | rfl | rfl
    ·rcases g with g | ⟨_, g⟩
     ·exact uM (T:=Kw μ.length _) g.of (by decide) hr
     ·exact absurd hlow g
    ·exact⟨_,fun μ' _=>⟨by simp[Kn],rfl⟩⟩
    ·rw[mR]at hlow;simp only[M6,Pe]at hlow;omega
 obtain⟨μ',eg,P9,tg⟩:=fin;refine⟨d,μ',?_,P9,tg⟩;have n1:0+1<=sizeLine:=l1;have n2:0+1+1<=sizeLine:=l2;have n3:0+1+1+1<=sizeLine:=Ol (by decide) bL;have n7:0+1+1+1+1+1+1+1<=sizeLine:=Ol (by decide) bL;have n8:0+1+1+1+1+1+1+1+1<=sizeLine:=Ol (by decide) bL;have n9:0+1+1+1+1+1+1+1+1+1<=sizeLine:=Ol (by decide) bL;have e1':aR [.obj P,.int 9] M1=.ok (.int r1) M2:=e1;have e2':aR [.obj P,.int ((ks.length:Int)+1)] M2=.ok (.int (sp:Int)) M3:=e2;have e3':aR [.obj P,.int 8] M4=.ok (.int r2) M5:=e3;have e4':aR [.obj P,.int 14] M7=.ok (.int r3) M8:=e4;unfold dS;rw[bK];simp only[ku,List.replicate];rw[aF,aQ];simp only[ak,ah,af,ae];rw[show fu 2 (br (aq 2) (br (aq 3) fv)) (aP m ks) [some (.obj P),some (aP m ks),none,none,none,none,none,none,none,none] μ=.ok [some (.obj P),some (aP m ks),some (.int m),some (.tup ts),none,none,none,none,none,none] μ from rfl];simp only[af,ae,aC];rw[aF,aQ];simp only[aH,eK,iW,CJ,cM,ar,aw,ak,ah,bc,aa,ae,ig,LM,Qm,QC,Ob n1,Ob n9,az];rw[show aR [.obj P,.int 9] (μ++[O.lst [.int ((m:Int)+1),.int 0,.int 7,.int (-1),.bl true,.non,.str "2",.tup [.int 2],.int 1000000000000000000000000000000]])=_ from e1'];simp only[aa,ae];rw[eM t2 eo];simp only[af,ae,bp,aC,SG,SH];rw[aF,aQ];simp only[az,ar,aw,aH,ak,ah,bc,aa,ae,ly,ig];rw[show ((ts.length:Nat):Int)=(ks.length:Int) from by simp[ts],e2'];simp only[af,ae,bp,aC,SG,SH];rw[aF,aQ];simp only[aH,cM,ar,aw,ak,ah,bc,aa,ae,Qm,QC,Ob n1,Ob n2];rw[j3 (by simp only[Qm,QC];omega)];simp only[aa,ae];rw[fZ epr];simp only[af,ae,bp,aC,SG,SH];rw[aF,aQ];simp only[eK,cM,az,ar,aw,aH,ak,ah,bc,aa,ae,cW,d4,Qm,QC,Ob n1,Ob n2];rw[show mL [.tup [.int x,.int y]] M3=.ok (.obj M3.length) (M3++[O.lst [.int x,.int y]]) from rfl];simp only[aa,ae];rw[show cQ (.tup [.int x,.int y]) (.tup [.int 0]) (M3++[O.lst [.int x,.int y]])=.ok (.tup [.int x,.int y,.int 0]) (M3++[O.lst [.int x,.int y]]) from j3 (by simp)];simp only[aa,ae,Qm,QC,Ob n8,af,bp,aC,SG,SH];rw[aF,aQ];simp only[aH,zo,yl,ni,yn,cM,az,ar,aw,ak,ah,bc,aa,ae,ig];rw[show Bv (.tup ts) none (some (sp:Int)) M4=.ok (.tup (ts.take sp)) M4 from by show aj.ok (D.tup (jR ts none (some (sp:Int)))) M4=_;rw[CO (by simp only[ts,Pf];omega)]];simp only[aa,ae];rw[show aR [.obj P,.int 8] M4=.ok (.int r2) M5 from e3'];simp only[aa,ae];rw[eM t5 eW];simp only[aa,ae,Qm,QC,Ob n1];rw[j3 (by rw[O5];simp only[Qm,QC];omega)];simp only[aa,ae];rw[show Bv (.tup ts) (some ((sp:Int)+1)) none M5=.ok (.tup (ts.drop (sp+1))) M5 from by show aj.ok (D.tup (jR ts (some ((sp:Int)+1)) none)) M5=_;rw[yq (r:=sp+1) (by push_cast;rfl)]];simp only[aa,ae];rw[j3 (by rw[Pe,O5,Pv];simp only[Qm,QC];omega)];simp only[af,ae,bp,aC,SG,SH];rw[aF,aQ];simp only[eK,cM,az,ar,aw,ak,ah,aa,ae,Qm,QC,Ob n1,Ob n2,Ob n3,Ob (Qv sizeLine)];rw[show mL [.tup ts] M5=.ok (.obj M5.length) (M5++[O.lst ts]) from rfl];simp only[aa,ae,Qm,QC,Ob n2,Ob n7,af,bp,aC,SG,SH];rw[aF,aQ];simp only[aH,eK,cM,iW,CJ,zo,yl,ni,yn,ar,aw,ak,ah,bc,Kg,aa,ae]
 have rv:∀M:aB,vU (.tup ts) (.int (-1)) M=.ok (.tup ts.reverse) M:=fun M=>by
  unfold vU;dsimp only;rw[Ob rfl]
 have s1':∀M:aB,Bv (.tup ts) none (some 1) M=.ok (.tup (ts.take 1)) M:=fun M=>by
  show aj.ok (D.tup (jR ts none (some 1))) M=_;by_cases z:1<=ts.length
  ·rw[show (1:Int)=((1:Nat):Int) from rfl,CO z]
  ·have:ts=[]:=Sj (by omega);rw[this];rfl
 have s2':∀M:aB,Bv (.tup ts) (some 1) none M=.ok (.tup (ts.drop 1)) M:=fun M=>by
  show aj.ok (D.tup (jR ts (some 1) none)) M=_;rw[yq (n:=(1:Int)) (r:=1) rfl]
 simp only[rv,s1',s2',aa,ae,Qm,QC,Ob n2,Ob (Qv sizeLine)];rw[j3 (xs:=ts) (ys:=ts.take 1) (by rw[O5];omega)];simp only[aa,ae,Qm,QC,Ob n2,Ob n7,Ob (Qv sizeLine)];rw[show cQ (.obj (M5++[O.lst ts]++[O.lst [.int m,.tup ts]]).length) (.obj (M6++[O.dic]).length) (M6++[O.dic]++[O.lst S2])=.ok (.obj (M6++[O.dic]++[O.lst S2]).length) M7 from GH (aG (aG aE)) aE (show S1.length+S2.length<=1000 from show (7+7:Nat)<=1000 by decide)];simp only[af,bp,aC,SG,SH,bb,aH,az,ar,aw,ak,ah,bc,aa,ae];rw[show aR [.obj P,.int 14] M7=.ok (.int r3) M8 from e4'];simp only[aa,ae];rw[eM t8 ed];simp only[af,ae,aU];exact eg
end
theorem zA{x:DX}{μ:aB}{g:MS}:(SO.exc x μ).bind g=.exc x μ:=Sa (Sb _)
theorem nc{x:DX}{μ:aB}:(SO.exc x μ).out=.exc x μ:=Sa (Sb _)
theorem j8{β:Type}{x:DX}{μ:aB}{f:β->aB->SO}:(aj.exc x μ:aj β).bindS f=.exc x μ:=Sa (Sb _)
theorem uq{x:DX}{μ μ':aB}:p6 μ (.exc x μ')=.exc x μ':=Sa (Sb _)
theorem w8{c:Str}{ρ:Ro}{μ:aB}:ui c ρ μ=.exc ⟨c,[]⟩ μ:=Sa (Sb _)
theorem LA{μ:aB}{m k:Nat}{ks:List (List Int)}(h:GW m ks)(k0:1<=k)(k1:k<=6):eP [aP m ks,.int k] μ=.ok (aP m (js m ks k)) μ:=by
 have ex:∀p:Int,∃f:Int->Option Nat,0<=p->p<(m:Int)->qA (mB ks) p (fun q=>0<=q/\q<(m:Int)) f:=fun p=>by
  by_cases hp:0<=p/\p<(m:Int)
  ·obtain⟨A,g,f,_,_,_,hF⟩:=zz (μ:=[]) h hp.1 hp.2;exact⟨f,fun _ _=>hF⟩
  ·exact⟨fun _=>none,fun a b=>absurd ⟨a,b⟩ hp⟩
 have hT:∀p:Int,0<=p->p<(m:Int)->qA (mB ks) p (fun q=>0<=q/\q<(m:Int)) ((fun p=>(ex p).choose) p):=fun p a b=>(ex p).choose_spec a b;rw[As (k:=(k:Int)) h (by omega) (by omega) hT,Ib h.m0 h.m6 hT]
theorem Kk{m:Int}{k k':List Int}(hm:m<=6)(h:∃a b:Int,k=[a,b]/\0<=a/\a<b/\b<=m-1)(h':∃a b:Int,k'=[a,b]/\0<=a/\a<b/\b<=m-1)(e:gx k k'=true):lV k<lV k':=by
 obtain⟨a,b,rfl,h1,h2,h3⟩:=h;obtain⟨c,d,rfl,g1,g2,g3⟩:=h';unfold gx at e;unfold lV;simp at e⊢;omega
theorem Cm{m:Int}(hm:m<=6):∀{ks:List (List Int)},(∀k∈ks,∃a b:Int,k=[a,b]/\0<=a/\a<b/\b<=m-1)->gT ks=true->ks.Pairwise fun a b=>lV a<lV b
 |[],_,_=>List.Pairwise.nil
 |[k],_,_=>by simp
 |k::k'::r,hk,h=>by
  rw[oh,PH]at h;have ih:=Cm hm (ks:=k'::r) (fun x hx=>hk x (Oq _ hx)) h.2;have lt:=Kk hm (hk k Oo) (hk k' (Oq _ Oo)) h.1;refine QP.mpr ⟨fun x hx=>?_,ih⟩;rcases Os.mp hx with rfl|hx
  ·exact lt
  ·have:=(QP.mp ih).1 x hx;omega
theorem EI{d:D}(h:cI d=true):∃m ks,d=aP m ks/\GW m ks:=by
 unfold cI at h;split at h
 ·rename_i m ts;simp only[PH,Sd]at h;obtain⟨⟨h1,h2⟩,h3⟩:=h;unfold iw at h3;split at h3
  ·rename_i ts;rw[PH]at h3;obtain⟨ks,rfl,ek,hk⟩:=xh h3.1;rw[ek]at h3;obtain⟨n,rfl⟩:∃n:Nat,m=(n:Int):=⟨m.toNat,by omega⟩;refine⟨n,ks,rfl,rfl,h1,h2,Cm h2 hk h3.2,fun k hk'=>?_⟩;obtain⟨a,b,e,x,y,z⟩:=hk k hk';exact⟨a,b,e,x,y,by omega⟩
  ·cases h3
 ·cases h
theorem Np{μ:aB}{m m':Nat}{ks ks':List (List Int)}(h:GW m ks)(h':GW m' ks'):iA false (aP m ks) (aP m' ks') μ=.ok (.bl (decide (m=m')&&decide (ks=ks'))) μ:=by
 by_cases e:m=m'
 ·subst e;rw[NG h h'];simp
 ·unfold iA;rw[p7 h,p7 h'];dsimp only;rw[Ob ⟨p8 h,p8 h'⟩,Oc OK];congr 2;rw[N8 e,OO];simp only[xR,PyData.eqv,PyData.eqvAll];rw[show ((m:Int) == (m':Int))=false from by rw[N9];omega];rfl
section
variable{m k:Nat}{ks:List (List Int)}{d:D}{μ:aB}
end
theorem ym{subs known:List Str}{n:Nat}{c:Str}{μ:aB}(h:μ[n]?=some (.exc c))(hk:known.contains c=true):lY subs known (.obj n) μ=.ok (.bl (subs.contains c)) μ:=by
 unfold lY;dsimp only;rw[h];dsimp only;rw[Ob hk]
theorem qq{μ:aB}{a b:Nat}{xs ys:List D}(h:μ[a]?=some (.lst xs))(g:μ[b]?=some (.lst ys))(hn:xs.length+ys.length<=1000000):cQ (.obj a) (.obj b) μ=.ok (.obj μ.length) (μ++[.lst (xs++ys)]):=by
 unfold cQ;simp only[h,g];rw[Ob (Ol hn (by decide))]
theorem l4:(4:Nat)<=sizeLine:=by decide
theorem l8:(8:Nat)<=sizeLine:=by decide
abbrev qF:List D:=[.str "place",.str "number",.str "line",.str "root",.str "tree",.str "web",.str "text",.str "great"]
theorem gh:(["NoNumber"]:List Str).contains "NoRoot" = false:=by decide +kernel
theorem g8:(["NoRoot"]:List Str).contains "NoRoot" = true:=by decide +kernel
theorem kQ:([]:List Str).contains "NoRoot" = false:=by decide +kernel
theorem eO:(["NoNumber", "NoRoot"]:List Str).contains "NoRoot" = true:=by decide +kernel
abbrev kA:List D:=[D.bl false,D.bl false,D.bl false,D.bl true]
abbrev kB:List D:=[D.bl false,D.bl false,D.bl false,D.bl false]
abbrev kR(μ:aB):aB:=μ++[O.lst kA]++[O.lst kB]
abbrev kS(μ:aB):aB:=kR μ++[O.lst (kA++kB)]
theorem rW {μ:aB}{n:Nat} (h:μ[n]?=some (.exc "NoRoot")):eT [.obj n] μ=.ok (.str "root") μ:=by
 have h1:(μ++[O.lst kA])[n]?=some (.exc "NoRoot"):=aG h;have h2:(kR μ)[n]?=some (.exc "NoRoot"):=aG h1;have h3:(kS μ)[n]?=some (.exc "NoRoot"):=aG h2;have m3:(kS μ)[(kR μ).length]?=some (.lst (kA++kB)):=aE;have m4:(kS μ++[O.lst qF])[(kR μ).length]?=some (.lst (kA++kB)):=aG m3;have k4:(kS μ++[O.lst qF])[(kS μ).length]?=some (.lst qF):=aE;have a1:=qq (μ:=kR μ) (a:=μ.length) (b:=(μ++[O.lst kA]).length) (xs:=kA) (ys:=kB) (aG aE) aE (by decide)
 have c1:lB (.obj (kR μ).length) [.bl true] (kS μ)=.ok (.int 1) (kS μ):=by
  unfold lB;dsimp only;rw[m3];rfl
 have i1:lA (.obj (kR μ).length) [.bl true] (kS μ++[O.lst qF])=.ok (.int 3) (kS μ++[O.lst qF]):=by
  unfold lA;dsimp only;rw[m4];dsimp only;rw[Ob ⟨rfl,by decide,rfl⟩];rfl
 have e3:Bu (.obj (kR μ).length) (kS μ)=true:=by unfold Bu;dsimp only;rw[m3]
 have e4:Bu (.obj (kR μ).length) (kS μ++[O.lst qF])=true:=by unfold Bu;dsimp only;rw[m4]
 unfold eT;rw[fE];simp only[lp,List.replicate,aF,aQ,eK,ar,aw,iW,ah,aa,ym h eO,gh,g8,kQ,eO];rw[Ob (show kA.length<=sizeLine from l4)];simp only[af];rw[show aq 1 (D.obj μ.length) [some (D.obj n),none] (μ++[O.lst kA])=.ok [some (D.obj n),some (D.obj μ.length)] (μ++[O.lst kA]) from rfl];simp only[af,aC,aF,aQ,aH,eK,ar,aw,iW,ah,ak,aa,ym h1 eO,gh,g8,kQ,eO];rw[Ob (show kB.length<=sizeLine from l4)];simp only[aa];rw[a1];simp only[af];rw[show aq 1 (D.obj (kR μ).length) [some (D.obj n),some (D.obj μ.length)] (kS μ)=.ok [some (D.obj n),some (D.obj (kR μ).length)] (kS μ) from rfl];simp only[af,aC,aF,bW,iX,dm,eJ,iW,aH,ar,aw,ah,ak,bc,aa,ym h3 eO,gh,g8,kQ,eO,dG,Q8,Ql,Pp];unfold i8;simp only[aH,vT,ar,aw,ah,ak,bc,aa,e3,Pq,c1,gy,aX];rw[show (!((1:Int) == 1))=false from rfl];simp only[af,Ql,Pp,bY,aC,bb,aH,eK,ar,aw,bc,aa];rw[Ob (show [D.str "place",D.str "number",D.str "line",D.str "root",D.str "tree",D.str "web",D.str "text",D.str "great"].length<=sizeLine from l8)];simp only[aa,vT,ar,aw,ak,ah,bc,e4,Pq,i1];rw[eM (xs:=qF) (d:=.str "root") k4 rfl];simp only[af,aU,Qa];exact eG (by simp)
section
variable{m m':Nat}{ks ks':List (List Int)}{d w:D}{μ:aB}
theorem Cc(h:GW m ks):f9 [aP m ks] μ=.ok (aP m (js m ks 2)) μ:=by
 unfold f9;rw[fE];simp only[rV,List.replicate,bb,az,ar,aw,ah,bc,aa];rw[show eP [aP m ks,.int 2] μ=.ok (aP m (js m ks 2)) μ from LA (k:=2) h (by decide) (by decide)];simp only[af,aU];exact aM (A6 (eX h.m0 h.m6))
theorem LG(hd:Kn μ d)(e:cI d=false):dc [w,d] μ=.ok (.bl false) μ:=by
 unfold dc;rw[bK];simp only[kW,List.replicate,bb,cX,az,ar,aw,ak,ah,aa,yb hd,e,aX,Ql,Pp,af,aU];exact aM (by simp)
theorem yh{M:aB}(h:GW m ks):di [aP m ks] M=.ok (.bl true) M:=yC h
theorem Cn(h:GW m ks)(h':GW m' ks'):dc [aP m ks,aP m' ks'] μ=.ok (.bl (decide (m'=m)&&decide (js m' ks' 2=ks))) μ:=by
 unfold dc;rw[bK];simp only[kW,List.replicate,bb,cX,az,ar,aw,ak,ah,aa,yh h',aX,Pq,aH,Cc h',ae,Np (eX h'.m0 h'.m6) h,af,aU];exact aM (by simp)
theorem Mb (hd:Kn μ d) (e:cI d=false):bP [w,d] μ=.exc ⟨"NoRoot",[]⟩ μ:=by
 unfold bP;rw[bK];simp only[jz,List.replicate,bW,iX,dm,eJ,az,ar,aw,ak,ah,aa,yb hd,ae,e,dG,Rj,Pq,af,w8,nc,uq]
theorem CS (h:GW m ks) (h':GW m' ks'):bP [aP m ks,aP m' ks'] μ=if m'=m then .ok .non μ else .exc ⟨"NoRoot",[]⟩ μ:=by
 unfold bP;rw[bK];simp only[jz,List.replicate,bW,iX,dm,eJ,az,ar,aw,ak,ah,aa,yh h',ae,dG,Q8,Ql,Pp,cB,aH,bc,cW,gy,aX,Pq];by_cases e:m'=m
 ·subst e;simp only[Qk,Q8,af,Ql,Pp,Pq,bY,DF];exact aM (by simp)
 ·rw[Oc e,show ((m':Int) == (m:Int))=false from by rw[N9];omega];simp only[Rj,af,Pq,w8,nc,uq]
abbrev vP(ks ls:List (List Int)):List (List Int):=ks.filter fun k=>!decide (k∈ls)
theorem nk{ls:List (List Int)}{x:D}{t:MT}{e:ME}(h:GW m ks)(ht:∀k∈ks,∀M,t [some (ao k),some x] M=.ok (!decide (k∈ls)) M)(he:∀d M,e [some d,some x] M=.ok d M) :
  compLoop (.fix (ks.map ao)) μ.length (aq 0) t e (ks.map ao) [none,some x] (μ++[.lst []])=.ok (.obj μ.length) (μ++[.lst ((vP ks ls).map ao)]):=
 dv (U:=List Int) (en:=ao) (src:=.fix (ks.map ao)) (g:=aq 0) (t:=t) (e:=e) (μ1:=μ) (q:=fun k=>!decide (k∈ls)) (h:=ao) (fun ρ=>∃o,ρ=[o,some x]) (fun _=>trivial) (us:=ks) (acc:=[]) (ρ:=[none,some x]) ⟨_,rfl⟩
  (by rw[QC];have:=cK h;exact Ol (by omega) bL)
  (fun k hk a ρ hJJ => by
   obtain⟨o,e'⟩:=hJJ;subst e'
   exact⟨[some (ao k),some x],⟨_,rfl⟩,rfl,ht k hk _,fun _=>he _ _⟩)
theorem uo{ls:List (List Int)}(hk:∀k∈ls,gp m k){k:List Int}(h:gp m k):sr true (ao k) (.tup (ls.map ao)) μ=.ok (.bl (!decide (k∈ls))) μ:=by
 obtain⟨a,b,rfl,_⟩:=h;exact tJ hk
theorem wc{n:Nat}{ls:List (List Int)}:(D.tup (ls.map ao)).low n:=by
 simp only[qi];exact iZ.mpr fun x hx=>by obtain⟨k,_,rfl⟩:=QJ.mp hx;exact JI
theorem zu{n:Nat}{ls ls':List (List Int)}:(D.tup [.tup (ls.map ao),.tup (ls'.map ao)]).low n:=by
 rw[qi]
 exact iZ.mpr fun x hx=>by
  simp only[Os,RA,RB]at hx;rcases hx with rfl|rfl
  ·exact wc
  ·exact wc
noncomputable abbrev cn(m:Nat)(ks ks':List (List Int)):List (List Int):=vP ks (js m ks' 2)
noncomputable abbrev c0(m:Nat)(ks ks':List (List Int)):List (List Int):=vP (js m ks' 2) ks
theorem yp(h:GW m ks)(h':GW m ks'):cx [aP m ks,aP m ks'] μ=.ok (.tup [.tup ((cn m ks ks').map ao),.tup ((c0 m ks ks').map ao)]) μ:=by
 have hg:=eX (ks:=ks') (k:=2) h'.m0 h'.m6;have n2:0+1+1<=sizeLine:=l2;unfold cx;rw[bK];simp only[jy,List.replicate];rw[aF,mV];simp only[az,ar,aw,ak,ah,aa,CS h h',Pq,af,aC];rw[aF,aQ];simp only[aH,ah,bc,aa,d4,af,bp,aC,SG,SH];rw[aF,aQ];simp only[aH,az,ar,aw,ak,ah,bc,aa,Cc h',d4,af,bp,aC,SG,SH];rw[aF,aQ];simp only[az,ar,aw,bZ,cF,ak,ah,aa,fS,bo];rw[show fH [none,some 3] [some (aP m ks),some (aP m ks'),some (D.tup (ks.map ao)),some (D.tup ((js m ks' 2).map ao)),none,none]=[none,some (.tup ((js m ks' 2).map ao))] from rfl];rw[nk (ls:=js m ks' 2) h (fun k hk M=>by unfold ki;simp only[cB,aH,ak,ah,aa,uo hg.2.2.2.2 (h.2.2.2.2 k hk),aX]) (fun d M=>by unfold ko;rw[ah])];simp only[aa,jV aE,af,bp,aC,SG,SH];rw[aF,aQ];simp only[az,ar,aw,bZ,cF,ak,ah,aa,fS,bo];rw[show fH [none,some 2] [some (aP m ks),some (aP m ks'),some (D.tup (ks.map ao)),some (D.tup ((js m ks' 2).map ao)),some (.tup ((cn m ks ks').map ao)),none]=[none,some (.tup (ks.map ao))] from rfl];rw[nk (ls:=ks) hg (fun k hk M=>by unfold kh;simp only[cB,aH,ak,ah,aa,uo h.2.2.2.2 (hg.2.2.2.2 k hk),aX]) (fun d M=>by unfold kn;rw[ah])];simp only[aa];rw[jV aE];simp only[aa,af,bp,aC,SG,SH,bb,cM,ar,aw,ak,ah,Qm,QC,Ob n2,aU,Qa];exact eG (zu)
end
theorem zJ{d x:D}{μ:aB}{xs:List D}{ps:List PyData}(hs:xU d μ=none)(hd:BB μ d=some xs)(hp:kv μ xs=some ps)(hc:nZ ps=true)(hb:xs[argBest (vx ps) (xs.length-1)]?=some x):ke [d] μ=.ok x μ:=by
 unfold ke;dsimp only;rw[hs];dsimp only;rw[hd];dsimp only;rw[hp];dsimp only;rw[Ob hc,hb]
theorem uS{bt:Nat->Nat->Bool}:∀n,argBest bt n<=n
 |0=>OR _
 |n+1=>by
  unfold argBest;split
  ·exact OR _
  ·exact Nat.le_succ_of_le (uS n)
theorem rR{bt bt':Nat->Nat->Bool}:∀n,(∀i j,j<i->i<=n->bt i j=bt' i j)->argBest bt n=argBest bt' n
 |0,_=>rfl
 |n+1,h=>by
  have ih:=rR n fun i j a b=>h i j a (by omega);unfold argBest;rw[ih,h (n+1) _ (Nat.lt_succ_of_le (uS n)) (OR _)]
theorem yt{a b c d:Int}:(dk .Lt (bS [a,b]) (bS [c,d])).isSome=true:=by
 show (if PyData.eqv (.int a) (.int c)=true then (if PyData.eqv (.int b) (.int d)=true then some (cL .Lt 0 0) else some (cL .Lt b d)) else some (cL .Lt a c)).isSome=true;split
 ·split <;> rfl
 ·rfl
theorem Kh{a b c d:Int}:PyData.eqv (bS [a,b]) (bS [c,d])=(decide (a=c)&&decide (b=d)):=by
 show ((a == c)&&((b == d)&&true))=_;rw[SS];rfl
section
variable{m:Nat}{L:List (List Int)}{μ:aB}
theorem zm{k:List Int}(h:gp m k):(bS k).canLay0=true/\(bS k).depth<=1:=by
 have:=lF (m:=m) (ks:=[k]) (fun x hx=>by simp only[Os,RA,RB]at hx;subst hx;exact h);simpa[PyData.canLayAll0,PyData.depthAll] using this
theorem rH:∀{L:List (List Int)},(∀k∈L,gp m k)->kv μ (L.map ao)=some (L.map bS)
 |[],_=>rfl
 |k::L,h=>by
  obtain⟨a,b,rfl,_⟩:=h k Oo;have ih:=rH (L:=L) fun x hx=>h x (Oq _ hx);simp only[PM,kv,ih];rfl
theorem Br(h:∀k∈L,gp m k):nZ (L.map bS)=true:=by
 unfold nZ;refine Q6.mpr fun p hp=>?_;obtain⟨k,hk,rfl⟩:=QJ.mp hp;have f:=zm (h k hk);rw[PH];refine⟨by unfold dO;rw[f.1,SQ];exact Qi (by omega),Q6.mpr fun q hq=>?_⟩;obtain⟨k',hk',rfl⟩:=QJ.mp hq;obtain⟨a,b,rfl,_⟩:=h k hk;obtain⟨c,d,rfl,_⟩:=h k' hk';exact yt
abbrev lO(L:List (List Int)):Nat:=argBest (vx (L.map bS)) (L.length-1)
theorem Ea(hn:L≠[]):∃k,L[lO L]?=some k:=by
 have:=So.mpr hn;have:=uS (bt:=vx (L.map bS)) (L.length-1);exact⟨_,RZ (show argBest (vx (L.map bS)) (L.length-1)<L.length by omega)⟩
theorem Nb(h:∀k∈L,gp m k){k:List Int}(e:L[lO L]?=some k):ke [.tup (L.map ao)] μ=.ok (ao k) μ:=by
 refine zJ (xs:=L.map ao) ?_ rfl (rH h) (Br h) ?_
 ·cases L with
  |nil=>cases e
  |cons x r=>
   obtain⟨a,b,rfl,_⟩:=h x Oo;rfl
 ·rw[Pf,Pb,e];rfl
abbrev nI(w:Str)(k:List Int):D:=.tup [ao k,.str w]
abbrev t6(w:Str)(k:List Int):PyData:=.tuple [bS k,.str w]
theorem uA{w:Str}:∀{L:List (List Int)},(∀k∈L,gp m k)->kv μ (L.map (nI w))=some (L.map (t6 w))
 |[],_=>rfl
 |k::L,h=>by
  obtain⟨a,b,rfl,_⟩:=h k Oo;have ih:=uA (w:=w) (L:=L) fun x hx=>h x (Oq _ hx);simp only[PM,kv,ih];rfl
theorem v9:∀{xs ys:List D}{ps qs:List PyData},kv μ xs=some ps->kv μ ys=some qs->kv μ (xs++ys)=some (ps++qs)
 |[],ys,ps,qs,h,g=>by
  simp only[kv,Q3]at h;subst h;exact g
 |x::xs,ys,ps,qs,h,g=>by
  unfold kv at h;split at h
  ·rename_i p ps' e1 e2;simp only[Q3]at h;subst h;rw[QE];unfold kv;rw[e1,v9 e2 g];rfl
  ·cases h
theorem ou:(PyData.str "lacks").canLay0=true/\(PyData.str "lacks").depth<=1:=by decide +kernel
theorem rA:(PyData.str "more").canLay0=true/\(PyData.str "more").depth<=1:=by decide +kernel
theorem CI{w:Str}(hw:(PyData.str w).canLay0=true/\(PyData.str w).depth<=1){k:List Int}(h:gp m k):dO (t6 w k)=true:=by
 have f:=zm h;unfold dO;rw[PH,Sd];refine⟨?_,?_⟩
 ·simp only[PyData.canLay0,PyData.canLayAll0,f.1,hw.1,SS]at hw⊢;exact hw.1
 ·have:=f.2;have:=hw.2;simp only[PyData.depth,PyData.depthAll]at *;omega
end
theorem x4{α β:Type}{f g:α->β}{xs ys:List α}{i:Nat}{k:α}(h:(xs++ys)[i]?=some k):(xs.map f++ys.map g)[i]?=some (if i<xs.length then f k else g k):=by
 by_cases hi:i<xs.length
 ·rw[O9 hi]at h;rw[O9 (by rw[Pf];exact hi),Pb,h,Ob hi];rfl
 ·rw[O7 (Qh hi)]at h;rw[O7 (by rw[Pf];exact Qh hi),Pf,Pb,h,Oc hi];rfl
theorem tR:PyData.eqv (.str "lacks") (.str "lacks")=true:=by decide +kernel
theorem xa:PyData.eqv (.str "more") (.str "more")=true:=by decide +kernel
section
variable{m:Nat}{μ:aB}{lk mr:List (List Int)}
theorem CQ{w w':Str}{k k':List Int}(h:gp m k)(h':gp m k')(ne:k≠k'):dk .Lt (t6 w k) (t6 w' k')=dk .Lt (bS k) (bS k'):=by
 show (if PyData.eqv (bS k) (bS k')=true then _ else dk .Lt (bS k) (bS k'))=_;obtain⟨a,b,rfl,_⟩:=h;obtain⟨c,d,rfl,_⟩:=h';rw[Kh,Oc];intro z;rw[PH,Sd,Sd]at z;exact ne (by rw[z.1,z.2])
theorem D6{w:Str}{k:List Int}(h:gp m k)(hw:PyData.eqv (.str w) (.str w)=true):(dk .Lt (t6 w k) (t6 w k)).isSome=true:=by
 show (if PyData.eqv (bS k) (bS k)=true then (if PyData.eqv (.str w) (.str w)=true then some (cL .Lt 0 0) else none) else dk .Lt (bS k) (bS k)).isSome=true;rw[Ob hw];obtain⟨a,b,rfl,_⟩:=h;split
 ·rfl
 ·exact yt
theorem nq{w w':Str}{k k':List Int}(h:gp m k)(h':gp m k')(hw:PyData.eqv (.str w) (.str w)=true)(e:k=k'->w=w'):(dk .Lt (t6 w k) (t6 w' k')).isSome=true:=by
 by_cases z:k=k'
 ·have:=e z;subst z this;exact D6 h hw
 ·rw[CQ h h' z];obtain⟨a,b,rfl,_⟩:=h;obtain⟨c,d,rfl,_⟩:=h';exact yt
abbrev vz (lk mr:List (List Int)):List PyData:=lk.map (t6 "lacks")++mr.map (t6 "more")
abbrev nM (lk mr:List (List Int)):List D:=lk.map (nI "lacks")++mr.map (nI "more")
theorem GF(hl:∀k∈lk,gp m k)(hm:∀k∈mr,gp m k)(hd:∀k∈lk,k∉mr):nZ (vz lk mr)=true:=by
 unfold nZ;refine Q6.mpr fun p hp=>?_;rw[PH];rcases Ou.mp hp with hp|hp
 ·obtain ⟨k, hk, rfl⟩ := QJ.mp hp;refine⟨CI ou (hl k hk),Q6.mpr fun q hq=>?_⟩;rcases Ou.mp hq with hq|hq
  ·obtain⟨k',hk',rfl⟩:=QJ.mp hq;exact nq (hl k hk) (hl k' hk') tR fun _=>rfl
  ·obtain⟨k',hk',rfl⟩:=QJ.mp hq;exact nq (hl k hk) (hm k' hk') tR fun e=>absurd hk' (e ▸ hd k hk)
 ·obtain ⟨k, hk, rfl⟩ := QJ.mp hp;refine⟨CI rA (hm k hk),Q6.mpr fun q hq=>?_⟩;rcases Ou.mp hq with hq|hq
  ·obtain⟨k',hk',rfl⟩:=QJ.mp hq;exact nq (hm k hk) (hl k' hk') xa fun e=>absurd hk (e ▸ hd k' hk')
  ·obtain⟨k',hk',rfl⟩:=QJ.mp hq;exact nq (hm k hk) (hm k' hk') xa fun _=>rfl
theorem mQ(hl:∀k∈lk,gp m k)(hm:∀k∈mr,gp m k):∀k∈lk++mr,gp m k:=fun k hk=>by
 rcases Ou.mp hk with hk|hk
 ·exact hl k hk
 ·exact hm k hk
theorem Ld(hl:∀k∈lk,gp m k)(hm:∀k∈mr,gp m k)(hn:(lk++mr).Nodup){i j:Nat}(ji:j<i)(hi:i<(lk++mr).length):vx (vz lk mr) i j=vx ((lk++mr).map bS) i j:=by
 have hi':=RZ hi;have hj':=RZ (show j<(lk++mr).length by omega);have ne:(lk++mr)[i]≠(lk++mr)[j]'(by omega):=fun z=>QF.mp hn j i (by omega) hi ji z.symm;have oi:=mQ hl hm _ (RX hi);have oj:=mQ hl hm _ (RX (show j<(lk++mr).length by omega));have a1:=x4 (f:=t6 "lacks") (g:=t6 "more") hi';have a2:=x4 (f:=t6 "lacks") (g:=t6 "more") hj';unfold vx;rw[a1,a2,Pb,Pb,hi',hj'];simp only[Option.map_some];have key:∀w w',dk .Lt (t6 w (lk++mr)[i]) (t6 w' ((lk++mr)[j]'(by omega)))=dk .Lt (bS (lk++mr)[i]) (bS ((lk++mr)[j]'(by omega))):=fun w w'=>CQ oi oj ne;split <;> split <;> rw[key]
theorem LW{t:Nat}(hl:∀k∈lk,gp m k)(hm:∀k∈mr,gp m k)(hn:(lk++mr).Nodup)(ht:μ[t]?=some (.lst (nM lk mr))){k:List Int}(e:(lk++mr)[lO (lk++mr)]?=some k) :
  ke [.obj t] μ=.ok (if lO (lk++mr)<lk.length then nI "lacks" k else nI "more" k) μ:=by
 have hd:∀k∈lk,k∉mr:=fun k h1 h2=>(Rf.mp hn).2.2 k h1 k h2 rfl;refine zJ (xs:=nM lk mr) (ps:=vz lk mr) ?_ ?_ (v9 (uA hl) (uA hm)) (GF hl hm hd) ?_
 ·unfold xU;simp only[ht];cases lk with
  |nil=>cases mr with
   |nil=>cases e
   |cons x r=>rfl
  |cons x r=>rfl
 ·unfold BB;simp only[ht]
 ·have el : (nM lk mr).length = (lk ++ mr).length := by simp
  have eb:argBest (vx (vz lk mr)) ((nM lk mr).length-1)=lO (lk++mr):=by
   rw[el];have h0:=(Ow.mp e).1;exact rR _ fun i j ji hi=>Ld hl hm hn ji (by omega)
  rw[eb];exact x4 e
end
theorem zT{μ:aB}{xs:List D}:xS (.tup xs) μ=.ok (!xs.isEmpty) μ:=Sa (Sb _)
section
variable{m m':Nat}{ks ks':List (List Int)}{d w:D}{μ:aB}
theorem Cy{ls:List (List Int)}(h:GW m ks):∀k∈vP ks ls,gp m k:=fun k hk=>h.2.2.2.2 k (Oi.mp hk).1
theorem qe{ls:List (List Int)}:(vP ks ls).length<=ks.length:=SJ ..
theorem wW(h:GW m ks):ks.Nodup:=h.2.2.2.1.imp fun a e=>by subst e;exact absurd a (Int.lt_irrefl _)
theorem wL(h:GW m ks)(h':GW m ks'):(cn m ks ks'++c0 m ks ks').Nodup:=by
 have hg:=eX (ks:=ks') (k:=2) h'.m0 h'.m6;refine Rf.mpr ⟨(wW h).filter _,(wW hg).filter _,fun a ha b hb e=>?_⟩;subst e;have h1:=(Oi.mp ha).2;have h2:=(Oi.mp hb).1;simp only[Bool.not_eq_true',decide_eq_false_iff_not]at h1;exact h1 h2
theorem zj(h:GW m ks):∀k∈cn m ks ks',gp m k:=Cy h
theorem B1(h':GW m ks'):∀k∈c0 m ks ks',gp m k:=Cy (eX (ks:=ks') (k:=2) h'.m0 h'.m6)
theorem JJ(h:GW m ks)(h':GW m ks'):cQ (.tup ((cn m ks ks').map ao)) (.tup ((c0 m ks ks').map ao)) μ=.ok (.tup ((cn m ks ks'++c0 m ks ks').map ao)) μ:=by
 have hg:=eX (ks:=ks') (k:=2) h'.m0 h'.m6;have a:=cK h;have b:=cK hg;have c:(cn m ks ks').length<=_:=qe (ks:=ks) (ls:=js m ks' 2);have e:(c0 m ks ks').length<=_:=qe (ks:=js m ks' 2) (ls:=ks);rw[QR];exact j3 (by simp only[Pf];omega)
theorem zQ{k:List Int}(h:GW m ks)(h':GW m ks')(e:(cn m ks ks'++c0 m ks ks')[lO (cn m ks ks'++c0 m ks ks')]?=some k):k∈cn m ks ks'↔lO (cn m ks ks'++c0 m ks ks')<(cn m ks ks').length:=by
 constructor
 ·intro hk;refine QK fun hn=>?_;rw[O7 (Qh hn)]at e;exact(Rf.mp (wL h h')).2.2 k hk k (Pd e) rfl
 ·intro hl;rw[O9 hl]at e;exact Pd e
noncomputable abbrev sO (m:Nat) (ks ks':List (List Int)) (k:List Int):Str:=if k∈cn m ks ks' then "lacks" else "more"
theorem J8(h:GW m ks)(h':GW m ks')(e:cn m ks ks'++c0 m ks ks'=[]):bO [aP m ks,aP m ks'] μ=.ok .non μ:=by
 obtain⟨e1,e2⟩:=List.append_eq_nil_iff.mp e;unfold bO;rw[bK];simp only[ir,List.replicate];rw[aF,aQ];simp only[az,ar,aw,ak,ah,aa,yp h h',af,e1,e2,PL];rw[show fu 2 (br (aq 2) (br (aq 3) fv)) (.tup [.tup [],.tup []]) [some (aP m ks),some (aP m ks'),none,none,none,none,none] μ=.ok [some (aP m ks),some (aP m ks'),some (.tup []),some (.tup []),none,none,none] μ from rfl];simp only[af,aC];rw[aF,bW];simp only[mW,dm,eJ,ak,ah,aa,zT,List.isEmpty_nil,Q8,Rj,Pq,af,bb,bc,qN,aU];exact aM (by simp)
theorem Gq{a c:Int}(h:GW m ks)(h':GW m ks')(e:(cn m ks ks'++c0 m ks ks')[lO (cn m ks ks'++c0 m ks ks')]?=some [a,c]):bO [aP m ks,aP m ks'] μ=.ok (.tup [.str (sO m ks ks' [a,c]),.int a,.int c]) μ:=by
 have n2:0+1+1<=sizeLine:=l2;have n3:0+1+1+1<=sizeLine:=Ol (by decide) bL
 have hne:((!(!((cn m ks ks').map ao).isEmpty)) && !(!((c0 m ks ks').map ao).isEmpty))=false:=by
  cases e1:cn m ks ks' with
  |cons x r=>rfl
  |nil=>cases e2:c0 m ks ks' with
   |cons x r=>rfl
   |nil=>rw[e1,e2]at e;cases e
 unfold bO;rw[bK];simp only[ir,List.replicate];rw[aF,aQ];simp only[az,ar,aw,ak,ah,aa,yp h h',af];rw[show fu 2 (br (aq 2) (br (aq 3) fv)) (.tup [.tup ((cn m ks ks').map ao),.tup ((c0 m ks ks').map ao)]) [some (aP m ks),some (aP m ks'),none,none,none,none,none] μ=.ok [some (aP m ks),some (aP m ks'),some (.tup ((cn m ks ks').map ao)),some (.tup ((c0 m ks ks').map ao)),none,none,none] μ from rfl];simp only[af,aC];rw[aF,bW]
 rw[show qK (cD (eA (ai 2))) (cD (eA (ai 3))) [some (aP m ks),some (aP m ks'),some (.tup ((cn m ks ks').map ao)),some (.tup ((c0 m ks ks').map ao)),none,none,none] μ=.ok false μ from by
  simp only[mW,dm,eJ,ak,ah,aa,zT];rw[<- hne]
  cases (!(!((cn m ks ks').map ao).isEmpty)) <;> rfl]
 simp only[af,Ql,Pp,bY,aC];rw[aF,aQ];simp only[az,ar,aw,aH,ak,ah,aa,JJ h h',Nb (mQ (zj h) (B1 h')) e,af];rw[show fu 2 (br (aq 4) (br (aq 5) fv)) (ao [a,c]) [some (aP m ks),some (aP m ks'),some (.tup ((cn m ks ks').map ao)),some (.tup ((c0 m ks ks').map ao)),none,none,none] μ=.ok [some (aP m ks),some (aP m ks'),some (.tup ((cn m ks ks').map ao)),some (.tup ((c0 m ks ks').map ao)),some (.int a),some (.int c),none] μ from rfl];simp only[af,aC];rw[aF,aQ];simp only[L9,cB,aH,cM,az,ar,aw,ak,ah,bc,aa,Qm,QC,Ob n2,wV (zj h),aX]
 rw[show (if decide ([a,c]∈cn m ks ks')=true then (aj.ok (D.str "lacks") μ) else .ok (.str "more") μ)=.ok (.str (sO m ks ks' [a,c])) μ from by
  unfold sO;by_cases z:[a,c]∈cn m ks ks'
  ·rw[Qi z,Ob rfl,Ob z]
  ·rw[N8 z,Oc OK,Oc z]]
 simp only[af,bp,aC,SG,SH,bb,cM,ar,aw,ak,ah,aa,Qm,QC,Ob n3,aU];exact aM (by simp)
end
theorem G7{F G:List D->aB->aj D}{fr:MA}{ρ:Ro}{μ:aB}:qJ [F,G] 0 fr (some (.int 0)::ρ) μ=(fr (some (.int 0)::ρ) μ).bind F:=by unfold qJ;rfl
theorem G6{F G:List D->aB->aj D}{fr:MA}{ρ:Ro}{μ:aB}:qJ [F,G] 0 fr (some (.int 1)::ρ) μ=(fr (some (.int 1)::ρ) μ).bind G:=by unfold qJ;rfl
section
variable{m m':Nat}{ks ks':List (List Int)}{d w:D}{μ:aB}
theorem Hi (h:bP [w,d] μ=.exc ⟨"NoRoot",[]⟩ μ):cx [w,d] μ=.exc ⟨"NoRoot",[]⟩ μ:=by
 unfold cx;rw[bK];simp only[jy,List.replicate];rw[aF,mV];simp only[az,ar,aw,ak,ah,aa,h,j8,zA,nc,uq]
theorem L7 (h:bP [w,d] μ=.exc ⟨"NoRoot",[]⟩ μ):bO [w,d] μ=.exc ⟨"NoRoot",[]⟩ μ:=by
 unfold bO;rw[bK];simp only[ir,List.replicate];rw[aF,aQ];simp only[az,ar,aw,ak,ah,aa,Hi h,j8,zA,nc,uq]
theorem Cb {j:Int} (hj:j=0\/j=1) (h:bP [w,d] μ=.exc ⟨"NoRoot",[]⟩ μ):bI [.int j,w,d] μ=.ok (.str "root") μ:=by
 unfold bI;rw[nW];simp only[gM,List.replicate];unfold Ae
 rw[show bT [some (.int j),some w,some d,none] μ=.exc ⟨"NoRoot",[]⟩ μ from by
  rcases hj with rfl|rfl
  ·simp only[bT,bb,G7,ar,aw,ah,ak,aa,Hi h,j8]
  ·simp only[bT,bb,G6,ar,aw,ah,ak,aa,L7 h,j8]]
 dsimp only;rw[Ob eO]
 rw[show hV ((List.replicate 4 none).set 3 (some (D.obj μ.length))) (μ++[O.exc "NoRoot"])=.ret (.str "root") (μ++[O.exc "NoRoot"]) from by
  simp only[hV,bb,az,ar,aw,List.replicate,List.set,ak,ah,aa,rW (μ:=μ++[O.exc "NoRoot"]) (n:=μ.length) aE,af]]
 show p6 μ (.ok (.str "root") (μ++[O.exc "NoRoot"]))=_;exact eG (by simp)
theorem Lk(h:GW m ks)(h':GW m ks'):bI [.int 0,aP m ks,aP m ks'] μ=.ok (.tup [.tup ((cn m ks ks').map ao),.tup ((c0 m ks ks').map ao)]) μ:=by
 unfold bI;rw[nW];simp only[gM,List.replicate];unfold Ae
 rw[show bT [some (.int 0),some (aP m ks),some (aP m ks'),none] μ=.ret (.tup [.tup ((cn m ks ks').map ao),.tup ((c0 m ks ks').map ao)]) μ from by
  simp only[bT,bb,G7,ar,aw,ah,ak,aa,yp h h',af]]
 dsimp only;rw[aU];exact aM zu
theorem Lj{r:D}(hr:∀n,r.low n)(h:bO [aP m ks,aP m ks'] μ=.ok r μ):bI [.int 1,aP m ks,aP m ks'] μ=.ok r μ:=by
 unfold bI;rw[nW];simp only[gM,List.replicate];unfold Ae
 rw[show bT [some (.int 1),some (aP m ks),some (aP m ks'),none] μ=.ret r μ from by
  simp only[bT,bb,G6,ar,aw,ah,ak,aa,h,af]]
 dsimp only;rw[aU];exact aM (hr _)
theorem Sb{μ:aB}{x:D}{p:PyData}{neg:Bool}(e:mz μ x=some p)(f:dO p=true):iA neg x x μ=.ok (.bl (!neg)) μ:=by
 unfold iA;rw[e];dsimp only;rw[Ob ⟨f,f⟩,SeqAt.eqv_refl _ (cq f)];cases neg <;> rfl
theorem C0{ls:List (List Int)}(h:∀k∈ls,gp m k):mz μ (.tup (ls.map ao))=some (.tuple (ls.map bS)):=by
 simp only[mz,ot h,Option.map_some]
theorem CB {xs:List D}:d9 "tuple" (.tup xs) μ=.ok (.bl true) μ:=rfl
theorem Gn{a b:Int}{M:aB}:compLoop (.fix [.int a,.int b]) M.length (aq 0) cg dq [.int a,.int b] [none] (M++[.lst []])=.ok (.obj M.length) (M++[.lst [.bl true,.bl true]]):=
 dv (U:=Int) (en:=D.int) (src:=.fix [.int a,.int b]) (g:=aq 0) (t:=cg) (e:=dq) (μ1:=M) (q:=fun _=>true) (h:=fun _=>.bl true) (fun ρ=>∃o,ρ=[o]) (fun _=>trivial) (us:=[a,b]) (acc:=[]) (ρ:=[none]) ⟨_,rfl⟩
  (Ol (show ([]:List D).length+[a,b].length<=1000 by simp) bL)
  (fun k hk x ρ hJJ => by
   obtain⟨o,e'⟩:=hJJ;subst e';refine⟨[some (.int k)],⟨_,rfl⟩,rfl,rfl,fun _=>?_⟩;unfold dq;simp only[az,ar,aw,ah,aa]
   exact jJ (by simp[Kn]))
theorem sY{ls:List (List Int)}(h:∀k∈ls,gp m k)(hl:ls.length<=1000):bN [.tup (ls.map ao),.tup (ls.map ao)] μ=.ok (.bl true) μ:=by
 obtain⟨ys',ρ',μ2,s',⟨e1,n,L',e3,e4,e5,e6,e7⟩,run⟩:=jI (src:=.fix (ls.map ao)) (g:=aq 0) (t:=cg) (e:=fG) (n:=μ.length)
  (fun xs ys ρ μ2 s=>μ2=μ/\∃(n:Nat)(L':List (List Int)),xs=L'.map ao/\(∀k∈L',gp m k)/\ys=(List.replicate n true).map D.bl/\n+L'.length<=1000/\∃o,ρ=[o])
  (fun ys ρ μ2 s ⟨e,_⟩=>⟨by rw[e],trivial⟩)
  (fun x r ys ρ μ2 s hJ => by
   obtain⟨e1,n,L',e3,e4,e5,e6,o,e7⟩:=hJ;subst e1 e5 e7;cases L' with
   |nil=>cases e3
   |cons k L'=>
    rw[PM]at e3;injection e3 with ex er
    subst ex er;obtain⟨a,b,rfl,_⟩:=e4 k Oo;simp only[Qm]at e6;refine⟨rfl,trivial,[some (ao [a,b])],μ2,s,true,μ2,s,rfl,rfl,fun _=>⟨.bl true,μ2,s++[.lst [.bl true,.bl true]],?_,?_,rfl,rfl,n+1,L',rfl,fun k hk=>e4 k (Oq _ hk),?_,by omega,_,rfl⟩,fun z=>by cases z⟩
    ·unfold fG;simp only[cX,iW,ah,aa];rw[show d9 "tuple" (ao [a,b]) (μ2++O.lst ((List.replicate n true).map D.bl)::s)=.ok (.bl true) (μ2++O.lst ((List.replicate n true).map D.bl)::s) from rfl];simp only[aa,aX,Pq,az,ar,aw,bZ,cF,ah];rw[show vB (ao [a,b]) (μ2++O.lst ((List.replicate n true).map D.bl)::s)=.ok (.fix [.int a,.int b]) (μ2++O.lst ((List.replicate n true).map D.bl)::s) from rfl];simp only[aa,bo];rw[show fH [none] [some (ao [a,b])]=[none] from rfl,Gn];simp only[aa];refine(iI (bs:=[true,true]) aE).trans ?_;simp only[Qa,QE];rfl
    ·simp only[Pf,Pg];exact Of (show n<1000 by omega) bL
    ·rw[List.replicate_succ',QR];rfl)
  (xs:=ls.map ao) (ys:=[]) (ρ:=[none]) (μ1:=μ) (s:=[]) ⟨rfl,0,ls,rfl,h,rfl,by omega,_,rfl⟩
 subst e1 e5;unfold bN;rw[bK];simp only[jr,List.replicate];rw[aF,bW];simp only[iX,dm,eJ,iW,aH,cB,ak,ah,aa,CB,dG,Q8,Ql,Pp,Sb (C0 h) (tq h),aX,af,bY,aC,bb,az,ar,aw,bZ,cF,fS,bo];rw[rB,uQ,run];simp only[aa];rw[iI (bs:=List.replicate n true) (by rw[O7 (OR _),Q2];rfl)];rw[show (List.replicate n true).all id=true from by simp];simp only[af,aU];exact eG (by simp)
end
end Lw
namespace Lw
open PySem L2 RS Lv
section
variable{m m':Nat}{ks ks':List (List Int)}{d w:D}{μ:aB}
theorem K7{M:aB}{neg:Bool}{x:Str}:Aj neg (.str x) (.str x) M=.ok (.bl (!neg)) M:=by
 unfold Aj;dsimp only;rw[Qi rfl];cases neg <;> rfl
theorem Ci{t0 t1:D}(h0:∀a,bI [.int 0,w,d] (μ++[.lst a])=.ok t0 (μ++[.lst a]))(h1:∀a,bI [.int 1,w,d] (μ++[.lst a])=.ok t1 (μ++[.lst a])) :
  compLoop (.fix (cm 0 2)) μ.length (aq 0) cg gL (cm 0 2) [none,some w,some d] (μ++[.lst []])=.ok (.obj μ.length) (μ++[.lst [t0,t1]]):=
 dv (U:=Int) (en:=D.int) (src:=.fix (cm 0 2)) (g:=aq 0) (t:=cg) (e:=gL) (μ1:=μ) (q:=fun _=>true) (h:=fun j=>if j=0 then t0 else t1) (fun ρ=>∃o,ρ=[o,some w,some d]) (fun _=>trivial) (us:=[0,1]) (acc:=[]) (ρ:=[none,some w,some d]) ⟨_,rfl⟩
  (Ol (show ([]:List D).length+([0,1]:List Int).length<=1000 by simp) bL)
  (fun k hk a ρ hJJ => by
   obtain⟨o,e'⟩:=hJJ;subst e';refine⟨[some (.int k),some w,some d],⟨_,rfl⟩,rfl,rfl,fun _=>?_⟩;unfold gL;simp only[az,ar,aw,ak,ah,aa];simp only[Os,RA,RB]at hk;rcases hk with rfl|rfl
   ·rw[h0,Ob rfl]
   ·rw[h1,Oc (by decide)])
theorem CM{M:aB}{x y:D}{p:PyData}{neg:Bool}(e:mz M x=some p)(e':mz M y=some p)(f:dO p=true):iA neg x y M=.ok (.bl (!neg)) M:=by
 unfold iA;rw[e,e'];dsimp only;rw[Ob ⟨f,f⟩,SeqAt.eqv_refl _ (cq f)];cases neg <;> rfl
theorem A9:dO (.list [.str "root",.str "root"])=true:=by decide +kernel
theorem sV {M:aB}{n:Nat} (h:M[n]?=some (.lst [.str "root",.str "root"])):mz M (.obj n)=some (.list [.str "root",.str "root"]):=by
 unfold mz;dsimp only;rw[h];rfl
theorem Ck {x:Str} (A:∀s,fF [d] (μ++s)=.ok (.str x) (μ++s)) (hck:∀s,bP [w,d] (μ++s)=.exc ⟨"NoRoot",[]⟩ (μ++s)) (hrg:dc [w,d] μ=.ok (.bl false) μ)
  (hlk:fK (aI cH (ag (ai 1) (aD))) (aA (iA false) (aA bR (ai 1) (cC (.int 0))) (aA bR (ai 0) (cC (.int 0)))) [some w,some d,some (.str x),some (.bl false),none,none,none,none,none] μ=.ok (.bl false) μ) :
  bC [w,d] μ=.ok (.bl true) μ:=by
 have n2:0+1+1<=sizeLine:=l2;have A0:=A [];rw[OY]at A0;have g1:(μ++[O.lst [D.str "root",D.str "root"]]++[O.lst [D.str "root",D.str "root"]])[μ.length]?=some (.lst [.str "root",.str "root"]):=aG aE;unfold bC;rw[bK];simp only[kb,List.replicate];rw[aF,aQ];simp only[az,ar,aw,ak,ah,aa,A0,af,bp,aC,SG,SH];rw[aF,aQ];simp only[az,ar,aw,ak,ah,aa,hrg,af,bp,aC,SG,SH];rw[aF,aQ,hlk];simp only[af,bp,aC,SG,SH];rw[aF,bW];simp only[iX,dm,eJ,iW,ak,ah,aa];rw[show d9 "bool" (.bl false) μ=.ok (.bl true) μ from rfl];simp only[aa,dG,Q8,Ql,Pp,cB,aH,cX,ak,ah,aX,CL,Qk,Pq,af,bY,aC];rw[aF,aQ];simp only[bZ,ic,ar,aw,bc,aa];rw[show lX [.int 2] μ=.ok (.fix (cm 0 2)) μ from jX (by decide) (by decide)];simp only[aa,bo];rw[show fH [none,some 0,some 1] [some w,some d,some (.str x),some (.bl false),some (.bl false),none,none,none,none]=[none,some w,some d] from rfl];rw[Ci (t0:=.str "root") (t1:=.str "root") (fun a=>Cb (.inl rfl) (hck _)) (fun a=>Cb (.inr rfl) (hck _))];simp only[af,bp,aC,SG,SH];rw[aF,bW];simp only[cB,aH,az,ar,aw,ak,ah,aa,A,K7,Q8,aX,af,Ql,Pp,bY,aC];rw[aF,bW];simp only[dm,eJ,ak,ah,aa,dG,Rj,af,Pq,bb,aH,eK,ar,aw,bc,Qm,QC,Ob n2];rw[CM (sV g1) (sV aE) A9];simp only[af,qN,aU,Rj,Qa];exact eG (by simp)
end
end Lw
namespace Lw
open PySem L2 RS Lv
section
variable{m m':Nat}{ks ks' lk mr:List (List Int)}{d w:D}{μ M:aB}
theorem zX{w:Str}{e:ME}(hl:lk.length<=1000)(he:∀k M,e [some (ao k)] M=.ok (nI w k) M) :
  compLoop (.fix (lk.map ao)) M.length (aq 0) cg e (lk.map ao) [none] (M++[.lst []])=.ok (.obj M.length) (M++[.lst (lk.map (nI w))]):=by
 have:=dv (U:=List Int) (en:=ao) (src:=.fix (lk.map ao)) (g:=aq 0) (t:=cg) (e:=e) (μ1:=M) (q:=fun _=>true) (h:=nI w) (fun ρ=>∃o,ρ=[o]) (fun _=>trivial) (us:=lk) (acc:=[]) (ρ:=[none]) ⟨_,rfl⟩
  (Ol (by rw[QC];omega) bL)
  (fun k hk a ρ hJJ => by
   obtain⟨o,e'⟩:=hJJ;subst e'
   exact⟨[some (ao k)],⟨_,rfl⟩,rfl,rfl,fun _=>he _ _⟩)
 rw[this,Qg,SV.mpr (fun _ _=>rfl)]
theorem Dm{a0 a1 a2 a3 a4 a5 a6:Option D}(hl:lk.length<=400)(hm:mr.length<=400) :
  aA cQ (cA (fB (aA bR (ai 7) (cC (.int 0)))) [none] (aq 0) (cg) (gK)) (cA (fB (aA bR (ai 7) (cC (.int 1)))) [none] (aq 0) (cg) (gJ)) [a0,a1,a2,a3,a4,a5,a6,some (.tup [.tup (lk.map ao),.tup (mr.map ao)]),none] M =
   .ok (.obj (M++[O.lst (lk.map (nI "lacks"))]++[O.lst (mr.map (nI "more"))]).length) (M++[O.lst (lk.map (nI "lacks"))]++[O.lst (mr.map (nI "more"))]++[O.lst (nM lk mr)]):=by
 have n2:0+1+1<=sizeLine:=l2;simp only[aH,bZ,cF,ak,ah,bc,aa,cW,d4,fS,bo,rB,uQ];rw[zX (w:="lacks") (by omega) (fun k M=>by unfold gK;simp only[cM,ar,aw,ah,bc,aa,Qm,QC,Ob n2])];simp only[aa];rw[zX (w:="more") (by omega) (fun k M=>by unfold gJ;simp only[cM,ar,aw,ah,bc,aa,Qm,QC,Ob n2])];simp only[aa];exact qq (aG aE) aE (by simp only[Pf];omega)
theorem uy{w:Str}:∀{L:List (List Int)}{ys:List D}{qs:List PyData},(∀k∈L,gp m k)->gQ M ys=some qs->gQ M (L.map (nI w)++ys)=some (L.map (t6 w)++qs)
 |[],_,_,_,g=>g
 |k::L,ys,qs,h,g=>by
  obtain⟨a,b,rfl,_⟩:=h k Oo;have ih:=uy (w:=w) (L:=L) (fun x hx=>h x (Oq _ hx)) g;simp only[PM,QE,gQ,ih];rfl
theorem uz{t:Nat}(hl:∀k∈lk,gp m k)(hm:∀k∈mr,gp m k)(h:M[t]?=some (.lst (nM lk mr))):mz M (.obj t)=some (.list (vz lk mr)):=by
 have e:gQ M (nM lk mr)=some (vz lk mr):=by
  have e2:=uy (w:="more") (M:=M) (ys:=[]) (qs:=[]) hm rfl;rw[OY,OY]at e2;exact uy hl e2
 unfold mz;dsimp only;rw[h];dsimp only;rw[e];rfl
theorem ye{w:Str}(hw:(PyData.str w).canLay0=true/\(PyData.str w).depth<=1):∀{L:List (List Int)}{qs:List PyData},(∀k∈L,gp m k)->PyData.canLayAll0 qs=true/\PyData.depthAll qs<=3->PyData.canLayAll0 (L.map (t6 w)++qs)=true/\PyData.depthAll (L.map (t6 w)++qs)<=3
 |[],_,_,g=>g
 |k::L,qs,h,g=>by
  have ih:=ye hw (L:=L) (fun x hx=>h x (Oq _ hx)) g;have f:=zm (h k Oo);have hw2:=hw.2;refine⟨?_,?_⟩
  ·simp only[PM,QE,PyData.canLayAll0,PyData.canLay0,f.1,ih.1,SS];have:=hw.1;simp only[PyData.canLay0]at this;exact this
  ·have a:=ih.2;have b:=f.2;simp only[PM,QE,PyData.depthAll,PyData.depth]at *;omega
theorem Gs(hl:∀k∈lk,gp m k)(hm:∀k∈mr,gp m k):dO (.list (vz lk mr))=true:=by
 have e2:=ye (qs:=[]) rA hm ⟨rfl,by simp[PyData.depthAll]⟩;rw[OY]at e2;have e:=ye ou hl e2;unfold dO;rw[PH,Sd];refine⟨?_,?_⟩
 ·simp only[PyData.canLay0];exact e.1
 ·have:PyData.depthAll (vz lk mr)<=3:=e.2;simp only[PyData.depth];omega
theorem JE{t u:Nat}(hl:∀k∈lk,gp m k)(hm:∀k∈mr,gp m k)(h:M[t]?=some (.lst (nM lk mr)))(hu:M[u]?=some (.lst []))(ne:lk++mr≠[]):iA false (.obj t) (.obj u) M=.ok (.bl false) M:=by
 have e2:mz M (.obj u)=some (.list []):=by
  unfold mz;dsimp only;rw[hu];rfl
 unfold iA;rw[uz hl hm h,e2];dsimp only;rw[Ob ⟨Gs hl hm,by decide⟩,Oc OK];congr 2;cases lk with
 |cons x r=>rfl
 |nil=>cases mr with
  |cons x r=>rfl
  |nil=>exact absurd rfl ne
end
end Lw
namespace Lw
open PySem L2 RS Lv
def nt:MS:=bf (mD (i8 (aA (iA false) (ai 8) (iS (aD)))) (bV (aA (uc false) (aA bR (ai 5) (cC (.int 1))) (cC .non))) (cZ))
 (bV (fK (aA (iA false) (aA bR (ai 5) (cC (.int 1))) (aA cQ (bE (ag (aA bR (aI ke (ag (ai 8) (aD))) (cC (.int 1))) (aD))) (aA bR (aI ke (ag (ai 8) (aD))) (cC (.int 0))))) (aI nQ (ag (cA (fB (Ej (aA bR (ai 5) (cC (.int 1))) (kH (cC (.int 1))) (En))) [none] (aq 0) (cg) (eV)) (aD)))))
def mY:MS:=bf (mD (ja (cD (eA (ky (d9 "tuple") (aA bR (ai 5) (cC (.int 0)))))) (i8 (aA (iA true) (aI mE (ag (aA bR (ai 5) (cC (.int 0))) (aD))) (cC (.int 2))))) (bV (cC (.bl false))) (cZ))
 (bf (mD (ja (cD (eA (aI bN (ag (aA bR (aA bR (ai 5) (cC (.int 0))) (cC (.int 0))) (ag (aA bR (ai 7) (cC (.int 0))) (aD)))))) (cD (eA (aI bN (ag (aA bR (aA bR (ai 5) (cC (.int 0))) (cC (.int 1))) (ag (aA bR (ai 7) (cC (.int 1))) (aD))))))) (bV (cC (.bl false))) (cZ))
 (bf (bB (aA cQ (cA (fB (aA bR (ai 7) (cC (.int 0)))) [none] (aq 0) (cg) (gK)) (cA (fB (aA bR (ai 7) (cC (.int 1)))) [none] (aq 0) (cg) (gJ))) (aq 8))
 nt))
section
variable{m:Nat}{ks lk mr:List (List Int)}{M:aB}{a0 a1 a2 a3 a4 a6:Option D}{n:Nat}{t1:D}
abbrev M6 (lk mr:List (List Int)) (M:aB):aB:=M++[O.lst (lk.map (nI "lacks"))]++[O.lst (mr.map (nI "more"))]++[O.lst (nM lk mr)]++[O.lst []]
abbrev xO(lk mr:List (List Int)):D:=.tup [.tup (lk.map ao),.tup (mr.map ao)]
theorem Cj(hl:∀k∈lk,gp m k)(hm:∀k∈mr,gp m k)(nl:lk.length<=400)(nm:mr.length<=400)(hM:M[n]?=some (.lst [xO lk mr,t1])){g:aB->SO}
  (hg : nt
   [a0,a1,a2,a3,a4,some (.obj n),a6,some (xO lk mr),some (.obj (M++[O.lst (lk.map (nI "lacks"))]++[O.lst (mr.map (nI "more"))]).length)] (M++[O.lst (lk.map (nI "lacks"))]++[O.lst (mr.map (nI "more"))]++[O.lst (nM lk mr)])=g M) :
  mY [a0,a1,a2,a3,a4,some (.obj n),a6,some (xO lk mr),none] M=g M:=by
 unfold mY;rw[aF,bW];simp only[iX,dm,eJ,iW,aH,ak,ah,bc,aa,eM (i:=0) (d:=xO lk mr) hM rfl,CB,dG,Q8,Ql,Pp,cB,az,ar,aw,ly,gy,aX,Pq];rw[show (!((([D.tup (lk.map ao),D.tup (mr.map ao)]:List D).length:Int) == 2))=false from rfl];simp only[af,Ql,Pp,bY,aC];rw[aF,bW];simp only[iX,dm,eJ,az,ar,aw,aH,ak,ah,bc,aa,eM (i:=0) (d:=xO lk mr) hM rfl,cW,d4,sY hl (by omega),sY hm (by omega),dG,Q8,Ql,Pp,af,bY,aC];rw[aF,aQ,Dm nl nm];simp only[af,bp,aC,SG,SH];exact hg
theorem IJ(hM:M[n]?=some (.lst [xO [] [],.non])):mY [a0,a1,a2,a3,a4,some (.obj n),a6,some (xO [] []),none] M=.ret (.bl true) (M6 [] [] M):=by
 have hw:(M6 [] [] M)[(M++[O.lst (([]:List (List Int)).map (nI "lacks"))]++[O.lst (([]:List (List Int)).map (nI "more"))]).length]?=some (.lst (nM [] [])):=aG aE;have hM6:(M6 [] [] M)[n]?=some (.lst [xO [] [],.non]):=aG (aG (aG (aG hM)));refine Cj (m:=1) (g:=fun M=>.ret (.bl true) (M6 [] [] M)) (fun k hk=>by cases hk) (fun k hk=>by cases hk) (by simp) (by simp) hM ?_;unfold nt;rw[aF,bW];simp only[cB,aH,ak,ah,eK,aw,aa,QC,Ob (Qv sizeLine)];rw[CM (M:=M6 [] [] M) (p:=.list []) (uz (m:=1) (fun k hk=>by cases hk) (fun k hk=>by cases hk) hw) (uz (m:=1) (lk:=[]) (mr:=[]) (fun k hk=>by cases hk) (fun k hk=>by cases hk) aE) (by decide)];simp only[aa,Rj,aX,af,Pq,bb,aH,ak,ah,bc,eM (i:=1) (d:=.non) hM6 rfl];rfl
theorem DW{a b:Int}{M:aB}:compLoop (.fix [.int a,.int b]) M.length (aq 0) cg eV [.int a,.int b] [none] (M++[.lst []])=.ok (.obj M.length) (M++[.lst [.bl true,.bl true]]):=
 dv (U:=Int) (en:=D.int) (src:=.fix [.int a,.int b]) (g:=aq 0) (t:=cg) (e:=eV) (μ1:=M) (q:=fun _=>true) (h:=fun _=>.bl true) (fun ρ=>∃o,ρ=[o]) (fun _=>trivial) (us:=[a,b]) (acc:=[]) (ρ:=[none]) ⟨_,rfl⟩
  (Ol (show ([]:List D).length+[a,b].length<=1000 by simp) bL)
  (fun k hk x ρ hJJ => by
   obtain⟨o,e'⟩:=hJJ;subst e';refine⟨[some (.int k)],⟨_,rfl⟩,rfl,rfl,fun _=>?_⟩;unfold eV;simp only[az,ar,aw,ah,aa]
   exact jJ (by simp[Kn]))
theorem Ke{w:Str}{a c:Int}(hw:(PyData.str w).canLay0=true/\(PyData.str w).depth<=1)(h:gp m [a,c]):dO (.tuple [.str w,.int a,.int c])=true:=by
 have f:=zm h;have f1:=f.1;have w1:=hw.1;unfold dO;rw[PH,Sd];refine⟨?_,?_⟩
 ·simp only [bS, PM, PL, PyData.canLay0, PyData.canLayAll0, SS, PH] at *
  simp_all
 ·simp[PyData.depth,PyData.depthAll]
theorem Fp{w:Str}{a c:Int}(hl:∀k∈lk,gp m k)(hm:∀k∈mr,gp m k)(nl:lk.length<=400)(nm:mr.length<=400)(hn:(lk++mr).Nodup)(e:(lk++mr)[lO (lk++mr)]?=some [a,c])
  (hw:(if lO (lk++mr)<lk.length then nI "lacks" [a,c] else nI "more" [a,c])=nI w [a,c]) (fw:(PyData.str w).canLay0=true/\(PyData.str w).depth<=1)
  (hM:M[n]?=some (.lst [xO lk mr,.tup [.str w,.int a,.int c]])):mY [a0,a1,a2,a3,a4,some (.obj n),a6,some (xO lk mr),none] M=.ret (.bl true) (M6 lk mr M++[.lst [.bl true,.bl true]]):=by
 have hwd:(M6 lk mr M)[(M++[O.lst (lk.map (nI "lacks"))]++[O.lst (mr.map (nI "more"))]).length]?=some (.lst (nM lk mr)):=aG aE;have hM6:(M6 lk mr M)[n]?=some (.lst [xO lk mr,.tup [.str w,.int a,.int c]]):=aG (aG (aG (aG hM)));have ok:=mQ hl hm _ (Pd e);have n1:0+1<=sizeLine:=Ol (by decide) bL;have mn:=LW hl hm hn hwd e;rw[hw]at mn;have ad:cQ (.tup [.str w]) (ao [a,c]) (M6 lk mr M)=.ok (.tup [.str w,.int a,.int c]) (M6 lk mr M):=j3 (by simp);have eq1:iA false (.tup [.str w,.int a,.int c]) (.tup [.str w,.int a,.int c]) (M6 lk mr M)=.ok (.bl (!false)) (M6 lk mr M):=Sb (p:=.tuple [.str w,.int a,.int c]) rfl (Ke fw ok);refine Cj (g:=fun M=>.ret (.bl true) (M6 lk mr M++[.lst [.bl true,.bl true]])) hl hm nl nm hM ?_;unfold nt;rw[aF,bW];simp only[cB,aH,ak,ah,eK,aw,aa,QC,Ob (Qv sizeLine)];rw[JE (M:=M6 lk mr M) hl hm hwd aE (fun z=>by rw[z]at e;cases e)];simp only[aa,aX,af,Ql,Pp,bY,aC,bb,cX,aH,az,cM,ar,aw,ak,ah,bc,eM (i:=1) (d:=.tup [.str w,.int a,.int c]) hM6 rfl];rw[mn];simp only[aa,cW,d4,Qm,QC,Ob n1,mn];rw[ad];simp only[aa];rw[eq1];simp only[aa,Rj,aX,Pq,bZ,cF,zo,aH,ak,ah,bc,eM (i:=1) (d:=.tup [.str w,.int a,.int c]) hM6 rfl,rB,uQ];simp only[ni,yl,bc,aa];rw[show KC (.int 1) (M6 lk mr M)=.ok (some 1) (M6 lk mr M) from rfl];simp only[aa];rw[show Bv (.tup [.str w,.int a,.int c]) (some 1) none (M6 lk mr M)=.ok (.tup [.int a,.int c]) (M6 lk mr M) from by show aj.ok (D.tup (jR [.str w,.int a,.int c] (some 1) none)) _=_;rw[show jR [D.str w,.int a,.int c] (some 1) none=[.int a,.int c] from yq (r:=1) (n:=1) rfl]];simp only[aa,fS,bo];rw[DW];simp only[aa];rw[show nQ [D.obj (List.length (M6 lk mr M))] (M6 lk mr M++[O.lst [D.bl true,D.bl true]])=.ok (.bl true) (M6 lk mr M++[O.lst [D.bl true,D.bl true]]) from iI (bs:=[true,true]) aE];rfl
end
end Lw
namespace Lw
open PySem L2 RS Lv
section
variable{m m':Nat}{ks ks':List (List Int)}{d:D}{μ:aB}
theorem zC{x:Str}{t1:D}{s:aB}(A:∀s,Kn (μ++s) (aP m ks')/\fF [aP m ks'] (μ++s)=.ok (.str x) (μ++s))(h:GW m ks)(h':GW m ks')
  (hr:∀M,bO [aP m ks,aP m ks'] M=.ok t1 M) (lo:∀n,t1.low n)
  (fin:∀M a0 a1 a2 a3 a4 a6,M[μ.length]?=some (.lst [xO (cn m ks ks') (c0 m ks ks'),t1])->∃s,mY [a0,a1,a2,a3,a4,some (.obj μ.length),a6,some (xO (cn m ks ks') (c0 m ks ks')),none] M=.ret (.bl true) (M++s)) :
  bC [aP m ks,aP m ks'] μ=.ok (.bl true) μ:=by
 have hg:=eX (ks:=ks') (k:=2) h'.m0 h'.m6;have n2:0+1+1<=sizeLine:=l2;have A0:=(A []).2;have K0:=(A []).1;rw[OY]at A0 K0
 have wl:cI (aP m ks')=true:=by
  have e1:=yh (M:=μ) h';rw[yb K0]at e1;injection e1 with e1
  injection e1
 have B:=fun s=>(A s).2;let b:Bool:=decide (js m ks' 2=ks)
 have hrg:dc [aP m ks,aP m ks'] μ=.ok (.bl b) μ:=by
  rw[Cn h h',Qi rfl,SQ]
 have ew2:∀M,iA false (aP m (js m ks' 2)) (aP m ks) M=.ok (.bl b) M:=fun M=>by
  rw[NG hg h,Oc OK]
 have eb:∀M,iA true (.bl b) (.bl b) M=.ok (.bl false) M:=fun M=>by
  rw[CL,Ob rfl,Qk];rfl
 have hlk:fK (aI cH (ag (ai 1) (aD))) (aA (iA false) (aA bR (ai 1) (cC (.int 0))) (aA bR (ai 0) (cC (.int 0)))) [some (aP m ks),some (aP m ks'),some (.str x),some (.bl b),none,none,none,none,none] μ=.ok (.bl true) μ:=by
  simp only[cX,az,ar,aw,ak,ah,aa,uD K0,wl,aX,Pq,aH,bc,cW,gy,Ql,Pp,Qk]
 obtain⟨s,fin⟩:=fin (μ++[O.lst [xO (cn m ks ks') (c0 m ks ks'),t1]]++[O.lst ((cn m ks ks').map ao)]++[O.lst ((c0 m ks ks').map ao)]) (some (aP m ks)) (some (aP m ks')) (some (.str x)) (some (.bl b)) (some (.bl true)) (some (.tup ((js m ks' 2).map ao))) (aG (aG aE));unfold bC;rw[bK];simp only[kb,List.replicate];rw[aF,aQ];simp only[az,ar,aw,ak,ah,aa,A0,af,bp,aC,SG,SH];rw[aF,aQ];simp only[az,ar,aw,ak,ah,aa,hrg,af,bp,aC,SG,SH];rw[aF,aQ,hlk];simp only[af,bp,aC,SG,SH];rw[aF,bW];simp only[iX,dm,eJ,iW,ak,ah,aa];rw[show d9 "bool" (.bl b) μ=.ok (.bl true) μ from rfl];simp only[aa,dG,Q8,Ql,Pp,cB,aH,cX,az,ar,aw,ak,ah,aX,Pq,mP h',ew2,eb,  af,Ql,Pp,bY,aC];rw[aF,aQ];simp only[bZ,ic,ar,aw,bc,aa];rw[show lX [.int 2] μ=.ok (.fix (cm 0 2)) μ from jX (by decide) (by decide)];simp only[aa,bo];rw[show fH [none,some 0,some 1] [some (aP m ks),some (aP m ks'),some (.str x),some (.bl b),some (.bl true),none,none,none,none]=[none,some (aP m ks),some (aP m ks')] from rfl];rw[Ci (t0:=xO (cn m ks ks') (c0 m ks ks')) (t1:=t1) (fun a=>Lk h h') (fun a=>Lj lo (hr _))];simp only[af,bp,aC,SG,SH];rw[aF,bW];simp only[cB,aH,az,ar,aw,ak,ah,aa,B,K7,Q8,aX,af,Ql,Pp,bY,aC];rw[aF,bW];simp only[dm,eJ,ak,ah,aa,dG,Q8,af,Ql,Pp,bY,aC];rw[aF,aQ];simp only[aH,az,ar,aw,ak,ah,bc,aa,mP h',d4,af,bp,aC,SG,SH];rw[aF,aQ];simp only[cM,az,ar,aw,bZ,cF,aH,ak,ah,bc,aa,d4,fS,bo];rw[show fH [none,some 6] [some (aP m ks),some (aP m ks'),some (.str x),some (.bl b),some (.bl true),some (.obj μ.length),some (.tup ((js m ks' 2).map ao)),none,none]=[none,some (.tup ((js m ks' 2).map ao))] from rfl];rw[nk (ls:=js m ks' 2) h (fun k hk M=>by unfold lg;simp only[cB,aH,ak,ah,aa,uo hg.2.2.2.2 (h.2.2.2.2 k hk),aX]) (fun d M=>by unfold lj;rw[ah])];simp only[aa];rw[jV aE];simp only[aa];rw[show fH [none,some 0] [some (aP m ks),some (aP m ks'),some (.str x),some (.bl b),some (.bl true),some (.obj μ.length),some (.tup ((js m ks' 2).map ao)),none,none]=[none,some (aP m ks)] from rfl];rw[nk (ls:=ks) hg (fun k hk M=>by unfold k9;simp only[cB,aH,ak,ah,bc,aa,d4,uo h.2.2.2.2 (hg.2.2.2.2 k hk),aX]) (fun d M=>by unfold lh;rw[ah])];simp only[aa];rw[jV aE];simp only[aa,Qm,QC,Ob n2,af,bp,aC,SG,SH];refine(OE (fun r=>p6 μ (SO.out r)) fin).trans ?_;simp only[aU,Qa];exact eG (by simp)
theorem CY {lk mr:List (List Int)}{M:aB}:∃s,M6 lk mr M=M++s:=⟨[O.lst (lk.map (nI "lacks"))]++([O.lst (mr.map (nI "more"))]++([O.lst (nM lk mr)]++[O.lst []])),by simp only[M6,Qa]⟩
theorem II{x:Str}(h:GW m ks)(h':GW m ks')(A:∀s,Kn (μ++s) (aP m ks')/\fF [aP m ks'] (μ++s)=.ok (.str x) (μ++s)):bC [aP m ks,aP m ks'] μ=.ok (.bl true) μ:=by
 by_cases eL:cn m ks ks'++c0 m ks ks'=[]
 ·obtain⟨e1,e2⟩:=List.append_eq_nil_iff.mp eL;refine zC (s:=[]) A h h' (fun M=>J8 h h' eL) (fun n=>by simp) fun M a0 a1 a2 a3 a4 a6 hM=>?_;rw[e1,e2]at hM⊢;obtain⟨s,es⟩:=CY (lk:=[]) (mr:=[]) (M:=M);exact⟨s,by rw[IJ hM,es]⟩
 ·obtain ⟨k, ek⟩ := Ea eL;have hg:=eX (ks:=ks') (k:=2) h'.m0 h'.m6;have ok:=mQ (zj h) (B1 h') _ (Pd ek);obtain⟨a,c,rfl,_⟩:=id ok;have l1:(cn m ks ks').length<=_:=qe (ks:=ks) (ls:=js m ks' 2);have l2:(c0 m ks ks').length<=_:=qe (ks:=js m ks' 2) (ls:=ks);have g1:=cK h;have g2:=cK hg;refine zC (s:=[]) A h h' (fun M=>Gq h h' ek) (fun n=>by simp) fun M a0 a1 a2 a3 a4 a6 hM=>?_;obtain⟨s,es⟩:=CY (lk:=cn m ks ks') (mr:=c0 m ks ks') (M:=M);refine⟨s++[.lst [.bl true,.bl true]],(Fp (w:=sO m ks ks' [a,c]) (zj h) (B1 h') (by omega) (by omega) (wL h h') ek ?_ ?_ hM).trans (by rw[es,Qa])⟩
  ·unfold sO;by_cases z:[a,c]∈cn m ks ks'
   ·rw[Ob ((zQ h h' ek).mp z),Ob z]
   ·rw[Oc (fun y=>z ((zQ h h' ek).mpr y)),Oc z]
  ·unfold sO;split
   ·exact ou
   ·exact rA
theorem m7{x:Str}(h:GW m ks)(A:∀s,Kn (μ++s) d/\fF [d] (μ++s)=.ok (.str x) (μ++s)):bC [aP m ks,d] μ=.ok (.bl true) μ:=by
 have K0:=(A []).1;rw[OY]at K0;cases e:cI d with
 |false=>
  refine Ck (fun s=>(A s).2) (fun s=>Mb (A s).1 e) (LG K0 e) ?_;simp only[cX,az,ar,aw,ak,ah,aa,uD K0,e,aX,Ql,Pp]
 |true=>
  obtain⟨m',ks',rfl,h'⟩:=EI e;by_cases em:m'=m
  ·subst em;exact II h h' A
  ·refine Ck (fun s => (A s).2) (fun s => ?_) ?_ ?_
   ·rw[CS h h',Oc em]
   ·rw[Cn h h',N8 em,OO]
   ·simp only[cX,az,ar,aw,ak,ah,aa,uD K0,e,aX,Pq,aH,bc,cW,gy,Ql,Pp];rw[show ((m':Int) == (m:Int))=false from by rw[N9];omega]
theorem GG{μ0 μ1:aB}{i:Nat}(hi:i<μ0.length)(h:Pn μ0 i μ1)(hg:GW m ks):∃(qs:List (List Int))(μ2:aB),qs.Sublist ks/\Pn μ0 i μ2/\μ2.length=μ1.length /\
  compLoop (.fix (ks.map ao)) μ1.length (aq 0) mX mZ (ks.map ao) [none,some (.obj i)] (μ1++[.lst []])=.ok (.obj μ1.length) (μ2++[.lst (qs.map ao)]):=by
 have kl:=cK hg
 obtain⟨ys',ρ',μ2,s',⟨es,e1,e2,⟨o,e4⟩,qs,rs,e5,e6,e7,e8⟩,run⟩:=jI (src:=.fix (ks.map ao)) (g:=aq 0) (t:=mX) (e:=mZ) (n:=μ1.length)
  (fun xs ys ρ μ2 s=>s=[]/\μ2.length=μ1.length/\Pn μ0 i μ2/\(∃o,ρ=[o,some (.obj i)])/\∃qs rs:List (List Int),xs=rs.map ao/\ys=qs.map ao/\(qs++rs).Sublist ks/\qs.length+rs.length<=ks.length)
  (fun ys ρ μ2 s ⟨_,e1,_⟩=>⟨e1,trivial⟩)
  (fun x r ys ρ μ2 s hJJ => by
   obtain⟨es,e1,e2,⟨o,e4⟩,qs,rs,e5,e6,e7,e8⟩:=hJJ;subst es e4 e6;cases rs with
   |nil=>cases e5
   |cons k rs=>
    rw[PM]at e5;injection e5 with ex er
    subst ex er;simp only[Qm]at e8;have i2:i<μ2.length:=Of hi e2.len;obtain⟨v,a,b,c,v0,v1,ed,hp⟩:=(e2.app (g:=[.lst (qs.map ao)])).draw (m:=2) hi (by decide) (by decide);rw[uE i2]at ed;refine⟨e1,trivial,[some (ao k),some (.obj i)],μ2,[],v == 0,μ2.set i (cv a b c),[],rfl,?_,fun hc=>?_,fun hc=>?_⟩
    ·unfold mX;simp only[cB,aH,az,ar,aw,ak,ah,bc,aa,ae,ed,gy,Ql,Pp,aX]
    ·refine ⟨ao k, μ2.set i (cv a b c), [], ?_, ?_, by simpa using e1, rfl, by simpa using e1, e2.set hi, ⟨_, rfl⟩, qs ++ [k], rs, rfl, by simp, by simpa using e7, by simp; omega⟩
     ·unfold mZ;rw[ah]
     ·rw[Pf];exact Of (show qs.length<1000 by omega) bL
    ·exact⟨rfl,by simpa using e1,e2.set hi,⟨_,rfl⟩,qs,rs,rfl,rfl,(List.Sublist.append (List.Sublist.refl qs) (List.sublist_cons_self k rs)).trans e7,by omega⟩)
  (xs:=ks.map ao) (ys:=[]) (ρ:=[none,some (.obj i)]) (μ1:=μ1) (s:=[])
  ⟨rfl,rfl,h,⟨_,rfl⟩,[],ks,rfl,rfl,by simp,by simp⟩
 subst es e6;refine⟨qs,μ2,?_,e2,e1,run⟩;cases rs with
 |nil=>simpa using e7
 |cons=>cases e5
theorem CD(h:GW m ks)(hs:ks'.Sublist ks):GW m ks':=⟨rfl,h.2.1,h.2.2.1,h.2.2.2.1.sublist hs,fun k hk=>h.2.2.2.2 k (hs.subset hk)⟩
theorem above{A B:aB}{x y:O}{n j:Nat}(h:A.length=n)(hj:n<j):(A++x::B)[j]?=(A++y::B)[j]?:=by
 rw[O7 (by omega),O7 (by omega)];obtain⟨i,hi⟩:∃i,j-A.length=i+1:=⟨j-A.length-1,by omega⟩;rw[hi];rfl
theorem GE{N:aB}{P:Nat}{a b c:Int}(hp:N[P]?=some (cv a b c))(h:GW m ks):∃(ds:List D)(μc s:aB),μc.length=N.length/\(∀j o,P≠j->N[j]?=some o->μc[j]?=some o)/\ds.length=4/\(∀d∈ds,Mr (N.length+1) (μc++.lst ds::s) d) /\
  compLoop (.fix (cm 0 4)) N.length (aq 0) cg qu (cm 0 4) [none,some (.obj P),some (aP m ks)] (N++[.lst []])=.ok (.obj N.length) (μc++.lst ds::s):=by
 have hP:P<N.length:=(Ow.mp hp).1
 obtain⟨ys',ρ',μc,s',⟨e1,e2,e3,e4,e5,e6⟩,run⟩:=jI (src:=.fix (cm 0 4)) (g:=aq 0) (t:=cg) (e:=qu) (n:=N.length)
  (fun xs ys ρ μc s=>μc.length=N.length/\(∀j o,P≠j->N[j]?=some o->μc[j]?=some o)/\(∃a b c,μc[P]?=some (cv a b c))/\(∃o,ρ=[o,some (.obj P),some (aP m ks)])/\ys.length+xs.length=4/\∀d∈ys,Mr (N.length+1) (μc++.lst ys::s) d)
  (fun ys ρ μc s ⟨e1,_⟩=>⟨e1,trivial⟩)
  (fun x r ys ρ μc s hJ => by
   obtain⟨e1,e2,⟨a,b,c,e3⟩,⟨o,e4⟩,e5,e6⟩:=hJ;subst e4;obtain⟨d,M',ed,⟨u,v,w,g,hg⟩,ht⟩:=C9 (μ:=μc++.lst ys::s) (P:=P) (aG e3) h;have hPc:P<μc.length:=by omega
   have hM:M'=μc.set P (cv u v w)++.lst ys::(s++g):=by
    rw[hg,List.set_append_left _ _ hPc,Qa,QE]
   subst hM;refine⟨e1,trivial,[some x,some (.obj P),some (aP m ks)],μc,s,true,μc,s,rfl,rfl,fun _=>⟨d,μc.set P (cv u v w),s++g,?_,?_,by simpa using e1,by simpa using e1,fun j o ne z=>by rw[OA ne];exact e2 j o ne z,⟨u,v,w,ia hPc⟩,⟨_,rfl⟩,?_,fun d' hd=>?_⟩,fun z=>by cases z⟩
   ·unfold qu;simp only[az,ar,aw,ak,ah,aa,ed]
   ·simp only[Qm]at e5;exact Of (show ys.length<1000 by omega) bL
   ·simp only[Qm,Pe,QC]at e5⊢;omega
   ·have l1 : (μc.set P (cv u v w)).length = N.length := by simpa using e1
    rcases Ou.mp hd with hd|hd
    ·obtain⟨x',hx⟩:=e6 d' hd;refine⟨x',fun X hX=>hx X fun j o hj z=>hX j o hj ?_⟩;rw[O7 (by omega)]at z⊢;rw[l1];rw[e1]at z;obtain⟨i,hi⟩:∃i,j-N.length=i+1:=⟨j-N.length-1,by omega⟩;rw[hi]at z⊢;exact aG (show s[i]?=some o from z)
    ·simp only [Os, RA, RB] at hd;subst hd;obtain⟨x',hx⟩:=ht;refine⟨x',fun X hX=>hx X fun j o hj z=>hX j o ?_ ?_⟩
     ·simp only[Pe,Qm]at hj;omega
     ·rw [above (y := .lst ys) l1 (by simp only [Pe, Qm] at hj; omega)]
      exact z)
  (xs:=cm 0 4) (ys:=[]) (ρ:=[none,some (.obj P),some (aP m ks)]) (μ1:=N) (s:=[])
  ⟨rfl,fun _ _ _ z=>z,⟨_,_,_,hp⟩,⟨_,rfl⟩,rfl,fun d hd=>by cases hd⟩
 exact⟨ys',μc,s',e1,e2,by simpa using e5,e6,run⟩
end
end Lw
namespace Lw
open PySem L2 RS Lv
theorem E8{μ:aB}{ns:List Int}:∃x:Int,eU [.frz (ns.map D.int),.int 0] μ=.ok (.int x) μ:=by
 unfold eU;rw[bK];cases ns with
 |nil=>
  refine⟨0,?_⟩;simp only[i6,PL,List.replicate,aF,bW,cB,aH,ak,ah,az,ar,aw,zV,QC,aa,ie];rw[show cL .Lt 0 ((0:Nat):Int)=false from rfl];simp only[aX,af,Ql,Pp,bY,aC,bb,bc,aU];exact aM (by simp)
 |cons x r=>
  refine⟨x,?_⟩;simp only[i6,PM,List.replicate,aF,bW,cB,aH,ak,ah,az,ar,aw,zV,Qm,aa,ie];rw[show cL .Lt 0 (((r.map D.int).length+1:Nat):Int)=true from Qi (by omega)];simp only[aX,af,Pq,bb,aH,ak,ah,aa];rw[Kf o9];simp only[af,qN,aU];exact aM (by simp)
section
variable{m m':Nat}{ks ks':List (List Int)}{d:D}{μ:aB}
def MF(M:aB)(d:D):Prop:=∃x,∀s,Kn (M++s) d/\fF [d] (M++s)=.ok (.str x) (M++s)
theorem jU{M:aB}(h:GW m ks):MF M (aP m ks):=by
 obtain⟨x,hx⟩:=uM (T:=fun _=>True) (J3 (n:=2) h) (by decide) rfl;exact⟨x,fun s=>hx _ trivial⟩
theorem DP{M:aB}{a0 a1 a2 a3 a6:Option D}(h:GW m ks)(h':GW m' ks')(hd:MF M d):qt [a0,a1,a2,a3,some (aP m ks),some (aP m' ks'),a6,some d] M=.next [a0,a1,a2,a3,some (aP m ks),some (aP m' ks'),a6,some d] M:=by
 obtain⟨x,hx⟩:=hd;unfold qt;simp only[bW,iX,dm,eJ,az,ar,aw,ak,ah,aa,m7 h hx,m7 h' hx,dG,Q8,Ql,Pp,af,bY]
theorem tF{M:aB}{t:Nat}{all:List D}{a0 a1 a2 a3 a6:Option D}(h:GW m ks)(h':GW m' ks')(ht:M[t]?=some (.lst all)):∀(ds:List D)(a7:Option D),(∀d∈ds,MF M d) ->
  ∃b7:Option D,iB (.own t all) (aq 7) qt ds [a0,a1,a2,a3,some (aP m ks),some (aP m' ks'),a6,a7] M=.next [a0,a1,a2,a3,some (aP m ks),some (aP m' ks'),a6,b7] M
 |[],a7,_=>⟨a7,by unfold iB;rw[Ob (show eD (.own t all) M from ht)]⟩
 |d::ds,a7,hd=>by
  have e1:=DP (a0:=a0) (a1:=a1) (a2:=a2) (a3:=a3) (a6:=a6) h h' (hd d Oo);obtain⟨b7,e2⟩:=tF h h' ht ds (some d) fun u hu=>hd u (Oq _ hu);refine⟨b7,?_⟩;unfold iB;rw[Ob (show eD (.own t all) M from ht)];simp only[bp,af,SG,SH];rw[e1];exact e2
theorem yi(h0:1<=m)(h6:m<=6):GW m []:=⟨rfl,by omega,by omega,List.Pairwise.nil,fun k hk=>by cases hk⟩
theorem Gc{M:aB}{x:Int}{a0 a2 a3 a4 a5 a6 a7:Option D}:∃(M':aB)(b2 b3 b4 b5 b6 b7:Option D),
  qr [a0,some (.int x),a2,a3,a4,a5,a6,a7] M=.next [a0,some (.int x),b2,b3,b4,b5,b6,b7] M'/\∀(j:Nat)(o:O),M[j]?=some o->M'[j]?=some o:=by
 obtain⟨a,b,c,ep⟩:=Im (μ:=M) x;have sl:∀a b c a' b' c':Int,(M++[cv a b c]).set M.length (cv a' b' c')=M++[cv a' b' c']:=fun _ _ _ _ _ _=>qY;obtain⟨m,ls,a1',b1,c1,h1,ew⟩:=wg (μ:=M++[cv a b c]) (i:=M.length) aE;rw[sl]at ew;have gs:=eX (k:=2) (ks:=ls) h1.m0 h1.m6;obtain⟨m',ks',a2',b2',c2',h',ea⟩:=Ip (μ:=M++[cv a1' b1 c1]) (i:=M.length) aE;rw[sl]at ea;let M2:aB:=M++[cv a2' b2' c2']
 have hM2:M.length<M2.length:=by simp[M2]
 obtain⟨qs,μ2,hq,P2,l2',eq⟩:=GG (μ0:=M2) (μ1:=M2) (i:=M.length) hM2 (Pn.self aE) gs;have gq:=CD gs hq;obtain⟨u2,v2,w2,hp2⟩:=P2.get hM2;let five:List D:=[aP m ls,aP m (js m ls 2),aP m qs,aP m' ks',aP m []]
 let N1:aB:=μ2++[O.lst (qs.map ao)]
 let N2:aB:=N1++[O.lst five]
 obtain⟨ds,μc,s,lc,kc,ld,td,ec⟩:=GE (N:=N2) (P:=M.length) (aG (aG hp2)) h1;let Me:aB:=μc++.lst ds::s
 let Mf:aB:=Me++[O.lst (five++ds)]
 have hN1:M.length≠N1.length:=by simp only[N1,Pe,l2',M2,Qm,QC];omega
 have f1:Me[N1.length]?=some (.lst five):=aG (kc _ _ hN1 aE)
 have f2:Me[N2.length]?=some (.lst ds):=by
  simp only[Me];rw[<- lc,O7 (OR _),Q2];rfl
 obtain⟨b7,ef⟩:=tF (M:=Mf) (t:=Me.length) (all:=five++ds) (a0:=a0) (a1:=some (.int x)) (a2:=some (.obj M.length)) (a3:=some (aP m ls)) (a6:=some (aP m qs)) gs h' aE (five++ds) a7 (fun d hd=>by
  rcases Ou.mp hd with hd|hd
  ·simp only [five, Os, RA, RB] at hd;rcases hd with rfl|rfl|rfl|rfl|rfl
   ·exact jU h1
   ·exact jU gs
   ·exact jU gq
   ·exact jU h'
   ·exact jU (yi h1.m0 h1.m6)
  ·obtain ⟨y, hy⟩ := td d hd
   exact⟨y,fun s'=>hy _ fun j o _ z=>by
    show (Me++[O.lst (five++ds)]++s')[j]?=some o
    exact aG (aG z)⟩)
 refine⟨Mf,some (.obj M.length),some (aP m ls),some (aP m (js m ls 2)),some (aP m' ks'),some (aP m qs),b7,?_,fun j o e=>?_⟩
 rotate_left
 ·have hj : j < M.length := (Ow.mp e).1;have z1:M2[j]?=some o:=aG e
  have z2:μ2[j]?=some o:=by
   obtain⟨u,v,w,g,hg⟩:=P2;rw[hg];exact aG (by rw[OA (by omega)];exact z1)
  exact aG (aG (kc j o (by omega) (aG (aG z2))))
 ·have n2 : 0 + 1 + 1 <= sizeLine := l2;have n5:0+1+1+1+1+1<=sizeLine:=Ol (by decide) bL;unfold qr;rw[aF,aQ];simp only[az,ar,aw,ak,ah,aa,ep,af,bp,SG,SH,aC];rw[aF,aQ];simp only[az,ar,aw,ak,ah,bc,aa,ew,af,bp,SG,SH,aC];rw[aF,aQ];simp only[az,ar,aw,ak,ah,bc,aa,mP h1,af,bp,SG,SH,aC];rw[aF,aQ];simp only[az,ar,aw,ak,ah,bc,aa,ea,af,bp,SG,SH,aC];rw[aF,aQ];simp only[cM,az,ar,aw,bZ,cF,aH,ak,ah,bc,aa,cW,d4,fS,bo];rw[show fH [none,some 2] [a0,some (.int x),some (.obj M.length),some (aP m ls),some (aP m (js m ls 2)),some (aP m' ks'),a6,a7]=[none,some (.obj M.length)] from rfl];rw[show compLoop (.fix ((js m ls 2).map ao)) (M++[cv a2' b2' c2']).length (aq 0) mX mZ ((js m ls 2).map ao) [none,some (.obj M.length)] (M++[cv a2' b2' c2']++[.lst []])=.ok (.obj (M++[cv a2' b2' c2']).length) (μ2++[.lst (qs.map ao)]) from eq];simp only[aa]
  rw[show gX [.obj (M++[cv a2' b2' c2']).length] (μ2++[.lst (qs.map ao)])=.ok (.tup (qs.map ao)) (μ2++[.lst (qs.map ao)]) from by
   rw[show (M++[cv a2' b2' c2']).length=μ2.length from l2'.symm]
   exact jV aE]
  simp only[aa,Qm,QC,Ob n2,af,bp,SG,SH,aC];rw[l6,cF];simp only[aH,eK,cM,az,ar,aw,ak,ah,bc,aa,cW,QC,Ob (Qv sizeLine),Qm,Ob n2,Ob n5,bZ,ic];rw[show lX [.int 4] (μ2++[O.lst (qs.map ao)]++[O.lst [aP m ls,aP m (js m ls 2),D.tup [.int m,.tup (qs.map ao)],aP m' ks',D.tup [.int m,.tup []]]])=.ok (.fix (cm 0 4)) N2 from jX (by decide) (by decide)];simp only[aa,bo];rw[show fH [none,some 2,some 3] [a0,some (.int x),some (.obj M.length),some (aP m ls),some (aP m (js m ls 2)),some (aP m' ks'),some (D.tup [.int m,.tup (qs.map ao)]),a7]=[none,some (.obj M.length),some (aP m ls)] from rfl];rw[ec];simp only[aa];rw[show cQ (.obj (μ2++[O.lst (qs.map ao)]).length) (.obj N2.length) (μc++.lst ds::s)=.ok (.obj Me.length) Mf from qq f1 f2 (by simp only[five,Qm,QC,ld];omega)];simp only[aa];rw[jW (show Mf[Me.length]?=some (.lst (five++ds)) from aE)];simp only[af,gY];exact ef
end
theorem NF:GW 3 [[0,1],[0,2],[1,2]]:=⟨rfl,by decide,by decide,by decide,fun k hk=>by
 simp only[Os,RA,RB]at hk;rcases hk with rfl|rfl|rfl
 ·exact⟨0,1,rfl,by decide,by decide,by decide⟩
 ·exact⟨0,2,rfl,by decide,by decide,by decide⟩
 ·exact⟨1,2,rfl,by decide,by decide,by decide⟩⟩
theorem Ni:GW 3 [[0,1],[0,2]]:=CD NF (List.Sublist.cons₂ _ (List.Sublist.cons₂ _ (List.nil_sublist _)))
theorem NM:aP 1 []=.tup [.int 1,.tup []]:=rfl
theorem NL:aP 3 [[0,1],[0,2],[1,2]]=.tup [.int 3,.tup [.tup [.int 0,.int 1],.tup [.int 0,.int 2],.tup [.int 1,.int 2]]]:=rfl
theorem MM:aP 3 [[0,1],[0,2]]=.tup [.int 3,.tup [.tup [.int 0,.int 1],.tup [.int 0,.int 2]]]:=rfl
theorem Am{ρ:Ro}:ja (cD (eA (aI bC (ag (bE (ag (cC (.int 1)) (ag (bE (aD)) (aD)))) (ag (bE (ag (cC (.int 1)) (ag (bE (aD)) (aD)))) (aD)))))) (cD (eA (aI bC (ag (bE (ag (cC (.int 3)) (ag (bE (ag (bE (ag (cC (.int 0)) (ag (cC (.int 1)) (aD)))) (ag (bE (ag (cC (.int 0)) (ag (cC (.int 2)) (aD)))) (ag (bE (ag (cC (.int 1)) (ag (cC (.int 2)) (aD)))) (aD))))) (aD)))) (ag (bE (ag (cC (.int 3)) (ag (bE (ag (bE (ag (cC (.int 0)) (ag (cC (.int 1)) (aD)))) (ag (bE (ag (cC (.int 0)) (ag (cC (.int 2)) (aD)))) (aD)))) (aD)))) (aD)))))) ρ []=.ok false []:=by
 have n2:0+1+1<=sizeLine:=l2;have n3:0+1+1+1<=sizeLine:=Ol (by decide) bL;obtain⟨x,hx⟩:=jU (M:=[]) (yi (m:=1) (by decide) (by decide));obtain⟨y,hy⟩:=jU (M:=[]) Ni;simp only[iX,dm,eJ,az,cM,ar,aw,bc,aa,QC,Qm,Ob (Qv sizeLine),Ob n2,Ob n3];have r1:=m7 (yi (m:=1) (by decide) (by decide)) hx;have r3:=m7 NF hy;rw[NM]at r1;rw[NL,MM]at r3;rw[r1];simp only[aa,dG,Q8,Ql,Pp];rw[r3];simp only[aa,dG,Q8]
theorem Io(ns:List Int):∃μ',v3 [.frz (ns.map D.int)] []=.ok (.bl true) μ':=by
 obtain⟨x0,ex0⟩:=E8 (μ:=[]) (ns:=ns)
 obtain⟨xs,hxs,hxl⟩:∃xs:List Int,jR (ns.map D.int) (some 1) (some 8)=xs.map D.int/\xs.length<=8:=by
  refine⟨(ns.drop (HT.sIx ns.length 0 (some 1))).take (HT.sIx ns.length ns.length (some 8)-HT.sIx ns.length 0 (some 1)),?_,?_⟩
  ·unfold jR;rw[Pf,QS,QT]
  ·rw[O5];have h6:HT.sIx ns.length ns.length (some 8)=min 8 ns.length:=HT.sIx_nat _ _ 8;omega
 obtain⟨L,hL⟩:∃L:List Int,L=x0::xs:=⟨_,rfl⟩;let M5:aB:=([O.lst [.int x0]]++[O.lst (xs.map D.int)])++[O.lst (L.map D.int)]
 have h5:M5[2]?=some (.lst (L.map D.int)):=rfl
 obtain⟨ρ3,M6,_,run3⟩:=mU (src:=.own 2 (L.map D.int)) (g:=aq 1) (fb:=qr)
  (fun zs ρ μ=>μ[2]?=some (O.lst (L.map D.int))/\(∃rs:List Int,zs=rs.map D.int)/\∃o0 o1 o2 o3 o4 o5 o6 o7,ρ=[o0,o1,o2,o3,o4,o5,o6,o7])
  (fun ρ μ hJJ=>hJJ.1)
  (fun x r ρ μ hJJ => by
   obtain⟨h2,⟨rs,er⟩,o0,o1,o2,o3,o4,o5,o6,o7,eρ⟩:=hJJ;subst eρ;cases rs with
   |nil=>cases er
   |cons y rs=>
    injection er with ex er
    subst ex er;obtain⟨M',b2,b3,b4,b5,b6,b7,e1,e2⟩:=Gc (M:=μ) (x:=y) (a0:=o0) (a2:=o2) (a3:=o3) (a4:=o4) (a5:=o5) (a6:=o6) (a7:=o7)
    exact⟨h2,_,μ,_,_,rfl,e1,e2 2 _ h2,⟨rs,rfl⟩,_,_,_,_,_,_,_,_,rfl⟩)
  (xs:=L.map D.int) (ρ:=[some (.frz (ns.map D.int)),none,none,none,none,none,none,none]) (μ:=M5)
  ⟨h5,⟨L,rfl⟩,_,_,_,_,_,_,_,_,rfl⟩
 have hend:∃μ',p6 [] (.ok (.bl true) M6)=.ok (.bl true) μ':=by
  rcases CH (μ:=[]) (d:=.bl true) (μ':=M6) with e|⟨e,_⟩ <;> exact⟨_,e⟩
 obtain⟨μ',hend⟩:=hend;refine⟨μ',?_⟩;unfold v3;rw[fE];unfold Hm;have l1:([.int x0]:List D).length<=sizeLine:=by show 1<=sizeLine;decide
 have sl:∀μ,Bv (.frz (ns.map D.int)) (some 1) (some 8) μ=.ok (.obj μ.length) (μ++[.lst (xs.map D.int)]):=fun μ=>by
  unfold Bv;dsimp only;rw[hxs]
 have ad:cQ (.obj 0) (.obj 1) ([O.lst [.int x0]]++[O.lst (xs.map D.int)])=.ok (.obj 2) M5:=by
  have:=qq (μ:=[O.lst [.int x0]]++[O.lst (xs.map D.int)]) (a:=0) (b:=1) rfl rfl (show ([.int x0]:List D).length+(xs.map D.int).length<=1000000 by rw[Pf];simp only[Qm,QC];omega);rw[this];simp only[M5,hL];rfl
 simp only[List.replicate];rw[aF,bW,Am];simp only[af,Ql,Pp,bY,aC];rw[aF,l6,cF,aH,eK,ar,az,ar,ah,aa,ar,bc,aa,aw,aa,aa,aa,ex0,aa,aw,aa,aa];simp only[Ob l1,aa,zo,ah,ni,bc,yn];rw[sl,aa];rw[show cQ (.obj ([]:aB).length) (.obj (([]:aB)++[O.lst [.int x0]]).length) (([]:aB)++[O.lst [.int x0]]++[O.lst (xs.map D.int)])=_ from ad];rw[aa,jW h5,af,gY,run3,aC,bb,bc,af,aU];exact hend
end Lw
namespace Lw
open PySem PySem.Spec PyProof.Rows L2 RS
theorem cz(P:Params)(f:Addr)(n m:Str)(t:Tok)(c:Addr)(st:Stmt)(l:(Kz P).lookup f=some (fo n st m t c))(q:W.codeIn (Kz P) (.ref c) n=true):h7 (Kz P) n n st f (W.fnOf n n (eY st) (cG st) (au st) .none .none .none (.str m t) none (.ref c) .none):=J9 l q (by unfold W.keepIn;dsimp only;rw[l];rfl)
theorem Kr {l:W.OpenLaw}{w:World}{h:Heap}{mg:Str->Option Value}{fa:Addr} (X:(Kz w.params).In h) (G:h.Ns mainGlobals mg) (hfa:mg "law" = some (.ref fa)) :
  ∃fd:FuncData,(∀(s:Shared) (v:Value),BindsTo s fd ⟨[v],[]⟩ [("_law_script",v)])/\∀base:Heap,(Kz w.params).In base->base.Ns mainGlobals mg->qB l.prog w (Kz w.params) mg base xQ 14 fa fd ["_law_script"] (Ef (dW (Kz w.params) w) 1 v3):=by
 have e:=hfa.symm.trans (W.mg_of X G (v:=.ref 359) (by kernel_rfl));cases e;have nm:Nm mg:=⟨W.mg_none_of X G (by kernel_rfl),W.mg_none_of X G (by kernel_rfl),W.mg_none_of X G (by kernel_rfl),W.mg_none_of X G (by kernel_rfl),W.mg_none_of X G (by kernel_rfl),W.mg_none_of X G (by kernel_rfl),W.mg_none_of X G (by kernel_rfl),W.mg_none_of X G (by kernel_rfl),W.mg_none_of X G (by kernel_rfl),W.mg_none_of X G (by kernel_rfl),W.mg_none_of X G (by kernel_rfl),W.mg_none_of X G (by kernel_rfl),W.mg_none_of X G (by kernel_rfl),W.mg_none_of X G (by kernel_rfl)⟩;have c_MOST_PLACES:=W.mg_of X G (n:="MOST_PLACES") (v:=(.int 6 404)) (by kernel_rfl);have c_MOST_STEPS:=W.mg_of X G (n:="MOST_STEPS") (v:=(.int 6 406)) (by kernel_rfl);have F:=cz w.params 359 "law" "law_rootwebs_k09_roots_looked_at" 508 358 jS (by kernel_rfl) (by kernel_rfl);refine⟨W.fnOf "law" "law" (eY jS) (cG jS) (au jS) .none .none .none (.str "law_rootwebs_k09_roots_looked_at" 508) none (.ref 358) .none,fun s v=>.of_eq rfl,fun base Xb Gb=>?_⟩;have d_is_whole:=xu (P:=l.prog) (w:=w) (base:=base)  nm (cz w.params 151 "is_whole" "rootwebs.kinds" 364 150 jm (by kernel_rfl) (by kernel_rfl)) (W.mg_of X G (by kernel_rfl));have d_is_whole_from:=oO (P:=l.prog) (w:=w) (base:=base)  nm (cz w.params 158 "is_whole_from" "rootwebs.kinds" 364 157 ff (by kernel_rfl) (by kernel_rfl)) (W.mg_of X G (by kernel_rfl)) d_is_whole;have d_is_place:=xv (P:=l.prog) (w:=w) (base:=base)  nm (cz w.params 165 "is_place" "rootwebs.kinds" 364 164 jn (by kernel_rfl) (by kernel_rfl)) (W.mg_of X G (by kernel_rfl)) d_is_whole_from;have d_is_places:=ve (P:=l.prog) (w:=w) (base:=base)  nm (cz w.params 170 "is_places" "rootwebs.kinds" 364 169 gE (by kernel_rfl) (by kernel_rfl)) (W.mg_of X G (by kernel_rfl)) d_is_place;have d_is_rising:=vd (P:=l.prog) (w:=w) (base:=base)  nm (cz w.params 175 "is_rising" "rootwebs.kinds" 364 174 gD (by kernel_rfl) (by kernel_rfl)) (W.mg_of X G (by kernel_rfl));have d_is_many:=yQ (P:=l.prog) (w:=w) (base:=base)  nm (cz w.params 189 "is_many" "rootwebs.webs" 402 188 j5 (by kernel_rfl) (by kernel_rfl)) (W.mg_of X G (by kernel_rfl)) ⟨_,c_MOST_PLACES⟩ d_is_whole_from;have d_is_pair:=yP (P:=l.prog) (w:=w) (base:=base)  nm (cz w.params 208 "is_pair" "rootwebs.webs" 402 207 j4 (by kernel_rfl) (by kernel_rfl)) (W.mg_of X G (by kernel_rfl)) d_is_places;have d_is_tie:=AQ (P:=l.prog) (w:=w) (base:=base)  nm (cz w.params 201 "is_tie" "rootwebs.webs" 402 200 lD (by kernel_rfl) (by kernel_rfl)) (W.mg_of X G (by kernel_rfl)) d_is_pair;have d_is_ties:=yO (P:=l.prog) (w:=w) (base:=base)  nm (cz w.params 194 "is_ties" "rootwebs.webs" 402 193 i4 (by kernel_rfl) (by kernel_rfl)) (W.mg_of X G (by kernel_rfl)) d_is_tie d_is_rising;have d_web_good:=xr (P:=l.prog) (w:=w) (base:=base)  nm (cz w.params 182 "web_good" "rootwebs.webs" 402 181 jj (by kernel_rfl) (by kernel_rfl)) (W.mg_of X G (by kernel_rfl)) d_is_many d_is_ties;have d_next_places:=r8 (P:=l.prog) (w:=w) (base:=base)  nm (cz w.params 218 "next_places" "rootwebs.webs" 402 217 dw (by kernel_rfl) (by kernel_rfl)) (W.mg_of X G (by kernel_rfl));have d_fars_from:=vf (P:=l.prog) (w:=w) (base:=base)  nm (cz w.params 213 "fars_from" "rootwebs.webs" 402 212 gF (by kernel_rfl) (by kernel_rfl)) (W.mg_of X G (by kernel_rfl)) d_next_places;have d_steps_web:=vb (P:=l.prog) (w:=w) (base:=base) (a_NoNumber:=49) nm (cz w.params 223 "steps_web" "rootwebs.webs" 402 222 gC (by kernel_rfl) (by kernel_rfl)) (W.mg_of X G (by kernel_rfl)) ⟨_,c_MOST_STEPS⟩ (by kernel_rfl) (vI.of (nm:="NoNumber") (q:="NoNumber") (N:=48) (bs:=[(.ref 24)]) (bm:=[(.ref 24),(.type "ValueError"),(.type "Exception"),(.type "BaseException"),(.type "object")]) (hd:=true) (sn:=[]) (sub:=[]) (ab:=false) (col:=none) (dd:=none) (k0:=some (.ref 40)) (k1:=none) (k2:=some (.str "NoNumber" 223)) (k3:=some (.str "NoNumber" 231)) (k5:=some (.bool true)) Xb Gb (by kernel_rfl) (by kernel_rfl) (by kernel_rfl) (by kernel_rfl) (by kernel_rfl)) d_is_whole_from d_fars_from;have d_two_step:=xt (P:=l.prog) (w:=w) (base:=base)  nm (cz w.params 230 "two_step" "rootwebs.webs" 402 229 jk (by kernel_rfl) (by kernel_rfl)) (W.mg_of X G (by kernel_rfl)) d_steps_web;have d_root_good:=vc (P:=l.prog) (w:=w) (base:=base)  nm (cz w.params 237 "root_good" "rootwebs.looks" 471 236 iL (by kernel_rfl) (by kernel_rfl)) (W.mg_of X G (by kernel_rfl)) d_web_good d_two_step;have d_check_other:=se (P:=l.prog) (w:=w) (base:=base) (a_NoRoot:=73) nm (cz w.params 244 "check_other" "rootwebs.looks" 471 243 gH (by kernel_rfl) (by kernel_rfl)) (W.mg_of X G (by kernel_rfl)) (by kernel_rfl) (vI.of (nm:="NoRoot") (q:="NoRoot") (N:=72) (bs:=[(.ref 24)]) (bm:=[(.ref 24),(.type "ValueError"),(.type "Exception"),(.type "BaseException"),(.type "object")]) (hd:=true) (sn:=[]) (sub:=[]) (ab:=false) (col:=none) (dd:=none) (k0:=some (.ref 64)) (k1:=none) (k2:=some (.str "NoRoot" 255)) (k3:=some (.str "NoRoot" 263)) (k5:=some (.bool true)) Xb Gb (by kernel_rfl) (by kernel_rfl) (by kernel_rfl) (by kernel_rfl) (by kernel_rfl)) d_web_good;have d_differences:=sd (P:=l.prog) (w:=w) (base:=base)  nm (cz w.params 249 "differences" "rootwebs.looks" 471 248 dy (by kernel_rfl) (by kernel_rfl)) (W.mg_of X G (by kernel_rfl)) d_check_other d_two_step;have d_first_wrong:=r9 (P:=l.prog) (w:=w) (base:=base)  nm (cz w.params 256 "first_wrong" "rootwebs.looks" 471 255 gG (by kernel_rfl) (by kernel_rfl)) (W.mg_of X G (by kernel_rfl)) d_differences;have d__law_cell_at:=pQ (P:=l.prog) (w:=w) (base:=base)  nm (cz w.params 263 "_law_cell_at" "law_rootwebs_k09_roots_looked_at" 508 262 fV (by kernel_rfl) (by kernel_rfl)) (W.mg_of X G (by kernel_rfl));have d__law_next:=vg (P:=l.prog) (w:=w) (base:=base)  nm (cz w.params 270 "_law_next" "law_rootwebs_k09_roots_looked_at" 508 269 iM (by kernel_rfl) (by kernel_rfl)) (W.mg_of X G (by kernel_rfl));have d__law_pen_of:=si (P:=l.prog) (w:=w) (base:=base)  nm (cz w.params 277 "_law_pen_of" "law_rootwebs_k09_roots_looked_at" 508 276 gI (by kernel_rfl) (by kernel_rfl)) (W.mg_of X G (by kernel_rfl));have d__law_draw:=vh (P:=l.prog) (w:=w) (base:=base)  nm (cz w.params 284 "_law_draw" "law_rootwebs_k09_roots_looked_at" 508 283 iN (by kernel_rfl) (by kernel_rfl)) (W.mg_of X G (by kernel_rfl)) d__law_next;have d__law_whole:=sH (P:=l.prog) (w:=w) (base:=base)  nm (cz w.params 291 "_law_whole" "law_rootwebs_k09_roots_looked_at" 508 290 ij (by kernel_rfl) (by kernel_rfl)) (W.mg_of X G (by kernel_rfl));have d__law_kind_of:=pP (P:=l.prog) (w:=w) (base:=base) (a_NoLine:=61) (a_NoNumber:=49) (a_NoPlace:=37) (a_NoRoot:=73) (a_NoText:=123) (a_NoTree:=85) (a_NoWeb:=104) (a_TooGreat:=142) nm (cz w.params 298 "_law_kind_of" "law_rootwebs_k09_roots_looked_at" 508 297 fU (by kernel_rfl) (by kernel_rfl)) (W.mg_of X G (by kernel_rfl)) (cb.of (by kernel_rfl)) (cb.of (by kernel_rfl)) (cb.of (by kernel_rfl)) (cb.of (by kernel_rfl)) (cb.of (by kernel_rfl)) (cb.of (by kernel_rfl)) (cb.of (by kernel_rfl)) (cb.of (by kernel_rfl)) (cb.of (by kernel_rfl)) (W.mg_of X G (by kernel_rfl)) (W.mg_of X G (by kernel_rfl)) (W.mg_of X G (by kernel_rfl)) (W.mg_of X G (by kernel_rfl)) (W.mg_of X G (by kernel_rfl)) (W.mg_of X G (by kernel_rfl)) (W.mg_of X G (by kernel_rfl)) (W.mg_of X G (by kernel_rfl));have d__law_web_of:=sf (P:=l.prog) (w:=w) (base:=base)  nm (cz w.params 303 "_law_web_of" "law_rootwebs_k09_roots_looked_at" 508 302 eQ (by kernel_rfl) (by kernel_rfl)) (W.mg_of X G (by kernel_rfl));have d__law_drawn_web:=nE (P:=l.prog) (w:=w) (base:=base)  nm (cz w.params 308 "_law_drawn_web" "law_rootwebs_k09_roots_looked_at" 508 307 de (by kernel_rfl) (by kernel_rfl)) (W.mg_of X G (by kernel_rfl)) d__law_draw d__law_web_of;have d__law_near_of:=pO (P:=l.prog) (w:=w) (base:=base)  nm (cz w.params 313 "_law_near_of" "law_rootwebs_k09_roots_looked_at" 508 312 dQ (by kernel_rfl) (by kernel_rfl)) (W.mg_of X G (by kernel_rfl));have d__law_two_step:=oQ (P:=l.prog) (w:=w) (base:=base)  nm (cz w.params 318 "_law_two_step" "law_rootwebs_k09_roots_looked_at" 508 317 dA (by kernel_rfl) (by kernel_rfl)) (W.mg_of X G (by kernel_rfl)) d__law_near_of d__law_web_of;have d__law_any_web:=pR (P:=l.prog) (w:=w) (base:=base)  nm (cz w.params 323 "_law_any_web" "law_rootwebs_k09_roots_looked_at" 508 322 dR (by kernel_rfl) (by kernel_rfl)) (W.mg_of X G (by kernel_rfl)) d__law_drawn_web d__law_draw d__law_two_step d__law_web_of;have d__law_web_like:=oP (P:=l.prog) (w:=w) (base:=base)  nm (cz w.params 330 "_law_web_like" "law_rootwebs_k09_roots_looked_at" 508 329 fg (by kernel_rfl) (by kernel_rfl)) (W.mg_of X G (by kernel_rfl)) d__law_whole;have d__law_bent_web:=oR (P:=l.prog) (w:=w) (base:=base)  nm (cz w.params 337 "_law_bent_web" "law_rootwebs_k09_roots_looked_at" 508 336 fj (by kernel_rfl) (by kernel_rfl)) (W.mg_of X G (by kernel_rfl)) d__law_draw;have d__law_tuples_are:=mx (P:=l.prog) (w:=w) (base:=base)  nm (cz w.params 342 "_law_tuples_are" "law_rootwebs_k09_roots_looked_at" 508 341 cU (by kernel_rfl) (by kernel_rfl)) (W.mg_of X G (by kernel_rfl)) d__law_whole;have d__law_told_of:=pN (P:=l.prog) (w:=w) (base:=base) (a_RootError:=24) nm (cz w.params 349 "_law_told_of" "law_rootwebs_k09_roots_looked_at" 508 348 fT (by kernel_rfl) (by kernel_rfl)) (W.mg_of X G (by kernel_rfl)) (W.mg_of X G (by kernel_rfl)) (vY.of (by kernel_rfl)) d_first_wrong d_differences d__law_kind_of;have d__law_right:=sI (P:=l.prog) (w:=w) (base:=base)  nm (cz w.params 354 "_law_right" "law_rootwebs_k09_roots_looked_at" 508 353 bX (by kernel_rfl) (by kernel_rfl)) (W.mg_of X G (by kernel_rfl)) d_root_good d__law_web_like d__law_two_step d__law_told_of d__law_tuples_are d__law_whole;exact Kc nm F d__law_right d__law_cell_at d__law_pen_of d__law_drawn_web d__law_two_step d__law_any_web d__law_draw d__law_bent_web
theorem ML {l:W.OpenLaw}{q:Program}{loose:List Str}{XP:(Str->Option Value)->Heap->Prop}{d:DefRec} (hn:l.most=some 63) (hdf:d.params.defaults=[]) (hd:d.name = "law") :
  W.WalkO q loose XP (W.Hook.says Hz) l.row.toRowW d [] (fun f vs=>PySem.call f vs):=
 L2.walk_of (K:=Kz) (n:=63) (k:=14) (x:="_law_script") (CX:=fun _=>xQ) (sp:=fun w=>Ef (dW (Kz w.params) w) 1 v3) hn (by decide) hdf ⟨rfl,by decide,by decide,rfl⟩ (fun _ _ Y=>W.kIn_of Y) (fun _ _ _ _ X G e=>Kr X G (hd ▸ e)) (fun w H a ns hl hO hS=>DQ (Io ns) hO hS) fun _ _ _ _ _ z=>z
end Lw
open PySem PySem.W PyProof.Rows Lw
set_option maxRecDepth 100000 in
set_option maxHeartbeats 0 in
theorem PySem.Challenge.cw_rootwebs_k09_roots_looked_at_holds : PySem.Challenge.rw_rootwebs_k09_roots_looked_at.Holds := by
 w_on;refine holds_law HG fun said=>?_
 exact holds_open (Xt:=Xz) (XP:=XL Qz []) (YP:=Hook.says Hz) HH (Hook.of Hz) (Hook.keeps Hz) (fun s e=>xl_of s (SC.mp e).1) XL.keeps (by rfl) (by rfl) (by rfl) (fun s e=>recFacts_of (SC.mp e).2) (by rfl) said (by decide +kernel) ⟨rfl,rfl,rfl,rfl,rfl,by decide +kernel⟩ (by w_witness2) (ML rfl rfl rfl)
