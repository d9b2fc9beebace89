import PyProof.Rows.All
import Wide.All
import OpenK.AllK
import Wide.FinOn
import PyProof.EqAt
import PyProof.EqKinds
import PyProof.TupleCall
import PyProof.P3In
import PyProof.NeData
import PyProof.ConsumeS
import PyProof.WalksMore
import PyProof.ReprRoads
import PyProof.ReprLen
import PyProof.Draws
import PyProof.EnumMake
import PyProof.EnumFor
import PyProof.CallFns
import PyProof.Rows.CallKwBuiltin
import Lean
import PySem.Challenge.RW_rootwebs_k40_stars_looked_at
set_option Elab.async false
set_option linter.all false
set_option maxHeartbeats 1000000
set_option maxHeartbeats 2000000
set_option maxHeartbeats 400000
set_option maxHeartbeats 4000000
set_option maxRecDepth 100000
noncomputable section
abbrev NH:=@PySem.Value.isInt_shape
abbrev NI:=@decide_eq_false
abbrev NJ:=@beq_eq_false_iff_ne
abbrev NK:=@PySem.wpAny_eqBool_int
abbrev NL:=@if_pos
abbrev NM:=@if_neg
abbrev NN:=@Option.some.inj
abbrev NO:=@PySem.Heap.lt_size
abbrev NP:=@Nat.lt_of_lt_of_le
abbrev NQ:=@Nat.lt_irrefl
abbrev NR:=@Nat.ne_of_lt
abbrev NS:=@List.mem_filter
abbrev NT:=@List.mem_range
abbrev NU:=@Nat.le_trans
abbrev NV:=@Nat.le_of_lt
abbrev NW:=@List.filterMap_cons
abbrev NX:=@List.mem_cons_self
abbrev NY:=@List.mem_cons_of_mem
abbrev NZ:=@List.mem_cons
abbrev N0:=@Ne.symm
abbrev N1:=@List.mem_append
abbrev N2:=@List.mem_append_left
abbrev N3:=@List.getElem?_eq_some_iff
abbrev N4:=@List.getElem_inj
abbrev N5:=@List.getElem?_set_self
abbrev N6:=@List.getElem?_set_ne
abbrev N7:=@PySem.wpAny_mono
abbrev N8:=@PySem.wpAny_truthy_bool
abbrev N9:=@Array.length_toList
abbrev Oa:=@congrArg
abbrev Ob:=@PySem.wpAny_execs_nil
abbrev Oc:=@PySem.wpAny_bind
abbrev Od:=@PySem.wpAny_holding
abbrev Oe:=@PySem.wpAny_standAt
abbrev Of:=@Nat.ne_of_gt
abbrev Og:=@PySem.wpAny_pure
abbrev Oh:=@PySem.wpAny_load
abbrev Oi:=@Bool.false_and
abbrev Oj:=@PySem.Heap.get?_push_of_some
abbrev Ol:=@PySem.Heap.get?_push_size
abbrev Om:=@Nat.le_refl
abbrev On:=@PyProof.Rows.callWith_type1
abbrev Oo:=@List.mem_filterMap
abbrev Oq:=@List.mem_append_right
abbrev Os:=@PySem.wpAny_passesOwn
abbrev Ot:=@Bool.eq_iff_iff
abbrev Ou:=@Bool.false_ne_true
abbrev Ov:=@PySem.sizeLine_eq
abbrev Ow:=@List.size_toArray
abbrev Ox:=@List.append_nil
abbrev Oy:=@PySem.wpAny_call
abbrev OA:=@PySem.codeAny_mono
abbrev OB:=@PySem.wpAny_Call_Name_kw
abbrev OC:=@List.nodup_cons
abbrev OD:=@List.of_mem_zip
abbrev OE:=@Option.isSome_iff_exists
abbrev OF:=@List.length_take
abbrev OG:=@PySem.mem_of_lookup
abbrev OH:=@List.getElem?_append_right
abbrev OI:=@List.getElem?_replicate
abbrev OJ:=@List.getElem?_append_left
abbrev OK:=@List.getElem?_map
abbrev OL:=@List.getElem?_take_of_lt
abbrev OM:=@List.mem_of_getElem?
abbrev ON:=@List.length_append
abbrev OO:=@List.length_map
abbrev OP:=@List.length_replicate
abbrev OQ:=@PySem.noFill_tuple_add
abbrev OR:=@PySem.F.slot_tuple_add
abbrev OS:=@PySem.F.entry_tuple_add
abbrev OT:=@PySem.F.args_tuple_add_2
abbrev OU:=@Int.toNat_natCast
abbrev OV:=@Nat.min_le_right
abbrev OW:=@if_false
abbrev OX:=@if_true
abbrev OY:=@PyProof.Rows.slicePart_none
abbrev OZ:=@PySem.wpAny_field
abbrev O0:=@List.filterMap_map
abbrev O2:=@List.length_drop
abbrev O3:=@PySem.wpAny_sequenceKey
abbrev O4:=@PySem.wpAny_callSpecial?_slot
abbrev O5:=@PyProof.Rows.slot_tuple_getitem
abbrev O6:=@PySem.wpAny_call_entry
abbrev O7:=@PyProof.Rows.entry_tuple_getitem
abbrev O8:=@PyProof.Rows.args_tuple_getitem
abbrev O9:=@PySem.wpAny_typeOf
abbrev Pb:=@Bool.and_eq_true
abbrev Pc:=@PySem.wpAny_newObj_type
abbrev Pd:=@List.map_nil
abbrev Pe:=@List.map_cons
abbrev Pf:=@PySem.Heap.IsSliceOf.new
abbrev Pg:=@PySem.slot_list_getitem
abbrev Ph:=@PySem.Heap.get?_update_self
abbrev Pi:=@PySem.Heap.get?_update_other
abbrev Pj:=@List.all_cons
abbrev Pl:=@List.reverse_cons
abbrev Pm:=@List.replicate_succ
abbrev Po:=@List.flatten_cons
abbrev Pp:=@List.append_assoc
abbrev Pq:=@List.foldl_cons
abbrev Pr:=@PySem.call_meets
abbrev Pt:=@List.length_singleton
abbrev Pu:=@Nat.succ_mul
abbrev Pv:=@List.nil_append
abbrev Pw:=@decide_eq_true
abbrev Px:=@Nat.le_of_eq
abbrev Py:=@List.lookup_cons
abbrev Pz:=@beq_self_eq_true
abbrev PB:=@Bool.false_eq_true
abbrev PD:=@List.length_cons
abbrev PF:=@Nat.lt_succ_self
abbrev PH:=@Nat.lt_succ_of_lt
abbrev PJ:=@PySem.Heap.size_push
abbrev PL:=@PySem.pushCells_keeps
abbrev PM:=@Option.bind_some
abbrev PN:=@PySem.codeAny_of_tree
abbrev PQ:=@PySem.wpAny_askSetting
abbrev PR:=@PySem.wpAny_rule
abbrev PU:=@PySem.wpAny_of_eq
abbrev PV:=@Nat.zero_le
abbrev PX:=@List.mem_singleton
abbrev PY:=@PySem.F.slot_tuple_iterator_next
abbrev PZ:=@PySem.F.entry_tuple_iterator_next
abbrev P0:=@PySem.F.args_tuple_iterator_next_1
abbrev P8:=@PySem.wpAny_seqItems
abbrev Qa:=@PySem.Heap.SameBut.update
abbrev Qb:=@PySem.wpAny_pyIter_tuple
abbrev Qc:=@List.not_mem_nil
abbrev Qd:=@or_false
abbrev Qe:=@Array.getElem?_toList
abbrev Qf:=@PySem.Heap.get?_push_ne
abbrev Qg:=@Nat.le_succ
abbrev Qh:=@List.range_succ_eq_map
abbrev Qi:=@List.map_map
abbrev Qj:=@List.map_congr_left
abbrev Qk:=@List.length_range
abbrev Ql:=@List.length_nil
abbrev Qm:=@List.cons.inj
abbrev Qn:=@List.cons_append
abbrev Qo:=@List.pairwise_iff_getElem
abbrev Qp:=@Array.getElem?_eq_some_iff
abbrev Qq:=@List.take_of_length_le
abbrev Qr:=@List.mem_map
abbrev Qs:=@Classical.byContradiction
abbrev Qt:=@List.nodup_range
abbrev Qu:=@List.getElem?_of_mem
abbrev Qv:=@List.mem_map_of_mem
abbrev Qw:=@List.take_append_drop
abbrev Qx:=@List.pairwise_cons
abbrev Qy:=@List.map_append
abbrev QA:=@List.map_take
abbrev QB:=@List.map_drop
abbrev QC:=@Array.getD_eq_getD_getElem?
abbrev QD:=@Option.getD_some
abbrev QE:=@List.mem_of_mem_take
abbrev QF:=@List.mem_of_mem_drop
abbrev QG:=@Array.getElem?_eq_none_iff
abbrev QH:=@List.nodup_nil
abbrev QI:=@Nat.sub_self
abbrev QJ:=@Nat.zero_add
abbrev QK:=@Option.some.injEq
abbrev QL:=@List.perm_ext_iff_of_nodup
abbrev QM:=@Array.getElem?_eq_getElem
abbrev QN:=@List.all_eq_true
abbrev QO:=@Bool.not_true
abbrev QP:=@PySem.wpAny_forIn_list
abbrev QR:=@PySem.wpAny_setState_of
abbrev QS:=@Bool.and_self
abbrev QT:=@Array.mem_toList_iff
abbrev QU:=@List.nodup_append
abbrev QV:=@PySem.wpAny_storeSet_of
abbrev QW:=@PySem.putSet_of
abbrev QX:=@Bool.not_false
abbrev QY:=@PySem.codeAny_builtin
abbrev QZ:=@PySem.Around.under_plainId
abbrev Q0:=@PyProof.Rows.F.plain_set_update_loop
abbrev Q2:=@PySem.plainId_quiet
abbrev Q3:=@PySem.isSubtype_type
abbrev Q4:=@PySem.F.called_set
abbrev Q5:=@PySem.Code.quiet_builtin
abbrev Q6:=@PySem.codeAny_call_builtin
abbrev Q7:=@PySem.wpAny_pyIter_list
abbrev Q8:=@PySem.wpAny_runValue
abbrev Q9:=@PySem.Walks.list
abbrev Ra:=@PySem.Walks.tuple
abbrev Rb:=@List.take_add_one
abbrev Rc:=@List.take_length
abbrev Re:=@PySem.W.KasT.kasWp_bind
abbrev Rf:=@decide_eq_decide
abbrev Rg:=@List.getD_eq_getElem?_getD
abbrev Rh:=@List.ext_getElem?
abbrev Ri:=@List.getElem?_range
abbrev Rj:=@List.getElem?_eq_none
abbrev Rk:=@List.pairwise_map
abbrev Rm:=@PyProof.Rows.listUpdate_at
abbrev Rn:=@PyProof.Rows.get?_update_seq
abbrev Rp:=@PySem.wpAny_newList
abbrev Rq:=@PyProof.Rows.size_push'
abbrev Rt:=@PySem.Heap.size_update
abbrev Ru:=@PySem.Heap.get?_update_ne
abbrev Rv:=@bne_self_eq_false
abbrev Rw:=@List.getElem_mem
abbrev Rx:=@List.length_eq_zero_iff
abbrev Ry:=@List.getElem?_eq_getElem
abbrev Rz:=@PySem.wpAny_setEntries_of
abbrev RA:=@PySem.wpAny_setField_rec
abbrev RB:=@PySem.Calls.call_function_entry
abbrev RC:=@PyProof.Rows.entry_list_sort
abbrev RD:=@beq_iff_eq
abbrev RE:=@of_eq_true
abbrev RF:=@eq_self
abbrev RG:=@List.drop_eq_getElem_cons
abbrev RH:=@List.drop_length
abbrev RI:=@decide_eq_true_eq
abbrev RJ:=@List.zip_cons_cons
abbrev RK:=@List.eq_nil_of_length_eq_zero
abbrev RL:=@PyProof.Rows.boot_isinstance
abbrev RM:=@List.all_map
abbrev RN:=@Int.le_antisymm
abbrev RO:=@List.length_pos_iff
abbrev RP:=@Bool.or_eq_true
abbrev RQ:=@List.take_append_of_le_length
abbrev RR:=@List.filter_cons
abbrev RT:=@List.length_reverse
abbrev RU:=@PySem.F.entry_min_loop
abbrev RW:=@PySem.F.plain_min_loop
abbrev RX:=@PySem.wpAny_tryCatch
abbrev RY:=@PySem.wpAny_updateSeq
abbrev RZ:=@PySem.wpAny_letGo
abbrev R6:=@Bool.and_eq_true_iff
abbrev R7:=@PySem.PassesOwn.never
abbrev R8:=@Int.emod_nonneg
abbrev R9:=@Int.emod_lt_of_pos
abbrev Sa:=@List.set_cons_succ
abbrev Sb:=@List.set_cons_zero
abbrev Sd:=@List.mem_flatMap
abbrev Se:=@Bool.true_and
abbrev Sf:=@List.any_eq_true
abbrev Sg:=@of_decide_eq_true
abbrev Sh:=@List.flatMap_cons
abbrev Si:=@Int.min_eq_left
abbrev Sj:=@Int.max_eq_right
abbrev Sk:=@Function.comp_def
abbrev Sl:=@List.length_filter_le
abbrev Sm:=@Nat.mul_le_mul_right
abbrev Sn:=@List.flatMap_nil
abbrev So:=@List.mem_iff_getElem
abbrev Sr:=@List.length_zip
abbrev Ss:=@List.map_flatMap
abbrev Su:=@List.map_eq_flatMap
namespace L2
open PySem PySem.Spec PyProof.Rows
abbrev sH:=Sum Int Str
def Hj:sH->Value->Bool
 |.inl k,v=>Value.isInt k v
 |.inr x,v=>Value.isStrOf x v
def MQ(w:World):sH->Int
 |.inl k=>hashInt k
 |.inr x=>hashStr w x
theorem c0:∀{k:sH}{v:Value},Hj k v=true->(∃i t,k=Sum.inl i/\v=Value.int i t)\/(∃x t,k=Sum.inr x/\v=Value.str x t)
 |.inl i,v,h=>by
  obtain⟨t,e⟩:=NH (k:=i) (v:=v) h;exact .inl ⟨i,t,rfl,e⟩
 |.inr x,v,h=>by
  obtain⟨t,e⟩:=Value.isStrOf_shape (x:=x) (v:=v) h;exact .inr ⟨x,t,rfl,e⟩
theorem JR(a b:Int):decide ((Sum.inl a:sH)=Sum.inl b)=(a == b):=by
 by_cases e:a=b
 ·subst e;simp
 ·have h:¬ (Sum.inl a:sH)=Sum.inl b:=fun q=>e (Sum.inl.inj q);rw[NI h];exact(NJ.mpr e).symm
theorem JO(a b:Str):decide ((Sum.inr a:sH)=Sum.inr b)=decide (a=b):=by
 by_cases e:a=b
 ·subst e;simp
 ·have h:¬ (Sum.inr a:sH)=Sum.inr b:=fun q=>e (Sum.inr.inj q);rw[NI h,NI e]
theorem JQ(a:Int)(b:Str):decide ((Sum.inl a:sH)=Sum.inr b)=false:=NI (fun q=>nomatch q)
theorem JP(a:Str)(b:Int):decide ((Sum.inr a:sH)=Sum.inl b)=false:=NI (fun q=>nomatch q)
def qk(prog:Program)(w:World):PySem.KeyKind prog w sH where
 is:=Hj
 hash:=MQ w
 inj:=fun v a b ha hb=>by
  rcases c0 ha with⟨i,t,rfl,rfl⟩|⟨x,t,rfl,rfl⟩
  ·rcases c0 hb with ⟨j, u, rfl, e⟩ | ⟨y, u, rfl, e⟩
   ·injection e with e1 _;rw[e1]
   ·exact nomatch e
  ·rcases c0 hb with ⟨j, u, rfl, e⟩ | ⟨y, u, rfl, e⟩
   ·exact nomatch e
   ·injection e with e1 _;rw[e1]
 byValue:=fun k v h=>by
  rcases c0 h with⟨i,t,rfl,rfl⟩|⟨x,t,rfl,rfl⟩ <;> rfl
 pyHash:=fun hv h=>by
  rcases c0 hv with⟨i,t,rfl,rfl⟩|⟨x,t,rfl,rfl⟩
  ·exact wpAny_pyHash_int h
  ·exact wpAny_pyHash_str h
 eqBool:=fun hu hv h=>by
  rcases c0 hu with⟨i,t,rfl,rfl⟩|⟨x,t,rfl,rfl⟩
  ·rcases c0 hv with ⟨j, u, rfl, rfl⟩ | ⟨y, u, rfl, rfl⟩
   ·rw[JR]at h;exact NK h
   ·rw[JQ]at h;exact SeqAt.EqAt.int_str i t y u _ _ _ _ h
  ·rcases c0 hv with ⟨j, u, rfl, rfl⟩ | ⟨y, u, rfl, rfl⟩
   ·rw[JP]at h;exact SeqAt.EqAt.str_int x t j u _ _ _ _ h
   ·rw[JO]at h;exact wpAny_eqBool_str h
 «strs»:=fun k x t v h=>by
  rcases c0 h with⟨i,u,rfl,e⟩|⟨y,u,rfl,e⟩
  ·exact nomatch e
  ·injection e with e1 _
   subst e1;cases v <;> rfl
end L2
namespace L2
open PySem PySem.Spec PyProof.Rows
inductive V where
 |non|bl (b:Bool)|int (i:Int)|str (x:Str)|byt (b:Array UInt8)|flt (b:UInt64)|ref (a:Addr)|ty (n:String)
 deriving DecidableEq
def bV:V->Value->Prop
 |.non,u=>u=Value.none
 |.bl b,u=>u=Value.bool b
 |.int i,u=>∃t,u=Value.int i t
 |.str x,u=>∃t,u=Value.str x t
 |.byt b,u=>∃t,u=Value.bytes b t
 |.flt b,u=>∃t,u=Value.float b t
 |.ref a,u=>u=Value.ref a
 |.ty n,u=>u=Value.type n
abbrev ba:List V->List Value->Prop:=Paired bV
theorem ba.length{xs:List V}{us:List Value}(r:ba xs us):xs.length=us.length:=Paired.length r
theorem ba.get:∀{xs:List V}{us:List Value}{i:Nat}{x:V},ba xs us->xs[i]?=some x->∃u,us[i]?=some u/\bV x u
 |_,_,_,_,.nil,e=>by simp at e
 |_,_,0,_,.cons r _,e=>by simp at e;subst e;exact⟨_,rfl,r⟩
 |_,_,i+1,x,.cons _ t,e=>by
  obtain⟨u,h1,h2⟩:=ba.get (i:=i) (x:=x) t (by simpa using e);exact⟨u,by simpa using h1,h2⟩
theorem ba.set{x:V}{u:Value}(r:bV x u):∀{xs:List V}{us:List Value}(i:Nat),ba xs us->ba (xs.set i x) (us.set i u)
 |_,_,_,.nil=>.nil
 |_,_,0,.cons _ t=>.cons r t
 |_,_,i+1,.cons q t=>.cons q (ba.set r i t)
theorem ba.append:∀{xs ys:List V}{us ws:List Value},ba xs us->ba ys ws->ba (xs++ys) (us++ws)
 |_,_,_,_,.nil,s=>s
 |_,_,_,_,.cons r t,s=>.cons r (ba.append t s)
theorem ba.take:∀{xs:List V}{us:List Value}(n:Nat),ba xs us->ba (xs.take n) (us.take n)
 |_,_,0,_=>.nil
 |_,_,_+1,.nil=>.nil
 |_,_,n+1,.cons r t=>.cons r (ba.take n t)
theorem ba.drop:∀{xs:List V}{us:List Value}(n:Nat),ba xs us->ba (xs.drop n) (us.drop n)
 |_,_,0,r=>r
 |_,_,_+1,.nil=>.nil
 |_,_,n+1,.cons _ t=>ba.drop n t
def K2:Option V->Option Value->Prop
 |some v,some u=>bV v u
 |none,none=>True
 |_,_=>False
def KV{κ:Type}:List (κ×V)->List (κ×Value)->Prop:=Paired fun(p:κ×V) (q:κ×Value)=>p.1=q.1/\bV p.2 q.2
def kV:sH->V
 |.inl i=>.int i
 |.inr x=>.str x
inductive HO where
 |lst (xs:List V)
 |tup (xs:List V)
 |dK (kvs:List (sH×V))|dT (kvs:List (List sH×V))
 |set (S:Int->Bool) (n:Nat)
 |ins (C dx:Addr) (fs:List (Str×V))
 |own (x:Addr)
 |xd (fs:List (Str×V))
 |met (f x:Addr)
 |rng (lo hi:Int)
 |frz (o:Obj) (u:HO)
 |tbl (ps:Array Value)
 |ext (φ:Heap->Prop)
abbrev Hp:=Addr->Option HO
def cq(H:Hp)(a:Addr)(o:HO):Hp:=fun b=>if b=a then some o else H b
theorem bN{H:Hp}{a:Addr}{o:HO}:cq H a o a=some o:=by unfold cq;rw[NL rfl]
theorem bq{H:Hp}{a b:Addr}{o:HO}(h:b≠a):cq H a o b=H b:=by unfold cq;rw[NM h]
theorem tx{H:Hp}{a b:Addr}{o u:HO}(h:H a=some o)(h':H b=some u)(d:o≠u):a≠b:=by
 intro e;subst e;rw[h]at h';exact d (NN h')
theorem bW{H:Hp}{a b:Addr}{o:HO}(h:H a=some o)(h':H b=none):a≠b:=by
 intro e;subst e;rw[h]at h';cases h'
section
variable(P:Program)(w:World)
def eW(H:Hp)(h:Heap)(a:Addr):HO->Prop
 |.lst xs=>xs.length<=sizeLine/\∃(its:List Value) (n:Nat),ba xs its/\h.get? a=some {cls:=.type "list",data:=.seq its.toArray n}
 |.tup xs=>xs.length<=sizeLine/\∃its:List Value,ba xs its/\IsTup h a its.toArray
 |.dK kvs=>kvs.length<=sizeLine/\(a == sysModules)=false/\∃vs,KV kvs vs/\h.DictOf (qk P w) a vs
 |.dT kvs=>kvs.length<=sizeLine/\(a == sysModules)=false/\∃xs:List (List sH×Addr×Value),
   Paired (fun(p:List sH×V) (q:List sH×Addr×Value)=>p.1=q.1/\H q.2.1=some (.tup (p.1.map kV))/\bV p.2 q.2.2) kvs xs /\
   ∃o es ep,h.get? a=some o/\o.ExactDict/\o.data=.dict es ep/\es.toList=xs.map (entryOfKey (tupleKind (qk P w)))/\(xs.map (·.1)).Nodup
 |.set S n=>h.SetOf (intKind P w) a S n
 |.ins C dx fs=>H dx=some (.own a)/\fs.length<=1000/\dx≠a/\h.get? a=some (W.instObj C dx) /\
   ∃mA,h.Ns1 dx mA/\(∀f,K2 (fs.lookup f) (mA f))/\PySem.Within mA (fs.map (·.1))
 |.own _=>∃o,h.get? a=some o
 |.xd fs=>∃mA,h.Ns1 a mA/\∀f,K2 (fs.lookup f) (mA f)
 |.rng lo hi=>∃t u v,h.get? a=some {cls:=.type "range",data:=.fields #[.int lo t,.int hi u,.int 1 v]}
 |.frz o u=>h.get? a=some o/\eW H h a u
 |.tbl ps=>h.get? a=some {cls:=.none,data:=.fields ps}
 |.met f x=>h.get? a=some (W.methodObj (.ref f) (.ref x))
 |.ext φ=>φ h/\(∃o,h.get? a=some o)/\∀h1 h2:Heap,φ h1->(∀o,h1.get? a=some o->h2.get? a=some o)->φ h2
def om(H:Hp)(h:Heap):Prop:=∀a o,H a=some o->eW P w H h a o
end
section
variable{P:Program}{w:World}{H H':Hp}{h h':Heap}{a:Addr}{o:HO}
theorem eW.lt(x:eW P w H h a o):a<h.objs.size:=by
 cases o with
 |lst xs=>obtain⟨_,_,_,_,e⟩:=x;exact NO e
 |tup xs=>obtain⟨_,_,_,p⟩:=x;exact p.lt
 |dK kvs=>obtain⟨_,_,_,_,o,_,_,e,_⟩:=x;exact NO e
 |dT kvs=>obtain⟨_,_,_,_,o,_,_,e,_⟩:=x;exact NO e
 |set S n=>obtain⟨o,_,_,_,e,_⟩:=x;exact NO e
 |ins C dx fs=>obtain⟨_,_,_,e,_⟩:=x;exact NO e
 |own y=>obtain⟨_,e⟩:=x;exact NO e
 |xd fs=>obtain⟨_,⟨_,_,_,e,_⟩,_⟩:=x;exact NO e
 |rng lo hi=>obtain⟨_,_,_,e⟩:=x;exact NO e
 |frz ob u=>obtain⟨e,_⟩:=x;exact NO e
 |tbl ps=>exact NO (show h.get? a=some _ from x)
 |met f y=>exact NO (show h.get? a=some _ from x)
 |ext φ=>obtain⟨_,⟨_,e⟩,_⟩:=x;exact NO e
theorem pO{α β:Type}{F G:α->β->Prop}:∀{l₁:List α}{l₂:List β},Paired F l₁ l₂->(∀a b,F a b->G a b)->Paired G l₁ l₂
 |_,_,.nil,_=>.nil
 |_,_,.cons r t,f=>.cons (f _ _ r) (pO t f)
theorem eW.stay(x:eW P w H h a o)(k:∀b u,(b=a\/H b=some (.own a))->h.get? b=some u->h'.get? b=some u)
  (ho:∀b,H b=some (.own a)->H' b=some (.own a)) (ht:∀b xs,H b=some (.tup xs)->H' b=some (.tup xs)):eW P w H' h' a o:=by
 induction o with
 |lst xs=>obtain⟨z,its,n,r,e⟩:=x;exact⟨z,its,n,r,k _ _ (.inl rfl) e⟩
 |tup xs=>obtain⟨z,its,r,ob,e,c⟩:=x;exact⟨z,its,r,ob,k _ _ (.inl rfl) e,c⟩
 |dK kvs=>obtain⟨z,y,vs,r,ob,es,ep,e,c⟩:=x;exact⟨z,y,vs,r,ob,es,ep,k _ _ (.inl rfl) e,c⟩
 |dT kvs=>
  obtain⟨z,y,xs,r,ob,es,ep,e,c⟩:=x;exact⟨z,y,xs,pO r fun p q z=>⟨z.1,ht _ _ z.2.1,z.2.2⟩,ob,es,ep,k _ _ (.inl rfl) e,c⟩
 |set S n=>obtain⟨ob,es,ep,t,e,c⟩:=x;exact⟨ob,es,ep,t,k _ _ (.inl rfl) e,c⟩
 |ins C dx fs=>
  obtain⟨d,z,ne,e,mA,⟨od,es,ep,e2,c⟩,r⟩:=x;exact⟨ho _ d,z,ne,k _ _ (.inl rfl) e,mA,⟨od,es,ep,k _ _ (.inr d) e2,c⟩,r⟩
 |own y=>obtain⟨ob,e⟩:=x;exact⟨ob,k _ _ (.inl rfl) e⟩
 |xd fs=>obtain⟨mA,⟨od,es,ep,e,c⟩,r⟩:=x;exact⟨mA,⟨od,es,ep,k _ _ (.inl rfl) e,c⟩,r⟩
 |rng lo hi=>obtain⟨t,u,v,e⟩:=x;exact⟨t,u,v,k _ _ (.inl rfl) e⟩
 |frz ob u ih=>obtain⟨e,q⟩:=x;exact⟨k _ _ (.inl rfl) e,ih q⟩
 |tbl ps=>
  have e:h.get? a=some {cls:=.none,data:=.fields ps}:=x;show h'.get? a=some {cls:=.none,data:=.fields ps};exact k a _ (.inl rfl) e
 |met f y=>
  have e:h.get? a=some (W.methodObj (.ref f) (.ref y)):=x;show h'.get? a=some (W.methodObj (.ref f) (.ref y));exact k a _ (.inl rfl) e
 |ext φ=>obtain⟨p,⟨o,e⟩,st⟩:=x;exact⟨st _ _ p fun o q=>k _ _ (.inl rfl) q,⟨o,k _ _ (.inl rfl) e⟩,st⟩
theorem om.lt(x:om P w H h)(e:H a=some o):a<h.objs.size:=(x a o e).lt
theorem om.fresh(x:om P w H h)(e:h.objs.size<=a):H a=none:=by
 cases q:H a with
 |none=>rfl
 |some u=>exact absurd (NP (x.lt q) e) (NQ _)
theorem om.kept(x:om P w H h)(k:∀b u,h.get? b=some u->h'.get? b=some u):om P w H h':=fun a o e=>
 (x a o e).stay (fun b u _ q=>k b u q) (fun _ q=>q) fun _ _ q=>q
theorem om.laid(x:om P w H h)(k:∀b u,h.get? b=some u->h'.get? b=some u)(hp:h.objs.size<=a)(new:eW P w (cq H a o) h' a o):om P w (cq H a o) h':=fun b u e=>by
 have hn:=x.fresh hp;by_cases hb:b=a
 ·subst hb;rw[bN]at e;cases e;exact new
 ·rw[bq hb]at e;exact(x b u e).stay (fun c v _ q=>k c v q) (fun c q=>by rw[bq (bW q hn)];exact q) fun c xs q=>by rw[bq (bW q hn)];exact q
end
def Rd(H:Hp)(a:Addr)(u:HO):Prop:=H a=some u\/∃o,H a=some (.frz o u)
theorem Rd.ok{P:Program}{w:World}{H:Hp}{h:Heap}{a:Addr}{u:HO}(r:Rd H a u)(x:om P w H h):eW P w H h a u:=by
 rcases r with r|⟨o,r⟩
 ·exact x a u r
 ·obtain⟨_,q⟩:=x a _ r;exact q
def Md:Option HO->Prop
 |some (.lst _)=>True
 |some (.dK _)=>True
 |some (.dT _)=>True
 |some (.set _ _)=>True
 |some (.ins _ _ _)=>True
 |some (.ext _)=>True
 |_=>False
section
variable{P:Program}{w:World}{H:Hp}{h h':Heap}{x e:Addr}{o':HO}
theorem om.write(ok:om P w H h)(mu:Md (H x))(he:e=x\/H e=some (.own x))(k:∀b u,b≠e->h.get? b=some u->h'.get? b=some u)(heo:∃u,h'.get? e=some u)
  (new:eW P w (cq H x o') h' x o'):om P w (cq H x o') h':=fun b u q=>by
 have nown:∀c y,H c=some (.own y)->c≠x:=fun c y r z=>by subst z;rw[r]at mu;exact mu
 have ntup:∀c xs,H c=some (.tup xs)->c≠x:=fun c xs r z=>by subst z;rw[r]at mu;exact mu
 by_cases hb:b=x
 ·subst hb;rw[bN]at q;cases q;exact new
 ·rw [bq hb] at q;by_cases hbe:b=e
  ·have q':H b=some (.own x):=by
    rcases he with z|z
    ·exact absurd (hbe.trans z) hb
    ·rw[hbe];exact z
   rw[q]at q';cases q';obtain⟨v,hv⟩:=heo;exact⟨v,by rw[hbe];exact hv⟩
  ·refine (ok b u q).stay (fun c v hc r => k c v ?_ r) (fun c r => by rw [bq (nown c b r)]; exact r) fun c xs r => by rw [bq (ntup c xs r)]; exact r
   rcases hc with rfl|hc
   ·exact hbe
   ·rintro rfl
    rcases he with z|z
    ·exact nown c b hc z
    ·rw[hc]at z;cases z;exact hb rfl
end
structure Un(fs ex:List Addr)(H H':Hp)(h h':Heap):Prop where
 keep:∀b o,h.get? b=some o->H b=none->b∉fs->b∉ex->h'.get? b=some o
 slot:∀b o,h.get? b=some o->H b=none->b∈fs->b∉ex->∃sl,h'.get? b=some {o with slots:=sl}
 free:∀b o,h.get? b=some o->H b=none->b∉ex->H' b=none
 there:∀b o,h.get? b=some o->b∉ex->∃o',h'.get? b=some o'
 tups:∀b xs,H b=some (.tup xs)->H' b=some (.tup xs)
 frzs:∀b o u,H b=some (.frz o u)->H' b=some (.frz o u)
 tbls:∀b ps,H b=some (.tbl ps)->∃more,H' b=some (.tbl (ps++more))
section
variable{fs fs' ex ex':List Addr}{H H1 H2:Hp}{h h1 h2 h':Heap}{a x e:Addr}{o:HO}
theorem Un.any(u:Un fs ex H H1 h h1){b:Addr}{ob:Obj}(q:h.get? b=some ob)(n:H b=none)(hx:b∉ex):∃sl,h1.get? b=some {ob with slots:=sl}:=by
 by_cases hb:b∈fs
 ·exact u.slot b ob q n hb hx
 ·exact⟨ob.slots,u.keep b ob q n hb hx⟩
theorem Un.kept(k:∀b u,h.get? b=some u->h'.get? b=some u):Un fs ex H H h h':=
 ⟨fun b ob q _ _ _=>k b ob q,fun b ob q _ _ _=>⟨ob.slots,k b ob q⟩,fun _ _ _ n _=>n,fun b ob q _=>⟨ob,k b ob q⟩,fun _ _ q=>q,fun _ _ _ q=>q,fun _ ps q=>⟨#[],by rw[q];simp⟩⟩
theorem Un.refl:Un fs ex H H h h:=Un.kept fun _ _ q=>q
theorem Un.laid(k:∀b u,h.get? b=some u->h'.get? b=some u)(hp:h.objs.size<=a)(hn:H a=none):Un fs ex H (cq H a o) h h' where
 keep:=fun b u q _ _ _=>k b u q
 slot:=fun b u q _ _ _=>⟨u.slots,k b u q⟩
 free:=fun b u q n _=>by rw[bq (NR (NP (NO q) hp))];exact n
 there:=fun b u q _=>⟨u,k b u q⟩
 tups:=fun b xs q=>by rw[bq (bW q hn)];exact q
 frzs:=fun b u xs q=>by rw[bq (bW q hn)];exact q
 tbls:=fun b ps q=>⟨#[],by rw[bq (bW q hn),q];simp⟩
theorem Un.write(mu:Md (H x))(he:e=x\/H e=some (.own x))(k:∀b u,b≠e->h.get? b=some u->h'.get? b=some u)(heo:∃u,h'.get? e=some u):Un fs ex H (cq H x o) h h':=by
 have hx:∀b,H b=none->b≠x:=fun b n z=>by subst z;rw[n]at mu;exact mu
 have hb:∀b,H b=none->b≠e:=fun b n z=>by
  subst z;rcases he with r|r
  ·exact hx b n r
  ·rw[n]at r;cases r
 have hm:∀b u,H b=some u->¬ Md (some u)->b≠x:=fun b u q nm z=>by subst z;rw[q]at mu;exact nm mu
 refine⟨fun b u q n _ _=>k b u (hb b n) q,fun b u q n _ _=>⟨u.slots,k b u (hb b n) q⟩,fun b u q n _=>by rw[bq (hx b n)];exact n,fun b u q _=>?_,
  fun b xs q=>by rw[bq (hm b _ q fun z=>z)];exact q,fun b u xs q=>by rw[bq (hm b _ q fun z=>z)];exact q,fun b ps q=>⟨#[],by rw[bq (hm b _ q fun z=>z),q];simp⟩⟩
 by_cases hbe:b=e
 ·subst hbe;exact heo
 ·exact⟨u,k b u hbe q⟩
end
def L5(h:Heap)(H:Hp):List Addr:=(List.range h.objs.size).filter fun a=>(H a).isSome
def uA(h:Heap)(H:Hp):Heap:=W.hideAll h (L5 h H)
theorem Bc(h:Heap)(H:Hp):(uA h H).objs.size=h.objs.size:=W.hideAll_size _ _
theorem D9{h:Heap}{H:Hp}{b:Addr}{o:Obj}(e:h.get? b=some o)(n:H b=none):(uA h H).get? b=some o:=
 W.hideAll_get _ e fun hm=>by
  have q:(H b).isSome=true:=(NS.mp hm).2;rw[n]at q;simp at q
theorem Gd{h:Heap}{H:Hp}{b:Addr}{o:Obj}(e:(uA h H).get? b=some o):h.get? b=some o/\H b=none:=by
 have e':h.get? b=some o:=W.of_hideAll (L5 h H) e;refine⟨e',?_⟩;cases q:H b with
 |none=>rfl
 |some x=>
  have hm:b∈L5 h H:=NS.mpr ⟨NT.mpr (NO e'),by simp[q]⟩;have z:(uA h H).get? b=none:=W.hideAll_none (L5 h H) hm;rw[z]at e;cases e
end L2
namespace L2
open PySem PySem.Spec PyProof.Rows
structure Mod(K:W.Frag)(mg:Str->Option Value)(base:Heap):Prop where
 kin:K.In base
 glob:base.Ns mainGlobals mg
 blt:∃mb,base.Ns builtinsNs mb/\∀x:Str,x ≠ "__name__" -> mb x=bootBuiltins x
 nolimit:base.NoLimit
structure Cx where
 prog:Program
 w:World
 K:W.Frag
 mg:Str->Option Value
 base:Heap
 A:Around
 N:List Str
 s₀:Shared
 H₀:Hp
 env:Env
 outer:List Env
 stack:List Env
 ex:List Addr
 fn:Str->Bool
 calm:Bool
 pn:List (Addr×Obj)
 xe:Value->Shared->Prop
def pk(l:List Env):List Addr:=l.filterMap (·.frame)
abbrev Cx.fs(X:Cx):List Addr:=pk X.outer
def Ma(sc:Scope)(x:Str):Prop:=sc.names.lookup x=some .local\/sc.names.lookup x=some .cell\/sc.names.lookup x=some .free
def Ex(sc:Scope)(x:Str):Prop:=sc.names.lookup x=some .local\/sc.names.lookup x=some .cell
def Nf(env:Env)(h:Heap)(m:Str->Option Value)(x:Str)(u:Value):Prop:=
 (env.kindOf x=some .local/\m x=some u)\/((env.kindOf x=some .cell\/env.kindOf x=some .free)/\∃c,env.cells.lookup x=some c/\h.IsCell c (some u))
structure Cx.Ok(X:Cx):Prop where
 mod:Mod X.K X.mg X.base
 kind:X.env.scope.kind=.function
 glob:X.env.globals=mainGlobals
 blt:X.env.builtins=builtinsNs
 above:X.s₀.heap.objs.size<=X.env.locals
 inj:∀x y c,X.env.cells.lookup x=some c->X.env.cells.lookup y=some c->x=y
 has:∀x,(X.env.kindOf x=some .cell\/X.env.kindOf x=some .free)->∃c,X.env.cells.lookup x=some c
 cab:∀x c,X.fn x=true->X.env.cells.lookup x=some c->X.s₀.heap.objs.size<=c
 hd:X.calm=true->X.A.handled=none
 frames:X.A.frames=some X.stack
 stk:X.stack=X.outer\/(X.stack=X.env::X.outer/\X.env.frame=some X.env.locals)
 exf:∀b∈X.ex,b≠X.env.locals/\∀x c,X.env.cells.lookup x=some c->c≠b
 bs:∀b o,X.base.get? b=some o->X.s₀.heap.get? b=some o/\X.H₀ b=none
 bsz:X.base.objs.size<=X.s₀.heap.objs.size
 noex:∀b o,X.base.get? b=some o->b∉X.ex
 exfs:∀b∈X.ex,b∉X.fs
 funs:X.s₀.heap.FunFrames X.base X.outer
 frf:∀b∈X.fs,X.H₀ b=none
structure aV(X:Cx)(pins:List (Addr×Obj))(σ:List (Option V))(H:Hp)(s:Shared):Prop where
 ok:X.Ok
 os:s.os=X.s₀.os
 bare:AllBare s.gens
 base:Un X.fs X.ex X.H₀ H X.s₀.heap s.heap
 loc:∃m,s.heap.Ns X.env.locals m/\∀(i:Nat)(x:Str)(v:V),X.N[i]?=some x->σ[i]?=some (some v)->Ma X.env.scope x->∃u,bV v u/\Nf X.env s.heap m x u
 cell:∀x c,X.env.cells.lookup x=some c->∃v,s.heap.IsCell c v
 free:H X.env.locals=none
 freeC:∀x c,X.env.cells.lookup x=some c->H c=none
 pin:∀p∈X.pn++pins,s.heap.get? p.1=some p.2/\H p.1=none/\p.1≠X.env.locals/\p.1∉X.fs/\∀v,p.2.data≠.cell v
 hok:om X.prog X.w H s.heap
 len:σ.length=X.N.length
section
variable{X:Cx}{pins:List (Addr×Obj)}{σ:List (Option V)}{H H':Hp}{s:Shared}{h':Heap}
theorem Cx.Ok.nofr(ok:X.Ok){b:Addr}{o:Obj}(e:X.base.get? b=some o):b∉X.fs:=fun hb=>by
 have:=(ok.funs.mem hb).1;rw[e]at this;cases this
theorem aV.bs(I:aV X pins σ H s):∀b o,X.base.get? b=some o->s.heap.get? b=some o/\H b=none:=fun b o e=>
 ⟨I.base.keep b o (I.ok.bs b o e).1 (I.ok.bs b o e).2 (I.ok.nofr e) (I.ok.noex b o e),I.base.free b o (I.ok.bs b o e).1 (I.ok.bs b o e).2 (I.ok.noex b o e)⟩
theorem aV.bk(I:aV X pins σ H s):∀b o,X.base.get? b=some o->s.heap.get? b=some o:=fun b o e=>(I.bs b o e).1
theorem aV.mod(I:aV X pins σ H s):Mod X.K X.mg X.base:=I.ok.mod
theorem aV.kIn(I:aV X pins σ H s):X.K.In s.heap:=I.ok.mod.kin.keeps I.bk
theorem aV.lt(I:aV X pins σ H s):X.env.locals<s.heap.objs.size:=let ⟨_,hn,_⟩:=I.loc;hn.lt
theorem aV.sz(I:aV X pins σ H s):X.s₀.heap.objs.size<=s.heap.objs.size:=NU I.ok.above (NV I.lt)
theorem aV.nofs(I:aV X pins σ H s){a:Addr}(h:s.heap.objs.size<=a):a∉X.fs:=fun hb=>by
 obtain⟨_,o,ho,_⟩:=I.ok.funs.mem hb;exact absurd (NP (NO ho) (NU I.sz h)) (NQ _)
theorem aV.cne(I:aV X pins σ H s):∀x c,X.env.cells.lookup x=some c->c≠X.env.locals:=fun x c e z=>by
 obtain⟨v,o,ho,hd⟩:=I.cell x c e;obtain⟨m,⟨o',es,ep,ho',hd',_⟩,_⟩:=I.loc;rw[z,ho']at ho;cases ho;rw[hd']at hd;cases hd
theorem aV.funs(I:aV X pins σ H s):s.heap.FunFrames X.base X.outer:=by
 have all:∀(l:List Env),(∀b∈pk l,b∈X.fs)->X.s₀.heap.FunFrames X.base l->s.heap.FunFrames X.base l:=by
  intro l
  induction l with
  |nil=>intro _ _;trivial
  |cons env r ih=>
   intro hs hl;obtain⟨hk,⟨L,o,hf,hn,ho,hd⟩,hr⟩:=hl;have hL:L∈X.fs:=hs L (by unfold pk;rw[NW,hf];exact NX);obtain⟨sl,e⟩:=I.base.slot L o ho (I.ok.frf L hL) hL fun z=>I.ok.exfs L z hL;exact⟨hk,⟨L,_,hf,hn,e,hd⟩,ih (fun b hb=>hs b (by unfold pk;rw[NW,hf];exact NY _ hb)) hr⟩
 exact all X.outer (fun _ hb=>hb) I.ok.funs
theorem aV.stack(I:aV X pins σ H s):s.heap.FunFrames X.base X.stack:=by
 rcases I.ok.stk with e|⟨e,hf⟩
 ·rw[e];exact I.funs
 ·rw[e];obtain⟨m,hn,_⟩:=I.loc;refine .cons (by rw[I.ok.kind];decide) hf hn ?_ I.funs;exact Heap.get?_none_of_le (NU I.ok.bsz I.ok.above)
theorem aV.stkSub(I:aV X pins σ H s):∀b∈pk X.stack,b∈X.env.locals::X.fs:=fun b hb=>by
 rcases I.ok.stk with e|⟨e,hf⟩
 ·rw[e]at hb;exact NY _ hb
 ·rw[e]at hb;unfold pk at hb;rw[NW,hf]at hb;exact hb
theorem aV.stkFree(I:aV X pins σ H s):∀b∈pk X.stack,H b=none:=fun b hb=>by
 rcases NZ.mp (I.stkSub b hb) with e|hb
 ·rw[e];exact I.free
 ·obtain⟨_,o,ho,_⟩:=I.ok.funs.mem hb;exact I.base.free b o ho (I.ok.frf b hb) fun z=>I.ok.exfs b z hb
theorem aV.step{g':Array GenState}{t':Nat}{d':Drawn}{ch:List Addr}(I:aV X pins σ H s)
  (hch:∀b∈ch,(b∈X.ex\/X.s₀.heap.objs.size<=b)/\b≠X.env.locals/\(∀x c,X.env.cells.lookup x=some c->c≠b)/\∀p∈X.pn++pins,p.1≠b)
  (keep:∀b o,b≠X.env.locals->b∉X.fs->b∉ch->s.heap.get? b=some o->H b=none->h'.get? b=some o)
  (slot:∀b o,b≠X.env.locals->b∈X.fs->b∉ch->s.heap.get? b=some o->H b=none->∃sl,h'.get? b=some {o with slots:=sl}) (free:∀b o,b∉ch->s.heap.get? b=some o->H b=none->H' b=none)
  (there:∀b o,b∉ch->s.heap.get? b=some o->∃o',h'.get? b=some o')
  (tups:∀b xs,H b=some (.tup xs)->H' b=some (.tup xs)) (frzs:∀b o u,H b=some (.frz o u)->H' b=some (.frz o u)) (tbls:∀b ps,H b=some (.tbl ps)->∃more,H' b=some (.tbl (ps++more)))
  (ns:∀m,s.heap.Ns X.env.locals m->h'.Ns X.env.locals m) (hok:om X.prog X.w H' h') (hg:AllBare g') :
  aV X pins σ H' {s with heap:=h',gens:=g',drawn:=d',toks:=t'}:=by
 have neL:∀b o,X.s₀.heap.get? b=some o->b≠X.env.locals:=fun b o e=>NR (NP (NO e) I.ok.above)
 have neC:∀b o,X.s₀.heap.get? b=some o->b∉X.ex->b∉ch:=fun b o e hx hb=>by
  rcases (hch b hb).1 with z|z
  ·exact hx z
  ·exact absurd (NP (NO e) z) (NQ _)
 have cellK:∀x c,X.env.cells.lookup x=some c->∀v,s.heap.IsCell c v->h'.IsCell c v:=fun x c e v ⟨o,ho,hd⟩=>by
  have nch:c∉ch:=fun z=>(hch c z).2.2.1 x c e rfl;by_cases hc:c∈X.fs
  ·obtain⟨sl,q⟩:=slot c o (I.cne x c e) hc nch ho (I.freeC x c e);exact⟨_,q,hd⟩
  ·exact⟨o,keep c o (I.cne x c e) hc nch ho (I.freeC x c e),hd⟩
 refine⟨I.ok,I.os,hg,⟨fun b o e n hb hx=>?_,fun b o e n hb hx=>?_,fun b o e n hx=>?_,fun b o e hx=>?_,fun b xs e=>tups b xs (I.base.tups b xs e),fun b o xs e=>frzs b o xs (I.base.frzs b o xs e),fun b ps e=>?_⟩,?_,fun x c e=>?_,?_,fun x c e=>?_,fun p hp=>?_,hok,I.len⟩
 ·exact keep b o (neL b o e) hb (neC b o e hx) (I.base.keep b o e n hb hx) (I.base.free b o e n hx)
 ·obtain⟨sl,e1⟩:=I.base.slot b o e n hb hx;obtain⟨sl',e2⟩:=slot b _ (neL b o e) hb (neC b o e hx) e1 (I.base.free b o e n hx);exact⟨sl',e2⟩
 ·obtain⟨o',e1⟩:=I.base.there b o e hx;exact free b o' (neC b o e hx) e1 (I.base.free b o e n hx)
 ·obtain⟨o',e1⟩:=I.base.there b o e hx;exact there b o' (neC b o e hx) e1
 ·obtain⟨m1,e1⟩:=I.base.tbls b ps e;obtain⟨m2,e2⟩:=tbls b _ e1;exact⟨m1++m2,by rw[e2,Array.append_assoc]⟩
 ·obtain ⟨m, hn, hl⟩ := I.loc;refine⟨m,ns m hn,fun i x v e1 e2 e3=>?_⟩;obtain⟨u,r,l⟩:=hl i x v e1 e2 e3;refine⟨u,r,?_⟩;rcases l with l|⟨k,c,e,z⟩
  ·exact .inl l
  ·exact .inr ⟨k,c,e,cellK x c e _ z⟩
 ·obtain⟨v,z⟩:=I.cell x c e;exact⟨v,cellK x c e v z⟩
 ·obtain⟨m,⟨o,_,_,ho,_⟩,_⟩:=I.loc;exact free _ o (fun z=>(hch _ z).2.1 rfl) ho I.free
 ·obtain⟨v,o,ho,hd⟩:=I.cell x c e;exact free c o (fun z=>(hch c z).2.2.1 x c e rfl) ho (I.freeC x c e)
 ·obtain⟨e,n,ne,nf,d⟩:=I.pin p hp;have nch:p.1∉ch:=fun z=>(hch p.1 z).2.2.2 p hp rfl;exact⟨keep p.1 p.2 ne nf nch e n,free p.1 p.2 nch e n,ne,nf,d⟩
theorem aV.un{t':Nat}(I:aV X pins σ H s)(u:Un X.fs [] H H' s.heap h')(hok:om X.prog X.w H' h'):aV X pins σ H' {s with heap:=h',toks:=t'}:=by
 obtain⟨m,⟨o,es,ep,ho,r⟩,_⟩:=id I.loc;obtain⟨sl,hL⟩:=u.any ho I.free (by simp)
 exact I.step (g':=s.gens) (d':=s.drawn) (ch:=[]) (fun _ z=>nomatch z) (fun b o _ hb _ e n=>u.keep b o e n hb (by simp)) (fun b o _ hb _ e n=>u.slot b o e n hb (by simp)) (fun b o _ e n=>u.free b o e n (by simp)) (fun b o _ e=>u.there b o e (by simp)) u.tups u.frzs u.tbls (fun m' hm=>by
  obtain⟨o',es',ep',ho',r'⟩:=hm;rw[ho]at ho';cases ho'
  exact⟨_,es',ep',hL,r'⟩) hok I.bare
theorem aV.call{g':Array GenState}{t':Nat}{d':Drawn}{ch:List Addr}(I:aV X pins σ H s)(u:Un (pk X.stack) ch H H' s.heap h')(hok:om X.prog X.w H' h')(hg:AllBare g')
  (hch:∀b∈ch,(b∈X.ex\/X.s₀.heap.objs.size<=b)/\b≠X.env.locals/\(∀x c,X.env.cells.lookup x=some c->c≠b)/\∀p∈X.pn++pins,p.1≠b) :
  aV X pins σ H' {s with heap:=h',gens:=g',drawn:=d',toks:=t'}:=by
 obtain⟨m,⟨o,es,ep,ho,r⟩,_⟩:=id I.loc;obtain⟨sl,hL⟩:=u.any ho I.free fun z=>(hch _ z).2.1 rfl
 exact I.step (ch:=ch) hch (fun b o hL hb hc e n=>u.keep b o e n (fun z=>(NZ.mp (I.stkSub b z)).elim hL hb) hc) (fun b o _ _ hc e n=>u.any e n hc) (fun b o hc e n=>u.free b o e n hc) (fun b o hc e=>u.there b o e hc) u.tups u.frzs u.tbls (fun m' hm=>by
  obtain⟨o',es',ep',ho',r'⟩:=hm;rw[ho]at ho';cases ho'
  exact⟨_,es',ep',hL,r'⟩) hok hg
theorem aV.turned{t':Nat}{it:Addr}(I:aV X pins σ H s)(k:∀b o,b≠it->s.heap.get? b=some o->h'.get? b=some o)(hn:H it=none)(hL:it≠X.env.locals)
  (h1:it∈X.ex\/X.s₀.heap.objs.size<=it) (h2:∀x c,X.env.cells.lookup x=some c->c≠it) (h3:∀p∈X.pn++pins,p.1≠it):aV X pins σ H {s with heap:=h',toks:=t'}:=by
 have nit:∀b u,H b=some u->b≠it:=fun b u e z=>by rw[z,hn]at e;cases e
 refine I.step (g':=s.gens) (d':=s.drawn) (ch:=[it]) (fun b hb=>?_) (fun b o _ _ hc e _=>k b o (fun z=>hc (by simp[z])) e) (fun b o _ _ hc e _=>⟨o.slots,k b o (fun z=>hc (by simp[z])) e⟩) (fun _ _ _ _ n=>n)
  (fun b o hc e=>⟨o,k b o (fun z=>hc (by simp[z])) e⟩) (fun _ _ e=>e) (fun _ _ _ e=>e) (fun b ps e=>⟨#[],by rw[e];simp⟩) (fun m hm=>?_) (fun b u e=>?_) I.bare
 ·have e : b = it := by simpa using hb
  subst e;exact⟨h1,hL,h2,h3⟩
 ·obtain⟨o,es,ep,ho,r⟩:=hm;exact⟨o,es,ep,k _ o (N0 hL) ho,r⟩
 ·refine (I.hok b u e).stay (fun c v hc q => k c v ?_ q) (fun _ q => q) fun _ _ q => q;rcases hc with z|z
  ·rw[z];exact nit b u e
  ·exact nit c _ z
theorem aV.tok(I:aV X pins σ H s)(t:Nat):aV X pins σ H {s with toks:=t}:=I.un (h':=s.heap) (t':=t) Un.refl I.hok
theorem aV.kept{t':Nat}(I:aV X pins σ H s)(k:∀b u,s.heap.get? b=some u->h'.get? b=some u):aV X pins σ H {s with heap:=h',toks:=t'}:=I.un (Un.kept k) (I.hok.kept k)
theorem aV.laid{a:Addr}{o:HO}{t':Nat}(I:aV X pins σ H s)(k:∀b u,s.heap.get? b=some u->h'.get? b=some u)(hp:s.heap.objs.size<=a)(new:eW X.prog X.w (cq H a o) h' a o) :
  aV X pins σ (cq H a o) {s with heap:=h',toks:=t'}:=I.un (Un.laid k hp (I.hok.fresh hp)) (I.hok.laid k hp new)
theorem aV.write{x e:Addr}{o:HO}{t':Nat}(I:aV X pins σ H s)(mu:Md (H x))(he:e=x\/H e=some (.own x))(k:∀b u,b≠e->s.heap.get? b=some u->h'.get? b=some u)(heo:∃u,h'.get? e=some u)
  (new:eW X.prog X.w (cq H x o) h' x o):aV X pins σ (cq H x o) {s with heap:=h',toks:=t'}:=I.un (Un.write mu he k heo) (I.hok.write mu he k heo new)
theorem aV.pins_of{pins':List (Addr×Obj)}(I:aV X pins σ H s)(h:∀p∈pins',s.heap.get? p.1=some p.2/\H p.1=none/\p.1≠X.env.locals/\p.1∉X.fs/\∀v,p.2.data≠.cell v):aV X pins' σ H s:=
 ⟨I.ok,I.os,I.bare,I.base,I.loc,I.cell,I.free,I.freeC,fun p hp=>(N1.mp hp).elim (fun z=>I.pin p (N2 _ z)) (h p),I.hok,I.len⟩
theorem wO{N:List Str}(hN:N.Nodup){i j:Nat}{x:Str}(a:N[i]?=some x)(b:N[j]?=some x):i=j:=by
 obtain⟨h1,e1⟩:=N3.mp a;obtain⟨h2,e2⟩:=N3.mp b;exact(N4 hN).mp (e1.trans e2.symm)
theorem tI{M:Model}{A:Around}{E:Value->Shared->Prop}{i:Nat}{x:Str}{v:V}{u:Value}{Q:Unit->Shared->Prop}(I:aV X pins σ H s)(hN:X.N.Nodup)(hi:X.N[i]?=some x)(hx:Ex X.env.scope x)(r:bV v u)
  (h:∀s',aV X pins (σ.set i (some v)) H s'->(∃a,Heap.SameBut a s.heap s'.heap/\(a=X.env.locals\/X.env.cells.lookup x=some a))->Q () s') (hf:X.fn x=true\/X.env.scope.names.lookup x=some .local:=by first|exact .inl rfl|exact .inr rfl|assumption):wpAny M A (storeName X.env x u) Q E s:=by
 obtain⟨m,hn,hl⟩:=id I.loc;have hcls:(X.env.scope.kind == .class || (X.env.scope.kind == .module&&X.env.locals != X.env.globals))=false:=by rw[I.ok.kind];rfl
 have hiσ:i<σ.length:=by rw[I.len];exact(N3.mp hi).1
 have cne:=I.cne
 have tracked:∀{a:Addr}{h':Heap},(∃o,s.heap.get? a=some o/\H a=none)->Heap.SameBut a s.heap h'->om X.prog X.w H h':=fun {a h'} ha hs b ob e=>by
  obtain⟨_,_,hfree⟩:=ha;refine(I.hok b ob e).stay (fun c w' hc q=>(hs.2 c ?_).trans q) (fun _ q=>q) fun _ _ q=>q
  rintro rfl
  rcases hc with rfl|hc
  ·rw[hfree]at e;cases e
  ·rw[hfree]at hc;cases hc
 rcases hx with hk|hk
 ·refine wpAny_storeName_local hk hn (fun h' hn' hs => ?_) hcls;obtain⟨oL,_,_,hoL,_⟩:=id hn;refine h _ ⟨I.ok,I.os,I.bare,⟨fun b o e n hb hx=>?_,fun b o e n hb hx=>?_,I.base.free,fun b o e hx=>?_,I.base.tups,I.base.frzs,I.base.tbls⟩,⟨_,hn',fun j y v' e1 e2 e3=>?_⟩,fun y c e=>?_,I.free,I.freeC,fun p hp=>?_,tracked ⟨oL,hoL,I.free⟩ hs,by simpa using I.len⟩ ⟨_,hs,.inl rfl⟩
  ·exact(hs.2 b (NR (NP (NO e) I.ok.above))).trans (I.base.keep b o e n hb hx)
  ·obtain⟨sl,e1⟩:=I.base.slot b o e n hb hx;exact⟨sl,(hs.2 b (NR (NP (NO e) I.ok.above))).trans e1⟩
  ·obtain⟨o',e1⟩:=I.base.there b o e hx;exact⟨o',(hs.2 b (NR (NP (NO e) I.ok.above))).trans e1⟩
  ·by_cases hj : j = i
   ·subst hj;rw[hi]at e1;cases e1;rw[N5 hiσ]at e2;cases e2;exact⟨u,r,.inl ⟨hk,by simp⟩⟩
   ·rw [N6 (N0 hj)] at e2;obtain⟨u',r',q⟩:=hl j y v' e1 e2 e3;refine⟨u',r',?_⟩;rcases q with⟨k,e⟩|⟨k,c,e,z⟩
    ·refine .inl ⟨k,?_⟩;have:y≠x:=fun e=>hj (wO hN e1 (e ▸ hi));simp[this,e]
    ·exact .inr ⟨k,c,e,z.sameBut hs (cne y c e)⟩
  ·obtain⟨w',z⟩:=I.cell y c e;exact⟨w',z.sameBut hs (cne y c e)⟩
  ·obtain⟨e,n,ne,nf,d⟩:=I.pin p hp;exact⟨(hs.2 p.1 ne).trans e,n,ne,nf,d⟩
 ·have hfn:X.fn x=true:=by
   rcases hf with z|z
   ·exact z
   ·rw[z]at hk;cases hk
  obtain⟨c,hc⟩:=I.ok.has x (.inl hk);obtain⟨w',z⟩:=I.cell x c hc;refine wpAny_storeName_cell I.ok.kind hk hc z (fun h' hc' hs=>?_);obtain⟨oc,hoc,hocd⟩:=id z;refine h {s with heap:=h'} ⟨I.ok,I.os,I.bare,⟨fun b o e n hb hx=>?_,fun b o e n hb hx=>?_,I.base.free,fun b o e hx=>?_,I.base.tups,I.base.frzs,I.base.tbls⟩,⟨m,hn.sameBut hs (N0 (cne x c hc)),fun j y v' e1 e2 e3=>?_⟩,fun y c' e=>?_,I.free,I.freeC,fun p hp=>?_,tracked ⟨oc,hoc,I.freeC x c hc⟩ hs,by simpa using I.len⟩ ⟨c,hs,.inr hc⟩
  ·exact(hs.2 b (NR (NP (NO e) (I.ok.cab x c hfn hc)))).trans (I.base.keep b o e n hb hx)
  ·obtain⟨sl,e1⟩:=I.base.slot b o e n hb hx;exact⟨sl,(hs.2 b (NR (NP (NO e) (I.ok.cab x c hfn hc)))).trans e1⟩
  ·obtain⟨o',e1⟩:=I.base.there b o e hx;exact⟨o',(hs.2 b (NR (NP (NO e) (I.ok.cab x c hfn hc)))).trans e1⟩
  ·by_cases hj : j = i
   ·subst hj;rw[hi]at e1;cases e1;rw[N5 hiσ]at e2;cases e2;exact⟨u,r,.inr ⟨.inl hk,c,hc,hc'⟩⟩
   ·rw [N6 (N0 hj)] at e2;obtain⟨u',r',q⟩:=hl j y v' e1 e2 e3;refine⟨u',r',?_⟩;rcases q with q|⟨k,c',e,z'⟩
    ·exact .inl q
    ·refine .inr ⟨k, c', e, z'.sameBut hs ?_⟩
     rintro rfl
     exact hj (wO hN e1 (I.ok.inj _ _ _ e hc ▸ hi))
  ·by_cases hcc : c' = c
   ·subst hcc;exact⟨_,hc'⟩
   ·obtain⟨w2,z2⟩:=I.cell y c' e;exact⟨w2,z2.sameBut hs hcc⟩
  ·obtain⟨e,n,ne,nf,d⟩:=I.pin p hp;refine⟨(hs.2 p.1 ?_).trans e,n,ne,nf,d⟩;intro q;rw[q,hoc]at e;have q':oc=p.2:=NN e;exact d w' (by rw[<- q'];exact hocd)
theorem qX{M:Model}{A:Around}{E:Value->Shared->Prop}{i:Nat}{x:Str}{v:V}{u:Value}{Q:Unit->Shared->Prop}(I:aV X pins σ H s)(hN:X.N.Nodup)(hi:X.N[i]?=some x)(hx:Ex X.env.scope x)(r:bV v u)
  (h:∀s',aV X pins (σ.set i (some v)) H s'->Q () s') (hf:X.fn x=true\/X.env.scope.names.lookup x=some .local:=by first|exact .inl rfl|exact .inr rfl|assumption):wpAny M A (storeName X.env x u) Q E s:=
 tI I hN hi hx r (fun s' I' _=>h s' I') hf
theorem aV.call'{s':Shared}{ch:List Addr}(I:aV X pins σ H s)(ho:s'.os=s.os)(u:Un (pk X.stack) ch H H' s.heap s'.heap)(hok:om X.prog X.w H' s'.heap)(hg:AllBare s'.gens)
  (hch:∀b∈ch,(b∈X.ex\/X.s₀.heap.objs.size<=b)/\b≠X.env.locals/\(∀x c,X.env.cells.lookup x=some c->c≠b)/\∀p∈X.pn++pins,p.1≠b):aV X pins σ H' s':=by
 obtain⟨h',g',d',t',o'⟩:=s';have e:o'=s.os:=ho;subst e;exact I.call (g':=g') (t':=t') (d':=d') u hok hg hch
end
abbrev XK:=Value->Option Addr->Hp->Prop
abbrev St:=List (Option V)
abbrev VK:=V->Hp->Prop
abbrev TE:=St->Hp->VK->Prop
abbrev TT:=St->Hp->(Bool->Hp->Prop)->Prop
abbrev TA:=St->Hp->(List V->Hp->Prop)->Prop
structure oy where
 nx:St->Hp->Prop
 rt:VK
 bk:St->Hp->Prop:=fun _ _=>False
 ct:St->Hp->Prop:=fun _ _=>False
abbrev TS:=oy->St->Hp->Prop
def EP(X:Cx)(pins:List (Addr×Obj))(σ:St)(Q:VK)(u:Value)(s':Shared):Prop:=∃v H',aV X pins σ H' s'/\bV v u/\Q v H'
def TP(X:Cx)(pins:List (Addr×Obj))(σ:St)(Q:Bool->Hp->Prop)(b:Bool)(s':Shared):Prop:=∃H',aV X pins σ H' s'/\Q b H'
def AP(X:Cx)(pins:List (Addr×Obj))(σ:St)(Q:List V->Hp->Prop)(us:List Value)(s':Shared):Prop:=∃vs H',aV X pins σ H' s'/\ba vs us/\Q vs H'
def SP(X:Cx)(pins:List (Addr×Obj))(D:oy)(f:Flow)(s':Shared):Prop:=
 match f with
 |.next=>∃σ' H',aV X pins σ' H' s'/\D.nx σ' H'
 |.brk=>∃σ' H',aV X pins σ' H' s'/\D.bk σ' H'
 |.cont=>∃σ' H',aV X pins σ' H' s'/\D.ct σ' H'
 |.ret u=>∃v σ' H',aV X pins σ' H' s'/\bV v u/\D.rt v H'
def PE(X:Cx)(e:Expr)(t:TE):Prop:=
 ∀(pins:List (Addr×Obj))(s:Shared)(σ:St)(H:Hp)(Q:VK),aV X pins σ H s->t σ H Q->wpAny (model X.prog X.w) X.A (eval e X.env) (EP X pins σ Q) X.xe s
def PT(X:Cx)(e:Expr)(t:TT):Prop:=
 ∀(pins:List (Addr×Obj))(s:Shared)(σ:St)(H:Hp)(Q:Bool->Hp->Prop),aV X pins σ H s->t σ H Q->wpAny (model X.prog X.w) X.A (isTrue e X.env (eval e X.env)) (TP X pins σ Q) X.xe s
def PW(X:Cx)(e:Expr)(t:TT):Prop:=
 ∀(whole:Sem Value)(pins:List (Addr×Obj))(s:Shared)(σ:St)(H:Hp)(Q:Bool->Hp->Prop),aV X pins σ H s->t σ H Q->wpAny (model X.prog X.w) X.A (isTrue e X.env whole) (TP X pins σ Q) X.xe s
theorem PW.pt{X:Cx}{e:Expr}{t:TT}(h:PW X e t):PT X e t:=h _
def PA(X:Cx)(es:List Expr)(t:TA):Prop:=
 ∀(pos:Pos)(pins:List (Addr×Obj))(s:Shared)(σ:St)(H:Hp)(Q:List V->Hp->Prop),aV X pins σ H s->t σ H Q->wpAny (model X.prog X.w) X.A (spliced (backTo pos (starEach es X.env))) (AP X pins σ Q) X.xe s
def PS(X:Cx)(st:Stmt)(t:TS):Prop:=
 ∀(pins:List (Addr×Obj))(s:Shared)(σ:St)(H:Hp)(D:oy),aV X pins σ H s->t D σ H->wpAny (model X.prog X.w) X.A (exec st X.env) (SP X pins D) X.xe s
def j7(X:Cx)(st:List Stmt)(t:TS):Prop:=
 ∀(pins:List (Addr×Obj))(s:Shared)(σ:St)(H:Hp)(D:oy),aV X pins σ H s->t D σ H->wpAny (model X.prog X.w) X.A (execs st X.env) (SP X pins D) X.xe s
theorem eF{α:Type}{t:Sem α}{Q Q':α->Shared->Prop}{M:Model}{A:Around}{E:Value->Shared->Prop}{s:Shared}(h:wpAny M A t Q E s)(hQ:∀a s,Q a s->Q' a s):wpAny M A t Q' E s:=N7 h hQ fun _ _ x=>x
end L2
namespace L2
open PySem PySem.Spec PyProof.Rows
section
variable{X:Cx}
def Hy(i:Nat):TE:=fun σ H Q=>∃v,σ[i]?=some (some v)/\Q v H
def tC(v:V):TE:=fun _ H Q=>Q v H
theorem CD {i:Nat}{x:Str}{pos:Pos} (hN:X.N[i]?=some x) (hv:Ma X.env.scope x) (hd:(x == ("__debug__" : Str))=false:=by decide) (hcd:(x == ("__classdict__" : Str))=false:=by decide):PE X (.Name x pos) (Hy i):=by
 intro pins s σ H Q I h;obtain⟨v,e,h⟩:=h;obtain⟨m,hn,hl⟩:=I.loc;obtain⟨u,r,l⟩:=hl i x v hN e hv;have fin:EP X pins σ Q u s:=⟨v,H,I,r,h⟩;rcases l with⟨hk,hm⟩|⟨hk,c,hc,hcell⟩
 ·exact wpAny_Name (wpAny_loadName_local I.ok.kind hk hn hm fin) hd
 ·rcases hk with hk | hk
  ·exact wpAny_Name (wpAny_loadName_cell I.ok.kind hk hc hcell fin) hd
  ·exact wpAny_Name (wpAny_loadName_free I.ok.kind hk hc hcell fin hcd) hd
theorem Jj{i j pos}:PE X (.Constant (.int i) j pos) (tC (.int i)):=fun _ _ _ H _ I h=>wpAny_Constant_int ⟨.int i,H,I.tok _,⟨_,rfl⟩,h⟩
theorem LC{b j pos}:PE X (.Constant (.bool b) j pos) (tC (.bl b)):=fun _ _ _ H _ I h=>Constant_bool ⟨.bl b,H,I,rfl,h⟩
theorem Ji{j pos}:PE X (.Constant .none j pos) (tC .non):=fun _ _ _ H _ I h=>Constant_none ⟨.non,H,I,rfl,h⟩
theorem Jf{x j pos}:PE X (.Constant (.str x) j pos) (tC (.str x)):=fun _ _ _ H _ I h=>Calls.Constant_str ⟨.str x,H,I.tok _,⟨_,rfl⟩,h⟩
def Gl(X:Cx)(x:Str):Prop:=X.env.kindOf x=some .globalImplicit
theorem nB{E:Value->Shared->Prop}{pins:List (Addr×Obj)}{s:Shared}{σ:St}{H:Hp}{x:Str}{u:Value}{pos:Pos}{Q:Value->Shared->Prop}(I:aV X pins σ H s)(hg:Gl X x)(hm:X.mg x=some u)(h:Q u s)
  (hd:(x == ("__debug__" : Str))=false:=by decide):wpAny (model X.prog X.w) X.A (eval (.Name x pos) X.env) Q E s:=
 Calls.Name_function_global I.ok.kind hg (Calls.loadGlobal_global (by rw[I.ok.glob];exact I.mod.glob.keeps I.bk) hm h) hd
theorem oC{E:Value->Shared->Prop}{pins:List (Addr×Obj)}{s:Shared}{σ:St}{H:Hp}{x:Str}{u:Value}{pos:Pos}{Q:Value->Shared->Prop}(I:aV X pins σ H s)(hg:Gl X x)(hm:X.mg x=none)(hv:bootBuiltins x=some u)(h:Q u s)
  (hn:x ≠ "__name__" := by decide) (hd:(x == ("__debug__" : Str))=false:=by decide):wpAny (model X.prog X.w) X.A (eval (.Name x pos) X.env) Q E s:=by
 obtain⟨mb,h1,h2⟩:=I.mod.blt;exact Calls.Name_function_global I.ok.kind hg (Calls.loadGlobal_builtin (by rw[I.ok.glob];exact I.mod.glob.keeps I.bk) hm (by rw[I.ok.blt];exact h1.keeps I.bk) ((h2 x hn).trans hv) h) hd
theorem uU {x:Str}{v:V}{u:Value}{pos:Pos} (hg:Gl X x) (hm:X.mg x=some u) (r:bV v u) (hd:(x == ("__debug__" : Str))=false:=by decide):PE X (.Name x pos) (tC v):=
 fun _ _ _ H _ I h=>nB I hg hm ⟨v,H,I,r,h⟩ hd
theorem zD {x:Str}{v:V}{u:Value}{pos:Pos} (hg:Gl X x) (hm:X.mg x=none) (hv:bootBuiltins x=some u) (r:bV v u) (hn:x ≠ "__name__" := by decide) (hd:(x == ("__debug__" : Str))=false:=by decide):PE X (.Name x pos) (tC v):=
 fun _ _ _ H _ I h=>oC I hg hm hv ⟨v,H,I,r,h⟩ hn hd
variable{a b:Expr}{ta tb:TE}{pos:Pos}
variable{tA tB':TT}{rest:List Expr}
def MJ(t u:TT):TT:=fun σ H Q=>t σ H fun c H1=>if c=true then u σ H1 Q else Q false H1
def Nw(t u:TT):TT:=fun σ H Q=>t σ H fun c H1=>if c=true then Q true H1 else u σ H1 Q
def Mz(t:TT):TT:=fun σ H Q=>t σ H fun c H1=>Q (!c) H1
theorem FH(ha:PT X a tA):PW X (.BoolOp .And [a] pos) tA:=by
 intro wh pins s σ H Q I h;refine isTrue_and (eF (ha pins s σ H Q I h) fun c s1 e=>?_);cases c with
 |true=>exact isTrue_and_nil e
 |false=>exact e
theorem IU(ha:PT X a tA):PW X (.BoolOp .Or [a] pos) tA:=by
 intro wh pins s σ H Q I h;refine isTrue_or (eF (ha pins s σ H Q I h) fun c s1 e=>?_);cases c with
 |false=>exact isTrue_or_nil e
 |true=>exact e
theorem IV(ha:PT X a tA)(hb:PW X (.BoolOp .And (b::rest) pos) tB'):PW X (.BoolOp .And (a::b::rest) pos) (MJ tA tB'):=by
 intro wh pins s σ H Q I h;refine isTrue_and (eF (ha pins s σ H _ I h) fun c s1 ⟨H1,I1,q1⟩=>?_);cases c with
 |true=>exact hb wh pins s1 σ H1 Q I1 q1
 |false=>exact⟨H1,I1,q1⟩
theorem Lu(ha:PT X a tA)(hb:PW X (.BoolOp .Or (b::rest) pos) tB'):PW X (.BoolOp .Or (a::b::rest) pos) (Nw tA tB'):=by
 intro wh pins s σ H Q I h;refine isTrue_or (eF (ha pins s σ H _ I h) fun c s1 ⟨H1,I1,q1⟩=>?_);cases c with
 |true=>exact⟨H1,I1,q1⟩
 |false=>exact hb wh pins s1 σ H1 Q I1 q1
theorem IW(ha:PT X a tA):PT X (.UnaryOp .Not a pos) (Mz tA):=by
 intro pins s σ H Q I h;exact isTrue_not (ha pins s σ H (fun c H1=>Q (!c) H1) I h)
def Lj(ta tb:TE):TE:=fun σ H Q=>ta σ H fun x H1=>∃c,x=.bl c/\if c=true then tb σ H1 Q else Q (.bl false) H1
def Le(ta:TE):TE:=fun σ H Q=>ta σ H fun x H1=>∃c,x=.bl c/\Q (.bl (!c)) H1
theorem Jg{op}{t:TE}(h:PE X a t):PE X (.BoolOp op [a] pos) t:=fun pins s σ H Q I hw=>BoolOp_one (h pins s σ H Q I hw)
theorem Jk(ha:PE X a ta)(hb:PE X (.BoolOp .And (b::rest) pos) tb):PE X (.BoolOp .And (a::b::rest) pos) (Lj ta tb):=by
 intro pins s σ H Q I h;refine BoolOp_and (eF (ha pins s σ H _ I h) fun v s1 ⟨x,H1,I1,r1,q1⟩=>?_);obtain⟨c,rfl,q1⟩:=q1;cases r1;refine N8 ?_;cases c with
 |true=>exact hb pins s1 σ H1 Q I1 q1
 |false=>exact⟨.bl false,H1,I1,rfl,q1⟩
theorem Jh(ha:PE X a ta):PE X (.UnaryOp .Not a pos) (Le ta):=by
 intro pins s σ H Q I h;refine UnaryOp_ (eF (ha pins s σ H _ I h) fun v s1 ⟨x,H1,I1,r1,q1⟩=>?_);obtain⟨c,rfl,q1⟩:=q1;cases r1;exact not_of (N8 ⟨.bl (!c),H1,I1,rfl,q1⟩)
end
end L2
namespace L2
open PySem PySem.Spec PyProof.Rows
def fT(K:W.Frag)(H:Hp)(a:Addr)(xs:List V):Prop:=
 Rd H a (.lst xs) \/
  ∃(o:Obj) (its:Array Value) (n:Nat),K.lookup a=some o/\o.cls=.type "list" /\ o.dict=none/\o.data=.seq its n/\its.size<=sizeLine/\ba xs its.toList
def fS(K:W.Frag)(H:Hp)(a:Addr)(xs:List V):Prop:=
 Rd H a (.tup xs) \/
  ∃(o:Obj) (its:Array Value) (n:Nat),K.lookup a=some o/\o.cls=.type "tuple" /\ o.data=.seq its n/\its.size<=sizeLine/\ba xs its.toList
def Na:Value->Option V
 |.none=>some .non
 |.bool b=>some (.bl b)
 |.int i _=>some (.int i)
 |.str x _=>some (.str x)
 |.bytes b _=>some (.byt b)
 |.float b _=>some (.flt b)
 |.ref a=>some (.ref a)
 |.type n=>some (.ty n)
 |_=>none
theorem bV.abs{x:V}{u:Value}(r:bV x u):Na u=some x:=by
 cases x with
 |non=>cases r;rfl
 |bl _=>cases r;rfl
 |int _=>obtain⟨t,rfl⟩:=r;rfl
 |str _=>obtain⟨t,rfl⟩:=r;rfl
 |byt _=>obtain⟨t,rfl⟩:=r;rfl
 |flt _=>obtain⟨t,rfl⟩:=r;rfl
 |ref _=>cases r;rfl
 |ty _=>cases r;rfl
theorem bV.inj{x y:V}{u:Value}(r:bV x u)(q:bV y u):x=y:=NN (r.abs.symm.trans q.abs)
theorem ba.inj:∀{xs ys:List V}{us:List Value},ba xs us->ba ys us->xs=ys
 |_,_,_,.nil,.nil=>rfl
 |_,_,_,.cons r t,.cons r' t'=>by rw[r.inj r',ba.inj t t']
section
variable{X:Cx}{pins:List (Addr×Obj)}{σ:St}{H:Hp}{s:Shared}{a:Addr}{xs ys:List V}
theorem fT.of{K:W.Frag}(h:H a=some (.lst xs)):fT K H a xs:=.inl (.inl h)
theorem fS.of{K:W.Frag}(h:H a=some (.tup xs)):fS K H a xs:=.inl (.inl h)
theorem aV.list(I:aV X pins σ H s)(h:fT X.K H a xs):∃its:List Value,ba xs its/\PlainL s.heap a its.toArray/\xs.length<=sizeLine:=by
 rcases h with h|⟨o,its,n,hk,hc,hd,hs,hz,r⟩
 ·obtain⟨z,its,n,r,e⟩:=h.ok I.hok;exact⟨its,r,⟨_,n,e,rfl,rfl,rfl⟩,z⟩
 ·refine⟨its.toList,r,⟨o,n,I.kIn a o hk,hc,hd,by simpa using hs⟩,?_⟩;have e:=r.length;simp only[N9]at e;omega
theorem aV.tuple(I:aV X pins σ H s)(h:fS X.K H a xs):∃its:List Value,ba xs its/\IsTup s.heap a its.toArray/\xs.length<=sizeLine:=by
 rcases h with h|⟨o,its,n,hk,hc,hs,hz,r⟩
 ·obtain⟨z,its,r,p⟩:=h.ok I.hok;exact⟨its,r,p,z⟩
 ·refine⟨its.toList,r,⟨o,I.kIn a o hk,hc,n,by simpa using hs⟩,?_⟩;have e:=r.length;simp only[N9]at e;omega
theorem aV.list_inj(I:aV X pins σ H s)(h:fT X.K H a xs)(h':fT X.K H a ys):xs=ys:=by
 obtain⟨its,r,⟨o,n,e,_,_,d⟩,_⟩:=I.list h;obtain⟨its',r',⟨o',n',e',_,_,d'⟩,_⟩:=I.list h';rw[e]at e';cases e';rw[d]at d';injection d' with d1 _
 have:its=its':=by simpa using Oa Array.toList d1
 subst this;exact r.inj r'
theorem aV.tuple_inj(I:aV X pins σ H s)(h:fS X.K H a xs)(h':fS X.K H a ys):xs=ys:=by
 obtain⟨its,r,⟨o,e,_,n,d⟩,_⟩:=I.tuple h;obtain⟨its',r',⟨o',e',_,n',d'⟩,_⟩:=I.tuple h';rw[e]at e';cases e';rw[d]at d';injection d' with d1 _
 have:its=its':=by simpa using Oa Array.toList d1
 subst this;exact r.inj r'
end
abbrev Cx.wish(X:Cx)(E:Value->Shared->Prop):Cx:={X with xe:=E}
abbrev Cx.nox(X:Cx):Cx:=X.wish fun _ _=>False
theorem Cx.Ok.wish{X:Cx}(ok:X.Ok)(E:Value->Shared->Prop):(X.wish E).Ok:=
 ⟨ok.mod,ok.kind,ok.glob,ok.blt,ok.above,ok.inj,ok.has,ok.cab,ok.hd,ok.frames,ok.stk,ok.exf,ok.bs,ok.bsz,ok.noex,ok.exfs,ok.funs,ok.frf⟩
theorem Cx.Ok.unwish{X:Cx}{E:Value->Shared->Prop}(ok:(X.wish E).Ok):X.Ok:=
 ⟨ok.mod,ok.kind,ok.glob,ok.blt,ok.above,ok.inj,ok.has,ok.cab,ok.hd,ok.frames,ok.stk,ok.exf,ok.bs,ok.bsz,ok.noex,ok.exfs,ok.funs,ok.frf⟩
section
variable{X:Cx}{pins:List (Addr×Obj)}{σ:St}{H:Hp}{s:Shared}{E:Value->Shared->Prop}
theorem aV.wish(I:aV X pins σ H s)(E:Value->Shared->Prop):aV (X.wish E) pins σ H s:=⟨I.ok.wish E,I.os,I.bare,I.base,I.loc,I.cell,I.free,I.freeC,I.pin,I.hok,I.len⟩
theorem aV.unwish(I:aV (X.wish E) pins σ H s):aV X pins σ H s:=⟨I.ok.unwish,I.os,I.bare,I.base,I.loc,I.cell,I.free,I.freeC,I.pin,I.hok,I.len⟩
theorem SP.unwish{D:oy}{f:Flow}{s':Shared}(h:SP (X.wish E) pins D f s'):SP X pins D f s':=by
 cases f with
 |next=>obtain⟨σ',H',I,q⟩:=h;exact⟨σ',H',I.unwish,q⟩
 |brk=>obtain⟨σ',H',I,q⟩:=h;exact⟨σ',H',I.unwish,q⟩
 |cont=>obtain⟨σ',H',I,q⟩:=h;exact⟨σ',H',I.unwish,q⟩
 |ret u=>obtain⟨v,σ',H',I,r,q⟩:=h;exact⟨v,σ',H',I.unwish,r,q⟩
theorem j7.nox{st:List Stmt}{t:TS}(h:j7 X.nox st t):j7 X st t:=fun pins s σ H D I hw=>
 N7 (h pins s σ H D (I.wish _) hw) (fun _ _ q=>q.unwish) fun _ _ z=>False.elim z
end
section
variable{X:Cx}{st:Stmt}{rest:List Stmt}{t u:TS}{e:Expr}{te:TE}{pos:Pos}
def Lf:TS:=fun D σ H=>D.nx σ H
def Mx(t u:TS):TS:=fun D σ H=>t {D with nx:=u D} σ H
theorem FM:j7 X [] Lf:=fun _ _ σ H _ I h=>Ob ⟨σ,H,I,h⟩
theorem Dz(h1:PS X st t)(h2:j7 X rest u):j7 X (st::rest) (Mx t u):=by
 intro pins s σ H D I h;refine wpAny_execs_cons (eF (h1 pins s σ H {D with nx:=u D} I h) fun f s1 q=>?_);cases f with
 |next=>
  obtain⟨σ',H',I',q⟩:=q;exact h2 pins s1 σ' H' D I' q
 |ret v=>exact q
 |brk=>exact q
 |cont=>exact q
theorem FL(h1:PS X st t):j7 X [st] t:=by
 intro pins s σ H D I h;refine wpAny_execs_cons (eF (h1 pins s σ H D I h) fun f s1 q=>?_);cases f with
 |next=>exact Ob q
 |ret v=>exact q
 |brk=>exact q
 |cont=>exact q
theorem aV.quiet{pins:List (Addr×Obj)}{σ:St}{H:Hp}{s:Shared}(I:aV X pins σ H s):interactive X.env=false:=by simp[interactive,I.ok.kind]
def Lg(te:TE):TS:=fun D σ H=>te σ H fun _ H1=>D.nx σ H1
theorem FO(he:PE X e te)(hs:swapsWith e none pos.line X.env=pure false:=by rfl):PS X (.Expr e pos) (Lg te):=by
 intro pins s σ H D I h;exact wpAny_Expr_any (eF (he pins s σ H _ I h) fun v s1 ⟨x,H1,I1,r1,q1⟩=>⟨σ,H1,I1,q1⟩) I.quiet hs
def My(te:TE):TS:=fun D σ H=>te σ H D.rt
theorem IZ(he:PE X e te):PS X (.Return (some e) pos) (My te):=by
 intro pins s σ H D I h;exact wpAny_Return_some (eF (he pins s σ H _ I h) fun v s1 ⟨x,H1,I1,r1,q1⟩=>⟨x,σ,H1,I1,r1,q1⟩)
def MF(c:TT)(t u:TS):TS:=fun D σ H=>c σ H fun b H1=>if b=true then t D σ H1 else u D σ H1
theorem Lx{c:Expr}{a b:List Stmt}{tc:TT}(hc:PT X c tc)(ha:j7 X a t)(hb:j7 X b u):PS X (.If c a b pos) (MF tc t u):=by
 intro pins s σ H D I h;refine wpAny_If (eF (hc pins s σ H _ I h) fun d s1 ⟨H1,I1,q1⟩=>?_);cases d with
 |true=>exact ha pins s1 σ H1 D I1 q1
 |false=>exact hb pins s1 σ H1 D I1 q1
def Ih:TS:=fun _ _ _=>False
theorem DB:PS X st Ih:=fun _ _ _ _ _ _ h=>h.elim
end
abbrev TG:=V->St->Hp->(St->Hp->Prop)->Prop
abbrev EB:=List V->St->Hp->(St->Hp->Prop)->Prop
def PG(X:Cx)(target:Expr)(t:TG):Prop:=
 ∀(pins:List (Addr×Obj))(s:Shared)(σ:St)(H:Hp)(v:V)(u:Value)(Q:St->Hp->Prop),aV X pins σ H s->bV v u->t v σ H Q ->
  wpAny (model X.prog X.w) X.A (assign target X.env u) (fun _ s'=>∃σ' H',aV X pins σ' H' s'/\Q σ' H') X.xe s
def xN(X:Cx)(ts:List Expr)(t:EB):Prop:=
 ∀(pins:List (Addr×Obj))(s:Shared)(σ:St)(H:Hp)(vs:List V)(us:List Value)(Q:St->Hp->Prop),aV X pins σ H s->ba vs us->t vs σ H Q ->
  wpAny (model X.prog X.w) X.A (assignInOrder ((assignEach ts X.env).map (·.2)) us) (fun _ s'=>∃σ' H',aV X pins σ' H' s'/\Q σ' H') X.xe s
abbrev HM:=V->V->V->Hp->(Hp->Prop)->Prop
def K3(X:Cx)(t:HM):Prop:=
 ∀(pins:List (Addr×Obj))(s:Shared)(σ:St)(H:Hp)(o i v:V)(ov iv u:Value)(Q:Hp->Prop),aV X pins σ H s->bV o ov->bV i iv->bV v u->t o i v H Q ->
  wpAny (model X.prog X.w) X.A (setItem ov iv u) (fun _ s'=>∃H',aV X pins σ H' s'/\Q H') X.xe s
section
variable{X:Cx}{pos:Pos}
def vW(i:Nat):TG:=fun v σ H Q=>Q (σ.set i (some v)) H
theorem FV{i:Nat}{x:Str}(hN:X.N.Nodup)(hi:X.N[i]?=some x)(hx:Ex X.env.scope x)(hf:X.fn x=true\/X.env.scope.names.lookup x=some .local:=by first|exact .inl rfl|exact .inr rfl|assumption):PG X (.Name x pos) (vW i):=by
 intro pins s σ H v u Q I r h;exact wpAny_assign_Name (qX I hN hi hx r (fun s' I'=>⟨_,H,I',h⟩) hf)
def MX:EB:=fun vs σ H Q=>vs=[]/\Q σ H
def LQ(t:TG)(u:EB):EB:=fun vs σ H Q=>∃v r,vs=v::r/\t v σ H fun σ' H'=>u r σ' H' Q
theorem FU:xN X [] MX:=by
 intro pins s σ H vs us Q I r h;obtain⟨e,h⟩:=h;subst e;cases r;exact assignInOrder_nil ⟨σ,H,I,h⟩
theorem DE{e:Expr}{es:List Expr}{t:TG}{u:EB}(h1:PG X e t)(h2:xN X es u)
  (hs:(assignEach (e::es) X.env).map (·.2)=assign e X.env::(assignEach es X.env).map (·.2):=by rfl):xN X (e::es) (LQ t u):=by
 intro pins s σ H vs us Q I r h;obtain⟨v,vr,e1,h⟩:=h;subst e1;cases r with
 |cons r rr=>
  rw[hs];refine assignInOrder_cons (eF (h1 pins s σ H _ _ _ I r h) fun _ s1 ⟨σ1,H1,I1,q1⟩=>?_);exact h2 pins s1 σ1 H1 _ _ Q I1 rr q1
def MV(K:W.Frag)(n:Nat)(t:EB):TG:=fun v σ H Q=>∃a xs,v=.ref a/\fS K H a xs/\xs.length=n/\t xs σ H Q
theorem Jc{es:List Expr}{k:Nat}{t:EB}{n:Nat}(hc:X.calm=true)(h:xN X es t)
  (hn:(assignEach es X.env).length=n:=by rfl) (hst:(assignEach es X.env).findIdx? (·.1)=none:=by rfl):PG X (.Tuple es k pos) (MV X.K n t):=by
 intro pins s σ H v u Q I r hw;obtain⟨a,xs,e1,hq,hl,hw⟩:=hw;subst e1;cases r;obtain⟨its,rv,ht,hz⟩:=I.tuple hq;refine assign_Tuple_tuple (I.ok.hd hc) ht (by simp[hn,<- hl,rv.length]) hst fun h' hx=>?_;have I1:aV X pins σ H {s with heap:=h'}:=I.kept (t':=s.toks) fun b o e=>hx b o (NR (NO e)) e;exact h pins _ σ H xs _ Q I1 (by simpa using rv) hw
def MW(to ti:TE)(t:HM):TG:=fun v σ H Q=>to σ H fun o H1=>ti σ H1 fun i H2=>t o i v H2 fun H3=>Q σ H3
theorem Jd{o i:Expr}{to ti:TE}{t:HM}(ho:PE X o to)(hi:PE X i ti)(hs:K3 X t)
  (ha : ∀ v, assign (.Subscript o i pos) X.env v = (do
   let ov <- holding [v] (eval o X.env)
   let iv <- holding [v,ov] (eval i X.env)
   standAt pos
   holding [v,ov,iv] (setItem ov iv v)
   release [v,ov,iv] []):=by intro _;rfl):PG X (.Subscript o i pos) (MW to ti t):=by
 intro pins s σ H v u Q I r h;rw[ha];refine Oc (Od (eF (ho pins s σ H _ I h) fun ov s1 ⟨x,H1,I1,r1,q1⟩=>?_));refine Oc (Od (eF (hi pins s1 σ H1 _ I1 q1) fun iv s2 ⟨y,H2,I2,r2,q2⟩=>?_));refine Oc (Oe (Oc (Od (eF (hs pins s2 σ H2 x y v ov iv u _ I2 r1 r2 r q2) fun _ s3 ⟨H3,I3,q3⟩=>?_))));exact wpAny_release ⟨σ,H3,I3,q3⟩
def BF(te:TE)(g:TG):TS:=fun D σ H=>te σ H fun x H1=>g x σ H1 D.nx
theorem Ja{tg e:Expr}{te:TE}{g:TG}(he:PE X e te)(hg:PG X tg g)(hs:swapsWithSole [tg] e pos.line X.env=pure false:=by rfl)(hw:swappedStores [tg] e X.env=pure none:=by rfl)
  (h1:(assignEach [tg] X.env).map (·.2)=[assign tg X.env]:=by rfl):PS X (.Assign [tg] e pos) (BF te g):=by
 intro pins s σ H D I h;refine wpAny_Assign_stores (eF (he pins s σ H _ I h) fun v s1 ⟨x,H1,I1,r1,q1⟩=>?_) hs hw;rw[h1];exact eF (hg pins s1 σ H1 x v _ I1 r1 q1) fun _ s2 q=>q
theorem IY{i:Nat}{x:Str}{e:Expr}{te:TE}{pos':Pos}(hN:X.N.Nodup)(hi:X.N[i]?=some x)(hx:Ex X.env.scope x)(he:PE X e te)(hs:swapsWith e (some (.Name x pos')) pos.line X.env=pure false:=by rfl)(hf:X.fn x=true\/X.env.scope.names.lookup x=some .local:=by first|exact .inl rfl|exact .inr rfl|assumption) :
  PS X (.Assign [.Name x pos'] e pos) (BF te (vW i)):=by
 intro pins s σ H D I h;refine wpAny_Assign_Name (eF (he pins s σ H _ I h) fun v s1 ⟨y,H1,I1,r1,q1⟩=>?_) hs;exact qX I1 hN hi hx r1 (fun s2 I2=>⟨_,H1,I2,q1⟩) hf
end
section
variable{X:Cx}{pos:Pos}
end
structure It where
 go:Nat->Hp->Prop
 yld:Nat->Hp->V->Hp->Prop
 stop:Nat->Hp->Prop
def nv(X:Cx)(pins:List (Addr×Obj))(H:Hp)(b:Addr):Prop:=
 H b=none/\b≠X.env.locals/\b∉X.fs/\(b∈X.ex\/X.s₀.heap.objs.size<=b)/\(∀x c,X.env.cells.lookup x=some c->c≠b)/\∀p∈X.pn++pins,p.1≠b
theorem aV.fpOk{X:Cx}{pins:List (Addr×Obj)}{σ:St}{H H':Hp}{s:Shared}{b:Addr}(I:aV X pins σ H s)(hb:s.heap.objs.size<=b)(hn:H' b=none):nv X pins H' b:=by
 refine⟨hn,Of (NP I.lt hb),I.nofs hb,.inr (NU I.sz hb),fun x c e z=>?_,fun p hp z=>?_⟩
 ·obtain⟨v,q⟩:=I.cell x c e;exact absurd (NP q.lt (by rw[z];exact hb)) (NQ _)
 ·exact absurd (NP (NO (I.pin p hp).1) (by rw[z];exact hb)) (NQ _)
structure Am(P:Program)(w:World)(K:W.Frag)(tg:Expr)(J:It)(fp:List Addr)(it:Addr)(tn:Nat->Heap->Prop):Prop where
 mem:it∈fp
 obj:∀i h,tn i h->∀b∈fp,∃o,h.get? b=some o/\∀v,o.data≠.cell v
 keep:∀i h h',tn i h->(∀b∈fp,∀o,h.get? b=some o->h'.get? b=some o)->tn i h'
 item:∀(X:Cx),X.prog=P->X.w=w->X.K=K->X.calm=true->∀(i:Nat)(pins:List (Addr×Obj))(s:Shared)(σ:St)(H:Hp)(E:Value->Shared->Prop),aV X pins σ H s->(∀b∈fp,nv X pins H b)->tn i s.heap->J.go i H ->
  wpAny (model P w) X.A (pyNext (.ref it)) (fun r s1=>∃u,r=some u /\
   wpAny (model P w) X.A (letOwnedTupleGo tg (.ref it) u) (fun _ s2=>∃x H',aV X pins σ H' s2/\bV x u/\J.yld i H x H'/\tn (i+1) s2.heap/\∀b∈fp,H' b=none) E s1) E s
 done:∀(X:Cx),X.prog=P->X.w=w->X.K=K->X.calm=true->∀(i:Nat)(pins:List (Addr×Obj))(s:Shared)(σ:St)(H:Hp)(E:Value->Shared->Prop),aV X pins σ H s->(∀b∈fp,nv X pins H b)->tn i s.heap->J.stop i H ->
  wpAny (model P w) X.A (pyNext (.ref it)) (fun r s1=>r=none/\aV X pins σ H s1) E s
 self:∀(A:Around)(i:Nat)(s:Shared)(Q:Value->Shared->Prop)(E:Value->Shared->Prop),tn i s.heap->Q (.ref it) s->wpAny (model P w) A (pyIter (.ref it)) Q E s
abbrev TI:=St->Hp->(It->Hp->Prop)->Prop
def Mq(X:Cx)(pins:List (Addr×Obj))(σ:St)(tg:Expr)(R:It->Hp->Prop)(itv:Value)(s2:Shared):Prop:=
 ∃(it:Addr)(fp:List Addr)(tn:Nat->Heap->Prop)(J:It)(H':Hp),itv=.ref it/\aV X pins σ H' s2/\Am X.prog X.w X.K tg J fp it tn/\tn 0 s2.heap/\(∀b∈fp,nv X pins H' b)/\R J H'
def PI(X:Cx)(tg iter:Expr)(wi:TI):Prop:=
 ∀(pins:List (Addr×Obj))(s:Shared)(σ:St)(H:Hp)(R:It->Hp->Prop),aV X pins σ H s->wi σ H R ->
  wpAny (model X.prog X.w) X.A (eval iter X.env) (fun v s1=>wpAny (model X.prog X.w) X.A (pyIter v) (Mq X pins σ tg R) X.xe s1) X.xe s
theorem B6{M:Model}{A:Around}{E:Value->Shared->Prop}{s:Shared}{tg:Expr}{it:Addr}{u:Value}{o:Obj}{n:String}{vs:Array Value}{Q:Unit->Shared->Prop}(ho:s.heap.get? it=some o)(hc:o.cls=.type n)(hd:o.data=.fields vs)
  (hn:["enumerate", "zip", "dict_itemiterator", "dict_reverseitemiterator", "odict_iterator", "itertools.zip_longest", "itertools.pairwise"].contains n=false) (hQ:Q () s):wpAny M A (letOwnedTupleGo tg (.ref it) u) Q E s:=by
 unfold letOwnedTupleGo
 cases tg <;> first
  |exact Og hQ
  |(cases u <;> first
    |exact Og hQ
    | (refine Oc (Oh ho ?_)
       rw[hc,hd];show wpAny M A (if (["enumerate", "zip", "dict_itemiterator", "dict_reverseitemiterator", "odict_iterator", "itertools.zip_longest", "itertools.pairwise"].contains n&&vs[0]? == some (rawInt _))=true then _ else _) Q E s;rw[NM (by intro h;rw[hn,Oi]at h;cases h)]
       exact Og hQ))
def Mh(K:W.Frag)(a:Addr):It:=
 ⟨fun i H=>∃xs x,fT K H a xs/\xs[i]?=some x,fun i H x H'=>H'=H/\∀xs,fT K H a xs->xs[i]?=some x,fun i H=>∃xs,fT K H a xs/\xs.length<=i⟩
def Ms(K:W.Frag)(a:Addr):It:=
 ⟨fun i H=>∃xs x,fS K H a xs/\xs[i]?=some x,fun i H x H'=>H'=H/\∀xs,fS K H a xs->xs[i]?=some x,fun i H=>∃xs,fS K H a xs/\xs.length<=i⟩
def Ko(lo:Int)(n:Nat):It:=⟨fun i _=>i<n,fun i H x H'=>H'=H/\x=.int (lo+i),fun i _=>n<=i⟩
theorem Ar{P:Program}{w:World}{K:W.Frag}{tg:Expr}(a it:Addr):Am P w K tg (Mh K a) [it] it (fun i h=>h.IsListIter it a i) where
 mem:=by simp
 obj:=fun i h st b hb=>by
  have e:b=it:=by simpa using hb
  subst e;obtain⟨o,e,c,d⟩:=st;exact⟨o,e,fun v z=>by rw[d]at z;cases z⟩
 keep:=fun i h h' st k=>st.at fun o e=>k it (by simp) o e
 item:=by
  intro X hP hw hK hc i pins s σ H E I hf st hg;subst hP hw hK;obtain⟨xs,x,hq,hx⟩:=hg;obtain⟨its,rv,p,hz⟩:=I.list hq;obtain⟨u,hu,ru⟩:=rv.get hx;obtain⟨f0,f1,f2,f3,f4,f5⟩:=hf it (by simp);refine wpAny_pyNext_list_item st p.isList (x:=u) (by simpa using hu) fun h' st' sb=>?_;have I1:aV X pins σ H {s with heap:=h'}:=I.turned (t':=s.toks) (fun b o hb e=>(sb.2 b hb).trans e) f0 f1 f3 f4 f5;obtain⟨o,e,c,d⟩:=id st';exact⟨u,rfl,B6 (s:={s with heap:=h'}) e c d (by decide) ⟨x,H,I1,ru,⟨rfl,fun ys hy=>by rw[I.list_inj hy hq];exact hx⟩,st',fun b hb=>(hf b hb).1⟩⟩
 done:=by
  intro X hP hw hK hc i pins s σ H E I hf st hg;subst hP hw hK;obtain⟨xs,hq,hx⟩:=hg;obtain⟨its,rv,p,hz⟩:=I.list hq;obtain⟨f0,f1,f2,f3,f4,f5⟩:=hf it (by simp);have hl:=rv.length;exact wpAny_pyNext_list_end (I.ok.hd hc) st p.isList (by simp;omega) fun h' eb=>⟨rfl,I.turned (t':=s.toks) (fun b o hb e=>eb b o hb e) f0 f1 f3 f4 f5⟩
 self:=fun _ _ _ _ _ st h=>wpAny_pyIter_listiter st h
theorem ym{P:Program}{w:World}{K:W.Frag}{tg:Expr}(a it:Addr):Am P w K tg (Ms K a) [it] it (fun i h=>h.IsTupleIter it a i) where
 mem:=by simp
 obj:=fun i h st b hb=>by
  have e:b=it:=by simpa using hb
  subst e;obtain⟨o,e,c,d⟩:=st;exact⟨o,e,fun v z=>by rw[d]at z;cases z⟩
 keep:=fun i h h' st k=>st.at fun o e=>k it (by simp) o e
 item:=by
  intro X hP hw hK hc i pins s σ H E I hf st hg;subst hP hw hK;obtain⟨xs,x,hq,hx⟩:=hg;obtain⟨its,rv,p,hz⟩:=I.tuple hq;obtain⟨u,hu,ru⟩:=rv.get hx;obtain⟨f0,f1,f2,f3,f4,f5⟩:=hf it (by simp);refine wpAny_pyNext_tuple_item st (show s.heap.IsTuple a its.toArray from p) (x:=u) (by simpa using hu) fun h' st' sb=>?_;have I1:aV X pins σ H {s with heap:=h'}:=I.turned (t':=s.toks) (fun b o hb e=>(sb.2 b hb).trans e) f0 f1 f3 f4 f5;obtain⟨o,e,c,d⟩:=id st';exact⟨u,rfl,B6 (s:={s with heap:=h'}) e c d (by decide) ⟨x,H,I1,ru,⟨rfl,fun ys hy=>by rw[I.tuple_inj hy hq];exact hx⟩,st',fun b hb=>(hf b hb).1⟩⟩
 done:=by
  intro X hP hw hK hc i pins s σ H E I hf st hg;subst hP hw hK;obtain⟨xs,hq,hx⟩:=hg;obtain⟨its,rv,p,hz⟩:=I.tuple hq;obtain⟨f0,f1,f2,f3,f4,f5⟩:=hf it (by simp);have hl:=rv.length;exact wpAny_pyNext_tuple_end (I.ok.hd hc) st (show s.heap.IsTuple a its.toArray from p) (by simp;omega) fun h' eb=>⟨rfl,I.turned (t':=s.toks) (fun b o hb e=>eb b o hb e) f0 f1 f3 f4 f5⟩
 self:=fun _ _ _ _ _ st h=>wpAny_pyIter_tupleiter st h
theorem yn{P:Program}{w:World}{K:W.Frag}{tg:Expr}(it:Addr)(lo:Int)(n:Nat):Am P w K tg (Ko lo n) [it] it (fun i h=>IsRangeIter h it (lo+(i:Nat)*1) ((n:Int)-(i:Nat)) 1) where
 mem:=by simp
 obj:=fun i h st b hb=>by
  have e:b=it:=by simpa using hb
  subst e
  exact⟨_,st,fun v z=>by
   have z':Data.fields _=Data.cell v:=z
   cases z'⟩
 keep:=fun i h h' st k=>k it (by simp) _ st
 item:=by
  intro X hP hw hK hc i pins s σ H E I hf st hg;subst hP hw hK;obtain⟨f0,f1,f2,f3,f4,f5⟩:=hf it (by simp);have W:=Walks.range (prog:=X.prog) (w:=X.w) (I.ok.hd hc) it lo 1 n;refine W.item i s _ _ hg st fun v h' tk hv st' kk=>?_;obtain⟨t,rfl⟩:=hv;have I1:aV X pins σ H {s with heap:=h',toks:=tk}:=I.turned (fun b o hb e=>kk b o (by simpa using hb) e) f0 f1 f3 f4 f5;refine⟨_,rfl,B6 (s:={s with heap:=h',toks:=tk}) (n:="range_iterator") st' rfl rfl (by decide) ⟨.int (lo+i),H,I1,⟨t,?_⟩,⟨rfl,rfl⟩,st',fun b hb=>(hf b hb).1⟩⟩;rw[Int.mul_one]
 done:=by
  intro X hP hw hK hc i pins s σ H E I hf st hg;subst hP hw hK;obtain⟨f0,f1,f2,f3,f4,f5⟩:=hf it (by simp);exact wpAny_pyNext_range_end (I.ok.hd hc) st (by have:n<=i:=hg;omega) fun h' eb=>⟨rfl,I.turned (t':=s.toks) (fun b o hb e=>eb b o hb e) f0 f1 f3 f4 f5⟩
 self:=fun _ _ _ _ _ st h=>wpAny_pyIter_rangeiter st h
end L2
namespace L2
open PySem PySem.Spec PyProof.Rows
section
variable{X:Cx}{tg:Expr}
theorem wC{pins:List (Addr×Obj)}{σ:St}{H:Hp}{s:Shared}{R:It->Hp->Prop}{E:Value->Shared->Prop}{lo hi:Int}{t u v:Tok}{tk:Nat}(I:aV X pins σ H s)(h1:-(2^62)<=lo)(h2:lo<2^62)(h3:-(2^62)<=hi)(h4:hi<2^62)
  (q:R (Ko lo (hi-lo).toNat) H):wpAny (model X.prog X.w) X.A (pyIter (.ref s.heap.objs.size)) (Mq X pins σ tg R) E {s with heap:=s.heap.push {cls:=.type "range",data:=.fields #[.int lo t,.int hi u,.int 1 v]},toks:=tk}:=by
 refine wpAny_pyIter_range (IsRange.new ..) (small_one h1 h2 h3 h4) ?_;have I1:aV X pins σ H {s with heap:=s.heap.push {cls:=.type "range",data:=.fields #[.int lo t,.int hi u,.int 1 v]},toks:=tk}:=I.kept fun b o e=>Oj _ e
 refine⟨(s.heap.push {cls:=.type "range",data:=.fields #[.int lo t,.int hi u,.int 1 v]}).objs.size,[(s.heap.push {cls:=.type "range",data:=.fields #[.int lo t,.int hi u,.int 1 v]}).objs.size],_,_,H,rfl,
  I1.kept (t':=tk) fun b o e=>Oj _ e,yn _ lo (hi-lo).toNat,?_,fun b hb=>?_,q⟩
 ·have e1 : lo + ((0 : Nat) : Int) * 1 = lo := by simp
  have e2:(((hi-lo).toNat:Nat):Int)-((0:Nat):Int)=Builtin.Range.rangeSize lo hi 1:=by rw[rangeSize_one];split <;> omega
  show IsRangeIter _ _ (lo+((0:Nat):Int)*1) ((((hi-lo).toNat:Nat):Int)-((0:Nat):Int)) 1;rw[e1,e2];exact Ol _ rfl
 ·have e : b = (s.heap.push { cls := .type "range", data := .fields #[.int lo t, .int hi u, .int 1 v] }).objs.size := by simpa using hb
  subst e;exact I1.fpOk (Om _) (I1.hok.fresh (Om _))
def LO(ta:TA):TI:=fun σ H R=>ta σ H fun vs H1=>∃j:Int,vs=[.int j]/\-(2^62)<=j/\j<2^62/\R (Ko 0 j.toNat) H1
def LN(ta:TA):TI:=fun σ H R=>ta σ H fun vs H1=>∃i j:Int,vs=[.int i,.int j]/\(-(2^62)<=i/\i<2^62/\-(2^62)<=j/\j<2^62)/\R (Ko i (j-i).toNat) H1
theorem AM {a:Expr}{ta:TA}{p pos:Pos} (hg:Gl X "range") (hm:X.mg "range" = none) (ha:PA X [a] ta) (hs:starEach [a] X.env=[(false,eval a X.env)]:=by rfl):PI X tg (.Call (.Name "range" p) [a] [] pos) (LO ta):=by
 intro pins s σ H R I h;refine Call_ (oC I hg hm boot_range (On (eF (ha pos pins s σ H _ I h) fun us s1 ⟨vs,H1,I1,r1,q1⟩=>?_) hs rfl));obtain⟨j,e,q1,q2,q⟩:=q1;subst e;cases r1 with
 |cons r rr=>
  cases rr;obtain⟨t,rfl⟩:=r;exact call_range_1 (wC I1 (by omega) (by omega) q1 q2 (by simpa using q))
theorem AL {a b:Expr}{ta:TA}{p pos:Pos} (hg:Gl X "range") (hm:X.mg "range" = none) (ha:PA X [a,b] ta) (hs:starEach [a,b] X.env=[(false,eval a X.env),(false,eval b X.env)]:=by rfl) (hs2:starEach [b] X.env=[(false,eval b X.env)]:=by rfl) :
  PI X tg (.Call (.Name "range" p) [a,b] [] pos) (LN ta):=by
 intro pins s σ H R I h;refine Call_ (oC I hg hm boot_range (On (eF (ha pos pins s σ H _ I h) fun us s1 ⟨vs,H1,I1,r1,q1⟩=>?_) (by rw[hs,hs2]) (by rw[hs2];rfl)));obtain⟨i,j,e,⟨q1,q2,q3,q4⟩,q⟩:=q1;subst e;cases r1 with
 |cons r rr=>
  cases rr with
  |cons r' rr=>
   cases rr;obtain⟨t,rfl⟩:=r;obtain⟨t',rfl⟩:=r';exact call_range_2 (wC I1 q1 q2 q3 q4 q)
def MH(wi:TI)(g:TG)(tb:TS):TS:=fun D σ H=>wi σ H fun J H1=>∃W:Nat->Nat->St->Hp->Prop,(∃m,W 0 m σ H1)/\∀i m σ H,W i m σ H ->
 (J.stop i H/\D.nx σ H)\/(J.go i H/\∃N:St->Hp->Prop,(∀σ' H',N σ' H'->∃m',m'<m/\W (i+1) m' σ' H')/\∀x H',J.yld i H x H'->g x σ H' fun σ2 H2=>tb {D with nx:=N,ct:=N,bk:=D.nx} σ2 H2)
def qQ(fp:List Addr)(h:Heap):List (Addr×Obj):=fp.filterMap fun b=>(h.get? b).map fun o=>(b,o)
theorem ku{fp:List Addr}{h:Heap}{b:Addr}{o:Obj}(hb:b∈fp)(e:h.get? b=some o):(b,o)∈qQ fp h:=Oo.mpr ⟨b,hb,by rw[e];rfl⟩
theorem AX{fp:List Addr}{h:Heap}{p:Addr×Obj}(hp:p∈qQ fp h):p.1∈fp/\h.get? p.1=some p.2:=by
 obtain⟨b,hb,e⟩:=Oo.mp hp;cases q:h.get? b with
 |none=>rw[q]at e;cases e
 |some o=>
  rw[q]at e;have e':(b,o)=p:=NN e;subst e';exact⟨hb,q⟩
theorem aV.pinned{pins:List (Addr×Obj)}{σ:St}{H:Hp}{s:Shared}{fp:List Addr}(I:aV X pins σ H s)(hf:∀b∈fp,nv X pins H b)(ho:∀b∈fp,∃o,s.heap.get? b=some o/\∀v,o.data≠.cell v):aV X (pins++qQ fp s.heap) σ H s:=
 I.pins_of fun p hp=>(N1.mp hp).elim (fun z=>I.pin p (Oq _ z)) fun z=>by
  obtain⟨hb,e⟩:=AX z;obtain⟨f0,f1,f2,_⟩:=hf p.1 hb;obtain⟨o,e',d⟩:=ho p.1 hb;rw[e]at e';cases e';exact⟨e,f0,f1,f2,d⟩
theorem aV.unpinned{pins pl:List (Addr×Obj)}{σ:St}{H:Hp}{s:Shared}(I:aV X (pins++pl) σ H s):aV X pins σ H s:=I.pins_of fun p hp=>I.pin p (Oq _ (N2 _ hp))
theorem I0{iter:Expr}{body:List Stmt}{wi:TI}{g:TG}{tb:TS}{pos:Pos}(hp:PassesOwn (model X.prog X.w) X.A X.env X.xe)(hc:X.calm=true)(hi:PI X tg iter wi)(hg:PG X tg g)(hb:j7 X body tb)
  (hs:∀x,foldedSetIterable iter X.env x=pure x:=by intro _;rfl):PS X (.For tg iter body [] pos) (MH wi g tb):=by
 intro pins s σ H D I h;refine wpAny_For (eF (hi pins s σ H _ I h) fun v s1 h1=>eF h1 fun itv s2 h2=>?_) hs;obtain⟨it,fp,tn,J,H2,e,I2,T,st2,f2,W,⟨m0,w0⟩,turn⟩:=h2;subst e;have stat:∀{H':Hp},(∀b∈fp,H' b=none)->∀b∈fp,nv X pins H' b:=fun hn b hb=>⟨hn b hb,(f2 b hb).2⟩;refine codeAny_forLoop_any (fun n s'=>∃i σ' H',aV X pins σ' H' s'/\tn i s'.heap/\(∀b∈fp,H' b=none)/\W i n σ' H') ?_ m0 ⟨0,σ,H2,I2,st2,fun b hb=>(f2 b hb).1,w0⟩
 rintro n s3 ⟨i,σ3,H3,I3,st3,fr3,w3⟩
 rcases turn i n σ3 H3 w3 with⟨stop,qn⟩|⟨go,N,hN,step⟩
 ·refine Os hp (eF (T.done X rfl rfl rfl hc i pins s3 σ3 H3 X.xe I3 (stat fr3) st3 stop) fun r s4 ⟨hr,I4⟩=>?_);subst hr;exact Ob ⟨σ3,H3,I4,qn⟩
 ·refine Os hp (eF (T.item X rfl rfl rfl hc i pins s3 σ3 H3 X.xe I3 (stat fr3) st3 go) fun r s4 ⟨u, hr, h4⟩ => ?_);subst hr;refine Os hp (eF h4 fun _ s5 ⟨x,H5,I5,r5,y5,st5,fr5⟩=>?_);have I5':=I5.pinned (stat fr5) (T.obj _ _ st5);refine Os hp (eF (hg _ s5 σ3 H5 x u _ I5' r5 (step x H5 y5)) fun _ s6 ⟨σ6,H6,I6,q6⟩=>?_);refine Os hp (eF (hb _ s6 σ6 H6 _ I6 q6) fun f s7 q7=>?_)
  have again:∀{σ7:St}{H7:Hp},aV X (pins++qQ fp s5.heap) σ7 H7 s7->N σ7 H7->∃m,m<n/\∃i σ' H',aV X pins σ' H' s7/\tn i s7.heap/\(∀b∈fp,H' b=none)/\W i m σ' H':=fun {σ7 H7} I7 n7=>by
   obtain⟨m',hm,w7⟩:=hN σ7 H7 n7;refine⟨m',hm,i+1,σ7,H7,I7.unpinned,T.keep _ _ _ st5 fun b hb o e=>(I7.pin (b,o) (Oq _ (Oq _ (ku hb e)))).1,fun b hb=>?_,w7⟩;obtain⟨o,e,d⟩:=T.obj _ _ st5 b hb;exact(I7.pin (b,o) (Oq _ (Oq _ (ku hb e)))).2.1
  cases f with
  |next=>obtain⟨σ7,H7,I7,n7⟩:=q7;exact again I7 n7
  |cont=>obtain⟨σ7,H7,I7,n7⟩:=q7;exact again I7 n7
  |brk=>obtain⟨σ7,H7,I7,q7⟩:=q7;exact⟨σ7,H7,I7.unpinned,q7⟩
  |ret v=>obtain⟨x7,σ7,H7,I7,r7,q7⟩:=q7;exact⟨x7,σ7,H7,I7.unpinned,r7,q7⟩
end
end L2
namespace L2
open PySem PySem.Spec PyProof.Rows
abbrev R2:=V->V->Hp->VK->Prop
def j8(X:Cx)(f:Value->Value->Sem Value)(r:R2):Prop:=
 ∀(pins:List (Addr×Obj))(s:Shared)(σ:St)(H:Hp)(x y:V)(v u:Value)(Q:VK),aV X pins σ H s->bV x v->bV y u->r x y H Q ->
  wpAny (model X.prog X.w) X.A (f v u) (EP X pins σ Q) X.xe s
def Mb(X:Cx)(f:Value->Sem Value)(r:V->Hp->VK->Prop):Prop:=
 ∀(pins:List (Addr×Obj))(s:Shared)(σ:St)(H:Hp)(x:V)(v:Value)(Q:VK),aV X pins σ H s->bV x v->r x H Q ->
  wpAny (model X.prog X.w) X.A (f v) (EP X pins σ Q) X.xe s
def cZ(X:Cx)(f:Value)(r:List V->Hp->VK->Prop):Prop:=
 ∀(pins:List (Addr×Obj))(s:Shared)(σ:St)(H:Hp)(xs:List V)(us:List Value)(Q:VK),aV X pins σ H s->ba xs us->r xs H Q ->
  wpAny (model X.prog X.w) X.A (call f us) (EP X pins σ Q) X.xe s
def Nd(X:Cx)(r:V->Hp->(Bool->Hp->Prop)->Prop):Prop:=
 ∀(pins:List (Addr×Obj))(s:Shared)(σ:St)(H:Hp)(x:V)(v:Value)(Q:Bool->Hp->Prop),aV X pins σ H s->bV x v->r x H Q ->
  wpAny (model X.prog X.w) X.A (truthy v) (TP X pins σ Q) X.xe s
def Ks(r:R2)(ta tb:TE):TE:=fun σ H Q=>ta σ H fun x H1=>tb σ H1 fun y H2=>r x y H2 Q
def Nu(r:V->Hp->VK->Prop)(ta:TE):TE:=fun σ H Q=>ta σ H fun x H1=>r x H1 Q
def rI(C:Int->Int->Prop)(g:Int->Int->V):R2:=fun x y H Q=>∃i j,x=.int i/\y=.int j/\C i j/\Q (g i j) H
def Kt(g:Int->Int->V):R2:=fun x y H Q=>∃i j,x=.int i/\y=.int j/\Q (g i j) H
def rU(g:Int->V):V->Hp->VK->Prop:=fun x H Q=>∃i,x=.int i/\Q (g i) H
section
variable{X:Cx}{a b c:Expr}{ta tb tc:TE}{pos:Pos}
theorem HH(ha:PE X a ta)(hb:PE X b tb){pins:List (Addr×Obj)}{s:Shared}{σ:St}{H:Hp}{R:V->V->Hp->Prop}(I:aV X pins σ H s)
  (h:ta σ H fun x H1=>tb σ H1 fun y H2=>R x y H2) {Q:Value->Shared->Prop}{f:Value->Value->Sem Value}
  (hf:∀v u s2 x y H2,aV X pins σ H2 s2->bV x v->bV y u->R x y H2->wpAny (model X.prog X.w) X.A (f v u) Q X.xe s2) :
  wpAny (model X.prog X.w) X.A (eval a X.env) (fun v s₁=>wpAny (model X.prog X.w) X.A (eval b X.env) (fun u s₂=>wpAny (model X.prog X.w) X.A (f v u) Q X.xe s₂) X.xe s₁) X.xe s:=by
 refine eF (ha pins s σ H _ I h) fun v s1 ⟨x,H1,I1,r1,q1⟩=>?_;refine eF (hb pins s1 σ H1 _ I1 q1) fun u s2 ⟨y,H2,I2,r2,q2⟩=>?_;exact hf v u s2 x y H2 I2 r1 r2 q2
theorem LA{op:Operator}{r:R2}(ho:j8 X (binaryOp op) r)(ha:PE X a ta)(hb:PE X b tb):PE X (.BinOp a op b pos) (Ks r ta tb):=by
 intro pins s σ H Q I h;exact wpAny_BinOp (HH ha hb I h fun v u s2 x y H2 I2 rx ry q=>ho pins s2 σ H2 x y v u Q I2 rx ry q)
theorem Lz{op:UnaryOp}{r:V->Hp->VK->Prop}(ho:Mb X (unaryOp op) r)(ha:PE X a ta):PE X (.UnaryOp op a pos) (Nu r ta):=by
 intro pins s σ H Q I h;exact UnaryOp_ (eF (ha pins s σ H _ I h) fun v s1 ⟨x,H1,I1,r1,q1⟩=>ho pins s1 σ H1 x v Q I1 r1 q1)
theorem L7{f:Value->Value->Sem Value}{C:Int->Int->Prop}{g:Int->Int->Int}
  (rule:∀(i j:Int)(t u:Tok)(s:Shared)(Q:Value->Shared->Prop)(E:Value->Shared->Prop),C i j->Q (.int (g i j) s.toks) {s with toks:=s.toks+1}->wpAny (model X.prog X.w) X.A (f (.int i t) (.int j u)) Q E s) :
  j8 X f (rI C fun i j=>.int (g i j)):=by
 intro pins s σ H x y v u Q I rx ry h;obtain⟨i,j,rfl,rfl,hc,q⟩:=h;obtain⟨t,rfl⟩:=rx;obtain⟨t',rfl⟩:=ry;exact rule i j t t' s _ _ hc ⟨.int (g i j),H,I.tok _,⟨_,rfl⟩,q⟩
theorem KQ{f:Value->Value->Sem Value}{g:Int->Int->Int}
  (rule:∀(i j:Int)(t u:Tok)(s:Shared)(Q:Value->Shared->Prop)(E:Value->Shared->Prop),Q (.int (g i j) s.toks) {s with toks:=s.toks+1}->wpAny (model X.prog X.w) X.A (f (.int i t) (.int j u)) Q E s) :
  j8 X f (Kt fun i j=>.int (g i j)):=by
 intro pins s σ H x y v u Q I rx ry h;obtain⟨i,j,rfl,rfl,q⟩:=h;obtain⟨t,rfl⟩:=rx;obtain⟨t',rfl⟩:=ry;exact rule i j t t' s _ _ ⟨.int (g i j),H,I.tok _,⟨_,rfl⟩,q⟩
def EL(i j:Int):Prop:=0<j/\j<1073741824
def BO(i j:Int):Prop:=0<=j/\j<=1000000/\i.natAbs<2^64
def vR(i j:Int):Prop:=(-(2^64)<i/\i<2^64)\/(-(2^64)<j/\j<2^64)
theorem vR.ok{i j:Int}(h:vR i j):IntMulOk i j:=by
 rcases h with⟨h1,h2⟩|⟨h1,h2⟩
 ·exact .of_left (intBits_le_64 h1 h2)
 ·exact .of_right (intBits_le_64 h1 h2)
theorem Jv:j8 X (binaryOp .Add) (Kt fun i j=>.int (i+j)):=KQ fun _ _ _ _ _ _ _ q=>add_int q
theorem Jm:j8 X (binaryOp .Sub) (Kt fun i j=>.int (i-j)):=KQ fun _ _ _ _ _ _ _ q=>sub_int q
theorem Jq:j8 X (binaryOp .Mult) (rI vR fun i j=>.int (i*j)):=L7 fun _ _ _ _ _ _ _ hc q=>mul_int q hc.ok
theorem F3:j8 X (binaryOp .FloorDiv) (rI EL fun i j=>.int (i / j)):=L7 fun i j _ _ _ _ _ hc q=>by
 have h1:(0:Int)<j:=hc.1;have h2:j<1073741824:=hc.2;exact floordiv_int (by omega) (by rw[Int.fdiv_eq_ediv_of_nonneg i (by omega)];exact q) (.inl (PyProof.noPylong_small (by omega)))
theorem Jr:j8 X (binaryOp .Mod) (rI (fun _ j=>0<j) fun i j=>.int (i%j)):=L7 fun i j _ _ _ _ _ hc q=>by
 have h1:(0:Int)<j:=hc;exact mod_int' (by omega) (by rw[Int.fmod_eq_emod_of_nonneg i (by omega)];exact q)
theorem Jo:j8 X (binaryOp .Pow) (rI BO fun i j=>.int (i^j.toNat)):=L7 fun _ _ _ _ _ _ _ hc q=>pow_int_small hc.1 hc.2.1 hc.2.2 q
theorem Nt{f:Value->Sem Value}{g:Int->Int}
  (rule:∀(i:Int)(t:Tok)(s:Shared)(Q:Value->Shared->Prop)(E:Value->Shared->Prop),Q (.int (g i) s.toks) {s with toks:=s.toks+1}->wpAny (model X.prog X.w) X.A (f (.int i t)) Q E s) :
  Mb X f (rU fun i=>.int (g i)):=by
 intro pins s σ H x v Q I rx h;obtain⟨i,rfl,q⟩:=h;obtain⟨t,rfl⟩:=rx;exact rule i t s _ _ ⟨.int (g i),H,I.tok _,⟨_,rfl⟩,q⟩
theorem HW:Mb X (unaryOp .USub) (rU fun i=>.int (-i)):=Nt fun _ _ _ _ _ q=>neg_int q
end
def ML:V->V->Bool
 |.non,.non=>true | .non,.int _=>true | .int _,.non=>true | .non,.bl _=>true | .bl _,.non=>true | .non,.str _=>true | .str _,.non=>true
 |.int _,.int _=>true | .bl _,.bl _=>true | .str _,.str _=>true | .byt _,.byt _=>true
 |.int _,.str _=>true | .str _,.int _=>true | .bl _,.str _=>true | .str _,.bl _=>true
 |_,_=>false
def Mp:R2:=fun x y H Q=>ML x y=true/\Q (.bl (!decide (x=y))) H
theorem GF{i j:Int}:decide (V.int i=V.int j)=(i == j):=by
 rw[Ot];simp
theorem Kf{i j:Bool}:decide (V.bl i=V.bl j)=(i == j):=by
 rw[Ot];simp
theorem GE{i j:Str}:decide (V.str i=V.str j)=(i == j):=by
 rw[Ot];simp
theorem GG{i j:Array UInt8}:decide (V.byt i=V.byt j)=(i.toList == j.toList):=by
 rw[Ot];cases i;cases j;simp
section
variable{X:Cx}{a b c:Expr}{ta tb tc:TE}{pos:Pos}
theorem gf{pins:List (Addr×Obj)}{σ:St}{H:Hp}{s:Shared}{Q:VK}{k k':Bool}(I:aV X pins σ H s)(q:Q (.bl k) H)(e:k=k'):EP X pins σ Q (.bool k') s:=by
 subst e;exact⟨.bl k,H,I,rfl,q⟩
theorem LD:j8 X (compareOp .NotEq) Mp:=by
 intro pins s σ H x y v u Q I rx ry h;obtain⟨hs,q⟩:=h;cases x with
 |non=>
  cases rx;cases y with
  |non=>cases ry;exact PySem.EqNone.ne_none_none (gf I q (by simp))
  |bl j=>cases ry;exact PySem.EqNone.ne_none_bool (gf I q (by simp))
  |int j=>obtain⟨t',rfl⟩:=ry;exact PySem.EqNone.ne_none_int (gf I q (by simp))
  |str j=>obtain⟨t',rfl⟩:=ry;exact PySem.EqNone.ne_none_str (gf I q (by simp))
  |_=>exact absurd (show false=true from hs) Ou
 |bl i=>
  cases rx;cases y with
  |non=>cases ry;exact PySem.EqNone.ne_bool_none (gf I q (by simp))
  |bl j=>cases ry;exact ne_bool (gf I q (Oa not Kf))
  |str j=>obtain⟨t',rfl⟩:=ry;exact PySem.EqMixed.ne_bool_str (gf I q (by simp))
  |_=>exact absurd (show false=true from hs) Ou
 |int i=>
  obtain⟨t,rfl⟩:=rx;cases y with
  |non=>cases ry;exact PySem.EqNone.ne_int_none (gf I q (by simp))
  |int j=>obtain⟨t',rfl⟩:=ry;exact ne_int (gf I q (Oa not GF))
  |str j=>obtain⟨t',rfl⟩:=ry;exact PySem.EqMixed.ne_int_str (gf I q (by simp))
  |_=>exact absurd (show false=true from hs) Ou
 |str i=>
  obtain⟨t,rfl⟩:=rx;cases y with
  |non=>cases ry;exact PySem.EqNone.ne_str_none (gf I q (by simp))
  |bl j=>cases ry;exact PySem.EqMixed.ne_str_bool (gf I q (by simp))
  |int j=>obtain⟨t',rfl⟩:=ry;exact PySem.EqMixed.ne_str_int (gf I q (by simp))
  |str j=>obtain⟨t',rfl⟩:=ry;exact ne_str (gf I q (Oa not GE))
  |_=>exact absurd (show false=true from hs) Ou
 |byt i=>
  obtain⟨t,rfl⟩:=rx;cases y with
  |byt j=>obtain⟨t',rfl⟩:=ry;exact W.ne_bytes (gf I q (Oa not GG))
  |_=>exact absurd (show false=true from hs) Ou
 |_=>cases y <;> exact absurd (show false=true from hs) Ou
theorem j8.or{f:Value->Value->Sem Value}{r r':R2}(h:j8 X f r)(h':j8 X f r'):j8 X f (fun x y H Q=>r x y H Q\/r' x y H Q):=by
 intro pins s σ H x y v u Q I rx ry q;rcases q with q|q
 ·exact h pins s σ H x y v u Q I rx ry q
 ·exact h' pins s σ H x y v u Q I rx ry q
theorem FZ{op:CmpOp}{r:R2}(ho:j8 X (compareOp op) r)(ha:PE X a ta)(hb:PE X b tb)(hm:behindInMarks op b=false):PE X (.Compare a [op] [b] pos) (Ks r ta tb):=by
 intro pins s σ H Q I h;exact wpAny_Compare1 (HH ha hb I h fun v u s2 x y H2 I2 rx ry q=>ho pins s2 σ H2 x y v u Q I2 rx ry q) hm
def BU(t:TE):TT:=fun σ H Q=>t σ H fun x H'=>∃k,x=.bl k/\Q k H'
theorem FK{op:CmpOp}{r:R2}(ho:j8 X (compareOp op) r)(ha:PE X a ta)(hb:PE X b tb)(hm:behindInMarks op b=false):PT X (.Compare a [op] [b] pos) (BU (Ks r ta tb)):=by
 intro pins s σ H Q I h
 refine wpAny_isTrue_Compare1 (eF (ha pins s σ H _ I h) fun v s1 ⟨x,H1,I1,r1,q1⟩=>eF (hb pins s1 σ H1 _ I1 q1) fun u s2 ⟨y,H2,I2,r2,q2⟩=>
  eF (ho pins s2 σ H2 x y v u _ I2 r1 r2 q2) fun c s3 ⟨z,H3,I3,r3,k,e,q3⟩=>?_) hm
 subst e;cases r3;exact N8 ⟨H3,I3,q3⟩
def xY(r r':R2)(ta tb tc:TE):TE:=fun σ H Q=>ta σ H fun x H1=>tb σ H1 fun y H2=>r x y H2 fun z H3=>∃k,z=.bl k /\
 (if k=true then tc σ H3 fun w' H4=>r' y w' H4 Q else Q (.bl false) H3)
theorem DH{op op':CmpOp}{r r':R2}(ho:j8 X (compareOp op) r)(ho':j8 X (compareOp op') r')(ha:PE X a ta)(hb:PE X b tb)(hc:PE X c tc)
  (hm:lastMarks [op,op'] [b,c]=false:=by with_unfolding_all rfl):PE X (.Compare a [op,op'] [b,c] pos) (xY r r' ta tb tc):=by
 intro pins s σ H Q I h
 refine Compare_chain (eF (ha pins s σ H _ I h) fun v s1 ⟨x,H1,I1,r1,q1⟩=>chain_link (eF (hb pins s1 σ H1 _ I1 q1) fun u s2 ⟨y,H2,I2,r2,q2⟩=>
  eF (ho pins s2 σ H2 x y v u _ I2 r1 r2 q2) fun d s3 ⟨z,H3,I3,r3,k,e,q3⟩=>?_)) hm
 subst e;cases r3;refine N8 ?_;cases k with
 |false=>exact ite_ff ⟨.bl false,H3,I3,rfl,q3⟩
 |true=>exact ite_tt (chain_last (eF (hc pins s3 σ H3 _ I3 q3) fun w' s4 ⟨z',H4,I4,r4,q4⟩=>ho' pins s4 σ H4 y z' u w' Q I4 r2 r4 q4))
theorem Dy{op op':CmpOp}{r r':R2}(ho:j8 X (compareOp op) r)(ho':j8 X (compareOp op') r')(ha:PE X a ta)(hb:PE X b tb)(hc:PE X c tc)
  (hm:lastMarks [op,op'] [b,c]=false:=by with_unfolding_all rfl):PT X (.Compare a [op,op'] [b,c] pos) (BU (xY r r' ta tb tc)):=by
 intro pins s σ H Q I h
 refine isTrue_chain (eF (ha pins s σ H _ I h) fun v s1 ⟨x,H1,I1,r1,q1⟩=>test_link (eF (hb pins s1 σ H1 _ I1 q1) fun u s2 ⟨y,H2,I2,r2,q2⟩=>
  eF (ho pins s2 σ H2 x y v u _ I2 r1 r2 q2) fun d s3 ⟨z,H3,I3,r3,k,e,q3⟩=>?_)) hm
 subst e;cases r3;refine N8 ?_;cases k with
 |false=>
  obtain⟨k',e',q'⟩:=q3;cases e';exact ite_ff ⟨H3,I3,q'⟩
 |true=>
  refine ite_tt (test_last (eF (hc pins s3 σ H3 _ I3 q3) fun w' s4 ⟨z',H4,I4,r4,q4⟩=>eF (ho' pins s4 σ H4 y z' u w' _ I4 r2 r4 q4) fun d' s5 ⟨z2,H5,I5,r5,k2,e2,q5⟩=>?_));subst e2;cases r5;exact N8 ⟨H5,I5,q5⟩
def HL(K:W.Frag)(x:V)(H:Hp)(k:Bool):Prop:=
 match x with
 |.non=>k=false
 |.bl b=>k=b
 |.int i=>k=(i != 0)
 |.str y=>y.length<=sizeLine/\k=((y.length:Int) != 0)
 |.byt y=>y.size<=sizeLine/\k=((y.size:Int) != 0)
 |.ref p=>(∃xs,fT K H p xs/\k=!xs.isEmpty)\/(∃xs,fS K H p xs/\k=!xs.isEmpty)\/∃kvs,H p=some (.dK kvs)/\k=!kvs.isEmpty
 |_=>False
theorem yL{κ:Type}{kvs:List (κ×V)}{vs:List (κ×Value)}(r:KV kvs vs):(!vs.isEmpty)=!kvs.isEmpty:=by
 cases r <;> rfl
theorem rR{xs:List V}{its:List Value}(r:ba xs its):(!its.toArray.isEmpty)=!xs.isEmpty:=by
 cases r <;> simp
theorem oB:(sizeLine:Nat)<2^63:=by rw[Ov];decide
theorem Ib:Nd X (fun x H Q=>∃k,HL X.K x H k/\Q k H):=by
 intro pins s σ H x v Q I rx h;obtain⟨k,e,q⟩:=h;have hl:=oB;have hs:sizeLine=16777216:=Ov;cases x with
 |non=>
  cases rx;have e':k=false:=e;subst e';exact truthy_none ⟨H,I,q⟩
 |bl b=>
  cases rx;have e':k=b:=e;subst e';exact N8 ⟨H,I,q⟩
 |int i=>
  obtain⟨t,rfl⟩:=rx;have e':k=(i != 0):=e;subst e';exact PySem.P.truthy_int ⟨H,I,q⟩
 |str y=>
  obtain⟨t,rfl⟩:=rx;obtain⟨hy,e'⟩:y.length<=sizeLine/\k=((y.length:Int) != 0):=e;subst e';exact PySem.P.truthy_str (by omega) ⟨H,I.tok _,q⟩
 |byt y=>
  obtain⟨t,rfl⟩:=rx;obtain⟨hy,e'⟩:y.size<=sizeLine/\k=((y.size:Int) != 0):=e;subst e';exact W.truthy_bytes (by omega) ⟨H,I.tok _,q⟩
 |ref p=>
  cases rx;have e':(∃xs,fT X.K H p xs/\k=!xs.isEmpty)\/(∃xs,fS X.K H p xs/\k=!xs.isEmpty)\/∃kvs,H p=some (.dK kvs)/\k=!kvs.isEmpty:=e;rcases e' with⟨xs,hx,e'⟩|⟨xs,hx,e'⟩|⟨kvs,hx,e'⟩
  ·subst e';obtain⟨its,r,pl,hz⟩:=I.list hx;have hlen:=r.length;exact wpAny_truthy_list pl.isList (by simp only[Ow];omega) ⟨H,I.tok _,by rw[rR r];exact q⟩
  ·subst e';obtain⟨its,r,pl,hz⟩:=I.tuple hx;have hlen:=r.length;exact truthy_tuple pl (by simp only[Ow];omega) ⟨H,I.tok _,by rw[rR r];exact q⟩
  ·subst e';obtain⟨hz,hS,vs,r,m⟩:kvs.length<=sizeLine/\(p == sysModules)=false/\∃vs,KV kvs vs/\s.heap.DictOf (qk X.prog X.w) p vs:=I.hok p _ hx;have hlen:kvs.length=vs.length:=Paired.length r;exact wpAny_truthy_dict hS m (by omega) ⟨H,I.tok _,by rw[yL r];exact q⟩
 |_=>exact(show False from e).elim
theorem Dx(ha:PE X a ta)(he:∀whole,isTrue a X.env whole=(do let v <- whole;standAt a.pos;holding [v] (truthy v))) :
  PT X a (fun σ H Q=>ta σ H fun x H'=>∃k,HL X.K x H' k/\Q k H'):=by
 intro pins s σ H Q I h;exact isTrue_plain (eF (ha pins s σ H _ I h) fun v s1 ⟨x,H1,I1,r1,q1⟩=>Ib pins s1 σ H1 x v Q I1 r1 q1) (he _)
theorem yD:j8 X (binaryOp .Add) (fun x y H Q=>∃i j,x=.str i/\y=.str j/\i.length+j.length<=sizeLine/\Q (.str (i++j)) H):=by
 intro pins s σ H x y v u Q I rx ry h;obtain⟨i,j,rfl,rfl,hz,q⟩:=h;obtain⟨t,rfl⟩:=rx;obtain⟨t',rfl⟩:=ry;exact add_str (fun t' tk=>⟨.str (i++j),H,I.tok _,⟨_,rfl⟩,q⟩) hz
theorem fD{x:V}{us:List Value}(r:ba [x] us):∃u,us=[u]/\bV x u:=by
 cases r with
 |cons r1 r2=>cases r2;exact⟨_,rfl,r1⟩
theorem BR{x y:V}{us:List Value}(r:ba [x,y] us):∃u w',us=[u,w']/\bV x u/\bV y w':=by
 cases r with
 |cons r1 r2=>
  cases r2 with
  |cons r3 r4=>cases r4;exact⟨_,_,rfl,r1,r3⟩
theorem Bn (hc:X.calm=true):cZ X (.builtin "max") (fun xs H Q=>∃i j,xs=[.int i,.int j]/\Q (.int (if j>i then j else i)) H):=by
 intro pins s σ H xs us Q I r h;obtain⟨i,j,rfl,q⟩:=h;obtain⟨u,w',rfl,⟨t,rfl⟩,⟨t',rfl⟩⟩:=BR r;refine max_two_ints (I.ok.hd hc) fun h' tk k=>⟨_,H,I.kept k,?_,q⟩;by_cases hj:j>i
 ·rw[NL hj,NL hj];exact⟨_,rfl⟩
 ·rw[NM hj,NM hj];exact⟨_,rfl⟩
theorem ue (hc:X.calm=true):cZ X (.builtin "min") (fun xs H Q=>∃i j,xs=[.int i,.int j]/\Q (.int (if j<i then j else i)) H):=by
 intro pins s σ H xs us Q I r h;obtain⟨i,j,rfl,q⟩:=h;obtain⟨u,w',rfl,⟨t,rfl⟩,⟨t',rfl⟩⟩:=BR r;refine min_two_ints (I.ok.hd hc) fun h' tk k=>⟨_,H,I.kept k,?_,q⟩;by_cases hj:j<i
 ·rw[NL hj,NL hj];exact⟨_,rfl⟩
 ·rw[NM hj,NM hj];exact⟨_,rfl⟩
theorem Br:cZ X (.type "int") (fun xs H Q=>(∃i,xs=[.int i]/\Q (.int i) H)\/∃k,xs=[.bl k]/\Q (.int (if k then 1 else 0)) H):=by
 intro pins s σ H xs us Q I r h;rcases h with⟨i,rfl,q⟩|⟨k,rfl,q⟩
 ·obtain⟨u,rfl,t,rfl⟩:=fD r;exact call_int_int ⟨.int i,H,I,⟨_,rfl⟩,q⟩
 ·obtain⟨u,rfl,r1⟩:=fD r;cases r1;exact call_int_bool ⟨.int (if k then 1 else 0),H,I.tok _,⟨_,rfl⟩,q⟩
def HN(K:W.Frag)(x:V)(H:Hp)(n:Nat):Prop:=
 match x with
 |.str y=>y.length<=sizeLine/\n=y.length
 |.byt y=>y.size<=sizeLine/\n=y.size
 |.ref p=>(∃xs,fT K H p xs/\n=xs.length)\/∃xs,fS K H p xs/\n=xs.length
 |_=>False
theorem Ei:cZ X (.builtin "len") (fun xs H Q=>∃x n,xs=[x]/\HN X.K x H n/\Q (.int n) H):=by
 intro pins s σ H xs us Q I r h;obtain⟨x,n,rfl,e,q⟩:=h;obtain⟨u,rfl,rx⟩:=fD r;have hl:=oB;have hs:sizeLine=16777216:=Ov;cases x with
 |str y=>
  obtain⟨t,rfl⟩:=rx;obtain⟨hy,e'⟩:y.length<=sizeLine/\n=y.length:=e;subst e';exact len_str (by omega) ⟨.int _,H,I.tok _,⟨_,rfl⟩,q⟩
 |byt y=>
  obtain⟨t,rfl⟩:=rx;obtain⟨hy,e'⟩:y.size<=sizeLine/\n=y.size:=e;subst e';exact W.len_bytes (by omega) ⟨.int _,H,I.tok _,⟨_,rfl⟩,q⟩
 |ref p=>
  cases rx;have e':(∃xs,fT X.K H p xs/\n=xs.length)\/∃xs,fS X.K H p xs/\n=xs.length:=e;rcases e' with⟨xs,hx,e'⟩|⟨xs,hx,e'⟩
  ·subst e';obtain⟨its,r',pl,hz⟩:=I.list hx;have hlen:=r'.length;exact Calls.call_len_list pl.isList (by simp only[Ow];omega) ⟨.int xs.length,H,I.tok _,⟨_,by simp only[Ow];rw[hlen]⟩,q⟩
  ·subst e';obtain⟨its,r',pl,hz⟩:=I.tuple hx;have hlen:=r'.length;exact len_tuple pl (by simp only[Ow];omega) ⟨.int xs.length,H,I.tok _,⟨_,by simp only[Ow];rw[hlen]⟩,q⟩
 |_=>exact(show False from e).elim
end
end L2
namespace L2
open PySem PySem.Spec PyProof.Rows
structure NC(h:Heap)(x dx C:Addr)(mA:Str->Option Value):Prop where
 obj:h.get? x=some (W.instObj C dx)
 ns:h.Ns1 dx mA
 ne:dx≠x
section
variable{prog:Program}{w:World}{A:Around}{E:Value->Shared->Prop}{s:Shared}{K:W.Frag}{x dx C f:Addr}{mA:Str->Option Value}{name:Str}{v:Value}
end
section
variable{P:Program}{w:World}{H H':Hp}{h h':Heap}{a C dx:Addr}{fs fs':List (Str×V)}
end
structure NA(K:W.Frag)(C:Addr):Prop where
 pg:W.plainGet K C Str.empty=true
 hd:W.hasDictIn K C=true
 po:W.plainOver K C=true
 sa:W.findIn K (.ref C) "__setattr__" = some (some (.builtin "object.__setattr__"))
structure NG(K:W.Frag)(C:Addr)(f:Str)(v:V)(u:Value):Prop where
 at_:W.findIn K (.ref C) f=some (some u)
 rel:bV v u
 get:W.specialIn K u "__get__" = some none
 cp:W.copiedNames.contains f=false
structure ND(K:W.Frag)(C:Addr)(m:Str)(f:Addr):Prop where
 at_:W.findIn K (.ref C) m=some (some (.ref f))
 fn:W.isFn K (.ref f)=true
 kp:W.keepIn K (.ref f)=true
section
variable{X:Cx}{pins:List (Addr×Obj)}{σ:St}{H:Hp}{s:Shared}{a C dx:Addr}{fs:List (Str×V)}{f:Str}{v:V}{A:Around}{E:Value->Shared->Prop}
end
section
variable{X:Cx}{o e value:Expr}{f:Str}{pos pos' tpos:Pos}{ta tv:TE}
end
section
variable{X:Cx}{pins:List (Addr×Obj)}{σ:St}{H:Hp}{s:Shared}{A:Around}{E:Value->Shared->Prop}{Q:Value->Shared->Prop}{c:Value}{b:Bool}
inductive qF(K:W.Frag)(H:Hp):V->Value->Prop where
 |non:qF K H .non (.type "NoneType")
 |bl (x:Bool):qF K H (.bl x) (.type "bool")
 |int (i:Int):qF K H (.int i) (.type "int")
 |str (x:Str):qF K H (.str x) (.type "str")
 |flt (x:UInt64):qF K H (.flt x) (.type "float")
 |lst {a:Addr}{xs:List V} (e:H a=some (.lst xs)):qF K H (.ref a) (.type "list")
 |frz {a:Addr}{o:Obj}{xs:List V} (e:H a=some (.frz o (.lst xs))):qF K H (.ref a) (.type "list")
 |tup {a:Addr}{xs:List V} (e:H a=some (.tup xs)):qF K H (.ref a) (.type "tuple")
 |dK {a:Addr}{kvs:List (sH×V)} (e:H a=some (.dK kvs)):qF K H (.ref a) (.type "dict")
 |dT {a:Addr}{kvs:List (List sH×V)} (e:H a=some (.dT kvs)):qF K H (.ref a) (.type "dict")
 |ins {a C dx:Addr}{fs:List (Str×V)} (e:H a=some (.ins C dx fs)) (cl:NA K C) (ha:W.findIn K (.ref C) "__class__" = some (some (.builtin "object.__class__")))
   (hn:W.specialIn K (.builtin "object.__class__") "__get__" = some (some (.builtin "getset_descriptor.__get__"))) (htk:W.takesIn K (.builtin "object.__class__")=some true)
   (hm:W.mroIn K C (.type "object")=some true):qF K H (.ref a) (.ref C)
end
end L2
namespace L2
open PySem PySem.Spec PyProof.Rows
structure gv(k:Nat)(A:Around):Prop where
 hd:A.handled=none
 dp:A.depth+3*k+5<recursionLimit
 un:A.units+16*k+200<cLine
 gd:A.guards=some []
theorem gv.mono{j k:Nat}{A:Around}(r:gv k A)(h:j<=k):gv j A:=⟨r.hd,by have:=r.dp;omega,by have:=r.un;omega,r.gd⟩
theorem gv.deeper{k:Nat}{A:Around}(r:gv (k+1) A)(env:Env):gv k (A.deeper env):=
 ⟨r.hd,by have:=r.dp;show A.depth+1+3*k+5<_;omega,by have:=r.un;show A.units+3+16*k+200<_;omega,r.gd⟩
theorem gv.depth{k:Nat}{A:Around}(r:gv k A):A.depth<recursionLimit:=by have:=r.dp;omega
theorem gv.units{k:Nat}{A:Around}(r:gv k A):A.units+64<cLine:=by have:=r.un;omega
def MD:TA:=fun _ H Q=>Q [] H
def Li(ta:TE)(tr:TA):TA:=fun σ H Q=>ta σ H fun x H1=>tr σ H1 fun xs H2=>Q (x::xs) H2
section
variable{X:Cx}{e:Expr}{es:List Expr}{te:TE}{t:TA}{pos:Pos}
theorem qR:PA X [] MD:=fun _ _ _ _ H Q I h=>Calls.spliced_nil ⟨[],H,I,.nil,h⟩
theorem jz(ha:PE X e te)(hr:PA X es t)(hs:starEach (e::es) X.env=(false,eval e X.env)::starEach es X.env:=by rfl):PA X (e::es) (Li te t):=by
 intro pos pins s σ H Q I h;rw[hs];show wpAny _ _ (spliced ((false,eval e X.env)::backTo pos (starEach es X.env))) _ _ s;refine Calls.spliced_cons (eF (ha pins s σ H _ I h) fun u s1 ⟨x,H1,I1,r1,q1⟩=>?_);exact eF (hr pos pins s1 σ H1 _ I1 q1) fun us s2 ⟨xs,H2,I2,r2,q2⟩=>⟨x::xs,H2,I2,.cons r1 r2,q2⟩
def Mw(t:TA):TE:=fun σ H Q=>t σ H fun xs H1=>xs.length<=sizeLine/\∀p,H1 p=none->Q (.ref p) (cq H1 p (.tup xs))
def KA(t:TA):TE:=fun σ H Q=>t σ H fun xs H1=>xs.length<=sizeLine/\∀p,H1 p=none->Q (.ref p) (cq H1 p (.lst xs))
theorem Je{x1}(h:PA X es t):PE X (.Tuple es x1 pos) (Mw t):=by
 intro pins s σ H Q I hq;refine wpAny_Tuple_spliced (eF (h pos pins s σ H _ I hq) fun us s1 ⟨xs,H1,I1,r,z,q⟩=>⟨by rw[<- r.length];exact z,?_⟩);have hf:H1 s1.heap.objs.size=none:=I1.hok.fresh (Om _);refine⟨.ref s1.heap.objs.size,cq H1 s1.heap.objs.size (.tup xs),I1.laid (t':=s1.toks) (fun b u e=>Oj _ e) (Om _) ?_,rfl,q _ hf⟩;exact⟨z,us,r,⟨_,Ol _ rfl,rfl,_,rfl⟩⟩
theorem CF(h:PA X es t):PE X (.List es pos) (KA t):=by
 intro pins s σ H Q I hq;refine wpAny_List_spliced (eF (h pos pins s σ H _ I hq) fun us s1 ⟨xs,H1,I1,r,z,q⟩=>⟨by rw[<- r.length];exact z,?_⟩);have hf:H1 s1.heap.objs.size=none:=I1.hok.fresh (Om _);refine⟨.ref s1.heap.objs.size,cq H1 s1.heap.objs.size (.lst xs),I1.laid (t':=s1.toks) (fun b u e=>Oj _ e) (Om _) ?_,rfl,q _ hf⟩;exact⟨z,us,0,r,Ol _ rfl⟩
end
abbrev Sp:=List V->Hp->VK->XK->Prop
abbrev vE:=List Env->Hp->Shared->XK->Value->Shared->Prop
structure Ao(P:Program)(w:World)(K:W.Frag)(mg:Str->Option Value)(base:Heap)(A:Around)(outer:List Env)(s:Shared)(H:Hp):Prop where
 frames:A.frames=some outer
 mod:Mod K mg base
 bs:∀b o,base.get? b=some o->s.heap.get? b=some o/\H b=none
 bsz:base.objs.size<=s.heap.objs.size
 funs:s.heap.FunFrames base outer
 frf:∀b∈pk outer,H b=none
 hok:om P w H s.heap
 bare:AllBare s.gens
def CE(outer:List Env)(P:Program)(w:World)(H:Hp)(s:Shared)(Q:VK)(u:Value)(s':Shared):Prop:=
 ∃v H',s'.os=s.os/\AllBare s'.gens/\Un (pk outer) [] H H' s.heap s'.heap/\om P w H' s'.heap/\bV v u/\Q v H'
def CR(CX:vE)(outer:List Env)(P:Program)(w:World)(H:Hp)(s:Shared)(Q:VK)(E:XK)(r:Result)(s':Shared):Prop:=
 match r with
 |.ok (.ret u)=>CE outer P w H s Q u s'
 |.ok _=>False
 |.error e=>CX outer H s E e s'
structure qG(P:Program)(w:World)(K:W.Frag)(mg:Str->Option Value)(base:Heap)(CX:vE)(k:Nat)(f:Addr)(fd:FuncData)(ps:List Str)(sp:Sp):Prop where
 len:∀vs H Q E,sp vs H Q E->vs.length=ps.length
 run:∀(A:Around)(outer:List Env)(s:Shared)(H:Hp)(args:Args)(us:List Value)(vs:List V)(Q:VK)(E:XK),gv k A->Ao P w K mg base A outer s H->BindsTo s fd args (ps.zip us)->ba vs us->sp vs H Q E ->
  codeAny (model P w) A (.call (.ref f) args) (CR CX outer P w H s Q E) s
section
variable{X:Cx}{pins:List (Addr×Obj)}{σ:St}{H:Hp}{s s':Shared}
theorem aV.env0(I:aV X pins σ H s):Ao X.prog X.w X.K X.mg X.base X.A X.stack s H:=
 ⟨I.ok.frames,I.ok.mod,I.bs,NU I.ok.bsz I.sz,I.stack,I.stkFree,I.hok,I.bare⟩
theorem aV.after{Q:VK}{u:Value}(I:aV X pins σ H s)(h:CE X.stack X.prog X.w H s Q u s'):EP X pins σ Q u s':=by
 obtain⟨v,H',os,bare,un,hok,r,q⟩:=h;obtain⟨hh,g,d,t,os'⟩:=s';obtain rfl:os'=s.os:=os;exact⟨v,H',I.call (h':=hh) (g':=g) (d':=d) (t':=t) (ch:=[]) un hok bare (fun b z=>absurd z (by simp)),r,q⟩
end
def GV(sp:Sp)(dvs:List V)(E:XK)(t:TA):TE:=fun σ H Q=>t σ H fun vs H1=>sp (vs++dvs) H1 Q E
def iu(K:W.Frag)(fd:FuncData)(ps:List Str)(ds:List Value):Prop:=
 ∀(s:Shared)(us:List Value),K.In s.heap->(us++ds).length=ps.length->BindsTo s fd ⟨us,[]⟩ (ps.zip (us++ds))
theorem iu.all{K:W.Frag}{fd:FuncData}{ps:List Str}(h:∀us:List Value,us.length=ps.length->bindArgs fd ⟨us,[]⟩=pure (ps.zip us)):iu K fd ps []:=fun s us _ hl=>by
 rw[Ox]at hl⊢;exact .of_eq (h us hl)
def kf(CX:vE)(X:Cx)(E:XK):Prop:=∀(pins:List (Addr×Obj))(σ:St)(H:Hp)(s:Shared)(e:Value)(s':Shared),aV X pins σ H s->CX X.stack H s E e s'->X.xe e s'
section
variable{X:Cx}{CX:vE}{k:Nat}{f C:Addr}{fd:FuncData}{ps:List Str}{sp:Sp}{dvs:List V}{ds:List Value}{E:XK}{x m:Str}{p pos apos:Pos}{e o:Expr}{es:List Expr}{ta:TE}{t:TA}
theorem Cv{pins:List (Addr×Obj)}{σ:St}{H:Hp}{s:Shared}{Q:VK}{us:List Value}{vs:List V}(F:qG X.prog X.w X.K X.mg X.base CX k f fd ps sp)(hr:gv k X.A)(hb:iu X.K fd ps ds)(hd:ba dvs ds)(hx:kf CX X E)
  (I:aV X pins σ H s) (r:ba vs us) (h:sp (vs++dvs) H Q E):wpAny (model X.prog X.w) X.A (call (.ref f) us) (EP X pins σ Q) X.xe s:=by
 have r2:ba (vs++dvs) (us++ds):=r.append hd;have hl:(us++ds).length=ps.length:=by rw[<- r2.length];exact F.len _ _ _ _ h
 refine Oy (OA (F.run X.A X.stack s H ⟨us,[]⟩ (us++ds) (vs++dvs) Q E hr I.env0 (hb s us I.kIn hl) r2 h) fun r s' hq=>?_);cases r with
 |error e=>exact hx pins σ H s e s' I hq
 |ok fl=>
  cases fl with
  |ret u=>exact I.after hq
  |next=>exact False.elim hq
  |brk=>exact False.elim hq
  |cont=>exact False.elim hq
theorem uV(F:qG X.prog X.w X.K X.mg X.base CX k f fd ps sp)(hr:gv k X.A)(hg:Gl X x)(hm:X.mg x=some (.ref f))(hk:W.keepIn X.K (.ref f)=true)(hb:iu X.K fd ps ds)(hd:ba dvs ds)(hx:kf CX X E)
  (ha:PA X (e::es) t) (hdb:(x == ("__debug__" : Str))=false:=by decide) (he:starEach (e::es) X.env=(false,eval e X.env)::starEach es X.env:=by rfl) (hpl:(backTo pos (starEach es X.env)).any (·.1)=false:=by rfl) :
  PE X (.Call (.Name x p) (e::es) [] pos) (GV sp dvs E t):=by
 intro pins s σ H Q I h;refine OB (nB I hg hm ?_ hdb);refine W.callWith_K (h₀:=X.base) I.ok.mod.kin hk (eF (ha pos pins s σ H _ I h) fun us s1 ⟨vs,H1,I1,r,q⟩=>⟨I1.kIn,?_⟩) he hpl;exact Cv F hr hb hd hx I1 r q
structure Mk(K:W.Frag)(C f:Addr):Prop where
 makes:W.makesIn K C=true
 init:W.findIn K (.ref C) "__init__" = some (some (.ref f))
 fn:W.isFn K (.ref f)=true
 kp:W.keepIn K (.ref C)=true
end
section
variable{X:Cx}{CX:vE}{k:Nat}{f C:Addr}{fd:FuncData}{ps ks:List Str}{sp:Sp}{E:XK}{x m:Str}{p pos apos kpos:Pos}{e o:Expr}{es:List Expr}{kws:List Keyword}{te ta:TE}{t tk:TA}{nm:Option Str}
structure Nh(K:W.Frag)(fd:FuncData)(ps ks:List Str)(g:List Value->List Value->List Value)(gV:List V->List V->List V):Prop where
 to:∀(s:Shared)(us ws:List Value),K.In s.heap->(g us ws).length=ps.length->BindsTo s fd ⟨us,ks.zip ws⟩ (ps.zip (g us ws))
 rel:∀{vs:List V}{us:List Value}{zs:List V}{ws:List Value},ba vs us->ba zs ws->ba (gV vs zs) (g us ws)
variable{g:List Value->List Value->List Value}{gV:List V->List V->List V}
end
structure aR(N P:List Str)(sc:Scope):Prop where
 kind:sc.kind=.function
 co:sc.isCoroutine=false
 gen:sc.isGenerator=false
 nd:N.Nodup
 pre:N.take P.length=P
 par:∀x∈P,sc.names.lookup x=some .local\/sc.names.lookup x=some .cell
 nofree:∀y∈sc.names,y.2≠.free
theorem ug{kindOf:Str->Option NameKind}{x:Str}:∀{binds:List (Str×Value)}{m:Str->Option Value},(∀v,(x,v)∉binds)->bindL kindOf binds m x=m x
 |[],_,_=>rfl
 |(n,v)::r,m,h=>by
  unfold bindL;rw[ug fun w hw=>h w (NY _ hw)];split
  ·have : x ≠ n := by rintro rfl; exact h v NX
   simp[this]
  ·rfl
theorem uh{kindOf:Str->Option NameKind}{x:Str}:∀{binds:List (Str×Value)}{m:Str->Option Value},(∀v,(x,v)∉binds)->bindC kindOf binds m x=m x
 |[],_,_=>rfl
 |(n,v)::r,m,h=>by
  unfold bindC;rw[uh fun w hw=>h w (NY _ hw)];split
  ·rfl
  ·have : x ≠ n := by rintro rfl; exact h v NX
   simp[this]
theorem oY{kindOf:Str->Option NameKind}{x:Str}{v:Value}:∀{P:List Str}{vs:List Value}{i:Nat}{m:Str->Option Value},P.Nodup->P[i]?=some x->vs[i]?=some v->kindOf x=some .local ->
  bindL kindOf (P.zip vs) m x=some v
 |[],_,_,_,_,h,_,_=>by simp at h
 |_::_,[],_,_,_,_,h,_=>by simp at h
 |p::P,w::vs,0,m,nd,h1,h2,hk=>by
  simp at h1 h2;subst h1;subst h2;show bindL kindOf ((p,w)::P.zip vs) m p=_;unfold bindL;rw[ug fun v hv=>(OC.mp nd).1 (OD hv).1,NL hk];simp
 |p::P,w::vs,i+1,m,nd,h1,h2,hk=>by
  show bindL kindOf ((p,w)::P.zip vs) m x=_;unfold bindL;exact oY (i:=i) (OC.mp nd).2 (by simpa using h1) (by simpa using h2) hk
theorem oZ{kindOf:Str->Option NameKind}{x:Str}{v:Value}:∀{P:List Str}{vs:List Value}{i:Nat}{m:Str->Option Value},P.Nodup->P[i]?=some x->vs[i]?=some v->kindOf x≠some .local ->
  bindC kindOf (P.zip vs) m x=some v
 |[],_,_,_,_,h,_,_=>by simp at h
 |_::_,[],_,_,_,_,h,_=>by simp at h
 |p::P,w::vs,0,m,nd,h1,h2,hk=>by
  simp at h1 h2;subst h1;subst h2;show bindC kindOf ((p,w)::P.zip vs) m p=_;unfold bindC;rw[uh fun v hv=>(OC.mp nd).1 (OD hv).1,NM hk];simp
 |p::P,w::vs,i+1,m,nd,h1,h2,hk=>by
  show bindC kindOf ((p,w)::P.zip vs) m x=_;unfold bindC;exact oZ (i:=i) (OC.mp nd).2 (by simpa using h1) (by simpa using h2) hk
def start(N:List Str)(vs:List V):St:=vs.map some++List.replicate (N.length-vs.length) none
def qE(CX:vE)(P:Program)(w:World)(K:W.Frag)(mg:Str->Option Value)(base:Heap)(N:List Str)(qual:Str)(scope:Scope)(f:Addr)(cd:Value)(A:Around)(outer:List Env)(s:Shared)(H:Hp)(E:XK):Cx where
 prog:=P
 w:=w
 K:=K
 mg:=mg
 base:=base
 A:=A.deeper (envOfC qual scope s.heap.objs.size f cd)
 N:=N
 s₀:=s
 H₀:=H
 env:=envOfC qual scope s.heap.objs.size f cd
 outer:=outer
 stack:=envOfC qual scope s.heap.objs.size f cd::outer
 ex:=[]
 calm:=true
 fn:=fun _=>true
 pn:=[]
 xe:=fun e s'=>wpAny (model P w) (A.deeper (envOfC qual scope s.heap.objs.size f cd)) (leaving (envOfC qual scope s.heap.objs.size f cd) e) (fun _ s''=>CX outer H s E e s'') (fun e' s''=>CX outer H s E e' s'') s'
theorem nL{sc:Scope}{n:Nat}{x:Str}(h:sc.names.lookup x=some .cell):∃c,(cellsFrom n sc.names []).lookup x=some c:=by
 have q:=W.cellsFrom_some sc.names n [] (.inl h);exact OE.mp q
theorem A9{CX:vE}{P:Program}{w:World}{K:W.Frag}{mg:Str->Option Value}{base:Heap}{N ps:List Str}{qual:Str}{scope:Scope}{f:Addr}{cd:Value}{A:Around}{outer:List Env}{s s1:Shared}{H:Hp}{E:XK}{us:List Value}{vs:List V}
  (S:aR N ps scope) (hd:A.handled=none) (e0:Ao P w K mg base A outer s H) (hl:vs.length=ps.length) (r:ba vs us)
  (x:InCallC s s.heap.objs.size (bindL (envOfC qual scope s.heap.objs.size f cd).kindOf (ps.zip us) fun _=>none) (cellsFrom (s.heap.objs.size+1) scope.names []) (bindC (envOfC qual scope s.heap.objs.size f cd).kindOf (ps.zip us) fun _=>none) s1) :
  aV (qE CX P w K mg base N qual scope f cd A outer s H E) [] (start N vs) H s1:=by
 have hpl:ps.length<=N.length:=by have:=Oa List.length S.pre;rw[OF]at this;omega
 obtain⟨h1,tk,rfl,hk⟩:=x.done;have noA:∀b:Addr,b∉(qE CX P w K mg base N qual scope f cd A outer s H E).ex:=fun b z=>absurd (show b∈([]:List Addr) from z) (by simp)
 refine⟨⟨e0.mod,S.kind,rfl,rfl,Om _,fun y z c h1 h2=>?_,fun y hy=>?_,fun y c _ h=>?_,fun _=>hd,Around.frames_deeper e0.frames,.inr ⟨rfl,rfl⟩,fun b z=>absurd z (noA b),e0.bs,e0.bsz,fun b _ _=>noA b,fun b z=>absurd z (noA b),e0.funs,e0.frf⟩,
  rfl,e0.bare,Un.kept hk,⟨_,x.toInCall.ns,fun i y v h1 h2 h3=>?_⟩,fun y c h=>⟨_,x.cell y c h⟩,e0.hok.fresh (Om _),fun y c h=>?_,fun p hp=>absurd (show p∈([]:List (Addr×Obj)) from hp) (by simp),e0.hok.kept hk,?_⟩
 ·exact name_of_addr x.apart (OG h1) (OG h2)
 ·have hy : scope.names.lookup y = some .cell \/ scope.names.lookup y = some .free := hy;rcases hy with hy|hy
  ·exact nL hy
  ·exact absurd rfl (S.nofree _ (OG hy))
 ·exact NV (x.above y c (OG h))
 ·have hi:i<vs.length:=by
   unfold start at h2;by_cases hi:i<vs.length
   ·exact hi
   ·rw[OH (by simpa using hi)]at h2;rw[OI]at h2;split at h2 <;> cases h2
  have ha:vs[i]?=some v:=by
   unfold start at h2;rw[OJ (by simpa using hi),OK]at h2;cases e:vs[i]? with
   |none=>rw[e]at h2;cases h2
   |some a=>rw[e]at h2;cases h2;rfl
  obtain⟨u,hu,rv⟩:=r.get ha
  have hp:ps[i]?=some y:=by
   rw[<- S.pre,OL (by omega)];exact h1
  have ndP:ps.Nodup:=by rw[<- S.pre];exact S.nd.sublist (List.take_sublist _ _)
  refine⟨u,rv,?_⟩;rcases S.par y (OM hp) with k|k
  ·exact .inl ⟨k,oY ndP hp hu k⟩
  ·obtain⟨c,e⟩:=nL (n:=s.heap.objs.size+1) k;refine .inr ⟨.inl k,c,e,?_⟩;have q:=x.cell y c e;rw[oZ ndP hp hu (by show scope.names.lookup y≠_;rw[k];decide)]at q;exact q
 ·exact e0.hok.fresh (NV (x.above y c (OG h)))
 ·unfold start;show _=N.length;rw[ON,OO,OP];omega
theorem Hm{CX:vE}{P:Program}{w:World}{K:W.Frag}{mg:Str->Option Value}{base:Heap}{k:Nat}{f:Addr}{name qual:Str}{params:Arguments}{body:List Stmt}{scope:Scope}{dV kV doc pm cdv ct oc:Value}{an od:Option Addr}
  {osl:Array (Option Value)}{N ps:List Str}{sp:Sp} (lk:K.lookup f=some ⟨oc,od,.func (W.fnOf name qual params body scope dV kV doc pm an cdv ct),osl⟩) (hcd:W.codeIn K cdv qual=true) (S:aR N ps scope)
  (len:∀vs H Q E,sp vs H Q E->vs.length=ps.length)
  (hbody : ∀ (A : Around) (outer : List Env) (s : Shared) (H : Hp) (vs : List V) (Q : VK) (E : XK), gv k (A.deeper (envOfC qual scope s.heap.objs.size f cdv)) -> sp vs H Q E ->
   ∃t,j7 (qE CX P w K mg base N qual scope f cdv A outer s H E) body t/\t {nx:=fun _ H'=>Q .non H',rt:=Q} (start N vs) H) :
  qG P w K mg base CX (k+1) f (W.fnOf name qual params body scope dV kV doc pm an cdv ct) ps sp:=by
 refine⟨len,fun A outer s H args us vs Q E hr e0 hb r hsp=>?_⟩;have hl:=len _ _ _ _ hsp;have KX:K.In s.heap:=e0.mod.kin.keeps fun b o e=>(e0.bs b o e).1;have lim:s.heap.NoLimit:=e0.mod.nolimit.keeps fun b o e=>(e0.bs b o e).1
 have hkind:∀y∈ps.zip us,scope.names.lookup y.1=some .local\/(scope.names.lookup y.1=some .cell/\((cellsFrom (s.heap.objs.size+1) scope.names []).lookup y.1).isSome=true):=fun⟨n,v⟩ hy=>by
  rcases S.par n (OD hy).1 with q|q
  ·exact .inl q
  ·exact .inr ⟨q,W.cellsFrom_some _ _ _ (.inl q)⟩
 refine codeAny_call_function hr.depth (KX _ _ lk) rfl S.co S.gen rfl (W.codeRec_of KX hcd) (hb _ _ _ _ ?_);refine wpAny_newFunctionEnv_cells S.kind hkind fun env he s1 x=>?_;subst he;refine⟨lim.keeps x.toInCall.keep,codeAny_func ?_⟩;obtain⟨t,ht,hq⟩:=hbody A outer s H vs Q E (hr.deeper _) hsp;have I:aV (qE CX P w K mg base N qual scope f cdv A outer s H E) [] (start N vs) H s1:=A9 S hr.hd e0 hl r x;refine N7 (ht [] s1 (start N vs) H _ I hq) (fun fl s' hs=>?_) fun e s' hs=>hs
 have fin:∀{σ':St}{H':Hp}{v:V}{u:Value},aV (qE CX P w K mg base N qual scope f cdv A outer s H E) [] σ' H' s'->bV v u->Q v H'->CE outer P w H s Q u s':=
  fun {σ' H' v u} J rv q=>⟨v,H',J.os,J.bare,J.base,J.hok,rv,q⟩
 cases fl with
 |ret u=>
  obtain⟨v,σ',H',J,rv,q⟩:=hs;exact fin J rv q
 |next=>
  obtain⟨σ',H',J,q⟩:=hs;exact fin (v:=V.non) (u:=Value.none) J rfl q
 |brk=>
  obtain⟨_,_,_,q⟩:=hs;exact False.elim q
 |cont=>
  obtain⟨_,_,_,q⟩:=hs;exact False.elim q
end L2
namespace L2
open PySem PySem.Spec PyProof.Rows
section
variable{X:Cx}{x:Str}{p pos:Pos}{e:Expr}{es:List Expr}{t:TA}{id T:String}{r:List V->Hp->VK->Prop}
def Nj(r:List V->Hp->VK->Prop)(t:TA):TE:=fun σ H Q=>t σ H fun vs H1=>r vs H1 Q
theorem nH (hc:cZ X (.builtin id) r) (hg:Gl X x) (hm:X.mg x=none) (hv:bootBuiltins x=some (.builtin id)) (ha:PA X (e::es) t) (hn:x ≠ "__name__" := by decide) (hdb:(x == ("__debug__" : Str))=false:=by decide)
  (he:starEach (e::es) X.env=(false,eval e X.env)::starEach es X.env:=by rfl) (hpl:(backTo pos (starEach es X.env)).any (·.1)=false:=by rfl):PE X (.Call (.Name x p) (e::es) [] pos) (Nj r t):=by
 intro pins s σ H Q I h;refine OB (oC I hg hm hv ?_ hn hdb);exact PyProof.Rows.callWith_builtin1 (eF (ha pos pins s σ H _ I h) fun us s1 ⟨vs,H1,I1,r1,q1⟩=>hc pins s1 σ H1 vs us Q I1 r1 q1) he hpl
theorem AN (hc:cZ X (.type T) r) (hg:Gl X x) (hm:X.mg x=none) (hv:bootBuiltins x=some (.type T)) (ha:PA X (e::es) t) (hn:x ≠ "__name__" := by decide) (hdb:(x == ("__debug__" : Str))=false:=by decide)
  (he:starEach (e::es) X.env=(false,eval e X.env)::starEach es X.env:=by rfl) (hpl:(backTo pos (starEach es X.env)).any (·.1)=false:=by rfl):PE X (.Call (.Name x p) (e::es) [] pos) (Nj r t):=by
 intro pins s σ H Q I h;refine OB (oC I hg hm hv ?_ hn hdb);exact On (eF (ha pos pins s σ H _ I h) fun us s1 ⟨vs,H1,I1,r1,q1⟩=>hc pins s1 σ H1 vs us Q I1 r1 q1) he hpl
end
end L2
namespace HT
open PySem PyProof.Rows
section
open PySem.SeqAt
open PySem.AutoSeq1 (wpAny_loadPart')
open PySem.MeetsSeq PySem.MeetsSeq2 PySem.MeetsSeq3
end
section
variable{prog:Program}{w:World}{A:Around}{E:Value->Shared->Prop}{s:Shared}
theorem cat_tup{t b:Addr}{vs ws:List Value}{Q:Value->Shared->Prop}(ht:IsTup s.heap t vs.toArray)(hb:IsTup s.heap b ws.toArray)(hv:vs≠[])
  (h1:ws=[]->Q (.ref t) s) (h2:ws≠[]->Q (.ref s.heap.objs.size) {s with heap:=s.heap.push {cls:=.type "tuple",data:=.seq (vs++ws).toArray}})
  (hsz:vs.length+ws.length<=sizeLine):wpAny (model prog w) A (binaryOp .Add (.ref t) (.ref b)) Q E s:=by
 obtain⟨⟨cls,dd,data,sl⟩,ho,hc,n,hd⟩:=id ht;obtain⟨⟨cls2,dd2,data2,sl2⟩,ho2,hc2,n2,hd2⟩:=id hb;simp only at hc hd hc2 hd2;subst hc hd hc2 hd2;have e:vs.toArray++ws.toArray=(vs++ws).toArray:=by simp
 by_cases hw:ws=[]
 ·exact concat_meets ⟨_,ho,rfl⟩ ⟨_,ho2,rfl⟩ OQ seq_tuple_add OR OS (OT _ _)
   (tuple_addW1 t b vs.toArray ws.toArray n n2 dd dd2 sl sl2 (by simpa using hv) (by simp[hw])) ⟨ho,ho2,h1 hw⟩
 ·refine concat_meets ⟨_,ho,rfl⟩ ⟨_,ho2,rfl⟩ OQ seq_tuple_add OR OS (OT _ _)
   (tuple_addW2 t b vs.toArray ws.toArray n n2 dd dd2 sl sl2 (by simpa using hv) (by simpa using hw) (by rw[Ow,Ow];exact hsz)) ⟨ho,ho2,?_⟩
  rw[e];exact h2 hw
def sIx(n d:Nat):Option Int->Nat
 |none=>d
 |some v=>if v<0 then (v+(n:Int)).toNat else min v.toNat n
theorem sIx_none(n d:Nat):sIx n d none=d:=rfl
theorem sIx_nat(n d k:Nat):sIx n d (some (k:Int))=min k n:=by
 show (if (k:Int)<0 then ((k:Int)+(n:Int)).toNat else min (k:Int).toNat n)=min k n;rw[NM (by omega),OU]
theorem IS(n d:Nat)(hd:d<=n)(o:Option Int):sIx n d o<=n:=by
 cases o with
 |none=>exact hd
 |some v=>
  show (if v<0 then (v+(n:Int)).toNat else min v.toNat n)<=n;by_cases hv:v<0
  ·rw[NL hv];omega
  ·rw[NM hv];exact OV _ _
theorem zW(v:Int)(n d:Nat):(if v<0 then max (v+(n:Int)) 0 else min v (n:Int))=((sIx n d (some v):Nat):Int):=by
 show (if v<0 then max (v+(n:Int)) 0 else min v (n:Int))=(((if v<0 then (v+(n:Int)).toNat else min v.toNat n):Nat):Int);by_cases hv:v<0
 ·simp only[NL hv];omega
 ·simp only[NM hv];omega
theorem y3(lo hi:Option Int)(n:Nat):Builtin.Slice.sliceAdjust lo hi 1 (n:Int)=(((sIx n 0 lo:Nat):Int),((sIx n n hi:Nat):Int)):=by
 have h1:¬ ((1:Int)<0):=by omega
 unfold Builtin.Slice.sliceAdjust;simp only[h1,OW];refine Prod.ext ?_ ?_
 ·cases lo with
  |none=>rfl
  |some v=>exact zW v n 0
 ·cases hi with
  |none=>rfl
  |some v=>exact zW v n n
theorem yC(i j:Nat):Builtin.Slice.slicePlaces (i:Int) (j:Int) 1=j-i:=by
 unfold Builtin.Slice.slicePlaces;have h1:(1:Int)>0:=by omega
 simp only[h1,OX,Int.ediv_one];split <;> omega
theorem rO{v:Value}{o:Option Int}{Q:Option Int->Shared->Prop}(p:IsPart v o)(h:Q o s):wpAny (model prog w) A (Builtin.Slice.slicePartIndex v) Q E s:=by
 cases p with
 |none=>exact OY h
 |int i t=>exact slicePart_int h
theorem sliceApplied_gen{sl:Addr}{vl vu:Value}{lo hi:Option Int}{n:Nat}{Q:Int×Int×Nat->Shared->Prop}(hs:s.heap.IsSliceOf sl vl vu .none)(pl:IsPart vl lo)(pu:IsPart vu hi)
  (h:Q (((sIx n 0 lo:Nat):Int),1,sIx n n hi-sIx n 0 lo) s):wpAny (model prog w) A (Builtin.Slice.sliceApplied (.ref sl) (pure (n:Int))) Q E s:=by
 obtain⟨os,hos,hcs,hds⟩:=id hs;unfold Builtin.Slice.sliceApplied Builtin.Slice.sliceFields;refine Oc (Oc (OZ hos hds (x:=vl) rfl (Oc (OZ hos hds (x:=vu) rfl (Oc (OZ hos hds (x:=.none) rfl (Og ?_)))))));refine Oc (OY ?_);show wpAny _ _ (if ((1:Int) == 0)=true then _ else _) _ _ s;rw[NM (by decide)];refine Oc (rO pl (Oc (rO pu (Oc (Og ?_)))));show wpAny _ _ (match Builtin.Slice.sliceAdjust lo hi 1 (n:Int) with|(lo,hi)=>pure (lo,(1:Int),Builtin.Slice.slicePlaces lo hi 1)) _ _ s;rw[y3 lo hi n];show wpAny _ _ (pure (((sIx n 0 lo:Nat):Int),(1:Int),Builtin.Slice.slicePlaces ((sIx n 0 lo:Nat):Int) ((sIx n n hi:Nat):Int) 1)) _ _ s;rw[yC];exact Og h
theorem DD(xs:Array Value)(i k:Nat):((List.range k).filterMap fun(m:Nat)=>xs[((i:Int)+(m:Int)*1).toNat]?).toArray=((xs.toList.drop i).take k).toArray:=by
 have e:(fun(m:Nat)=>xs[((i:Int)+(m:Int)*1).toNat]?)=fun m=>xs[i+m]?:=by
  funext m;have:((i:Int)+(m:Int)*1).toNat=i+m:=by omega
  rw[this]
 rw[e];have:=pick_run xs i k;rw[O0]at this;have e2:((fun x=>xs[x]?) ∘ fun x=>i+x)=fun m=>xs[i+m]?:=rfl;rw[e2]at this;rw[this]
theorem getItem_tuple_cut{t sl:Addr}{items:Array Value}{vl vu:Value}{lo hi:Option Int}{Q:Value->Shared->Prop}(ht:IsTup s.heap t items)(hs:s.heap.IsSliceOf sl vl vu .none)(pl:IsPart vl lo)(pu:IsPart vu hi)
  (hw:¬ (sIx items.size 0 lo=0/\sIx items.size items.size hi=items.size))
  (h:Q (.ref s.heap.objs.size) {s with heap:=s.heap.push {cls:=.type "tuple",data:=.seq ((items.toList.drop (sIx items.size 0 lo)).take (sIx items.size items.size hi-sIx items.size 0 lo)).toArray}})
  (hsz:items.size<=sizeLine):wpAny (model prog w) A (getItem (.ref t) (.ref sl)) Q E s:=by
 have htake:sizeOk (.seq ((items.toList.drop (sIx items.size 0 lo)).take (sIx items.size items.size hi-sIx items.size 0 lo)).toArray):=by
  show ((items.toList.drop (sIx items.size 0 lo)).take (sIx items.size items.size hi-sIx items.size 0 lo)).toArray.size<=sizeLine;rw[Ow,OF,O2,N9];omega
 have hj:sIx items.size items.size hi<=items.size:=IS _ _ (Om _) hi;obtain⟨os,hos,hcs,hds⟩:=id hs;have hTs:s.TypeIs (.ref sl) "slice" := ⟨os,hos,hcs⟩;unfold getItem
 try with_reducible refine Od ?_
 first|refine Oc (Og ?_)|skip
 refine Oc (O3 ht.typeIs (by decide) ?_)
 refine Oc (O4 (name:=Str.ofString "__getitem__") ht.typeIs O5
  (O6 O5 ht.typeIs O7 ?_ (O8 _ _)))
 show wpAny _ _ (Builtin.Tuple.tupleItemsOf (.ref t) >>= _) _ _ s;refine Oc (tupleItemsOf_ ht ?_);refine Oc (O9 hTs ?_);rw[NL (by decide)];refine Oc (sliceApplied_gen hs pl pu ?_)
 have hno:¬ ((((sIx items.size 0 lo:Nat):Int) == 0&&(1:Int) == 1&&(sIx items.size items.size hi-sIx items.size 0 lo) == items.size)=true):=by
  intro q;rw[Pb,Pb]at q;have q1:((sIx items.size 0 lo:Nat):Int)=0:=eq_of_beq q.1.1;have q2:sIx items.size items.size hi-sIx items.size 0 lo=items.size:=eq_of_beq q.2;exact hw ⟨by omega,by omega⟩
 show wpAny _ _ (if (((sIx items.size 0 lo:Nat):Int) == 0&&(1:Int) == 1&&(sIx items.size items.size hi-sIx items.size 0 lo) == items.size)=true then _ else _) _ _ s;rw[NM hno,DD]
 first
  |exact Oc (m:=Builtin.Tuple.tupleExact _) (Pc (Og ⟨_,rfl,Og h⟩) htake)
  |exact Oc (m:=Builtin.Tuple.tupleExact _) (Pc (Oc (Og (Og ⟨_,rfl,Og h⟩))) htake)
  |exact Oc (Oc (m:=Builtin.Tuple.tupleExact _) (Pc (Og (Og ⟨_,rfl,Og h⟩)) htake))
  |exact Oc (Oc (m:=Builtin.Tuple.tupleExact _) (Pc (Og ⟨_,rfl,Og h⟩) htake))
end
end HT
namespace L2
open PySem PySem.Spec PyProof.Rows
abbrev TO:=St->Hp->(Option Int->Hp->Prop)->Prop
def PO(X:Cx)(e:Option Expr)(t:TO):Prop:=
 ∀(pins:List (Addr×Obj))(s:Shared)(σ:St)(H:Hp)(Q:Option Int->Hp->Prop),aV X pins σ H s->t σ H Q ->
  wpAny (model X.prog X.w) X.A (evalPart e X.env) (fun u s'=>∃o H',aV X pins σ H' s'/\IsPart u o/\Q o H') X.xe s
def E6:TO:=fun _ H Q=>Q none H
def Ld(t:TE):TO:=fun σ H Q=>t σ H fun x H1=>∃i,x=.int i/\Q (some i) H1
theorem gk{ns:List Int}:∀{us:List Value},ba (ns.map V.int) us->IntsAre us ns:=by
 induction ns with
 |nil=>intro us r;rw[Pd]at r;cases r;exact .nil
 |cons n ns ih=>
  intro us r;rw[Pe]at r;cases r with
  |cons r1 r2=>
   obtain⟨t,e⟩:=r1;subst e;exact .cons n t (ih r2)
section
variable{X:Cx}{e:Expr}{te:TE}{lo hi:Option Expr}{tl th:TO}{pos p2:Pos}
theorem FQ:PO X none E6:=by
 intro pins s σ H Q I h;rw[evalPart_none];exact Og ⟨none,H,I,.none,h⟩
theorem FP(h:PE X e te):PO X (some e) (Ld te):=by
 intro pins s σ H Q I hw;rw[evalPart_some];refine eF (h pins s σ H _ I hw) fun u s1 ⟨x,H1,I1,r1,q1⟩=>?_;obtain⟨i,rfl,q⟩:=q1;obtain⟨t,rfl⟩:=r1;exact⟨some i,H1,I1,.int i t,q⟩
def EC(X:Cx)(r:V->Option Int->Option Int->Hp->VK->Prop):Prop:=
 ∀(pins:List (Addr×Obj))(s:Shared)(σ:St)(H:Hp)(x:V)(v vl vu:Value)(lo hi:Option Int)(sl:Addr)(Q:VK),aV X pins σ H s->bV x v->s.heap.IsSliceOf sl vl vu .none->IsPart vl lo->IsPart vu hi->r x lo hi H Q ->
  ∃T id,typeLookup (.type T) "__getitem__" = pure (some (.builtin id))/\s.TypeIs v T/\wpAny (model X.prog X.w) X.A (getItem v (.ref sl)) (EP X pins σ Q) X.xe s
theorem EC.or{r r':V->Option Int->Option Int->Hp->VK->Prop}(h:EC X r)(h':EC X r'):EC X (fun x lo hi H Q=>r x lo hi H Q\/r' x lo hi H Q):=by
 intro pins s σ H x v vl vu lo hi sl Q I rx hs pl pu q;rcases q with q|q
 ·exact h pins s σ H x v vl vu lo hi sl Q I rx hs pl pu q
 ·exact h' pins s σ H x v vl vu lo hi sl Q I rx hs pl pu q
def Nv(r:V->Option Int->Option Int->Hp->VK->Prop)(te:TE)(tl th:TO):TE:=fun σ H Q=>te σ H fun x H1=>tl σ H1 fun l H2=>th σ H2 fun u H3=>r x l u H3 Q
theorem DF{r:V->Option Int->Option Int->Hp->VK->Prop}(hr:EC X r)(he:PE X e te)(hl:PO X lo tl)(hu:PO X hi th):PE X (.Subscript e (.Slice lo hi none p2) pos) (Nv r te tl th):=by
 intro pins s σ H Q I h;refine Subscript_ (eF (he pins s σ H _ I h) fun v s1 ⟨x,H1,I1,r1,q1⟩=>?_);refine wpAny_Slice (eF (hl pins s1 σ H1 _ I1 q1) fun vl s2 ⟨l,H2,I2,pl,q2⟩=>eF (hu pins s2 σ H2 _ I2 q2) fun vu s3 ⟨u,H3,I3,pu,q3⟩=>?_);rw[evalPart_none];refine Og ?_;have I4:aV X pins σ H3 {s3 with heap:=s3.heap.push {cls:=.type "slice",data:=.fields #[vl,vu,.none]}}:=I3.kept (t':=s3.toks) fun b ob q=>Oj _ q;obtain⟨T,id,hT,ht,hg⟩:=hr pins {s3 with heap:=s3.heap.push {cls:=.type "slice",data:=.fields #[vl,vu,.none]}} σ H3 x v vl vu l u s3.heap.objs.size Q I4 r1 (Pf ..) pl pu q3;show wpAny (model X.prog X.w) X.A (subscriptTail e (.Slice lo hi none p2) v (.ref s3.heap.objs.size)) (EP X pins σ Q) X.xe {s3 with heap:=s3.heap.push {cls:=.type "slice",data:=.fields #[vl,vu,.none]}};exact tail_any (ops:=[.ref s3.heap.objs.size,v]) ht hT hg (by with_unfolding_all rfl)
def vO(xs:List V)(lo hi:Option Int):List V:=(xs.drop (HT.sIx xs.length 0 lo)).take (HT.sIx xs.length xs.length hi-HT.sIx xs.length 0 lo)
theorem pJ(xs:List V)(lo hi:Option Int):(vO xs lo hi).length<=xs.length:=by
 unfold vO;rw[OF,O2];omega
def KB(K:W.Frag):V->Option Int->Option Int->Hp->VK->Prop:=fun x lo hi H Q=>∃a xs,x=.ref a/\fS K H a xs /\
 ¬ (HT.sIx xs.length 0 lo=0/\HT.sIx xs.length xs.length hi=xs.length)/\∀p,H p=none->Q (.ref p) (cq H p (.tup (vO xs lo hi)))
theorem oz:EC X (KB X.K):=by
 intro pins s σ H x v vl vu lo hi sl Q I rx hs pl pu h;obtain⟨a,xs,rfl,hx,hw,q⟩:=h;cases rx;obtain⟨its,r,ht,hz⟩:=I.tuple hx;have hlen:its.toArray.size=xs.length:=by rw[Ow];exact r.length.symm
 refine⟨"tuple",_,O5.lookup,ht.typeIs,?_⟩;refine HT.getItem_tuple_cut ht hs pl pu (by rw[hlen];exact hw) ?_ (by rw[hlen];exact hz);rw[hlen];refine⟨.ref s.heap.objs.size,_,I.laid (t':=s.toks) (o:=.tup (vO xs lo hi)) (fun b ob q=>Oj _ q) (Om _) ?_,rfl,q _ (I.hok.fresh (Om _))⟩;exact⟨NU (pJ xs lo hi) hz,_,(r.drop (HT.sIx xs.length 0 lo)).take (HT.sIx xs.length xs.length hi-HT.sIx xs.length 0 lo),IsTup.new _ _⟩
def Ls(K:W.Frag):R2:=fun x y H Q=>∃a b xs ys,x=.ref a/\y=.ref b/\fS K H a xs/\fS K H b ys/\xs≠[]/\xs.length+ys.length<=sizeLine /\
 (ys=[]->Q (.ref a) H)/\(ys≠[]->∀p,H p=none->Q (.ref p) (cq H p (.tup (xs++ys))))
theorem ba.nil_iff{xs:List V}{us:List Value}(r:ba xs us):us=[]↔xs=[]:=by
 cases r with
 |nil=>simp
 |cons _ _=>simp
theorem F5:j8 X (binaryOp .Add) (Ls X.K):=by
 intro pins s σ H x y v u Q I rx ry h;obtain⟨a,b,xs,ys,rfl,rfl,ha,hb,hx,hz,q1,q2⟩:=h;cases rx;cases ry;obtain⟨its,r1,p1,_⟩:=I.tuple ha;obtain⟨its2,r2,p2,_⟩:=I.tuple hb;refine HT.cat_tup p1 p2 (fun z=>hx (r1.nil_iff.mp z)) (fun z=>⟨.ref a,H,I,rfl,q1 (r2.nil_iff.mp z)⟩) (fun z=>?_) (by rw[<- r1.length,<- r2.length];exact hz);refine⟨.ref s.heap.objs.size,_,I.laid (t':=s.toks) (o:=.tup (xs++ys)) (fun b ob q=>Oj _ q) (Om _) ?_,rfl,q2 (fun w=>z (r2.nil_iff.mpr w)) _ (I.hok.fresh (Om _))⟩;exact⟨by rw[ON];exact hz,_,r1.append r2,IsTup.new _ _⟩
end
end L2
namespace L2
open PySem PySem.Spec PyProof.Rows
def y9(n:Nat)(i:Int):Option Nat:=if 0<=i then (if i<n then some i.toNat else none) else if -(n:Int)<=i then some (i+n).toNat else none
def atI{α:Type}(xs:List α)(i:Int):Option α:=(y9 xs.length i).bind fun j=>xs[j]?
theorem zL{n:Nat}{i:Int}{j:Nat}(h:y9 n i=some j):seqIndex? i n=some j/\j<n/\-(n:Int)<=i/\i<n:=by
 unfold y9 at h;by_cases h0:0<=i
 ·rw [NL h0] at h;by_cases h1:i<n
  ·rw[NL h1]at h;have e:i.toNat=j:=NN h;exact⟨by rw[seqIndex_of h0 h1,e],by omega,by omega,h1⟩
  ·rw[NM h1]at h;cases h
 ·rw [NM h0] at h;by_cases h1:-(n:Int)<=i
  ·rw[NL h1]at h;have e:(i+n).toNat=j:=NN h;exact⟨by rw[seqIndex_neg (by omega) h1,e],by omega,h1,by omega⟩
  ·rw[NM h1]at h;cases h
theorem u7{α:Type}{xs:List α}{i:Int}{v:α}(h:atI xs i=some v):∃j,seqIndex? i xs.length=some j/\xs[j]?=some v/\j<xs.length/\-(xs.length:Int)<=i/\i<xs.length:=by
 unfold atI at h;cases e:y9 xs.length i with
 |none=>rw[e]at h;cases h
 |some j=>
  rw[e]at h;obtain⟨h1,h2,h3,h4⟩:=zL e;exact⟨j,h1,h,h2,h3,h4⟩
theorem kj{α:Type}{xs:List α}{j:Nat}{v:α}(h:xs[j]?=some v):atI xs (j:Int)=some v:=by
 have hj:j<xs.length:=(N3.mp h).1
 have e:y9 xs.length (j:Int)=some j:=by
  unfold y9;rw[NL (by omega),NL (by omega)];simp
 unfold atI;rw[e];exact h
def va(b:Expr):Prop:=∀o i,subscripted b false o i=operate [o,i] (getItem o i)
def ED(X:Cx)(r:R2):Prop:=
 ∀(value slice:Expr)(pins:List (Addr×Obj))(s:Shared)(σ:St)(H:Hp)(x y:V)(v u:Value)(Q:VK),aV X pins σ H s->bV x v->bV y u->r x y H Q ->
  subscripted slice false v u=operate [v,u] (getItem v u)->wpAny (model X.prog X.w) X.A (subscriptTail value slice v u) (EP X pins σ Q) X.xe s
def Np(X:Cx)(id:String)(r:V->List V->Hp->VK->Prop):Prop:=
 ∀(pins:List (Addr×Obj))(s:Shared)(σ:St)(H:Hp)(x:V)(xs:List V)(v:Value)(us:List Value)(Q:VK),aV X pins σ H s->bV x v->ba xs us->r x xs H Q ->
  wpAny (model X.prog X.w) X.A (call (.builtin id) (v::us)) (EP X pins σ Q) X.xe s
section
variable{X:Cx}{a b:Expr}{ta tb:TE}{pos:Pos}
theorem ED.or{r r':R2}(h:ED X r)(h':ED X r'):ED X (fun x y H Q=>r x y H Q\/r' x y H Q):=by
 intro value slice pins s σ H x y v u Q I rx ry q hs;rcases q with q|q
 ·exact h value slice pins s σ H x y v u Q I rx ry q hs
 ·exact h' value slice pins s σ H x y v u Q I rx ry q hs
theorem Hd{r:R2}(hr:ED X r)(ha:PE X a ta)(hb:PE X b tb)(hs:va b):PE X (.Subscript a b pos) (Ks r ta tb):=by
 intro pins s σ H Q I h;exact Subscript_ (HH ha hb I h fun v u s2 x y H2 I2 rx ry q=>hr a b pins s2 σ H2 x y v u Q I2 rx ry q (hs _ _))
def HB(K:W.Frag):R2:=fun x y H Q=>∃p xs i v,x=.ref p/\y=.int i/\fT K H p xs/\atI xs i=some v/\Q v H
def KG(K:W.Frag):R2:=fun x y H Q=>∃p xs i v,x=.ref p/\y=.int i/\fS K H p xs/\atI xs i=some v/\Q v H
def KH:R2:=fun x y H Q=>∃z i c,x=.str z/\y=.int i/\z.length<=sizeLine/\atI z.cps.toList i=some c/\Q (.str ⟨#[c]⟩) H
theorem zK:ED X (HB X.K):=by
 intro value slice pins s σ H x y v u Q I rx ry h hs;obtain⟨p,xs,i,z,rfl,rfl,hq,he,q⟩:=h;cases rx;obtain⟨t,rfl⟩:=ry;obtain⟨its,r,pl,hz⟩:=I.list hq;obtain⟨j,h1,h2,h3,h4,h5⟩:=u7 he;obtain⟨w,ew,rw'⟩:=r.get h2;have hl:=r.length;have hn:=oB;have fin:EP X pins σ Q w s:=⟨z,H,I,rw',q⟩;by_cases h0:0<=i
 ·have hj:i.toNat=j:=by
   rw[seqIndex_of h0 h5]at h1;exact NN h1
  exact item_listR pl.isList h0 (by omega) (by rw[hj];simpa using ew) fin hs
 ·have hj:(i+(its.toArray.size:Int)).toNat=j:=by
   rw[seqIndex_neg (by omega) h4]at h1;rw[Ow,<- hl];exact NN h1
  exact subscriptTail_builtinR (x:=w) pl.isList.typeIs Pg.lookup
   (wpAny_getItem_list_neg (Q:=fun r s'=>r=w/\EP X pins σ Q r s') pl.isList (by omega) (by rw[Ow] <;> omega) (by omega) (by rw[hj];simpa using ew) ⟨rfl,fin⟩) hs
theorem JS:ED X (KG X.K):=by
 intro value slice pins s σ H x y v u Q I rx ry h hs;obtain⟨p,xs,i,z,rfl,rfl,hq,he,q⟩:=h;cases rx;obtain⟨t,rfl⟩:=ry;obtain⟨its,r,pl,hz⟩:=I.tuple hq;obtain⟨j,h1,h2,h3,h4,h5⟩:=u7 he;obtain⟨w,ew,rw'⟩:=r.get h2;have hl:=r.length;have hn:=oB;have fin:EP X pins σ Q w s:=⟨z,H,I,rw',q⟩
 exact subscriptTail_builtinR (x:=w) pl.typeIs slot_tuple_getitem.lookup
  (getItem_tuple (j:=j) (Q:=fun r s'=>r=w/\EP X pins σ Q r s') pl (by omega) (by omega) (by rw[Ow,<- hl];exact h1) (by simpa using ew) ⟨rfl,fin⟩) hs
theorem JT:ED X KH:=by
 intro value slice pins s σ H x y v u Q I rx ry h hs;obtain⟨z,i,c,rfl,rfl,hz,he,q⟩:=h;obtain⟨t,rfl⟩:=rx;obtain⟨t',rfl⟩:=ry;obtain⟨j,h1,h2,h3,h4,h5⟩:=u7 he;have hl:z.cps.toList.length=z.length:=by simp[Str.length]
 rw[hl]at h1 h4 h5;have hn:=oB
 exact tail_any (typeIs_str s z t) slot_str_getitem.lookup (getItem_str (c:=c) (by
  have e1:decide (i < -(2^63:Int))=false:=NI (by omega);have e2:decide (i ≥ 2^63)=false:=NI (by omega)
  rw[e1,e2,Bool.or_false]) (by rw[h1];simpa using h2) ⟨.str ⟨#[c]⟩,H,I.tok _,⟨_,rfl⟩,q⟩) hs
def Nk(K:W.Frag):R2:=fun x y H Q=>HB K x y H Q\/KG K x y H Q\/KH x y H Q
theorem JU:ED X (Nk X.K):=zK.or (JS.or JT)
theorem yJ (its:List Value) (n j:Nat) (u:Value):Obj.mapSeq (·.setIfInBounds j u) {cls:=.type "list",data:=.seq its.toArray n}={cls:=.type "list",data:=.seq (its.set j u).toArray n}:=by
 simp[Obj.mapSeq]
theorem aV.lst{pins:List (Addr×Obj)}{σ:St}{H:Hp}{s:Shared}{p:Addr}{xs:List V}(I:aV X pins σ H s)(h:H p=some (.lst xs)) :
  ∃(its:List Value) (n:Nat),ba xs its/\s.heap.get? p=some {cls:=.type "list",data:=.seq its.toArray n}/\xs.length<=sizeLine:=by
 obtain⟨z,its,n,r,e⟩:=I.hok p _ h;exact⟨its,n,r,e,z⟩
theorem aV.lstUpd{pins:List (Addr×Obj)}{σ:St}{H:Hp}{s:Shared}{p:Addr}{xs ys:List V}{its its':List Value}{n n':Nat}{f:Obj->Obj}(I:aV X pins σ H s)(h:H p=some (.lst xs))
  (ho:s.heap.get? p=some {cls:=.type "list",data:=.seq its.toArray n}) (hf:f {cls:=.type "list",data:=.seq its.toArray n}={cls:=.type "list",data:=.seq its'.toArray n'}) (r:ba ys its') (hz:ys.length<=sizeLine) (t:Nat) :
  aV X pins σ (cq H p (.lst ys)) {s with heap:=s.heap.update p f,toks:=t}:=by
 have e:(s.heap.update p f).get? p=some {cls:=.type "list",data:=.seq its'.toArray n'}:=by
  rw[Ph f ho (by rw[hf] <;> rfl),hf]
 refine I.write (x:=p) (e:=p) (by rw[h];trivial) (.inl rfl) (fun b u hb q=>(Pi _ _ (N0 hb)).trans q) ⟨_,e⟩ ?_;exact⟨hz,its',n',r,e⟩
def G0:V->V->V->Hp->(Hp->Prop)->Prop:=fun o i v H Q=>∃p xs k j,o=.ref p/\i=.int k/\H p=some (.lst xs)/\y9 xs.length k=some j/\Q (cq H p (.lst (xs.set j v)))
theorem Dm:K3 X G0:=by
 intro pins s σ H o i v ov iv u Q I ro ri rv h;obtain⟨p,xs,k,j,rfl,rfl,hp,hj,q⟩:=h;cases ro;obtain⟨t,rfl⟩:=ri;obtain⟨its,n,r,ho,hz⟩:=I.lst hp;obtain⟨h1,h2,h3,h4⟩:=zL hj;have hl:=r.length;have hn:=oB
 have I':aV X pins σ (cq H p (.lst (xs.set j v))) {s with heap:=s.heap.update p (Obj.mapSeq (·.setIfInBounds j u))}:=
  I.lstUpd hp ho (yJ its n j u) (r.set rv j) (by rw[List.length_set];exact hz) s.toks
 by_cases h0:0<=k
 ·have hk:k.toNat=j:=by
   rw[seqIndex_of h0 h4]at h1;exact NN h1
  exact W.ki_setAt ho h0 (by omega) (by rw[Ow,<- hl];exact h4) (by rw[hk];exact⟨_,I',q⟩)
 ·have hk:(k+(its.toArray.size:Int)).toNat=j:=by
   rw[seqIndex_neg (by omega) h3]at h1;rw[Ow,<- hl];exact NN h1
  exact W.ki_setBack ho (by omega) (by rw[Ow,<- hl];exact h3) (by omega) (by rw[hk];exact⟨_,I',q⟩)
theorem ve(lo hi:Option Int)(n:Nat):(sliceBounds lo hi none n).1=((HT.sIx n 0 lo:Nat):Int)/\(sliceBounds lo hi none n).2.1=((HT.sIx n n hi:Nat):Int)/\(sliceBounds lo hi none n).2.2=1:=by
 refine⟨?_,?_,rfl⟩
 ·cases lo with
  |none=>simp[sliceBounds,HT.sIx]
  |some i=>
   simp only[sliceBounds,HT.sIx,Option.getD_none,show (1:Int)>0 by decide,OX];by_cases h:i<0
   ·simp only[h,OX] <;> omega
   ·simp only[h,OW] <;> omega
 ·cases hi with
  |none=>simp[sliceBounds,HT.sIx]
  |some i=>
   simp only[sliceBounds,HT.sIx,Option.getD_none,show (1:Int)>0 by decide,OX];by_cases h:i<0
   ·simp only[h,OX] <;> omega
   ·simp only[h,OW] <;> omega
theorem sP(its:List Value)(lo hi:Option Int):slicePick its.toArray lo hi none=((its.drop (HT.sIx its.length 0 lo)).take (HT.sIx its.length its.length hi-HT.sIx its.length 0 lo)).toArray:=by
 obtain⟨h1,h2,h3⟩:=ve lo hi its.toArray.size;unfold slicePick;rw[h1,h2,h3];simp only[sliceRange_one,pick_run,Ow] <;> rfl
def KC(K:W.Frag):V->Option Int->Option Int->Hp->VK->Prop:=fun x lo hi H Q=>∃a xs,x=.ref a/\fT K H a xs/\∀p,H p=none->Q (.ref p) (cq H p (.lst (vO xs lo hi)))
theorem Ft:EC X (KC X.K):=by
 intro pins s σ H x v vl vu lo hi sl Q I rx hs pl pu h;obtain⟨a,xs,rfl,hx,q⟩:=h;cases rx;obtain⟨its,r,ht,hz⟩:=I.list hx;have hlen:=r.length;refine⟨"list",_,Pg.lookup,ht.isList.typeIs,?_⟩;refine wpAny_getItem_list_slice ht.isList hs pl pu .none (by simp) ?_ (by rw[Ow] <;> omega);rw[sP,<- hlen];refine⟨.ref s.heap.objs.size,_,I.laid (t':=s.toks) (o:=.lst (vO xs lo hi)) (fun b ob q=>Oj _ q) (Om _) ?_,rfl,q _ (I.hok.fresh (Om _))⟩;exact⟨NU (pJ xs lo hi) hz,_,0,(r.drop (HT.sIx xs.length 0 lo)).take (HT.sIx xs.length xs.length hi-HT.sIx xs.length 0 lo),Ol _ rfl⟩
def k8:V->Bool
 |.non=>true
 |.bl _=>true
 |.int _=>true
 |.str _=>true
 |_=>false
def za:V->V->Bool
 |.non,.non=>true
 |.bl a,.bl b=>a == b
 |.bl a,.int b=>(if a then 1 else 0) == b
 |.int a,.bl b=>a == (if b then 1 else 0)
 |.int a,.int b=>a == b
 |.str a,.str b=>a == b
 |_,_=>false
theorem J9{A:Around}{s:Shared}{y x:V}{u v:Value}(ry:bV y u)(rx:bV x v)(fy:k8 y=true)(fx:k8 x=true):SeqAt.EqAt A s u v (za y x):=by
 cases y with
 |non=>
  cases ry;cases x with
  |non=>cases rx;exact SeqAt.EqAt.same _
  |bl b=>cases rx;exact SeqAt.EqAt.none_bool b
  |int b=>obtain⟨t,rfl⟩:=rx;exact SeqAt.EqAt.none_int b t
  |str b=>obtain⟨t,rfl⟩:=rx;exact SeqAt.EqAt.none_str b t
  |_=>exact absurd (show false=true from fx) Ou
 |bl a=>
  cases ry;cases x with
  |non=>cases rx;exact SeqAt.EqAt.bool_none a
  |bl b=>cases rx;exact SeqAt.EqAt.bool_bool a b
  |int b=>obtain⟨t,rfl⟩:=rx;exact SeqAt.EqAt.bool_int a b t
  |str b=>obtain⟨t,rfl⟩:=rx;exact SeqAt.EqAt.bool_str a b t
  |_=>exact absurd (show false=true from fx) Ou
 |int a=>
  obtain⟨t',rfl⟩:=ry;cases x with
  |non=>cases rx;exact SeqAt.EqAt.int_none a t'
  |bl b=>cases rx;exact SeqAt.EqAt.int_bool a t' b
  |int b=>obtain⟨t,rfl⟩:=rx;exact SeqAt.EqAt.int_int a t' b t
  |str b=>obtain⟨t,rfl⟩:=rx;exact SeqAt.EqAt.int_str a t' b t
  |_=>exact absurd (show false=true from fx) Ou
 |str a=>
  obtain⟨t',rfl⟩:=ry;cases x with
  |non=>cases rx;exact SeqAt.EqAt.str_none a t'
  |bl b=>cases rx;exact SeqAt.EqAt.str_bool a t' b
  |int b=>obtain⟨t,rfl⟩:=rx;exact SeqAt.EqAt.str_int a t' b t
  |str b=>obtain⟨t,rfl⟩:=rx;exact SeqAt.EqAt.str_str a t' b t
  |_=>exact absurd (show false=true from fx) Ou
 |_=>exact absurd (show false=true from fy) Ou
def Ht(x:V)(u:Value):Bool:=match u with
 |.none=>za .non x
 |.bool b=>za (.bl b) x
 |.int i _=>za (.int i) x
 |.str z _=>za (.str z) x
 |_=>false
theorem yf{x y:V}{u:Value}(r:bV y u)(f:k8 y=true):Ht x u=za y x:=by
 cases y with
 |non=>cases r;rfl
 |bl b=>cases r;rfl
 |int i=>obtain⟨t,rfl⟩:=r;rfl
 |str z=>obtain⟨t,rfl⟩:=r;rfl
 |_=>exact absurd (show false=true from f) Ou
theorem rp{A:Around}{s:Shared}{x:V}{v:Value}(rx:bV x v)(fx:k8 x=true):∀{xs:List V}{us:List Value},ba xs us->xs.all k8=true->∀u∈us,SeqAt.EqAt A s u v (Ht x u)
 |_,_,.nil,_=>fun u hu=>by cases hu
 |y::xs,u::us,.cons r t,f=>fun u' hu=>by
  rw[Pj,Pb]at f;rcases NZ.mp hu with rfl|hu
  ·rw[yf r f.1];exact J9 r rx f.1 fx
  ·exact rp rx fx t f.2 u' hu
theorem cZ.or{f:Value}{r r':List V->Hp->VK->Prop}(h:cZ X f r)(h':cZ X f r'):cZ X f (fun xs H Q=>r xs H Q\/r' xs H Q):=by
 intro pins s σ H xs us Q I rs q;rcases q with q|q
 ·exact h pins s σ H xs us Q I rs q
 ·exact h' pins s σ H xs us Q I rs q
theorem vz:cZ X (.type "list") (fun xs H Q=>∃p ys,xs=[.ref p]/\(fT X.K H p ys\/fS X.K H p ys)/\∀l,H l=none->Q (.ref l) (cq H l (.lst ys))):=by
 intro pins s σ H xs us Q I r h;obtain⟨p,ys,rfl,hq,q⟩:=h;obtain⟨u,rfl,rx⟩:=fD r;cases rx
 have fin:∀(its:List Value),ba ys its->ys.length<=sizeLine->∀(h':Heap)(c':Nat),(∀b o',s.heap.get? b=some o'->h'.get? b=some o') ->
   h'.get? s.heap.objs.size=some {cls:=.type "list",dict:=none,data:=.seq its.toArray c',slots:=#[]}->EP X pins σ Q (.ref s.heap.objs.size) {s with heap:=h'}:=fun its r' hz h' c' kp e=>
  ⟨.ref s.heap.objs.size,_,I.laid (t':=s.toks) kp (Om _) (show eW X.prog X.w _ h' _ (.lst ys) from⟨hz,its,c',r',e⟩),rfl,q _ (I.hok.fresh (Om _))⟩
 rcases hq with hq|hq
 ·obtain⟨its,r',pl,hz⟩:=I.list hq;have hlen:=r'.length;obtain⟨o,ho,hc,n,hd⟩:=pl.isList;exact call_list_seq p (.inl rfl) ho hc hd (fun h' c' kp e=>fin its r' hz h' c' kp e) (by simp only[Ow] <;> omega)
 ·obtain⟨its,r',pl,hz⟩:=I.tuple hq;have hlen:=r'.length;obtain⟨o,ho,hc,n,hd⟩:=pl;exact call_list_seq p (.inr rfl) ho hc hd (fun h' c' kp e=>fin its r' hz h' c' kp e) (by simp only[Ow] <;> omega)
theorem sW:cZ X (.type "tuple") (fun xs H Q=>∃p ys,xs=[.ref p]/\((fT X.K H p ys/\∀l,H l=none->Q (.ref l) (cq H l (.tup ys)))\/(fS X.K H p ys/\Q (.ref p) H))):=by
 intro pins s σ H xs us Q I r h;obtain⟨p,ys,rfl,h⟩:=h;obtain⟨u,rfl,rx⟩:=fD r;cases rx;rcases h with⟨hq,q⟩|⟨hq,q⟩
 ·obtain ⟨its, r', pl, hz⟩ := I.list hq;have hlen:=r'.length;refine call_tuple_list pl.isList (fun h' kp=>?_) (by simp only[Ow] <;> omega);have I1:aV X pins σ H {s with heap:=h'}:=I.kept (t':=s.toks) kp
  have I2:aV X pins σ (cq H h'.objs.size (.tup ys)) {s with heap:=h'.push {cls:=.type "tuple",data:=.seq its.toArray}}:=
   I1.laid (t':=s.toks) (fun b o e=>Oj _ e) (Om _) (show eW X.prog X.w _ _ _ (.tup ys) from⟨hz,its,r',IsTup.new _ _⟩)
  exact⟨.ref h'.objs.size,_,I2,rfl,q _ (I1.hok.fresh (Om _))⟩
 ·obtain⟨its,r',pl,hz⟩:=I.tuple hq;exact call_tuple_same pl ⟨.ref p,H,I,rfl,q⟩
def Mn(K:W.Frag)(T:String)(x:V)(H:Hp):Prop:=match x with
 |.str _=>T = "str"
 |.int _=>T = "int"
 |.ref p=>(T = "list" /\ ∃xs,fT K H p xs)\/(T = "tuple" /\ ∃o,K.lookup p=some o/\o.cls=.type "tuple" /\ o.dict=none) \/
   (T = "dict" /\ ((∃kvs,H p=some (.dK kvs))\/∃kvs,H p=some (.dT kvs)))\/(T = "set" /\ ∃S n,H p=some (.set S n))
 |_=>False
theorem HX{pins:List (Addr×Obj)}{σ:St}{H:Hp}{s:Shared}{T:String}{x:V}{v:Value}(I:aV X pins σ H s)(r:bV x v)(ty:Mn X.K T x H) :
  s.TypeIs v T/\∀a,v=.ref a->∃ob,s.heap.get? a=some ob/\ob.dict=none:=by
 cases x with
 |str z=>
  obtain⟨t,rfl⟩:=r;cases (show T = "str" from ty);exact⟨typeIs_str s z t,fun _ e=>nomatch e⟩
 |int i=>
  obtain⟨t,rfl⟩:=r;cases (show T = "int" from ty);exact⟨typeIs_int s i t,fun _ e=>nomatch e⟩
 |ref p=>
  cases r;rcases ty with⟨rfl,xs,hq⟩|⟨rfl,o,hk,hc,hd⟩|⟨rfl,hk⟩|⟨rfl,S,n,hk⟩
  ·obtain⟨its,_,pl,_⟩:=I.list hq;refine⟨pl.isList.typeIs,fun a e=>?_⟩;cases e;obtain⟨o,n,e,c,hd,_⟩:=pl;exact⟨o,e,hd⟩
  ·refine⟨⟨o,I.kIn p o hk,hc⟩,fun a e=>?_⟩;cases e;exact⟨o,I.kIn _ o hk,hd⟩
  ·have z:∃o,s.heap.get? p=some o/\o.ExactDict:=by
    rcases hk with⟨kvs,hk⟩|⟨kvs,hk⟩
    ·obtain⟨_,_,_,_,o,_,_,e,ex,_⟩:=I.hok p _ hk;exact⟨o,e,ex⟩
    ·obtain⟨_,_,_,_,o,_,_,e,ex,_⟩:=I.hok p _ hk;exact⟨o,e,ex⟩
   obtain⟨o,e,ex⟩:=z;refine⟨⟨o,e,ex.1⟩,fun a e2=>?_⟩;cases e2;exact⟨o,e,ex.2.1⟩
  ·obtain⟨o,_,_,_,e,ex,_⟩:=I.hok p _ hk;refine⟨⟨o,e,ex.1⟩,fun a e2=>?_⟩;cases e2;exact⟨o,e,ex.2.1⟩
 |_=>exact False.elim ty
def Nx(K:W.Frag)(T:String)(r:V->List V->Hp->VK->Prop)(to:TE)(t:TA):TE:=fun σ H Q=>to σ H fun x H1=>Mn K T x H1/\t σ H1 fun xs H2=>r x xs H2 Q
variable{o e:Expr}{es:List Expr}{to:TE}{t:TA}{name:Str}{apos cpos:Pos}{T id:String}{r:V->List V->Hp->VK->Prop}
theorem LB (pa:PlainAttrs T) (slot:Slot T name id) (hty:typeOf (.builtin id)=pure (.type "method_descriptor")) (hm:Np X id r) (ho:PE X o to) (ha:PA X (e::es) t)
  (hbase:attributeBase o name X.env (eval o X.env)=eval o X.env:=by rfl)
  (hfew : ((backTo cpos (starEach (e :: es) X.env)).all (fun x => !x.1) && (backToKw cpos (keywordEach [] X.env)).all (fun x => x.1.isSome)
   && decide ((e::es).length+([]:List Keyword).length+(if ([]:List Keyword).isEmpty then 0 else 1)<30))=true:=by rfl)
  (hline:(apos.endLine == cpos.line)=true:=by rfl) (hs:starEach (e::es) X.env=(false,eval e X.env)::starEach es X.env:=by rfl) (hplain:(backTo cpos (starEach es X.env)).any (·.1)=false:=by rfl) :
  PE X (.Call (.Attribute o name apos) (e::es) [] cpos) (Nx X.K T r to t):=by
 intro pins s σ H Q I h;refine wpAny_Call_method_late hbase hfew hline rfl (eF (ho pins s σ H _ I h) fun v s1 ⟨x,H1,I1,r1,ty,q1⟩=>?_);obtain⟨h1,h2⟩:=HX I1 r1 ty;refine⟨T,id,pa,slot,hty,h1,h2,?_⟩;have hA:=ha cpos pins s1 σ H1 _ I1 q1;rw[hs]at hA⊢;refine Calls.callWith_builtin (by show (false || (backTo cpos (starEach es X.env)).any (·.1))=false;rw[hplain] <;> rfl) (Calls.evalArgs_plain ?_);exact eF hA fun us s2 ⟨vs,H2,I2,r2,q2⟩=>hm pins s2 σ H2 x vs v us Q I2 r1 r2 q2
end
end L2
namespace L2
open PySem PySem.Spec PyProof.Rows
def Mg(X:Cx)(id:String)(r:V->List V->Hp->VK->Prop):Prop:=
 ∀(pins:List (Addr×Obj))(s:Shared)(σ:St)(H:Hp)(x:V)(xs:List V)(v:Value)(us:List Value)(Q:VK),aV X pins σ H s->bV x v->ba xs us->r x xs H Q ->
  wpAny (model X.prog X.w) X.A (call (.builtin id) (v::us)) (EP X pins σ Q) X.xe s
theorem ba.one:∀{x:V}{us:List Value},ba [x] us->∃u,us=[u]/\bV x u
 |_,_,.cons r .nil=>⟨_,rfl,r⟩
theorem ba.reverse{xs:List V}{us:List Value}(h:ba xs us):ba xs.reverse us.reverse:=by
 induction h with
 |nil=>exact .nil
 |cons r t ih=>rw[Pl,Pl];exact ba.append ih (.cons r .nil)
theorem ba.rep{xs:List V}{us:List Value}(h:ba xs us):∀k:Nat,ba (List.replicate k xs).flatten (List.replicate k us).flatten
 |0=>.nil
 |k+1=>by
  rw[Pm,Pm,Po,Po];exact ba.append h (ba.rep h k)
theorem t8(its:List Value):∀(k:Nat)(acc:List Value),
  List.foldl (fun x1 x2=>x1++x2) acc.toArray (List.replicate k its.toArray)=(acc++(List.replicate k its).flatten).toArray
 |0,acc=>by simp
 |k+1,acc=>by
  have e:acc.toArray++its.toArray=(acc++its).toArray:=by simp
  have e2:(acc++its)++(List.replicate k its).flatten=acc++(List.replicate (k+1) its).flatten:=by
   rw[Pm,Po,Pp]
  rw[<- e2,<- t8 its k (acc++its),<- e,Pm,Pq]
section
variable{X:Cx}{pins:List (Addr×Obj)}{σ:St}{H:Hp}{s:Shared}{l b:Addr}{xs ys zs:List V}
theorem aV.lset{its its':List Value}{n:Nat}{f:Array Value->Array Value}{t':Nat}(I:aV X pins σ H s)(hH:H l=some (.lst xs))
  (e:s.heap.get? l=some {cls:=.type "list",data:=.seq its.toArray n}) (hf:f its.toArray=its'.toArray) (hv:ba ys its') (hz:ys.length<=sizeLine) :
  aV X pins σ (cq H l (.lst ys)) {s with heap:=s.heap.update l (Obj.mapSeq f),toks:=t'}:=by
 have q:=PySem.IsL.update e f;rw[hf]at q;refine I.write (x:=l) (e:=l) (by rw[hH];exact trivial) (.inl rfl) (fun b' u hb hu=>(Pi s.heap (Obj.mapSeq f) (N0 hb)).trans hu) ⟨_,q⟩ ?_;exact⟨hz,its',_,hv,q⟩
theorem aV.lnew{its:List Value}{t':Nat}(I:aV X pins σ H s)(hv:ba ys its)(hz:ys.length<=sizeLine) :
  aV X pins σ (cq H s.heap.objs.size (.lst ys)) {s with heap:=s.heap.push {cls:=.type "list",data:=.seq its.toArray},toks:=t'}:=
 I.laid (fun _ _ q=>Oj _ q) (Om _) ⟨hz,its,0,hv,Ol _ rfl⟩
theorem aV.fresh(I:aV X pins σ H s):H s.heap.objs.size=none:=I.hok.fresh (Om _)
theorem aV.lstM (I:aV X pins σ H s) (hH:H l=some (.lst xs)):xs.length<=sizeLine/\∃(its:List Value) (n:Nat),ba xs its/\xs.length=its.length/\s.heap.get? l=some {cls:=.type "list",data:=.seq its.toArray n}:=by
 obtain⟨z,its,n,r,e⟩:=I.hok l _ hH;exact⟨z,its,n,r,r.length,e⟩
theorem wN{n:Nat}(h:n<=sizeLine):Builtin.List.listTooLong n=false:=by
 unfold Builtin.List.listTooLong;exact NI (by omega)
end
section
variable{X:Cx}
def zB:V->List V->Hp->VK->Prop:=fun x vs H Q=>∃l xs y,x=.ref l/\vs=[y]/\H l=some (.lst xs)/\xs.length<sizeLine/\Q .non (cq H l (.lst (xs++[y])))
theorem tS:Mg X "list.append" zB:=by
 intro pins s σ H x vs v us Q I rx rv h;obtain⟨l,xs,y,rfl,rfl,hH,hz,q⟩:=h;cases rx;obtain⟨u,rfl,ru⟩:=rv.one;obtain⟨z,its,n,r,hl,e⟩:=I.lstM hH;refine Pr F.slot_list_append ⟨_,e,rfl⟩ F.entry_list_append (F.args_list_append_2 _ _) (PySem.list_append l its.toArray n u (by rw[Ow];omega)) ⟨e,?_⟩;refine⟨.non,_,I.lset (its':=its++[u]) hH e (by simp) (r.append (.cons ru .nil)) ?_,rfl,q⟩;rw[ON,Pt];omega
def zA:V->List V->Hp->VK->Prop:=fun x vs H Q=>∃l b xs zs,x=.ref l/\vs=[.ref b]/\H l=some (.lst xs)/\H b=some (.lst zs)/\xs.length+zs.length<=sizeLine/\Q .non (cq H l (.lst (xs++zs)))
theorem A2:Mg X "list.extend" zA:=by
 intro pins s σ H x vs v us Q I rx rv h;obtain⟨l,b,xs,zs,rfl,rfl,hH,hB,hz,q⟩:=h;cases rx;obtain⟨u,rfl,ru⟩:=rv.one;cases ru;obtain⟨z,its,n,r,hl,e⟩:=I.lstM hH;obtain⟨z2,its2,n2,r2,hl2,e2⟩:=I.lstM hB;have hsz:its.toArray.size+its2.toArray.size<=sizeLine:=by rw[Ow,Ow];omega
 have hlong:¬ (!its.toArray.isEmpty&&Builtin.List.listTooLong (its.toArray.size+its2.toArray.size))=true:=by
  rw[wN hsz,Bool.and_false];exact Ou
 refine Pr F.slot_list_extend ⟨_,e,rfl⟩ F.entry_list_extend (F.args_list_extend_2 _ _)
  (AutoSeq1.list_extend_list_list_0 l its.toArray n b its2.toArray n2 hlong (by rw[Ow];omega) (by omega)) ⟨e,e2,?_⟩
 refine⟨.non,_,I.lset (its':=its++its2) hH e (by simp) (r.append r2) ?_,rfl,q⟩;rw[ON];omega
def KM:R2:=fun x y H Q=>∃l b xs zs,x=.ref l/\y=.ref b/\H l=some (.lst xs)/\H b=some (.lst zs)/\xs.length+zs.length<=sizeLine/\∀p,H p=none->Q (.ref p) (cq H p (.lst (xs++zs)))
theorem Ju:j8 X (binaryOp .Add) KM:=by
 intro pins s σ H x y v u Q I rx ry h;obtain⟨l,b,xs,zs,rfl,rfl,hH,hB,hz,q⟩:=h;cases rx;cases ry;obtain⟨z,its,n,r,hl,e⟩:=I.lstM hH;obtain⟨z2,its2,n2,r2,hl2,e2⟩:=I.lstM hB;refine PySem.P.add_list e e2 ?_ (by rw[Ow,Ow];omega);have ea:its.toArray++its2.toArray=(its++its2).toArray:=by simp
 rw[ea];exact⟨.ref _,_,I.lnew (t':=s.toks) (r.append r2) (by rw[ON];omega),rfl,q _ I.fresh⟩
def KE:R2:=fun x y H Q=>∃l k xs,x=.ref l/\y=.int k/\H l=some (.lst xs)/\-(2^63)<=k/\k<2^63/\xs.length*k.toNat<=sizeLine /\
 ∀p,H p=none->Q (.ref p) (cq H p (.lst (List.replicate k.toNat xs).flatten))
theorem Gp{α:Type}(xs:List α)(k:Nat):(List.replicate k xs).flatten.length=k*xs.length:=by
 induction k with
 |zero=>simp
 |succ k ih=>rw[Pm,Po,ON,ih,Pu,Nat.add_comm]
theorem Jn:j8 X (binaryOp .Mult) KE:=by
 intro pins s σ H x y v u Q I rx ry h;obtain⟨l,k,xs,rfl,rfl,hH,h1,h2,hz,q⟩:=h;cases rx;obtain⟨t,rfl⟩:=ry;obtain⟨z,its,n,r,hl,e⟩:=I.lstM hH;have hlen:its.toArray.size*k.toNat<=sizeLine:=by rw[Ow,<- hl];exact hz
 have hcap:¬ its.toArray.size*k.toNat>(2^63-1) / 8:=by
  have:(sizeLine:Nat)<=(2^63-1) / 8:=by decide
  omega
 have hfit:¬ (!Builtin.List.listFitsIndex k)=true:=by
  rw[fitsIndex_both h1 h2];exact Ou
 have hlong:¬ Builtin.List.listTooLong (its.toArray.size*k.toNat)=true:=by
  rw[wN hlen];exact Ou
 have hnew:List.foldl (fun x1 x2=>x1++x2) #[] (List.replicate (if its.toArray.isEmpty=true then 0 else k.toNat) its.toArray)=(List.replicate k.toNat its).flatten.toArray:=by
  have f0:∀m:Nat,List.foldl (fun x1 x2=>x1++x2) #[] (List.replicate m its.toArray)=(List.replicate m its).flatten.toArray:=fun m=>by
   have:=t8 its m [];rw[Pv]at this;exact this
  rw[f0];cases its with
  |nil=>simp
  |cons a r'=>rw[NM (by simp)]
 refine wpAny_binaryOp_repeat_ref (T:="list") (U:="int") (by decide) ⟨_,e,rfl⟩ (fun s'=>typeIs_int s' k t) noFill_list_mul F.fills_int_mul F.slot_int_rmul repeat_list F.slot_int_index.lookup
  (Pr F.slot_int_rmul (typeIs_int s k t) F.entry_int_rmul (F.args_int_rmul_2 _ _) (int___rmul___int_list k t l its.toArray n)
   ⟨e,rfl,⟨_,e,rfl⟩,Pr F.slot_list_mul ⟨_,e,rfl⟩ F.entry_list_mul (F.args_list_mul_2 _ _) (AutoListH.list___mul___list_int_3 l its.toArray n k t hfit hcap hlong) ⟨e,?_⟩⟩)
 rw[hnew];exact⟨.ref _,_,I.lnew (t':=s.toks) (r.rep k.toNat) (by rw[Gp,Nat.mul_comm];exact hz),rfl,q _ I.fresh⟩
end
section
variable{prog:Program}{w:World}{A:Around}{E:Value->Shared->Prop}{s:Shared}
end
section
variable{X:Cx}
end
end L2
namespace Att
open PySem PySem.W PySem.Calls PyProof.Rows
theorem qg{P:Params}{h:Heap}:∀(ns:List Int)(vs:List Value),WellAll P h vs (ns.map WData.int)->IntsAre vs ns:=by
 intro ns
 induction ns with
 |nil=>
  intro vs w;rw[Pd]at w;cases w;exact .nil
 |cons n ns ih=>
  intro vs w;rw[Pe]at w;cases w with
  |cons a b=>
   cases a;exact .cons _ _ (ih _ b)
theorem AG{l:OpenLaw}{n:Nat}(hn:l.most=some n){P:Params}{h:Heap}{args:List WData}{vals:List Value}
  (hpre:l.row.toRowW.claim.pre args=true) (hwl:WellAll P h vals args) :
  ∃a vs ns,vals=[Value.ref a]/\args=[WData.list (ns.map WData.int)]/\h.get? a=some {cls:=.type "list",data:=.seq vs.toArray}/\IntsAre vs ns/\ns.length<=n:=by
 have hsh:WShape.hasAll [] args [.list .int]=true:=(pre_splitW hpre).1;have hc:l.pre.holds [] {args:=args}=true:=(pre_splitW hpre).2;obtain⟨d,r,rfl,h1,h2⟩:=hasAllW_cons hsh;obtain rfl:=hasAllW_nil h2;obtain⟨xs,rfl,h3⟩:=hasW_list h1;obtain⟨ns,rfl⟩:=items_int h3
 have hlen:ns.length<=n:=by
  unfold OpenLaw.pre at hc
  have h4:(WTm.not (.lt (.lit (.int (n:Int))) (.len (.arg 0)))).holds [] {args:=[.list (ns.map .int)]}=true:=by
   have h4:=(holds_andW hc).1;rw[hn]at h4;exact h4
  have h5:=condW_of h4 (w_not (w_lt w_lit (w_len_list (w_arg rfl))));rw[OO]at h5;refine Nat.le_of_not_lt fun q=>?_;have q':(n:Int)<((ns.length:Nat):Int):=by omega
  first
   |(rw[Pw q']at h5;exact absurd h5 (by decide))
   |(simp at h5;omega)
 cases hwl with
 |cons w1 w2=>
  cases w2;cases w1 with
  |list ho hall=>exact⟨_,_,ns,rfl,rfl,ho,qg ns _ hall,hlen⟩
theorem AJ(l:OpenLaw)(args:List WData):l.row.toRowW.claim.post args (.bool true) args=true:=
 postW_of (r:=l.row.toRowW) (X:=(true == true))
  (show WShape.has [] (.bool true) .bool=true by first|rfl|decide|simp[WShape.has,WShape.arms,WShape.armsAll])
  (show (WTm.eq .res (.lit (.bool true))).value [] {args:=args,res:=some (.bool true),after:=args}=some (.bool (true == true)) from w_eq_bool (w_res rfl) w_lit) rfl
theorem attach_call{l:OpenLaw}{n:Nat}{q:Program}{loose:List Str}{XP:(Str->Option Value)->Heap->Prop}{YP:World->Heap->Prop}{d:DefRec}
  (hn:l.most=some n) (hdf:d.params.defaults=[])
  (call : ∀ (w : World) (s₀ s₁ : Shared) (mg mb : Str -> Option Value) (fa : Addr) (o : Obj) (pm cd doc : Value) (a : Addr) (vs : List Value) (ns : List Int),
   Ground q loose [] XP w s₀ mg mb s₁.heap->YP w s₁.heap ->
   s₁.heap.get? fa=some o->o.data=.func (docDef d.name d.params d.body d.scope pm cd doc)->s₁.heap.CodeRec cd d.name->mg d.name=some (.ref fa) ->
   s₁.heap.get? a=some {cls:=.type "list",data:=.seq vs.toArray}->IntsAre vs ns->ns.length<=n->s₁.gens=#[] ->
   codeAny (model l.prog w) callerA (.call (.ref fa) ⟨[.ref a],[]⟩) (fun r s'=>r=.ok (.ret (.bool true))/\OldK s₁.heap s'.heap/\s'.os=s₁.os/\AllBare s'.gens) s₁) :
  WalkO q loose XP YP l.row.toRowW d [] (fun f vs=>PySem.call f vs):=by
 intro w s₀ s₁ mg mb G Y fa o pm cd doc dV kV ho hd hcd hD hmg hg args vals as hpre hlay hrd hwl hlo;obtain rfl:dV=.none:=Dflts.none hD hdf;obtain rfl:kV=.none:=Dflts.noKw hD;obtain⟨a,vs,ns,rfl,rfl,hobj,hints,hlen⟩:=AG hn hpre hwl;refine enter_call (OA (call w s₀ s₁ mg mb fa o pm cd doc a vs ns G Y ho (fd_plain hd) hcd hmg hobj hints hlen hg) fun r s' hq=>?_);obtain⟨rfl,h2,h3,h4⟩:=hq;exact⟨.inl ⟨.bool true,.bool true,[],rfl,fun _=>rfl,.bool true,AJ l _,fun _=>⟨List.Pairwise.nil,fun _ hm=>(nomatch hm)⟩⟩,h2,h3,h4⟩
section
variable{prog:Program}{w:World}{A:Around}{E:Value->Shared->Prop}{s:Shared}{K:Frag}
end
end Att
namespace L2
open PySem PySem.Spec PyProof.Rows
theorem tG:∀{vs:List Value}{ns:List Int},IntsAre vs ns->ba (ns.map V.int) vs
 |_,_,.nil=>.nil
 |_,_,.cons n t h=>.cons ⟨t,rfl⟩ (tG h)
def EI(H:Hp):Prop:=∀b,H b=none\/∃o xs,H b=some (.frz o (.lst xs))
theorem D1{P:Program}{w:World}{K:W.Frag}{mg mb:Str->Option Value}{CX:vE}{k:Nat}{fa a:Addr}{fd:FuncData}{x:Str}{sp:Sp}{s₁:Shared}{vs:List Value}{ns:List Int}
  (KX:K.In s₁.heap) (hns:s₁.heap.Ns mainGlobals mg) (hb:s₁.heap.Ns builtinsNs mb) (hbb:∀x:Str,x ≠ "__name__" -> mb x=bootBuiltins x) (hlim:s₁.heap.NoLimit) (hg:s₁.gens=#[])
  (ha:s₁.heap.get? a=some {cls:=.type "list",data:=.seq vs.toArray}) (hi:IntsAre vs ns) (hl:ns.length<=sizeLine) (hr:gv k callerA)
  (F:∀base:Heap,K.In base->base.Ns mainGlobals mg->qG P w K mg base CX k fa fd [x] sp) (hbind:∀(s:Shared)(u:Value),BindsTo s fd ⟨[u],[]⟩ [(x,u)])
  (hsp:∀H:Hp,EI H->fT K H a (ns.map V.int)->sp [.ref a] H (fun v _=>v=.bl true) fun _ _ _=>False)
  (hCX:∀H e s',CX [] H s₁ (fun _ _ _=>False) e s'->False) :
  codeAny (model P w) callerA (.call (.ref fa) ⟨[.ref a],[]⟩) (fun r s'=>r=.ok (.ret (.bool true))/\OldK s₁.heap s'.heap/\s'.os=s₁.os/\AllBare s'.gens) s₁:=by
 have rv:=tG hi;have lenV:=hi.length
 have core:∀H:Hp,EI H->fT K H a (ns.map V.int)->om P w H s₁.heap->(∀b,H b≠none->b=a)->(H a≠none->K.lookup a=none) ->
   codeAny (model P w) callerA (.call (.ref fa) ⟨[.ref a],[]⟩) (fun r s'=>r=.ok (.ret (.bool true))/\OldK s₁.heap s'.heap/\s'.os=s₁.os/\AllBare s'.gens) s₁:=by
  intro H hO hS hok hA hK;have base_of:∀{b:Addr}{o:Obj},s₁.heap.get? b=some o->H b=none->(uA s₁.heap H).get? b=some o:=fun e n=>D9 e n
  have noA:∀{b:Addr}{o:Obj}{es:Array DictEntry}{ep:Nat},s₁.heap.get? b=some o->o.data=.dict es ep->H b=none:=fun {b o es ep} e d=>by
   cases q:H b with
   |none=>rfl
   |some u=>
    have e':b=a:=hA b (by rw[q];simp);subst e';rw[ha]at e;cases e;have d':Data.seq vs.toArray _=Data.dict es ep:=d;cases d'
  have nsK:∀{b:Addr}{m:Str->Option Value},s₁.heap.Ns b m->(uA s₁.heap H).Ns b m:=fun {b m} ⟨o,es,ep,e,d,r⟩=>⟨o,es,ep,base_of e (noA e d),d,r⟩
  have hKb:K.In (uA s₁.heap H):=fun b o e=>base_of (KX b o e) (by
   cases q:H b with
   |none=>rfl
   |some u=>
    have e':b=a:=hA b (by rw[q];simp);subst e'
    rw[hK (by rw[q];simp)]at e;cases e)
  have hM:Mod K mg (uA s₁.heap H):=⟨hKb,nsK hns,⟨mb,nsK hb,hbb⟩,let ⟨mc,h1,h2⟩:=hlim;⟨mc,nsK h1,h2⟩⟩;have e0:Ao P w K mg (uA s₁.heap H) callerA [] s₁ H:=⟨rfl,hM,fun b o e=>Gd e,Px (Bc _ _),trivial,fun b hb=>absurd (show b∈([]:List Addr) from hb) (by simp),hok,.of_eq hg⟩;refine OA ((F _ hKb (nsK hns)).run callerA [] s₁ H ⟨[.ref a],[]⟩ [.ref a] [.ref a] _ _ hr e0 (hbind s₁ (.ref a)) (.cons rfl .nil) (hsp H hO hS)) fun r s' h=>?_;cases r with
  |error e=>exact(hCX H e s' h).elim
  |ok fl=>
   cases fl with
   |next=>exact False.elim h
   |brk=>exact False.elim h
   |cont=>exact False.elim h
   |ret u=>
    obtain⟨v,H',os,bare,un,hok',r',q⟩:=h;have q':v=.bl true:=q;subst q';obtain rfl:u=Value.bool true:=r';refine⟨rfl,OldK.of_keep fun b o e=>?_,os,bare⟩;cases q:H b with
    |none=>exact un.keep b o e q (by intro z;exact absurd (show b∈([]:List Addr) from z) (by simp)) (by simp)
    |some u=>
     rcases hO b with z|⟨ob,xs,z⟩
     ·rw[q]at z;cases z
     ·have z2:=un.frzs b ob _ z;obtain⟨e1,_⟩:=hok b _ z;obtain⟨e2,_⟩:=hok' b _ z2;rw[e]at e1;cases e1;exact e2
 cases hk:K.lookup a with
 |some o=>
  have e:=KX a o hk;rw[ha]at e;cases e;refine core (fun _=>none) (fun _=>.inl rfl) (.inr ⟨_,vs.toArray,_,hk,rfl,rfl,rfl,by rw[Ow,lenV];exact hl,by simpa using rv⟩) (fun b u z=>by have z':(none:Option HO)=some u:=z;cases z') (fun b z=>absurd rfl z) fun z=>absurd rfl z
 |none=>
  refine core (fun b=>if b=a then some (.frz {cls:=.type "list",data:=.seq vs.toArray} (.lst (ns.map V.int))) else none) (fun b=>?_) (.inl (.inr ⟨{cls:=.type "list",data:=.seq vs.toArray},NL rfl⟩)) (fun b u z=>?_) (fun b z=>?_) fun _=>hk
  ·by_cases hb : b = a
   ·exact .inr ⟨_,_,NL hb⟩
   ·exact .inl (NM hb)
  ·by_cases hb : b = a
   ·have z':=(NL hb).symm.trans z;cases z';subst hb;exact⟨ha,by rw[OO];exact hl,vs,_,rv,ha⟩
   ·have z':=(NM hb).symm.trans z;cases z'
  ·by_cases hb : b = a
   ·exact hb
   ·exact absurd (NM hb) z
end L2
namespace L2
open PySem PySem.Spec PyProof.Rows
theorem walk_of{l:W.OpenLaw}{n k:Nat}{q:Program}{loose:List Str}{XP:(Str->Option Value)->Heap->Prop}{YP:World->Heap->Prop}{d:DefRec}{K:Params->W.Frag}{CX:World->vE}{sp:World->Sp}{x:Str}
  (hn:l.most=some n) (hn2:n<=sizeLine) (hdf:d.params.defaults=[]) (hr:gv k callerA)
  (hY:∀(w:World)(h:Heap),YP w h->(K w.params).In h)
  (F : ∀ (w : World) (mg : Str -> Option Value) (fa : Addr) (h : Heap), (K w.params).In h -> h.Ns mainGlobals mg -> mg d.name = some (.ref fa) ->
   ∃fd:FuncData,(∀(s:Shared)(u:Value),BindsTo s fd ⟨[u],[]⟩ [(x,u)]) /\
    ∀base:Heap,(K w.params).In base->base.Ns mainGlobals mg->qG l.prog w (K w.params) mg base (CX w) k fa fd [x] (sp w))
  (hsp:∀(w:World)(H:Hp)(a:Addr)(ns:List Int),ns.length<=n->EI H->fT (K w.params) H a (ns.map V.int)->sp w [.ref a] H (fun v _=>v=.bl true) fun _ _ _=>False)
  (hCX:∀(w:World)(H:Hp)(s:Shared)(e:Value)(s':Shared),CX w [] H s (fun _ _ _=>False) e s'->False) :
  W.WalkO q loose XP YP l.row.toRowW d [] (fun f vs=>PySem.call f vs):=by
 refine Att.attach_call hn hdf fun w s₀ s₁ mg mb fa o pm cd doc a vs ns G Y ho hd hcd hmg hobj hints hlen hg=>?_;have KX:=hY w _ Y;obtain⟨fd,hb,hF⟩:=F w mg fa _ KX G.T.g hmg;exact D1 KX G.T.g G.T.b G.T.builtins G.T.nolimit hg hobj hints (NU hlen hn2) hr hF hb (fun H hO hS=>hsp w H a ns hlen hO hS) fun H e s'=>hCX w H s₁ e s'
end L2
namespace L2
open PySem PySem.Spec PyProof.Rows
def fq(s:Stmt):Arguments:=match s with
 |.FunctionDef _ a _ _ _ _ _ _ _ _=>a
 |_=>{posonlyargs:=[],args:=[],vararg:=none,kwonlyargs:=[],kw_defaults:=[],kwarg:=none,defaults:=[]}
def cj(s:Stmt):List Stmt:=match s with
 |.FunctionDef _ _ b _ _ _ _ _ _ _=>b
 |_=>[]
def ar(s:Stmt):Scope:=match s with
 |.FunctionDef _ _ _ _ _ _ sc _ _ _=>sc
 |_=>{kind:=.function,names:=[],isGenerator:=false,isCoroutine:=false}
abbrev xO:vE:=fun _ _ _ _ _ _=>False
abbrev E0:XK:=fun _ _ _=>False
theorem B2{X:Cx}:kf xO X E0:=fun _ _ _ _ _ _ _ h=>h.elim
structure gZ(K:W.Frag)(x qual:Str)(st:Stmt)(f:Addr)(fd:FuncData):Prop where
 ex:∃(oc:Value)(od:Option Addr)(kV doc pm:Value)(an:Option Addr)(cdv ct:Value)(osl:Array (Option Value)),
  fd=W.fnOf x qual (fq st) (cj st) (ar st) .none kV doc pm an cdv ct/\K.lookup f=some ⟨oc,od,.func fd,osl⟩/\W.codeIn K cdv qual=true
 kp:W.keepIn K (.ref f)=true
section
variable{P:Program}{w:World}{K:W.Frag}{mg:Str->Option Value}{base:Heap}
theorem gZ.ok{x qual:Str}{st:Stmt}{f:Addr}{fd:FuncData}{N ps:List Str}{k:Nat}{sp:Sp}(F:gZ K x qual st f fd)(S:aR N ps (ar st))(len:∀vs H Q E,sp vs H Q E->vs.length=ps.length)
  (hbody : ∀ (cdv : Value) (A : Around) (outer : List Env) (s : Shared) (H : Hp) (vs : List V) (Q : VK) (E : XK), gv k (A.deeper (envOfC qual (ar st) s.heap.objs.size f cdv)) -> sp vs H Q E ->
   ∃t,j7 (qE xO P w K mg base N qual (ar st) f cdv A outer s H E).nox (cj st) t/\t {nx:=fun _ H'=>Q .non H',rt:=Q} (start N vs) H):qG P w K mg base xO (k+1) f fd ps sp:=by
 obtain⟨oc,od,kV,doc,pm,an,cdv,ct,osl,rfl,lk,hcd⟩:=F.ex;refine Hm lk hcd S len fun A outer s H vs Q E hr hsp=>?_;obtain⟨t,h,q⟩:=hbody cdv A outer s H vs Q E hr hsp;exact⟨t,h.nox,q⟩
theorem gZ.binds{x qual:Str}{st:Stmt}{f:Addr}{fd:FuncData}{ps:List Str}(F:gZ K x qual st f fd)
  (h:∀(kV doc pm:Value)(an:Option Addr)(cdv ct:Value)(us:List Value),us.length=ps.length->bindArgs (W.fnOf x qual (fq st) (cj st) (ar st) .none kV doc pm an cdv ct) ⟨us,[]⟩=pure (ps.zip us)):iu K fd ps []:=by
 obtain⟨oc,od,kV,doc,pm,an,cdv,ct,osl,rfl,lk,hcd⟩:=F.ex;exact .all (h kV doc pm an cdv ct)
theorem J2{x qual:Str}{st:Stmt}{f:Addr}{oc:Value}{od an:Option Addr}{osl:Array (Option Value)}{kV doc pm cdv ct:Value}(l:K.lookup f=some ⟨oc,od,.func (W.fnOf x qual (fq st) (cj st) (ar st) .none kV doc pm an cdv ct),osl⟩)
  (c:W.codeIn K cdv qual=true) (k:W.keepIn K (.ref f)=true):gZ K x qual st f (W.fnOf x qual (fq st) (cj st) (ar st) .none kV doc pm an cdv ct):=⟨⟨oc,od,kV,doc,pm,an,cdv,ct,osl,rfl,l,c⟩,k⟩
end
section
variable{X:Cx}
end
theorem KY{A B:Prop}(h:B):if false=true then A else B:=by
 rw[NM Ou];exact h
theorem KW{A B:Prop}(h:A):if true=true then A else B:=by
 rw[NL rfl];exact h
end L2
namespace Lw
open PySem PySem.Spec PyProof.Rows L2
def top(i:Nat):Stmt:=PySem.Challenge.pw_rootwebs_k40_stars_looked_at.main.body.getD i (.Pass ⟨0,0,0,0⟩)
abbrev jA:Stmt:=top 11
abbrev fv:Stmt:=top 12
abbrev jB:Stmt:=top 13
abbrev gK:Stmt:=top 14
abbrev gJ:Stmt:=top 15
abbrev dr:Stmt:=top 16
abbrev kr:Stmt:=top 19
abbrev kq:Stmt:=top 20
abbrev jS:Stmt:=top 21
abbrev gM:Stmt:=top 22
abbrev dD:Stmt:=top 23
abbrev ko:Stmt:=top 24
abbrev jn:Stmt:=top 27
abbrev eC:Stmt:=top 26
abbrev gL:Stmt:=top 28
abbrev iA:Stmt:=top 29
abbrev jT:Stmt:=top 30
abbrev gI:Stmt:=top 31
abbrev fY:Stmt:=top 33
abbrev iY:Stmt:=top 34
abbrev gP:Stmt:=top 35
abbrev iZ:Stmt:=top 36
abbrev ij:Stmt:=top 37
abbrev fX:Stmt:=top 38
abbrev eZ:Stmt:=top 39
abbrev c8:Stmt:=top 40
abbrev d5:Stmt:=top 41
abbrev dE:Stmt:=top 42
abbrev d6:Stmt:=top 43
abbrev cS:Stmt:=top 44
abbrev gN:Stmt:=top 45
abbrev i3:Stmt:=top 46
abbrev bX:Stmt:=top 47
abbrev cy:Stmt:=top 48
abbrev dF:Stmt:=top 49
abbrev fW:Stmt:=top 50
abbrev eD:Stmt:=top 51
abbrev jH:Stmt:=top 52
def en(P:Params)(n:Str)(t:Tok)(v:Value):DictEntry:=⟨PyData.keyHash P n,.str n t,v⟩
def fo (n:Str) (st:Stmt) (m:Str) (t:Tok) (c:Addr):Obj:=⟨.type "function",none,.func (W.fnOf n n (fq st) (cj st) (ar st) .none .none .none (.str m t) none (.ref c) .none),#[]⟩
def co (n:Str) (t:Tok) (l k i:Int) (a:Addr) (p:Bool) (u:Nat):Obj:=⟨.type "code",none,.fields #[.str n t,.str n (t+1),.str "/claim/cut.py" (t+2),.int l 0,.int k 0,.int 0 0,.int 0 0,.int 3 0,.ref a,.bool true,.int i 0,.ref (a+1),.none,bif p then .ref (a+2) else .none,bif p then .ref (a+3) else .none,.ref (bif p then a+4 else a+2),.int u 0,.int l 0,.str "/claim/cut.py" (u+1)],#[]⟩
def Kz (P:Params):W.Frag:=[(3,⟨.type "dict",none,.dict #[en P "__name__" 165 (.str "law_rootwebs_k40_stars_looked_at" 496),en P "__doc__" 166 .none,en P "__package__" 167 .none,en P "__loader__" 168 (.builtin "__main__.__loader__#opaque"),en P "__spec__" 169 .none,en P "__annotations__" 170 (.ref 6),en P "__builtins__" 171 (.ref 4),en P "__file__" 173 (.str "/claim/cut.py" 172),en P "__cached__" 174 .none,en P "RootError" 206 (.ref 24),en P "NoPlace" 222 (.ref 37),en P "NoNumber" 238 (.ref 49),en P "NoLine" 254 (.ref 61),en P "NoRoot" 270 (.ref 73),en P "NoTree" 286 (.ref 85),en P "NoWeb" 311 (.ref 104),en P "NoText" 336 (.ref 123),en P "TooGreat" 363 (.ref 142),en P "is_whole" 372 (.ref 151),en P "is_whole_from" 381 (.ref 158),en P "is_place" 389 (.ref 165),en P "is_places" 395 (.ref 170),en P "is_rising" 401 (.ref 175),en P "is_rising_places" 409 (.ref 182),en P "MOST_PLACES" 413 (.int 6 412),en P "is_many" 420 (.ref 189),en P "is_pair" 428 (.ref 196),en P "web_of" 434 (.ref 201),en P "check_place" 442 (.ref 208),en P "next_places" 448 (.ref 213),en P "star_of" 456 (.ref 220),en P "stars_good" 464 (.ref 225),en P "is_even" 470 (.ref 230),en P "check_stars" 477 (.ref 237),en P "stars_of" 483 (.ref 242),en P "web_by" 489 (.ref 247),en P "joined_by" 495 (.ref 252),en P "_law_cell_at" 505 (.ref 259),en P "_law_next" 512 (.ref 266),en P "_law_pen_of" 520 (.ref 273),en P "_law_draw" 529 (.ref 280),en P "_law_whole" 536 (.ref 287),en P "_law_kind_of" 544 (.ref 294),en P "_law_web_of" 550 (.ref 299),en P "_law_drawn_web" 556 (.ref 304),en P "_law_near_of" 562 (.ref 309),en P "_law_two_step" 568 (.ref 314),en P "_law_any_web" 574 (.ref 319),en P "_law_tuples_are" 580 (.ref 324),en P "_law_web_is" 588 (.ref 331),en P "_law_bent" 603 (.ref 338),en P "_law_stars_like" 609 (.ref 343),en P "_law_stars_of_of" 615 (.ref 348),en P "_law_together" 621 (.ref 353),en P "_law_told_of" 630 (.ref 360),en P "_law_right" 636 (.ref 365),en P "law" 642 (.ref 370)] 57,#[]⟩),
 (23,⟨.type "dict",none,.dict #[en P "__module__" 196 (.str "rootwebs.errors" 187),en P "__firstlineno__" 200 (.int 2 199),en P "__static_attributes__" 201 (.ref 22),en P "__weakref__" 203 (.ref 25),en P "__doc__" 204 .none] 3,#[]⟩),
 (24,⟨.type "type",none,.cls ⟨"RootError",[(.type "ValueError")],[(.ref 24),(.type "ValueError"),(.type "Exception"),(.type "BaseException"),(.type "object")],23, "RootError",true,[],[(.ref 37),(.ref 49),(.ref 61),(.ref 73),(.ref 85),(.ref 104),(.ref 123),(.ref 142)],false,none,false⟩,#[some (.ref 15),none,some (.str "RootError" 189),some (.str "RootError" 197),some (.builtin "ValueError.__new__"),some (.bool true)]⟩),
 (36,⟨.type "dict",none,.dict #[en P "__module__" 214 (.str "rootwebs.errors" 187),en P "__firstlineno__" 218 (.int 4 217),en P "__static_attributes__" 219 (.ref 35),en P "__doc__" 220 .none] 2,#[]⟩),
 (37,⟨.type "type",none,.cls ⟨"NoPlace",[(.ref 24)],[(.ref 37),(.ref 24),(.type "ValueError"),(.type "Exception"),(.type "BaseException"),(.type "object")],36, "NoPlace",true,[],[],false,none,false⟩,#[some (.ref 28),none,some (.str "NoPlace" 207),some (.str "NoPlace" 215),some (.builtin "ValueError.__new__"),some (.bool true)]⟩),
 (48,⟨.type "dict",none,.dict #[en P "__module__" 230 (.str "rootwebs.errors" 187),en P "__firstlineno__" 234 (.int 6 233),en P "__static_attributes__" 235 (.ref 47),en P "__doc__" 236 .none] 2,#[]⟩),
 (49,⟨.type "type",none,.cls ⟨"NoNumber",[(.ref 24)],[(.ref 49),(.ref 24),(.type "ValueError"),(.type "Exception"),(.type "BaseException"),(.type "object")],48, "NoNumber",true,[],[],false,none,false⟩,#[some (.ref 40),none,some (.str "NoNumber" 223),some (.str "NoNumber" 231),some (.builtin "ValueError.__new__"),some (.bool true)]⟩),
 (60,⟨.type "dict",none,.dict #[en P "__module__" 246 (.str "rootwebs.errors" 187),en P "__firstlineno__" 250 (.int 8 249),en P "__static_attributes__" 251 (.ref 59),en P "__doc__" 252 .none] 2,#[]⟩),
 (61,⟨.type "type",none,.cls ⟨"NoLine",[(.ref 24)],[(.ref 61),(.ref 24),(.type "ValueError"),(.type "Exception"),(.type "BaseException"),(.type "object")],60, "NoLine",true,[],[],false,none,false⟩,#[some (.ref 52),none,some (.str "NoLine" 239),some (.str "NoLine" 247),some (.builtin "ValueError.__new__"),some (.bool true)]⟩),
 (72,⟨.type "dict",none,.dict #[en P "__module__" 262 (.str "rootwebs.errors" 187),en P "__firstlineno__" 266 (.int 10 265),en P "__static_attributes__" 267 (.ref 71),en P "__doc__" 268 .none] 2,#[]⟩),
 (73,⟨.type "type",none,.cls ⟨"NoRoot",[(.ref 24)],[(.ref 73),(.ref 24),(.type "ValueError"),(.type "Exception"),(.type "BaseException"),(.type "object")],72, "NoRoot",true,[],[],false,none,false⟩,#[some (.ref 64),none,some (.str "NoRoot" 255),some (.str "NoRoot" 263),some (.builtin "ValueError.__new__"),some (.bool true)]⟩),
 (84,⟨.type "dict",none,.dict #[en P "__module__" 278 (.str "rootwebs.errors" 187),en P "__firstlineno__" 282 (.int 12 281),en P "__static_attributes__" 283 (.ref 83),en P "__doc__" 284 .none] 2,#[]⟩),
 (85,⟨.type "type",none,.cls ⟨"NoTree",[(.ref 24)],[(.ref 85),(.ref 24),(.type "ValueError"),(.type "Exception"),(.type "BaseException"),(.type "object")],84, "NoTree",true,[],[],false,none,false⟩,#[some (.ref 76),none,some (.str "NoTree" 271),some (.str "NoTree" 279),some (.builtin "ValueError.__new__"),some (.bool true)]⟩),
 (103,⟨.type "dict",none,.dict #[en P "__module__" 294 (.str "rootwebs.errors" 187),en P "__firstlineno__" 298 (.int 14 297),en P "__init__" 306 (.ref 101),en P "__static_attributes__" 308 (.ref 102),en P "__doc__" 309 .none] 2,#[]⟩),
 (104,⟨.type "type",none,.cls ⟨"NoWeb",[(.ref 24)],[(.ref 104),(.ref 24),(.type "ValueError"),(.type "Exception"),(.type "BaseException"),(.type "object")],103, "NoWeb",true,[],[],false,none,false⟩,#[some (.ref 88),none,some (.str "NoWeb" 287),some (.str "NoWeb" 295),some (.builtin "ValueError.__new__"),some (.bool true)]⟩),
 (122,⟨.type "dict",none,.dict #[en P "__module__" 319 (.str "rootwebs.errors" 187),en P "__firstlineno__" 323 (.int 18 322),en P "__init__" 331 (.ref 120),en P "__static_attributes__" 333 (.ref 121),en P "__doc__" 334 .none] 2,#[]⟩),
 (123,⟨.type "type",none,.cls ⟨"NoText",[(.ref 24)],[(.ref 123),(.ref 24),(.type "ValueError"),(.type "Exception"),(.type "BaseException"),(.type "object")],122, "NoText",true,[],[],false,none,false⟩,#[some (.ref 107),none,some (.str "NoText" 312),some (.str "NoText" 320),some (.builtin "ValueError.__new__"),some (.bool true)]⟩),
 (141,⟨.type "dict",none,.dict #[en P "__module__" 344 (.str "rootwebs.errors" 187),en P "__firstlineno__" 348 (.int 22 347),en P "__init__" 357 (.ref 139),en P "__static_attributes__" 360 (.ref 140),en P "__doc__" 361 .none] 2,#[]⟩),
 (142,⟨.type "type",none,.cls ⟨"TooGreat",[(.ref 24)],[(.ref 142),(.ref 24),(.type "ValueError"),(.type "Exception"),(.type "BaseException"),(.type "object")],141, "TooGreat",true,[],[],false,none,false⟩,#[some (.ref 126),none,some (.str "TooGreat" 337),some (.str "TooGreat" 345),some (.builtin "ValueError.__new__"),some (.bool true)]⟩),
 (150,co "is_whole" 366 28 1 181 145 true 370),
 (151,fo "is_whole" jA "rootwebs.kinds" 364 150),
 (157,co "is_whole_from" 373 30 3 181 152 true 379),
 (158,fo "is_whole_from" fv "rootwebs.kinds" 364 157),
 (164,co "is_place" 382 32 2 181 159 true 387),
 (165,fo "is_place" jB "rootwebs.kinds" 364 164),
 (169,co "is_places" 390 34 2 181 166 false 393),
 (170,fo "is_places" gK "rootwebs.kinds" 364 169),
 (174,co "is_rising" 396 36 1 181 171 false 399),
 (175,fo "is_rising" gJ "rootwebs.kinds" 364 174),
 (181,co "is_rising_places" 402 38 2 181 176 true 407),
 (182,fo "is_rising_places" dr "rootwebs.kinds" 364 181),
 (188,co "is_many" 414 42 1 181 183 true 418),
 (189,fo "is_many" kr "rootwebs.webs" 410 188),
 (195,co "is_pair" 421 44 2 181 190 true 426),
 (196,fo "is_pair" kq "rootwebs.webs" 410 195),
 (200,co "web_of" 429 46 2 181 197 false 432),
 (201,fo "web_of" jS "rootwebs.webs" 410 200),
 (207,co "check_place" 435 53 2 181 202 true 440),
 (208,fo "check_place" gM "rootwebs.webs" 410 207),
 (212,co "next_places" 443 56 2 181 209 false 446),
 (213,fo "next_places" dD "rootwebs.webs" 410 212),
 (219,co "star_of" 449 58 2 181 214 true 454),
 (220,fo "star_of" ko "rootwebs.webs" 410 219),
 (224,co "stars_good" 459 62 1 181 221 false 462),
 (225,fo "stars_good" eC "rootwebs.stars" 457 224),
 (229,co "is_even" 465 69 2 181 226 false 468),
 (230,fo "is_even" jn "rootwebs.stars" 457 229),
 (236,co "check_stars" 471 72 1 181 231 true 475),
 (237,fo "check_stars" gL "rootwebs.stars" 457 236),
 (241,co "stars_of" 478 75 1 181 238 false 481),
 (242,fo "stars_of" iA "rootwebs.stars" 457 241),
 (246,co "web_by" 484 77 1 181 243 false 487),
 (247,fo "web_by" jT "rootwebs.stars" 457 246),
 (251,co "joined_by" 490 80 1 181 248 false 493),
 (252,fo "joined_by" gI "rootwebs.stars" 457 251),
 (258,co "_law_cell_at" 498 84 2 181 253 true 503),
 (259,fo "_law_cell_at" fY "law_rootwebs_k40_stars_looked_at" 496 258),
 (265,co "_law_next" 506 88 1 181 260 true 510),
 (266,fo "_law_next" iY "law_rootwebs_k40_stars_looked_at" 496 265),
 (272,co "_law_pen_of" 513 91 1 181 267 true 518),
 (273,fo "_law_pen_of" gP "law_rootwebs_k40_stars_looked_at" 496 272),
 (279,co "_law_draw" 521 94 2 181 274 true 527),
 (280,fo "_law_draw" iZ "law_rootwebs_k40_stars_looked_at" 496 279),
 (286,co "_law_whole" 530 101 1 181 281 true 534),
 (287,fo "_law_whole" ij "law_rootwebs_k40_stars_looked_at" 496 286),
 (293,co "_law_kind_of" 537 103 1 181 288 true 542),
 (294,fo "_law_kind_of" fX "law_rootwebs_k40_stars_looked_at" 496 293),
 (298,co "_law_web_of" 545 109 2 181 295 false 548),
 (299,fo "_law_web_of" eZ "law_rootwebs_k40_stars_looked_at" 496 298),
 (303,co "_law_drawn_web" 551 111 2 181 300 false 554),
 (304,fo "_law_drawn_web" c8 "law_rootwebs_k40_stars_looked_at" 496 303),
 (308,co "_law_near_of" 557 118 2 181 305 false 560),
 (309,fo "_law_near_of" d5 "law_rootwebs_k40_stars_looked_at" 496 308),
 (313,co "_law_two_step" 563 120 1 181 310 false 566),
 (314,fo "_law_two_step" dE "law_rootwebs_k40_stars_looked_at" 496 313),
 (318,co "_law_any_web" 569 127 2 181 315 false 572),
 (319,fo "_law_any_web" d6 "law_rootwebs_k40_stars_looked_at" 496 318),
 (323,co "_law_tuples_are" 575 141 2 181 320 false 578),
 (324,fo "_law_tuples_are" cS "law_rootwebs_k40_stars_looked_at" 496 323),
 (330,co "_law_web_is" 581 145 2 181 325 true 586),
 (331,fo "_law_web_is" gN "law_rootwebs_k40_stars_looked_at" 496 330),
 (337,co "_law_bent" 589 149 2 181 332 true 601),
 (338,fo "_law_bent" i3 "law_rootwebs_k40_stars_looked_at" 496 337),
 (342,co "_law_stars_like" 604 159 1 181 339 false 607),
 (343,fo "_law_stars_like" bX "law_rootwebs_k40_stars_looked_at" 496 342),
 (347,co "_law_stars_of_of" 610 172 1 181 344 false 613),
 (348,fo "_law_stars_of_of" cy "law_rootwebs_k40_stars_looked_at" 496 347),
 (352,co "_law_together" 616 174 1 181 349 false 619),
 (353,fo "_law_together" dF "law_rootwebs_k40_stars_looked_at" 496 352),
 (359,co "_law_told_of" 622 180 2 181 354 true 628),
 (360,fo "_law_told_of" fW "law_rootwebs_k40_stars_looked_at" 496 359),
 (364,co "_law_right" 631 185 1 181 361 false 634),
 (365,fo "_law_right" eD "law_rootwebs_k40_stars_looked_at" 496 364),
 (369,co "law" 637 198 1 181 366 false 640),
 (370,fo "law" jH "law_rootwebs_k40_stars_looked_at" 496 369)]
def Qz:Program:=W.view PySem.Challenge.pw_rootwebs_k40_stars_looked_at [1,2,3,4,5,6,7,8,9,11,12,13,14,15,16,18,19,20,21,22,23,24,26,27,28,29,30,31,33,34,35,36,37,38,39,40,41,42,43,44,45,46,47,48,49,50,51,52]
noncomputable abbrev Hz:W.Hook:=W.kHook Kz [3,23,24,36,37,48,49,60,61,72,73,84,85,103,104,122,123,141,142,150,151,157,158,164,165,169,170,174,175,181,182,188,189,195,196,200,201,207,208,212,213,219,220,224,225,229,230,236,237,241,242,246,247,251,252,258,259,265,266,272,273,279,280,286,287,293,294,298,299,303,304,308,309,313,314,318,319,323,324,330,331,337,338,342,343,347,348,352,353,359,360,364,365,369,370] fun _=>by kernel_rfl
theorem HP:PySem.Challenge.rw_rootwebs_k40_stars_looked_at.wellSaid=true:=by kernel_rfl
noncomputable abbrev Xz(s:Shared):Bool:=W.xlAt Qz [] s&&W.recOk (W.RowW.records (W.OpenRow.toRowW (W.OpenLaw.row PySem.Challenge.rw_rootwebs_k40_stars_looked_at))) s
theorem yp{σ α β γ δ ε:Type _}{o:Option σ}(F:σ->α×β×γ×δ)(G:σ->ε)(g:α×β×γ×δ)(v:ε)
  (h1:o.map (fun s=>(F s).1)=some g.1) (h2:o.map (fun s=>((F s).2.1,(F s).2.2.1))=some (g.2.1,g.2.2.1)) (h3:o.map (fun s=>(F s).2.2.2)=some g.2.2.2)
  (h4:o.map G=some v):o.map (fun s=>(F s,G s))=some (g,v):=by
 cases o with
 |none=>cases h4
 |some s=>
  have e1:(F s).1=g.1:=NN h1;have e2:((F s).2.1,(F s).2.2.1)=(g.2.1,g.2.2.1):=NN h2;have e3:(F s).2.2.2=g.2.2.2:=NN h3;have e4:G s=v:=NN h4;have e5:(F s).2.1=g.2.1:=(Prod.mk.inj e2).1;have e6:(F s).2.2.1=g.2.2.1:=(Prod.mk.inj e2).2;have e:F s=g:=Prod.ext e1 (Prod.ext e5 (Prod.ext e6 e3));show some (F s,G s)=some (g,v);rw[e,e4]
noncomputable abbrev Oz(w:World):=W.openEnds PySem.treeTable PySem.Challenge.rw_rootwebs_k40_stars_looked_at.row.prog w 6340
noncomputable abbrev Sz:=W.openSeen Qz [] (PySem.importedModules PySem.Challenge.rw_rootwebs_k40_stars_looked_at.row.prog.main.body) Xz true
noncomputable abbrev Tz:=W.openGood Qz []
theorem ES:∀w,(Oz w).map (fun s=>(Sz s).1)=some Tz.1:=fun w=>by kernel_rfl
theorem ER:∀w,(Oz w).map (fun s=>((Sz s).2.1,(Sz s).2.2.1))=some (Tz.2.1,Tz.2.2.1):=fun w=>by kernel_rfl
theorem EO:∀w,(Oz w).map (fun s=>(Sz s).2.2.2)=some Tz.2.2.2:=fun w=>by kernel_rfl
theorem EN:∀w,(Oz w).map (W.Hook.obs Hz)=some (W.Hook.val Hz w):=fun w=>by kernel_rfl
theorem HQ:W.LeftO PySem.Challenge.rw_rootwebs_k40_stars_looked_at.row.prog Qz [] Xz (W.Hook.obs Hz) (W.Hook.val Hz) 6340:=fun w=>yp Sz (W.Hook.obs Hz) Tz (W.Hook.val Hz w) (ES w) (ER w) (EO w) (EN w)
end Lw
namespace L2
open PySem PySem.Spec PyProof.Rows
theorem fZ{x:Str}:∀{names:List (Str×NameKind)}{k:NameKind},names.lookup x=some k->(x,k)∈names
 |[],_,h=>by simp at h
 |(n,j)::r,k,h=>by
  rw[Py]at h;cases hx:x == n with
  |true=>
   rw[hx]at h;have e:x=n:=eq_of_beq hx;cases h;rw[e];exact NX
  |false=>rw[hx]at h;exact NY _ (fZ h)
theorem jq{env:Env}{x:Str}:∀{names:List (Str×NameKind)},
  (names.map fun (n, k) => if (k == NameKind.free && env.scope.kind == .function && env.kindOf n == some .cell) then (n, NameKind.cell) else (n, k)).lookup x =
   (names.lookup x).map fun k=>if (k == NameKind.free&&env.scope.kind == .function&&env.kindOf x == some .cell) then NameKind.cell else k
 |[]=>rfl
 |(n,k)::r=>by
  have ih:=jq (env:=env) (x:=x) (names:=r);rw[Pe];show List.lookup x ((if (k == NameKind.free&&env.scope.kind == .function&&env.kindOf n == some .cell)=true then (n,NameKind.cell) else (n,k))::_)=_;cases hx:x == n with
  |true=>
   have e:x=n:=eq_of_beq hx;subst e;by_cases hc:(k == NameKind.free&&env.scope.kind == .function&&env.kindOf x == some .cell)=true
   ·rw[NL hc,Py,hx,Py,hx];show some NameKind.cell=some (if _ then _ else _);rw[NL hc]
   ·rw[NM hc,Py,hx,Py,hx];show some k=some (if _ then _ else _);rw[NM hc]
  |false=>
   by_cases hc:(k == NameKind.free&&env.scope.kind == .function&&env.kindOf n == some .cell)=true
   ·rw[NL hc,Py,hx,Py,hx];exact ih
   ·rw[NM hc,Py,hx,Py,hx];exact ih
theorem mX{env:Env}{f:Str×NameKind->List (Str×Addr)->Sem (ForInStep (List (Str×Addr)))}
  (h1:∀n c acc,env.cells.lookup n=some c->f (n,.free) acc=pure (.yield ((n,c)::acc))) (h2:∀n k acc,k≠.free->f (n,k) acc=pure (.yield acc)) :
  ∀(names:List (Str×NameKind))(acc:List (Str×Addr)),(∀y∈names,y.2=.free->∃c,env.cells.lookup y.1=some c)->(∀x c,acc.lookup x=some c->env.cells.lookup x=some c) ->
   ∃cl,forIn names acc f=(pure cl:Sem (List (Str×Addr)))/\(∀x c,cl.lookup x=some c->env.cells.lookup x=some c)/\(∀x,(acc.lookup x).isSome=true->(cl.lookup x).isSome=true)/\(∀y∈names,y.2=.free->(cl.lookup y.1).isSome=true)
 |[],acc,_,ha=>⟨acc,rfl,ha,fun _ h=>h,fun y hy=>by simp at hy⟩
 |(n,k)::r,acc,hn,ha=>by
  by_cases hk:k=.free
  ·subst hk;obtain⟨c,hc⟩:=hn (n,.free) NX rfl
   obtain⟨cl,e1,e2,e3,e4⟩:=mX h1 h2 r ((n,c)::acc) (fun y hy=>hn y (NY _ hy)) (fun x d h=>by
    rw[Py]at h;cases hx:x == n with
    |true=>rw[hx]at h;cases h;rw[eq_of_beq hx];exact hc
    |false=>rw[hx]at h;exact ha x d h)
   refine⟨cl,?_,e2,fun x h=>e3 x ?_,fun y hy hf=>?_⟩
   ·rw[List.forIn_cons,h1 n c acc hc];exact e1
   ·rw[Py];cases hx:x == n <;> simp[h]
   ·rcases NZ.mp hy with z | z
    ·subst z;exact e3 n (by simp[Py])
    ·exact e4 y z hf
  ·obtain ⟨cl, e1, e2, e3, e4⟩ := mX h1 h2 r acc (fun y hy => hn y (NY _ hy)) ha;refine⟨cl,?_,e2,e3,fun y hy hf=>?_⟩
   ·rw[List.forIn_cons,h2 n k acc hk];exact e1
   ·rcases NZ.mp hy with z | z
    ·subst z;exact absurd hf hk
    ·exact e4 y z hf
theorem xG{env:Env}{n:Str}{c:Addr}(h:env.cells.lookup n=some c):cellOf env n=pure c:=by
 unfold cellOf;rw[h]
def zi(env:Env)(x:Str×NameKind)(r:List (Str×Addr)):Sem (ForInStep (List (Str×Addr))):=
 match x with|(name,kind)=>if kind == .free then do let c <- cellOf env name;pure (.yield ((name,c)::r)) else pure (.yield r)
theorem yU{scope:Scope}{env:Env}(hn:∀y∈scope.names,y.2=.free->∃c,env.cells.lookup y.1=some c) :
  ∃cl,closureFor scope env=pure cl/\(∀x c,cl.lookup x=some c->env.cells.lookup x=some c)/\(∀y∈scope.names,y.2=.free->(cl.lookup y.1).isSome=true):=by
 obtain⟨cl,e1,e2,_,e4⟩:=mX (env:=env) (f:=zi env)
  (fun n c acc h=>by unfold zi;simp only[Pz,OX];rw[xG h];rfl)
  (fun n k acc h => by
   unfold zi;have:(k == NameKind.free)=false:=by simpa using h
   simp only[this,PB,OW]) scope.names [] hn (fun x c h=>by simp at h)
 refine⟨cl,?_,e2,e4⟩;show (forIn scope.names [] (zi env) >>= fun s=>pure s)=pure cl;rw[e1];rfl
def i6(X:Cx)(Nc:List Str)(scope:Scope)(cl:List (Str×Addr))(C:Addr)(s:Shared)(H:Hp)(fp:List Addr):Cx where
 prog:=X.prog
 w:=X.w
 K:=X.K
 mg:=X.mg
 base:=X.base
 A:=X.A
 N:=Nc
 s₀:=s
 H₀:=H
 env:=compEnvC scope (cellsFrom (C+1) scope.names cl) C X.env
 outer:=X.stack
 stack:=X.stack
 ex:=fp
 fn:=fun x=>scope.names.lookup x == some .cell
 calm:=X.calm
 pn:=[]
 xe:=fun _ _=>False
def qO(cap:List (Option Nat))(σ:St):St:=cap.map fun o=>o.bind fun j=>(σ[j]?).join
def g9(N:List Str)(env:Env)(scope:Scope):List Str->List (Option Nat)->Bool
 |[],[]=>true
 |_::Nc,none::cap=>g9 N env scope Nc cap
 |x::Nc,some j::cap=>(N[j]? == some x)&&(scope.names.lookup x == some .free)&&g9 N env scope Nc cap
 |_,_=>false
theorem oW{N:List Str}{env:Env}{scope:Scope}:∀{Nc:List Str}{cap:List (Option Nat)},g9 N env scope Nc cap=true->cap.length=Nc.length
 |[],[],_=>rfl
 |[],_::_,h=>by simp[g9]at h
 |_::_,[],h=>by simp[g9]at h
 |_::Nc,none::cap,h=>by rw[PD,PD,oW (Nc:=Nc) (cap:=cap) h]
 |x::Nc,some j::cap,h=>by
  have h':g9 N env scope Nc cap=true:=by unfold g9 at h;simp only[Pb]at h;exact h.2
  rw[PD,PD,oW h']
theorem rF{N:List Str}{env:Env}{scope:Scope}:∀{Nc:List Str}{cap:List (Option Nat)}{i j:Nat}{x:Str},g9 N env scope Nc cap=true->cap[i]?=some (some j)->Nc[i]?=some x->N[j]?=some x/\scope.names.lookup x=some .free
 |[],_,_,_,_,_,_,e=>by simp at e
 |_::_,[],_,_,_,h,_,_=>by simp[g9]at h
 |y::Nc,none::cap,0,j,x,h,e,_=>by simp at e
 |y::Nc,some k::cap,0,j,x,h,e,e2=>by
  simp at e e2;subst e;subst e2;unfold g9 at h;simp only[Pb]at h;exact⟨eq_of_beq h.1.1,eq_of_beq h.1.2⟩
 |y::Nc,none::cap,i+1,j,x,h,e,e2=>rF (Nc:=Nc) (cap:=cap) (i:=i) h (by simpa using e) (by simpa using e2)
 |y::Nc,some k::cap,i+1,j,x,h,e,e2=>by
  have h':g9 N env scope Nc cap=true:=by unfold g9 at h;simp only[Pb]at h;exact h.2
  exact rF (Nc:=Nc) (cap:=cap) (i:=i) h' (by simpa using e) (by simpa using e2)
structure bF(N:List Str)(env:Env)(scope:Scope)(Nc:List Str)(cap:List (Option Nat)):Prop where
 kind:scope.kind=.function
 nd:∀y∈scope.names,scope.names.lookup y.1=some y.2
 free:∀y∈scope.names,y.2=.free->env.kindOf y.1=some .cell\/env.kindOf y.1=some .free
 cap:g9 N env scope Nc cap=true
theorem ma{n0:Nat}{x:Str}{c:Addr}:∀{names:List (Str×NameKind)}{cl:List (Str×Addr)}{n:Nat},n0<=n->((x,NameKind.cell)∈names\/∃c',cl.lookup x=some c'/\n0<=c')->(cellsFrom n names cl).lookup x=some c->n0<=c
 |[],cl,n,_,h,e=>by
  rcases h with z|⟨c',z1,z2⟩
  ·simp at z
  ·have e':cl.lookup x=some c:=e;rw[z1]at e';cases e';exact z2
 |(y,k)::r,cl,n,hn,h,e=>by
  unfold cellsFrom at e;split at e
  ·rename_i hk;refine ma (n:=n+1) (by omega) ?_ e;cases hx:x == y with
   |true=>exact .inr ⟨n,by rw[Py,hx],hn⟩
   |false=>
    rcases h with z|⟨c',z1,z2⟩
    ·rcases NZ.mp z with q | q
     ·have:x=y:=Oa Prod.fst q;rw[this]at hx;simp at hx
     ·exact .inl q
    ·exact .inr ⟨c',by rw[Py,hx];exact z1,z2⟩
  ·rename_i hk;refine ma hn ?_ e;rcases h with z|z
   ·rcases NZ.mp z with q | q
    ·have:k=.cell:=(Oa Prod.snd q).symm;exact absurd (by rw[this];rfl) hk
    ·exact .inl q
   ·exact .inr z
theorem jX{x:Str}:∀{names:List (Str×NameKind)}{cl:List (Str×Addr)}{n:Nat},(x,NameKind.cell)∉names->(cellsFrom n names cl).lookup x=cl.lookup x
 |[],cl,n,_=>rfl
 |(y,k)::r,cl,n,hn=>by
  unfold cellsFrom;have hr:(x,NameKind.cell)∉r:=fun z=>hn (NY _ z);split
  ·rename_i hk;rw[jX hr,Py];cases hx:x == y with
   |true=>exact absurd (by rw[eq_of_beq hx,(eq_of_beq hk:k=.cell)];exact NX) hn
   |false=>rfl
  ·exact jX hr
theorem oV{n0:Nat}:∀{names:List (Str×NameKind)}{cl:List (Str×Addr)}{n:Nat},n0<=n->(∀x y c,cl.lookup x=some c->cl.lookup y=some c->n0<=c->x=y)->(∀x c,cl.lookup x=some c->c<n) ->
  ∀x y c,(cellsFrom n names cl).lookup x=some c->(cellsFrom n names cl).lookup y=some c->n0<=c->x=y
 |[],cl,n,_,h,_=>h
 |(z,k)::r,cl,n,hn,h,hb=>by
  unfold cellsFrom;split
  ·refine oV (n := n + 1) (by omega) (fun x y c e1 e2 hc => ?_) (fun x c e => ?_)
   ·rw [Py] at e1 e2;cases hx:x == z with
    |true=>
     cases hy:y == z with
     |true=>rw[eq_of_beq hx,eq_of_beq hy]
     |false=>
      rw[hx]at e1;rw[hy]at e2;cases e1;exact absurd (hb y _ e2) (NQ _)
    |false=>
     cases hy:y == z with
     |true=>
      rw[hx]at e1;rw[hy]at e2;cases e2;exact absurd (hb x _ e1) (NQ _)
     |false=>rw[hx]at e1;rw[hy]at e2;exact h x y c e1 e2 hc
   ·rw [Py] at e;cases hx:x == z with
    |true=>rw[hx]at e;cases e;exact PF _
    |false=>rw[hx]at e;exact PH (hb x c e)
  ·exact oV hn h hb
theorem lC{x:Str}{c:Addr}:∀{names:List (Str×NameKind)}{cl:List (Str×Addr)}{h:Heap},(cellsFrom h.objs.size names cl).lookup x=some c->cl.lookup x=some c\/(pushCells h names).IsCell c none
 |[],cl,h,e=>.inl e
 |(y,k)::r,cl,h,e=>by
  unfold cellsFrom at e;unfold pushCells;split at e
  ·rename_i hk;rw[NL hk];have e':(cellsFrom (h.push {cls:=.type "cell",data:=.cell none}).objs.size r ((y,h.objs.size)::cl)).lookup x=some c:=by rw[PJ];exact e
   rcases lC e' with q|q
   ·rw [Py] at q;cases hx:x == y with
    |true=>
     rw[hx]at q;cases q;exact .inr ⟨_,PL _ _ _ _ (Ol _ rfl),rfl⟩
    |false=>rw[hx]at q;exact .inl q
   ·exact .inr q
  ·rename_i hk;rw[NM hk];exact lC e
theorem Ba{X:Cx}{pins:List (Addr×Obj)}{σ:St}{H:Hp}{s:Shared}{h':Heap}{t':Nat}{fp:List Addr}{Nc:List Str}{scope:Scope}{cl:List (Str×Addr)}{cap:List (Option Nat)}
  (I:aV X pins σ H s) (hf:∀b∈fp,nv X pins H b) (hfs:∀b∈fp,b<s.heap.objs.size) (S:bF X.N X.env scope Nc cap)
  (hcl:∀x c,cl.lookup x=some c->X.env.cells.lookup x=some c) (hall:∀y∈scope.names,y.2=.free->(cl.lookup y.1).isSome=true)
  (hn:h'.Ns s.heap.objs.size (fun _=>none)) (hk:∀b o,s.heap.get? b=some o->h'.get? b=some o) (hce:∀x c,(cellsFrom (s.heap.objs.size+1) scope.names cl).lookup x=some c->cl.lookup x=some c\/h'.IsCell c none) :
  aV (i6 X Nc scope cl s.heap.objs.size s H fp) [] (qO cap σ) H {s with heap:=h',toks:=t'}:=by
 have hrl:∀x,(i6 X Nc scope cl s.heap.objs.size s H fp).env.kindOf x=(scope.names.lookup x).map fun k=>if (k == NameKind.free&&X.env.scope.kind == .function&&X.env.kindOf x == some .cell) then NameKind.cell else k:=fun x=>jq
 have hcf:∀x,((i6 X Nc scope cl s.heap.objs.size s H fp).env.kindOf x=some .cell\/(i6 X Nc scope cl s.heap.objs.size s H fp).env.kindOf x=some .free)->scope.names.lookup x=some .free\/scope.names.lookup x=some .cell:=fun x hx=>by
  rw[hrl]at hx;cases e:scope.names.lookup x with
  |none=>rw[e]at hx;rcases hx with z|z <;> cases z
  |some k=>
   rw[e]at hx;by_cases hkf:k=.free
   ·rw[hkf];exact .inl rfl
   ·have : (k == NameKind.free) = false := by simpa using hkf
    simp only[this,Oi,Option.map_some]at hx;rcases hx with z|z
    ·have z' : k = .cell := by simpa using z
     rw[z'];exact .inr rfl
    ·have z' : k = .free := by simpa using z
     exact absurd z' hkf
 have hclx:∀x,scope.names.lookup x=some .free->∃c,cl.lookup x=some c:=fun x e=>OE.mp (hall (x,.free) (fZ e) rfl)
 have hcb:∀x c,cl.lookup x=some c->c<s.heap.objs.size:=fun x c e=>by
  obtain⟨v,q⟩:=I.cell x c (hcl x c e);exact q.lt
 have hcell:∀x c,(cellsFrom (s.heap.objs.size+1) scope.names cl).lookup x=some c->(cl.lookup x=some c/\c<s.heap.objs.size)\/(s.heap.objs.size+1<=c/\h'.IsCell c none):=fun x c e=>by
  by_cases hm:(x,NameKind.cell)∈scope.names
  ·have h1 := ma (Om _) (.inl hm) e;rcases hce x c e with z|z
   ·have:=hcb x c z;exact absurd (NP (PH this) h1) (NQ _)
   ·exact .inr ⟨h1,z⟩
  ·rw[jX hm]at e;exact .inl ⟨e,hcb x c e⟩
 have hinj:∀x y c,(cellsFrom (s.heap.objs.size+1) scope.names cl).lookup x=some c->(cellsFrom (s.heap.objs.size+1) scope.names cl).lookup y=some c->x=y:=fun x y c e1 e2=>by
  rcases hcell x c e1 with⟨a1,a2⟩|⟨a1,a2⟩
  ·rcases hcell y c e2 with ⟨b1, b2⟩ | ⟨b1, b2⟩
   ·exact I.ok.inj x y c (hcl x c a1) (hcl y c b1)
   ·exact absurd (NP (PH a2) b1) (NQ _)
  ·exact oV (Om _) (fun x y c q _ hc=>absurd (NP (PH (hcb x c q)) hc) (NQ _)) (fun x c q=>PH (hcb x c q)) x y c e1 e2 a1
 refine⟨⟨I.ok.mod,S.kind,I.ok.glob,I.ok.blt,Om _,fun x y c e1 e2=>hinj x y c e1 e2,fun x hx=>?_,fun x c e e2=>?_,I.ok.hd,I.ok.frames,.inl rfl,
  fun b hb=>⟨NR (hfs b hb),fun x c e=>?_⟩,I.bs,NU I.ok.bsz I.sz,fun b o e hb=>?_,fun b hb z=>?_,I.stack,I.stkFree⟩,
  rfl,I.bare,Un.kept hk,⟨_,hn,fun i x v e1 e2 e3=>?_⟩,fun x c e=>?_,I.hok.fresh (Om _),fun x c e=>?_,fun p hp=>absurd (show p∈([]:List (Addr×Obj)) from hp) (by simp),I.hok.kept hk,?_⟩
 ·rcases hcf x hx with q | q
  ·by_cases hm : (x, NameKind.cell) ∈ scope.names
   ·rcases OE.mp (W.cellsFrom_some scope.names (s.heap.objs.size + 1) cl (.inl (S.nd (x, .cell) hm))) with ⟨c, e⟩
    exact⟨c,e⟩
   ·obtain⟨c,e⟩:=hclx x q;exact⟨c,(jX hm).trans e⟩
  ·obtain⟨c,e⟩:=OE.mp (W.cellsFrom_some scope.names (s.heap.objs.size+1) cl (.inl q));exact⟨c,e⟩
 ·have hm:(x,NameKind.cell)∈scope.names:=fZ (eq_of_beq (show (scope.names.lookup x == some .cell)=true from e));exact Nat.le_of_succ_le (ma (Om _) (.inl hm) e2)
 ·rcases hcell x c e with ⟨a1, a2⟩ | ⟨a1, a2⟩
  ·exact(hf b hb).2.2.2.2.1 x c (hcl x c a1)
  ·exact fun z=>absurd (NP (PH (hfs b hb)) (by rw[<- z];exact a1)) (NQ _)
 ·rcases (hf b hb).2.2.2.1 with z | z
  ·exact I.ok.noex b o e z
  ·exact absurd (NP (NP (NO e) I.ok.bsz) z) (NQ _)
 ·rcases NZ.mp (I.stkSub b z) with q | q
  ·exact(hf b hb).2.1 q
  ·exact(hf b hb).2.2.1 q
 ·have e2':∃j,cap[i]?=some (some j)/\σ[j]?=some (some v):=by
   unfold qO at e2;rw[OK]at e2;cases hc:cap[i]? with
   |none=>rw[hc]at e2;cases e2
   |some o=>
    rw[hc]at e2;cases o with
    |none=>cases e2
    |some j=>
     refine⟨j,rfl,?_⟩;simp only[Option.map_some,PM]at e2;cases hj:σ[j]? with
     |none=>rw[hj]at e2;cases e2
     |some q=>
      rw[hj]at e2;simp only[Option.join_some]at e2;rw[NN e2]
  obtain⟨j,hj,hv⟩:=e2';obtain⟨hN,hx⟩:=rF S.cap hj e1;have hkx:=S.free (x,.free) (fZ hx) rfl;obtain⟨m,hm,hl⟩:=I.loc;obtain⟨u,r,l⟩:=hl j x v hN hv (hkx.elim (fun z=>.inr (.inl z)) (fun z=>.inr (.inr z)));refine⟨u,r,.inr ⟨?_,?_⟩⟩
  ·rw [hrl, hx];show some (if _ then _ else _)=_\/some (if _ then _ else _)=_;by_cases hc:(NameKind.free == NameKind.free&&X.env.scope.kind == .function&&X.env.kindOf x == some .cell)=true
   ·rw[NL hc];exact .inl rfl
   ·rw[NM hc];exact .inr rfl
  ·obtain ⟨c, ec⟩ := hclx x hx
   have hm:(x,NameKind.cell)∉scope.names:=fun z=>by
    have:=S.nd (x,.cell) z;rw[hx]at this;cases this
   refine⟨c,(jX hm).trans ec,?_⟩;rcases l with⟨k,_⟩|⟨k,c',ec',z⟩
   ·rcases hkx with q|q <;> (rw[k]at q;cases q)
   ·have q:=hcl x c ec;rw[ec']at q;cases q;obtain⟨o,ho,hd⟩:=z;exact⟨o,hk _ o ho,hd⟩
 ·rcases hcell x c e with ⟨a1, a2⟩ | ⟨a1, a2⟩
  ·obtain⟨v,o,ho,hd⟩:=I.cell x c (hcl x c a1);exact⟨v,o,hk _ o ho,hd⟩
  ·exact⟨none,a2⟩
 ·rcases hcell x c e with ⟨a1, a2⟩ | ⟨a1, a2⟩
  ·exact I.freeC x c (hcl x c a1)
  ·exact I.hok.fresh (Nat.le_of_succ_le a1)
 ·show (cap.map _).length=Nc.length;rw[OO,oW S.cap]
abbrev uw:Value->Shared->Prop:=fun _ _=>False
def uN(ifs:List Expr)(env:Env):Sem Bool:=forIn ifs true fun c r=>if r=true then do let ok <- isTrue c env (eval c env);pure (ForInStep.yield ok) else pure (ForInStep.yield r)
def qA(X:Cx)(ifs:List Expr)(t:TT):Prop:=
 ∀(pins:List (Addr×Obj))(s:Shared)(σ:St)(H:Hp)(Q:Bool->Hp->Prop),aV X pins σ H s->t σ H Q->wpAny (model X.prog X.w) X.A (uN ifs X.env) (TP X pins σ Q) X.xe s
def Lb:TT:=fun _ H Q=>Q true H
theorem FJ{X:Cx}:qA X [] Lb:=fun _ _ _ H _ I h=>Og ⟨H,I,h⟩
theorem FI{X:Cx}{c:Expr}{t:TT}(h:PT X c t):qA X [c] t:=fun pins s σ H Q I q=>wpAny_tests_one (h pins s σ H Q I q)
def Kb(e:Expr)(acc:Value)(env:Env):Sem Unit:=match e with
 |.ListComp elt _ _ _=>do let _ <- call (.builtin "list.append") [acc,<- eval elt env]
 |.SetComp elt _ _ _=>do let v <- eval elt env;standAt elt.pos;let _ <- call (.builtin "set.add") [acc,v]
 |_=>unsupported "internal:not-a-comprehension"
def mR:Expr->Bool
 |.ListComp ..=>true
 |.SetComp ..=>true
 |_=>false
def my(M:Model)(A:Around)(e:Expr)(k:Nat)(acc:Value)(env:Env)(C:Shared->Prop)(E:Value->Shared->Prop)(s:Shared):Prop:=match (clausesOf e)[k]? with
 |some g=>wpAny M A (eval g.iter env) (fun x s1=>wpAny M A (foldedSetIterable g.iter env x) (fun x s2=>wpAny M A (pyIter x) (fun it s3=>
   codeAny M A (.compStart e k it acc env) (fun r s4=>(∃f,r=.ok f)/\C s4) s3) E s2) E s1) E s
 |none=>wpAny M A (Kb e acc env) (fun _ s1=>C s1) E s
theorem xl{M:Model}{A:Around}{e:Expr}{k:Nat}{acc:Value}{env:Env}{C C':Shared->Prop}{E:Value->Shared->Prop}{s:Shared}(hC:∀s,C s->C' s)(h:my M A e k acc env C uw s):my M A e k acc env C' E s:=by
 unfold my at h⊢;split at h
 ·exact N7 h (fun _ _ h=>N7 h (fun _ _ h=>N7 h (fun _ _ h=>OA h fun _ _ h=>⟨h.1,hC _ h.2⟩) fun _ _ z=>z.elim) fun _ _ z=>z.elim) fun _ _ z=>z.elim
 ·exact N7 h (fun _ _ h=>hC _ h) fun _ _ z=>z.elim
theorem ET{M:Model}{A:Around}{E:Value->Shared->Prop}{s:Shared}{e:Expr}{d:Nat}{g:Comprehension}{it acc:Value}{env:Env}{Q:Fin->Shared->Prop}(he:mR e=true)(hz:∀g∈clausesOf e,g.is_async=0)(hg:(clausesOf e)[d]?=some g)
  (h : wpAny M A (pyNext it) (fun r s₁ => match r with
   |none=>Q (.done .next) s₁
   |some v=>wpAny M A (letOwnedTupleGo g.target it v) (fun _ s₁'=>wpAny M A (assign g.target env v) (fun _ s₂=>wpAny M A (uN g.ifs env) (fun ok s₃=>
     if ok=true then my M A e (d+1) acc env (fun s₄=>wpAny M A (again (.compLoop e d it acc env)) Q E s₄) E s₃ else wpAny M A (again (.compLoop e d it acc env)) Q E s₃) E s₂) E s₁') E s₁) E s) :
  wpAny M A (compTurn e d it acc env) Q E s:=by
 have h0:=hz g (OM hg);have h1:∀g',(clausesOf e)[d+1]?=some g'->g'.is_async=0:=fun g' h=>hz g' (OM h);unfold compTurn
 cases e <;> first
  |exact absurd (show false=true from he) Ou
  | (rename_i elt gens sc pos
     have hg':gens[d]?=some g:=hg;have h1':∀g',gens[d+1]?=some g'->g'.is_async=0:=h1;dsimp only;rw[hg'];dsimp only;rw[h0];refine Oc (Oe ?_);show wpAny M A (pyNext it >>= _) Q E s;refine Oc (N7 h (fun r s₁ h₁=>?_) fun _ _ z=>z);cases r with
     |none=>exact Og h₁
     |some v=>
      refine Oc (N7 h₁ (fun _ s₁' h₁'=>?_) fun _ _ z=>z);refine Oc (N7 h₁' (fun _ s₂ h₂=>?_) fun _ _ z=>z);refine Oc (N7 h₂ (fun ok s₃ h₃=>?_) fun _ _ z=>z);cases ok with
      |false=>exact h₃
      |true=>
       simp only[OX]at h₃⊢;unfold my at h₃;dsimp only[clausesOf]at h₃;cases e2:gens[d+1]? with
       |none=>
        rw[e2]at h₃;exact Oc h₃
       |some g'=>
        rw[e2]at h₃;have e3:=h1' g' e2;simp only[e3];refine Oc (N7 h₃ (fun x s₄ h₄=>?_) fun _ _ z=>z);refine Oc (Oe ?_);show wpAny M A (foldedSetIterable g'.iter env x >>= _) Q E s₄;refine Oc (N7 h₄ (fun x s₅ h₅=>?_) fun _ _ z=>z);refine Oc (Od ?_);show wpAny M A (pyIter x) _ E s₅;refine N7 h₅ (fun it' s₆ h₆=>?_) fun _ _ z=>z;refine Oc (wpAny_runOwn (OA h₆ fun r s₇ h₇=>?_));obtain⟨⟨f,rfl⟩,hc⟩:=h₇
        exact hc)
section
variable{prog:Program}{w:World}{A:Around}{R:Result->Shared->Prop}{s:Shared}
theorem tJ{e:Expr}{k:Nat}{g:Comprehension}{it acc:Value}{env:Env}(he:mR e=true)(hz:∀g∈clausesOf e,g.is_async=0)(hg:(clausesOf e)[k]?=some g)
  (h0:codeAny (model prog w) A (.compLoop e k it acc env) R s) (h:wpAny (model prog w) A (pyIter it) (fun it' s'=>codeAny (model prog w) A (.compLoop e k it' acc env) R s') uw s) :
  codeAny (model prog w) A (.compStart e k it acc env) R s:=by
 have ha:=hz g (OM hg)
 cases e <;> first
  |exact absurd (show false=true from he) Ou
  | (refine PN ?_
     show wpAny _ _ ((compStart _ k it acc env).onRaise (fun x=>do noteFrame x env;standAt theWindowsPlace)) _ _ s;refine wpAny_notedAt ?_;unfold compStart;rw[hg];have e1:((some g).elim false fun x=>x.is_async != 0)=false:=by show (g.is_async != 0)=false;rw[ha];rfl
     rw[e1];simp only[PB,OW];refine Oc (PQ (wpAny_ite ?_));split
     ·exact Og (And.intro rfl h0)
     ·refine Oc (PR ?_);refine Oc (Oe ?_)
      exact Oc (N7 h (fun it' s' h'=>Og (And.intro rfl h')) fun _ _ z=>z.elim))
theorem A5{e:Expr}{d:Nat}{g:Comprehension}{it acc:Value}{env:Env}(he:mR e=true)(hz:∀g∈clausesOf e,g.is_async=0)(hg:(clausesOf e)[d]?=some g)(I:Nat->Shared->Prop)
  (turn : ∀ n s, I n s -> wpAny (model prog w) A (pyNext it) (fun r s₁ => match r with
   |none=>R (.ok .next) s₁
   |some v=>wpAny (model prog w) A (letOwnedTupleGo g.target it v) (fun _ s₁'=>wpAny (model prog w) A (assign g.target env v) (fun _ s₂=>
     wpAny (model prog w) A (uN g.ifs env) (fun ok s₃=>
      if ok=true then my (model prog w) A e (d+1) acc env (fun s₅=>∃m,m<n/\I m s₅) uw s₃
      else ∃m,m<n/\I m s₃) uw s₂) uw s₁') uw s₁) uw s)
  (n:Nat) (h:I n s):codeAny (model prog w) A (.compLoop e d it acc env) R s:=by
 refine codeAny_loop (by cases e <;> first|exact absurd (show false=true from he) Ou|rfl) I (fun n s hI=>?_) n h
 cases e <;> first
  |exact absurd (show false=true from he) Ou
  | (show wpAny _ A ((compTurn _ d it acc env).onRaise (fun x => do noteFrame x env; theTreesLotGoes x)) _ _ s
     refine wpAny_noted (ET he hz hg (N7 (turn n s hI) (fun r s₁ h₁=>?_) fun _ _ z=>z.elim));cases r with
     |none=>exact h₁
     |some v=>
      refine N7 h₁ (fun _ s₂ h₂=>N7 h₂ (fun _ s₃ h₃=>N7 h₃ (fun ok s₄ h₄=>?_) fun _ _ z=>z.elim) fun _ _ z=>z.elim) fun _ _ z=>z.elim;cases ok with
      |false=>exact Og ⟨rfl,h₄⟩
      |true=>
       simp only[OX]at h₄⊢
       exact xl (fun s₅ h₅=>Og ⟨rfl,h₅⟩) h₄)
end
abbrev BC:=St->Hp->(St->Hp->Prop)->Prop
def ur(X:Cx)(e:Expr)(k:Nat)(acc:Addr)(t:BC):Prop:=
 ∀(pins:List (Addr×Obj))(s:Shared)(σ:St)(H:Hp)(N:St->Hp->Prop),aV X pins σ H s->t σ H N->my (model X.prog X.w) X.A e k (.ref acc) X.env (fun s'=>∃σ' H',aV X pins σ' H' s'/\N σ' H') uw s
def L6(J:It)(g:TG)(tt:TT)(tb:BC)(N:St->Hp->Prop)(σ:St)(H:Hp):Prop:=∃W:Nat->Nat->St->Hp->Prop,(∃m,W 0 m σ H)/\∀i m σ1 H,W i m σ1 H ->
 (J.stop i H/\N σ1 H)\/(J.go i H/\∃N':St->Hp->Prop,(∀σ' H',N' σ' H'->∃m',m'<m/\W (i+1) m' σ' H')/\∀x H',J.yld i H x H'->g x σ1 H' fun σ2 H2=>tt σ2 H2 fun b H3=>if b=true then tb σ2 H3 N' else N' σ2 H3)
section
variable{X:Cx}{e:Expr}{d:Nat}{cl:Comprehension}{g:TG}{tt:TT}{tb:BC}{acc:Addr}
theorem pL{J:It}{fp:List Addr}{it:Addr}{tn:Nat->Heap->Prop}{pins:List (Addr×Obj)}{N:St->Hp->Prop}{σ:St}{H:Hp}{s:Shared}(he:mR e=true)(hz:∀g∈clausesOf e,g.is_async=0)(hg:(clausesOf e)[d]?=some cl)(hxe:X.xe=uw)(hc:X.calm=true)
  (T:Am X.prog X.w X.K cl.target J fp it tn) (hgc:PG X cl.target g) (htc:qA X cl.ifs tt) (hb:ur X e (d+1) acc tb) (I:aV X pins σ H s) (st:tn 0 s.heap) (fr:∀b∈fp,nv X pins H b) (h:L6 J g tt tb N σ H) :
  codeAny (model X.prog X.w) X.A (.compLoop e d (.ref it) (.ref acc) X.env) (fun r s'=>r=.ok .next/\∃σ' H',aV X pins σ' H' s'/\N σ' H') s:=by
 obtain⟨W,⟨m0,w0⟩,turn⟩:=h;have stat:∀{H':Hp},(∀b∈fp,H' b=none)->∀b∈fp,nv X pins H' b:=fun hn b hb=>⟨hn b hb,(fr b hb).2⟩;refine A5 he hz hg (fun n s'=>∃i σ' H',aV X pins σ' H' s'/\tn i s'.heap/\(∀b∈fp,H' b=none)/\W i n σ' H') ?_ m0 ⟨0,_,_,I,st,fun b hb=>(fr b hb).1,w0⟩
 rintro n s5 ⟨i,σ5,H5,I5,st5,fr5,w5⟩
 rcases turn i n σ5 H5 w5 with⟨stop,qn⟩|⟨go,N',hN,step⟩
 ·refine eF (T.done X rfl rfl rfl hc i pins s5 σ5 H5 uw I5 (stat fr5) st5 stop) fun r s6 ⟨hr,I6⟩=>?_;subst hr;exact⟨rfl,_,_,I6,qn⟩
 ·refine eF (T.item X rfl rfl rfl hc i pins s5 σ5 H5 uw I5 (stat fr5) st5 go) fun r s6 ⟨u, hr, h6⟩ => ?_;subst hr;refine eF h6 fun _ s7 ⟨x,H7,I7,r7,y7,st7,fr7⟩=>?_;have I7':=I7.pinned (stat fr7) (T.obj _ _ st7);have z1:=hgc _ s7 σ5 H7 x u _ I7' r7 (step x H7 y7);rw[hxe]at z1;refine eF z1 fun _ s8 ⟨σ8,H8,I8,q8⟩=>?_;have z2:=htc _ s8 σ8 H8 _ I8 q8;rw[hxe]at z2;refine eF z2 fun b s9 ⟨H9,I9,q9⟩=>?_
  have again:∀{σa:St}{Ha:Hp}{sa:Shared},aV X (pins++qQ fp s7.heap) σa Ha sa->N' σa Ha->∃m,m<n/\∃i σ' H',aV X pins σ' H' sa/\tn i sa.heap/\(∀b∈fp,H' b=none)/\W i m σ' H':=fun {σa Ha sa} Ia na=>by
   obtain⟨m',hm,wa⟩:=hN σa Ha na;refine⟨m',hm,i+1,σa,Ha,Ia.unpinned,T.keep _ _ _ st7 fun b hb o e=>(Ia.pin (b,o) (Oq _ (Oq _ (ku hb e)))).1,fun b hb=>?_,wa⟩;obtain⟨o,e,d⟩:=T.obj _ _ st7 b hb;exact(Ia.pin (b,o) (Oq _ (Oq _ (ku hb e)))).2.1
  cases b with
  |false=>
   rw[NM Ou]at q9⊢;exact again I9 q9
  |true=>
   rw[NL rfl]at q9⊢;exact xl (fun s' ⟨σ',H',I',n'⟩=>again I' n') (hb _ s9 σ8 H9 _ I9 q9)
def Ck(wi:TI)(g:TG)(tt:TT)(tb:BC):BC:=fun σ H N=>wi σ H fun J H1=>L6 J g tt tb N σ H1
theorem AO{wi:TI}(he:mR e=true)(hz:∀g∈clausesOf e,g.is_async=0)(hg:(clausesOf e)[d]?=some cl)(hxe:X.xe=uw)(hc:X.calm=true)(hi:PI X cl.target cl.iter wi)(hgc:PG X cl.target g)(htc:qA X cl.ifs tt)(hb:ur X e (d+1) acc tb)
  (hs:∀x,foldedSetIterable cl.iter X.env x=pure x):ur X e d acc (Ck wi g tt tb):=by
 intro pins s σ H N I h;unfold my;rw[hg];have z:=hi pins s σ H _ I h;rw[hxe]at z;refine eF z fun v s1 h1=>PU (hs v) (eF h1 fun itv s2 h2=>?_);obtain⟨it,fp,tn,J,H2,e',I2,T,st2,f2,rd⟩:=h2;subst e';have loop:=pL he hz hg hxe hc T hgc htc hb I2 st2 f2 rd;exact tJ he hz hg (OA loop fun r s' ⟨h1,h2⟩=>⟨⟨_,h1⟩,h2⟩) (T.self _ 0 _ _ _ st2 (OA loop fun r s' ⟨h1,h2⟩=>⟨⟨_,h1⟩,h2⟩))
def BV(te:TE)(acc:Addr):BC:=fun σ H N=>te σ H fun y H4=>∃ys,H4 acc=some (.lst ys)/\ys.length<sizeLine/\N σ (cq H4 acc (.lst (ys++[y])))
theorem rk{te:TE}{elt:Expr}{gens:List Comprehension}{scope:Scope}{pos:Pos}(hg:gens[d]?=none)(hxe:X.xe=uw)(hel:PE X elt te):ur X (.ListComp elt gens scope pos) d acc (BV te acc):=by
 intro pins s σ H N I h;unfold my;show (match gens[d]? with|some g=>_|none=>_:Prop);rw[hg];show wpAny _ _ (do let _ <- call (.builtin "list.append") [.ref acc,<- eval elt X.env]) _ _ _;have z:=hel pins s σ H _ I h;rw[hxe]at z;refine Oc (eF z fun v10 s10 ⟨y,H10,I10,r10,ys,hy,hz,nn⟩=>?_);have z4:=tS (X:=X) pins s10 σ H10 (.ref acc) [y] (.ref acc) [v10] (fun _ H'=>N σ H') I10 rfl (.cons r10 .nil) ⟨_,ys,y,rfl,rfl,hy,hz,nn⟩;rw[hxe]at z4;exact Oc (eF z4 fun v11 s11 ⟨y',H11,I11,r11,n11⟩=>Og ⟨_,_,I11,n11⟩)
end
theorem Ee{M:Model}{A:Around}{E:Value->Shared->Prop}{s:Shared}{scope:Scope}{cl:List (Str×Addr)}{env:Env}{Q:Env->Shared->Prop}
  (hQ : ∀ h', h'.Ns s.heap.objs.size (fun _ => none) -> (∀ b o, s.heap.get? b = some o -> h'.get? b = some o) -> (∀ x c, (cellsFrom (s.heap.objs.size + 1) scope.names cl).lookup x = some c -> cl.lookup x = some c \/ h'.IsCell c none) ->
   ∀cenv:Env,({cenv with scope:=relabel scope env}:Env)=compEnvC scope (cellsFrom (s.heap.objs.size+1) scope.names cl) s.heap.objs.size env->cenv.locals=s.heap.objs.size->Q cenv {s with heap:=h'}) :
  wpAny M A (newFunctionEnv scope env.globals cl [] env.qual none .none (some env)) Q E s:=by
 simp only[newFunctionEnv,Option.isSome_some,OX];refine Oc (wpAny_alloc ?_);refine Oc (wpAny_layCells _ (fun name kind cells=>by cases hkc:kind == NameKind.cell <;> simp[hkc]) _ _ _ _ ?_);have hsz:(s.heap.push {cls:=.type "dict",data:=.dict #[]}).objs.size=s.heap.objs.size+1:=PJ ..;refine Oc (Og (Og ?_));show Q _ {s with heap:=pushCells (s.heap.push {cls:=.type "dict",data:=.dict #[]}) scope.names};refine hQ _ ((Heap.Ns.new s.heap (.type "dict")).keeps (PL _ _)) (fun b o e=>PL _ _ b o (Oj _ e)) (fun x c e=>?_) _ ?_ rfl
 ·rw[<- hsz]at e;exact lC e
 ·show _=_;unfold compEnvC;rw[<- hsz]
def mO(o0:Addr->HO)(wi:TI)(cap:List (Option Nat))(g:TG)(tt:TT)(tb:Addr->BC):TE:=fun σ H Q=>wi σ H fun J H1=>∀acc,H1 acc=none->L6 J g tt (tb acc) (fun _ H'=>Q (.ref acc) H') (qO cap σ) (cq H1 acc (o0 acc))
def BW(wi:TI)(cap:List (Option Nat))(g:TG)(tt:TT)(te:TE):TE:=mO (fun _=>.lst []) wi cap g tt (BV te)
def Mr(X:Cx)(newAcc:Sem Value)(o0:Addr->HO):Prop:=∀(pins:List (Addr×Obj))(s:Shared)(σ:St)(H:Hp)(Q:Value->Shared->Prop),aV X pins σ H s ->
 (∀s',aV X pins σ (cq H s.heap.objs.size (o0 s.heap.objs.size)) s'->(∀b o,s.heap.get? b=some o->s'.heap.get? b=some o)->s.heap.objs.size<s'.heap.objs.size->Q (.ref s.heap.objs.size) s')->wpAny (model X.prog X.w) X.A newAcc Q X.xe s
theorem wR{X:Cx}:Mr X (newList []) (fun _=>.lst []):=fun pins s σ H Q I h=>
 Pc (h _ (I.lnew (t':=s.toks) (ys:=[]) (its:=[]) .nil (PV _)) (fun b o e=>Oj _ e) (by rw[PJ];exact PF _))
section
variable{X:Cx}{e:Expr}{cl0:Comprehension}{rest:List Comprehension}{scope:Scope}{Nc:List Str}{cap:List (Option Nat)}{wi:TI}{g:TG}{tt:TT}{tb:Addr->BC}{pos':Pos}{o0:Addr->HO}{newAcc:Sem Value}
theorem oU{use:Option (Value->Sem Unit)}{pins:List (Addr×Obj)}{s:Shared}{σ:St}{H:Hp}{Q:VK}{QQ:Value->Shared->Prop}
  (he:mR e=true) (hz:∀g∈clausesOf e,g.is_async=0) (hcl0:clausesOf e=cl0::rest) (hmk:Mr X newAcc o0)
  (hc:X.calm=true) (S:bF X.N X.env scope Nc cap) (hi:PI X cl0.target cl0.iter wi)
  (hg:∀cl C s H fp,PG (i6 X Nc scope cl C s H fp) cl0.target g) (ht:∀cl C s H fp,qA (i6 X Nc scope cl C s H fp) cl0.ifs tt) (hb:∀cl C s H fp acc,ur (i6 X Nc scope cl C s H fp) e 1 acc (tb acc))
  (I:aV X pins σ H s) (h:mO o0 wi cap g tt tb σ H Q)
  (hfin:∀C acc s' H',aV X pins σ H' s'->nv X pins H' C->(∃m,s'.heap.Ns C m)->Q (.ref acc) H'->compPost (model X.prog X.w) X.A X.xe use QQ (.ref acc) C (.ok .next) s')
  (hs:∀x,foldedSetIterable cl0.iter X.env x=pure x) :
  wpAny (model X.prog X.w) X.A (comprehension e scope X.env pos' newAcc false (eval cl0.iter X.env) use) QQ X.xe s:=by
 obtain⟨cl,hclos,hcl,hall⟩:=yU (scope:=scope) (env:=X.env) (fun y hy hf=>I.ok.has y.1 (S.free y hy hf));have hg0:(clausesOf e)[0]?=some cl0:=by rw[hcl0];rfl
 refine wpAny_comprehension_free hcl0 hs hclos S.kind (fun x hx e=>by rw[S.nd x hx,e]) ?_;refine eF (hi pins s σ H _ I h) fun v s1 h1=>eF h1 fun itv s2 h2=>?_;obtain⟨it,fp,tn,J,H2,e',I2,T,st2,f2,rd⟩:=h2;subst e';have rd:=rd _ I2.fresh;refine hmk pins s2 σ H2 _ I2 fun s3 I3 hk3 hsz3=>?_;have st3:tn 0 s3.heap:=T.keep _ _ _ st2 fun b _ o e=>hk3 b o e
 have fpn:∀b∈fp,b≠s2.heap.objs.size:=fun b hb=>by
  obtain⟨o,eo,_⟩:=T.obj _ _ st2 b hb;exact NR (NO eo)
 have f3:∀b∈fp,nv X pins (cq H2 s2.heap.objs.size (o0 s2.heap.objs.size)) b:=fun b hb=>⟨by rw[bq (fpn b hb)];exact(f2 b hb).1,(f2 b hb).2⟩
 have hfs:∀b∈fp,b<s3.heap.objs.size:=fun b hb=>by
  obtain⟨o,eo,_⟩:=T.obj _ _ st3 b hb;exact NO eo
 refine Ee fun h1 hns1 hk1 hce cenv ecenv elc=>?_;rw[ecenv]
 have IB:aV (i6 X Nc scope cl s3.heap.objs.size s3 (cq H2 s2.heap.objs.size (o0 s2.heap.objs.size)) fp) [] (qO cap σ) (cq H2 s2.heap.objs.size (o0 s2.heap.objs.size)) {s3 with heap:=h1,toks:=s3.toks}:=
  Ba I3 f3 hfs S hcl hall hns1 hk1 hce
 have stB:tn 0 h1:=T.keep _ _ _ st3 fun b _ o e=>hk1 b o e;rw[elc]
 have frB:∀b∈fp,nv (i6 X Nc scope cl s3.heap.objs.size s3 (cq H2 s2.heap.objs.size (o0 s2.heap.objs.size)) fp) [] (cq H2 s2.heap.objs.size (o0 s2.heap.objs.size)) b:=fun b hb=>
  ⟨(f3 b hb).1,(IB.ok.exf b hb).1,IB.ok.exfs b hb,.inl hb,(IB.ok.exf b hb).2,fun p hp=>absurd (show p∈([]:List (Addr×Obj)) from hp) (by simp)⟩
 have loop:=pL (X:=i6 X Nc scope cl s3.heap.objs.size s3 (cq H2 s2.heap.objs.size (o0 s2.heap.objs.size)) fp) he hz hg0 rfl hc T (hg _ _ _ _ _) (ht _ _ _ _ _) (hb _ _ _ _ _ _) IB stB frB rd
 have fin:∀r s',(r=.ok .next/\∃σ' H',aV (i6 X Nc scope cl s3.heap.objs.size s3 (cq H2 s2.heap.objs.size (o0 s2.heap.objs.size)) fp) [] σ' H' s'/\Q (.ref s2.heap.objs.size) H')->compPost (model X.prog X.w) X.A X.xe use QQ (.ref s2.heap.objs.size) s3.heap.objs.size r s':=by
  rintro r s' ⟨rfl,σ',H',J',q⟩
  have I5:aV X pins σ H' s':=I3.call' (ch:=fp) J'.os J'.base J'.hok J'.bare fun b hbf=>⟨(f3 b hbf).2.2.2.1,(f3 b hbf).2.1,(f3 b hbf).2.2.2.2.1,(f3 b hbf).2.2.2.2.2⟩;obtain⟨mm,hnn,_⟩:=J'.loc;exact hfin _ _ s' H' I5 (I3.fpOk (Om _) J'.free) ⟨mm,hnn⟩ q
 exact tJ he hz hg0 (OA loop fin) (T.self _ 0 _ _ _ stB (OA loop fin))
variable{elt:Expr}{pos:Pos}
theorem wI(hc:X.calm=true)(hz:∀g∈cl0::rest,g.is_async=0)(S:bF X.N X.env scope Nc cap)(hi:PI X cl0.target cl0.iter wi)
  (hg:∀cl C s H fp,PG (i6 X Nc scope cl C s H fp) cl0.target g) (ht:∀cl C s H fp,qA (i6 X Nc scope cl C s H fp) cl0.ifs tt) (hb:∀cl C s H fp acc,ur (i6 X Nc scope cl C s H fp) (.ListComp elt (cl0::rest) scope pos) 1 acc (tb acc))
  (hs:∀x,foldedSetIterable cl0.iter X.env x=pure x):PE X (.ListComp elt (cl0::rest) scope pos) (mO (fun _=>.lst []) wi cap g tt tb):=by
 intro pins s σ H Q I h;have h0:=hz cl0 NX;obtain⟨tg0,it0,if0,as0⟩:=cl0;have h0':as0=0:=h0;subst h0';rw[arm_eval_ListComp];refine oU (e:=.ListComp elt (_::rest) scope pos) (Q:=Q) rfl hz rfl wR hc S hi hg ht hb I h (fun C acc s' H' I' hf hn q=>?_) hs;obtain⟨m,hn⟩:=hn;refine⟨m,hn,fun h' sb=>⟨.ref acc,H',?_,rfl,q⟩⟩;exact I'.turned (t':=s'.toks) (it:=C) (fun b o hb e=>(sb.2 b hb).trans e) hf.1 hf.2.1 hf.2.2.2.1 hf.2.2.2.2.1 hf.2.2.2.2.2
theorem DA{i:Nat}{x:Str}{pos1:Pos}{pos2:Pos}(hc:X.calm=true)(hz:∀g∈cl0::rest,g.is_async=0)(hN:X.N.Nodup)(hix:X.N[i]?=some x)(hx:X.env.scope.names.lookup x=some .local)(S:bF X.N X.env scope Nc cap)(hi:PI X cl0.target cl0.iter wi)
  (hg:∀cl C s H fp,PG (i6 X Nc scope cl C s H fp) cl0.target g) (ht:∀cl C s H fp,qA (i6 X Nc scope cl C s H fp) cl0.ifs tt) (hb:∀cl C s H fp acc,ur (i6 X Nc scope cl C s H fp) (.ListComp elt (cl0::rest) scope pos) 1 acc (tb acc))
  (hsw:swapsWith (.ListComp elt (cl0::rest) scope pos) (some (.Name x pos1)) pos2.line X.env=pure true) (hs:∀x,foldedSetIterable cl0.iter X.env x=pure x) :
  PS X (.Assign [.Name x pos1] (.ListComp elt (cl0::rest) scope pos) pos2) (BF (mO (fun _=>.lst []) wi cap g tt tb) (vW i)):=by
 intro pins s σ H D I h;have h0:=hz cl0 NX;obtain⟨tg0,it0,if0,as0⟩:=cl0;have h0':as0=0:=h0;subst h0';rw[exec_Assign_Name_used _ _ _ _ hsw];refine Oc (Oe (Oc ?_));show wpAny _ X.A (do let _ <- comprehension (.ListComp elt (⟨tg0,it0,if0,0⟩::rest) scope pos) scope X.env _ (newList []) false (eval it0 X.env) (some (assign (.Name x pos1) X.env))) _ _ s
 refine Oc (N7 (oU (e:=.ListComp elt (_::rest) scope pos) (use:=some (assign (.Name x pos1) X.env)) (Q:=fun v H1=>D.nx (σ.set i (some v)) H1) (QQ:=fun _ s'=>SP X pins D .next s') rfl hz rfl wR hc S hi hg ht hb I h (fun C acc s' H' I' hf hn q=>?_) hs)
  (fun _ s' hq=>Og (Og hq)) fun _ _ e=>e)
 obtain⟨m,hn⟩:=hn;show wpAny _ X.A (assign (.Name x pos1) X.env (.ref acc)) _ _ _;refine wpAny_assign_Name (tI I' hN hix (.inl hx) (show bV (.ref acc) (.ref acc) from rfl) (fun s'' I'' hsb=>?_) (.inr hx));obtain⟨a,sb,ha⟩:=hsb
 have hCa:C≠a:=by
  rcases ha with z|z
  ·rw[z];exact hf.2.1
  ·exact fun e=>hf.2.2.2.2.1 x a z e.symm
 refine⟨m,hn.sameBut sb hCa,fun h' sb'=>⟨_,H',?_,q⟩⟩;exact I''.turned (t':=s''.toks) (it:=C) (fun b o hb e=>(sb'.2 b hb).trans e) hf.1 hf.2.1 hf.2.2.2.1 hf.2.2.2.2.1 hf.2.2.2.2.2
variable{tg iter:Expr}{ifs:List Expr}{te:TE}
theorem tR:∀g∈([⟨tg,iter,ifs,0⟩]:List Comprehension),g.is_async=0:=fun g hg=>by rw[PX.mp hg]
theorem FY(hc:X.calm=true)(S:bF X.N X.env scope Nc cap)(hi:PI X tg iter wi)
  (hg:∀cl C s H fp,PG (i6 X Nc scope cl C s H fp) tg g) (ht:∀cl C s H fp,qA (i6 X Nc scope cl C s H fp) ifs tt) (he:∀cl C s H fp,PE (i6 X Nc scope cl C s H fp) elt te)
  (hs:∀x,foldedSetIterable iter X.env x=pure x:=by intro _;rfl):PE X (.ListComp elt [⟨tg,iter,ifs,0⟩] scope pos) (BW wi cap g tt te):=
 wI (cl0:=⟨tg,iter,ifs,0⟩) hc tR S hi hg ht (fun cl C s H fp acc=>rk rfl rfl (he cl C s H fp)) hs
theorem FN{i:Nat}{x:Str}{pos1:Pos}{pos2:Pos}(hc:X.calm=true)(hN:X.N.Nodup)(hix:X.N[i]?=some x)(hx:X.env.scope.names.lookup x=some .local)(S:bF X.N X.env scope Nc cap)(hi:PI X tg iter wi)
  (hg:∀cl C s H fp,PG (i6 X Nc scope cl C s H fp) tg g) (ht:∀cl C s H fp,qA (i6 X Nc scope cl C s H fp) ifs tt) (he:∀cl C s H fp,PE (i6 X Nc scope cl C s H fp) elt te)
  (hsw:swapsWith (.ListComp elt [⟨tg,iter,ifs,0⟩] scope pos) (some (.Name x pos1)) pos2.line X.env=pure true) (hs:∀x,foldedSetIterable iter X.env x=pure x:=by intro _;rfl) :
  PS X (.Assign [.Name x pos1] (.ListComp elt [⟨tg,iter,ifs,0⟩] scope pos) pos2) (BF (BW wi cap g tt te) (vW i)):=
 DA (cl0:=⟨tg,iter,ifs,0⟩) hc tR hN hix hx S hi hg ht (fun cl C s H fp acc=>rk rfl rfl (he cl C s H fp)) hsw hs
end
end L2
namespace RS
open PySem PySem.W PyProof.Rows
open AutoSeq1 (wpAny_loadPart')
section
variable{prog:Program}{w:World}{A:Around}{E:Value->Shared->Prop}{s:Shared}
theorem vx{it t:Addr}{i:Nat}{items}{x:Value}{Q:Value->Shared->Prop}(hit:s.heap.IsTupleIter it t i)(ht:s.heap.IsTuple t items)(hx:items[i]?=some x)
  (hQ:∀h',h'.IsTupleIter it t (i+1)->Heap.SameBut it s.heap h'->Q x {s with heap:=h'}):wpAny (model prog w) A (Builtin.SmallTypes.nextOf (.ref it)) Q E s:=by
 obtain⟨o,ho,hc,hd⟩:=id hit;obtain⟨ol,hol,_,nl,hdl⟩:=ht;unfold Builtin.SmallTypes.nextOf;refine Oc (O4 (name:=Str.ofString "__next__") hit.typeIs PY (O6 PY hit.typeIs PZ ?_ (P0 _)));show wpAny _ _ (field (.ref it) 0 >>= _) _ _ s;refine Oc (OZ ho hd (x:=.ref t) rfl ?_);show wpAny _ _ (if (Value.ref t == Value.none)=true then _ else _) _ _ s;rw[NM (show ¬ ((Value.ref t == Value.none)=true) from Ou)];show wpAny _ _ (field (.ref it) 1 >>= _) _ _ s;refine Oc (OZ ho hd (x:=.int i 0) rfl ?_);show wpAny _ _ (seqItems? (.ref t) >>= _) _ _ s;refine Oc (P8 hol hdl ?_);simp only[OU,hx];refine Oc (wpAny_setField ho hd (by simp) (Og ⟨x,rfl,Og (hQ _ ?_ (Qa ..))⟩));exact⟨_,Ph _ ho (Obj.isFreed_of_fields (Obj.data_mapFields hd _)),(Obj.cls_mapFields ..).trans hc,by rw[Obj.data_mapFields hd];simp[rawInt]⟩
theorem ph{it t:Addr}{i:Nat}{items}{Q:Value->Shared->Prop}(hh:A.handled=none)(hit:s.heap.IsTupleIter it t i)(ht:s.heap.IsTuple t items)(hx:items[i]?=none)
  (hE:∀h' e,Heap.ExtBut it s.heap h'->(∃o,h'.get? e=some o/\o.cls=.type "StopIteration")->E (.ref e) {s with heap:=h'}):wpAny (model prog w) A (Builtin.SmallTypes.nextOf (.ref it)) Q E s:=by
 obtain⟨o,ho,hc,hd⟩:=id hit;obtain⟨ol,hol,_,nl,hdl⟩:=ht;unfold Builtin.SmallTypes.nextOf;refine Oc (O4 (name:=Str.ofString "__next__") hit.typeIs PY (O6 PY hit.typeIs PZ ?_ (P0 _)));show wpAny _ _ (field (.ref it) 0 >>= _) _ _ s;refine Oc (OZ ho hd (x:=.ref t) rfl ?_);show wpAny _ _ (if (Value.ref t == Value.none)=true then _ else _) _ _ s;rw[NM (show ¬ ((Value.ref t == Value.none)=true) from Ou)];show wpAny _ _ (field (.ref it) 1 >>= _) _ _ s;refine Oc (OZ ho hd (x:=.int i 0) rfl ?_);show wpAny _ _ (seqItems? (.ref t) >>= _) _ _ s;refine Oc (P8 hol hdl ?_);simp only[OU,hx];refine Oc (PR (Oc (wpAny_setField ho hd (by simp) ?_)));show wpAny _ _ (newExc (.type "StopIteration") [] >>= _) _ _ _;refine Oc ?_;simp only[newExc,newTuple];refine Oc (Pc ?_ (by size_fits));refine Oc (m:=firstArgMember _ _) (PU (a:=Value.none) (by first|rfl|(simp only[firstArgMember];rfl)) ?_);refine Pc ?_ (by size_fits);simp only[raiseNew];refine Oc (wpAny_handled ?_)
 first|rw[show A.in1.handled=none from hh]|rw[hh]
 refine Oc (Og (wpAny_throw ?_));exact hE _ _ (((Qa ..).extBut.push _).push _) ⟨_,Ol _ rfl,rfl⟩
end
theorem Kd{prog:Program}{w:World}{A:Around}(hh:A.handled=none)(it l:Addr)(hne:l≠it)(items:Array Value) :
  Draws prog w A it [it,l] items.size (fun i v=>items[i]?=some v) (fun i h=>h.IsTupleIter it l i/\h.IsTuple l items) where
 live:=fun _ _ st=>let ⟨o,ho,_⟩:=st.1;⟨o,ho⟩
 frame:=fun _ _ _ st hk=>⟨by
  obtain⟨o,ho,r⟩:=st.1;exact⟨o,hk it (by simp) o ho,r⟩,by
  obtain⟨o,ho,r⟩:=st.2
  exact⟨o,hk l (by simp) o ho,r⟩⟩
 item:=fun i s Q E hi st hQ=>by
  refine vx st.1 st.2 (x:=items[i]) (by simp[hi]) fun h' hit' hs'=>?_;refine hQ _ h' s.toks (by simp[hi]) ⟨hit',?_⟩ hs';obtain⟨o,ho,r⟩:=st.2;exact⟨o,(hs'.2 l hne).trans ho,r⟩
 done:=fun s Q E st hE=>ph hh st.1 st.2 (by simp) hE
theorem xA(l:Addr)(items:Array Value)(n:Nat)(dct:Option Addr)(sl:Array (Option Value)) :
  Meets (Builtin.«enumerate.__new__» ⟨[.type "enumerate",.ref l],[]⟩) (fun _ R s=>s.heap.get? l=some {cls:=.type "tuple",dict:=dct,data:=.seq items n,slots:=sl} /\
   R (.ok (.ret (.ref (s.heap.push {cls:=.type "tuple_iterator",data:=.fields #[.ref l,.int 0 0]}).objs.size)))
    {s with heap:=(s.heap.push {cls:=.type "tuple_iterator",data:=.fields #[.ref l,.int 0 0]}).push {cls:=.type "enumerate",data:=.fields #[.none,.bool false,.ref s.heap.objs.size,rawInt 0,.none,.none]}}):=
 .of_wp fun prog w A R s h=>by
  obtain⟨hp,g,d,tk,os⟩:=s;obtain⟨hl,h⟩:=h;have hsub:=sub_enumerate;have hL:Heap.IsTuple (Shared.heap ⟨hp,g,d,tk,os⟩) l items:=⟨_,hl,rfl,n,rfl⟩
  wp_walk using wpAny_loadPart' hl
  refine wpAny_stack_any fun st=>Og ?_;split
  ·rename_i c _ _ _ _ _;cases (c == Value.type "enumerate")
   ·wp_walk using wpAny_loadPart' hl, Qb hL
    exact⟨_,rfl,h⟩
   ·wp_walk using wpAny_loadPart' hl, Qb hL
    exact⟨_,rfl,h⟩
  ·wp_walk using wpAny_loadPart' hl, Qb hL
   exact⟨_,rfl,h⟩
section
variable{prog:Program}{w:World}{A:Around}{E:Value->Shared->Prop}{s:Shared}
theorem y0{l:Addr}{items:Array Value}{Q:Value->Shared->Prop}(hL:s.heap.IsTuple l items)
  (h : ∀ h', IsEnum h' (s.heap.objs.size + 1) s.heap.objs.size 0 .none -> h'.IsTupleIter s.heap.objs.size l 0 -> h'.objs.size = s.heap.objs.size + 2 ->
   (∀b o,s.heap.get? b=some o->h'.get? b=some o)->Q (.ref (s.heap.objs.size+1)) {s with heap:=h'}) :
  wpAny (model prog w) A (call (.type "enumerate") [.ref l]) Q E s:=by
 obtain⟨⟨c,dct,dt,sl⟩,hl,hc,n,hd⟩:=hL;replace hc:c=.type "tuple" := hc;replace hd:dt=.seq items n:=hd;subst hc hd;refine callType_new F.called_enumerate (by decide) (F.typeCall_enumerate_1 _) (F.newCall_enumerate_1 _) (fun obj=>F.args_object_init_2 obj _) F.entry_enumerate_new (xA l items n dct sl) ⟨hl,?_⟩;have hz:(s.heap.push {cls:=.type "tuple_iterator",data:=.fields #[.ref l,.int 0 0]}).objs.size=s.heap.objs.size+1:=PJ ..;show _/\_;rw[hz]
 have he:IsEnum ((s.heap.push {cls:=.type "tuple_iterator",data:=.fields #[.ref l,.int 0 0]}).push
   {cls:=.type "enumerate",data:=.fields #[.none,.bool false,.ref s.heap.objs.size,rawInt 0,.none,.none]}) (s.heap.objs.size+1) s.heap.objs.size 0 .none:=by
  have:=Ol (s.heap.push {cls:=.type "tuple_iterator",data:=.fields #[.ref l,.int 0 0]})
   (o:={cls:=.type "enumerate",data:=.fields #[.none,.bool false,.ref s.heap.objs.size,rawInt 0,.none,.none]}) rfl
  rw[hz]at this;exact this
 exact⟨⟨_,he,rfl⟩,h _ he ⟨_,Oj _ (Ol _ rfl),rfl,rfl⟩ (by rw[PJ,hz]) fun b o x=>Oj _ (Oj _ x)⟩
end
end RS
namespace L2
open PySem PySem.Spec PyProof.Rows RS
def Sq(b:Bool)(K:W.Frag)(H:Hp)(a:Addr)(xs:List V):Prop:=if b=true then fT K H a xs else fS K H a xs
def Mt(b:Bool)(K:W.Frag)(a:Addr):It:=
 ⟨fun i H => ∃ xs x, Sq b K H a xs /\ xs[i]? = some x,
  fun i H x H'=>∃q y,x=.ref q/\H q=none/\H'=cq H q (.tup [.int i,y])/\∀xs,Sq b K H a xs->xs[i]?=some y,
  fun i H=>∃xs,Sq b K H a xs/\xs.length=i⟩
def uD(b:Bool)(h:Heap)(it a:Addr)(i:Nat):Prop:=if b=true then h.IsListIter it a i else h.IsTupleIter it a i
theorem uD.obj{b:Bool}{h:Heap}{it a:Addr}{i:Nat}(x:uD b h it a i):∃o,h.get? it=some o/\∀v,o.data≠.cell v:=by
 cases b with
 |true=>obtain⟨o,e,c,d⟩:=(show h.IsListIter it a i from x);exact⟨o,e,fun v z=>by rw[d]at z;cases z⟩
 |false=>obtain⟨o,e,c,d⟩:=(show h.IsTupleIter it a i from x);exact⟨o,e,fun v z=>by rw[d]at z;cases z⟩
theorem uD.keep{b:Bool}{h h':Heap}{it a:Addr}{i:Nat}(x:uD b h it a i)(k:∀o,h.get? it=some o->h'.get? it=some o):uD b h' it a i:=by
 cases b with
 |true=>obtain⟨o,e,r⟩:=(show h.IsListIter it a i from x);exact(show h'.IsListIter it a i from⟨o,k o e,r⟩)
 |false=>obtain⟨o,e,r⟩:=(show h.IsTupleIter it a i from x);exact(show h'.IsTupleIter it a i from⟨o,k o e,r⟩)
theorem xh{X:Cx}{pins:List (Addr×Obj)}{σ:St}{H:Hp}{s:Shared}{b:Bool}{a it:Addr}{xs:List V}(I:aV X pins σ H s)(hc:X.calm=true)(hq:Sq b X.K H a xs)(hne:a≠it) :
  ∃(its:Array Value)(St:Nat->Heap->Prop),ba xs its.toList/\Draws X.prog X.w X.A.in1 it [it,a] its.size (fun i v=>its[i]?=some v) St/\(∀i,uD b s.heap it a i->St i s.heap)/\∀i h,St i h->uD b h it a i:=by
 have hh:X.A.in1.handled=none:=by simpa using I.ok.hd hc
 cases b with
 |true=>
  obtain⟨its,rv,p,hz⟩:=I.list (show fT X.K H a xs from hq);exact⟨its.toArray,_,by simpa using rv,Draws.list hh it a hne its.toArray,fun i h=>⟨h,p.isList⟩,fun i h st=>st.1⟩
 |false=>
  obtain⟨its,rv,p,hz⟩:=I.tuple (show fS X.K H a xs from hq);exact⟨its.toArray,_,by simpa using rv,Kd hh it a hne its.toArray,fun i h=>⟨h,p⟩,fun i h st=>st.1⟩
theorem Iw{X:Cx}{pins:List (Addr×Obj)}{σ:St}{H:Hp}{s:Shared}{b:Bool}{a:Addr}{xs ys:List V}(I:aV X pins σ H s)(h1:Sq b X.K H a xs)(h2:Sq b X.K H a ys):xs=ys:=by
 cases b with
 |true=>exact I.list_inj h1 h2
 |false=>exact I.tuple_inj h1 h2
theorem aV.turns{X:Cx}{pins:List (Addr×Obj)}{σ:St}{H:Hp}{s:Shared}{h':Heap}{t':Nat}{ch:List Addr}(I:aV X pins σ H s)(k:∀b o,b∉ch->s.heap.get? b=some o->h'.get? b=some o)(hf:∀b∈ch,nv X pins H b):aV X pins σ H {s with heap:=h',toks:=t'}:=by
 have nit:∀b u,H b=some u->b∉ch:=fun b u e z=>by rw[(hf b z).1]at e;cases e
 refine I.step (g':=s.gens) (d':=s.drawn) (ch:=ch) (fun b hb=>?_) (fun b o _ _ hc e _=>k b o hc e) (fun b o _ _ hc e _=>⟨o.slots,k b o hc e⟩) (fun _ _ _ _ n=>n)
  (fun b o hc e=>⟨o,k b o hc e⟩) (fun _ _ e=>e) (fun _ _ _ e=>e) (fun b ps e=>⟨#[],by rw[e];simp⟩) (fun m hm=>?_) (fun b u e=>?_) I.bare
 ·obtain⟨f0,f1,f2,f3,f4,f5⟩:=hf b hb;exact⟨f3,f1,f4,f5⟩
 ·obtain⟨o,es,ep,ho,r⟩:=hm;exact⟨o,es,ep,k _ o (fun z=>(hf _ z).2.1 rfl) ho,r⟩
 ·refine (I.hok b u e).stay (fun c v hc q => k c v ?_ q) (fun _ q => q) fun _ _ q => q;rcases hc with z|z
  ·rw[z];exact nit b u e
  ·exact nit c _ z
theorem As{P:Program}{w:World}{K:W.Frag}{elts:List Expr}{k1:Nat}{pos:Pos}{b:Bool}(a it e:Addr)(hei:e≠it)(hai:a≠it)(hae:a≠e) :
  Am P w K (.Tuple elts k1 pos) (Mt b K a) [e,it] e (fun i h=>(∃old,IsEnum h e it (i:Nat) old)/\uD b h it a i) where
 mem:=by simp
 obj:=fun i h st x hx=>by
  obtain⟨⟨old,he⟩,hi⟩:=st;rcases NZ.mp hx with rfl|hx
  ·exact⟨_,he,fun v z=>by cases z⟩
  ·rw[PX.mp hx];exact hi.obj
 keep:=fun i h h' st k=>by
  obtain⟨⟨old,he⟩,hi⟩:=st;exact⟨⟨old,k e (by simp) _ he⟩,hi.keep fun o eo=>k it (by simp) o eo⟩
 item:=by
  intro X hP hw hK hc i pins s σ H E I hf st hg;subst hP hw hK;obtain⟨⟨old,he⟩,hi⟩:=st;obtain⟨xs,x,hq,hx⟩:=hg;obtain⟨its,St,rv,D,d1,d2⟩:=xh I hc hq hai;obtain⟨u,hu,ru⟩:=rv.get hx
  have hlt:i<its.size:=by
   have:=(N3.mp hu).1;simpa using this
  have hef:e ∉ [it,a]:=by
   simp only[NZ,Qc,Qd,not_or];exact⟨hei,N0 hae⟩
  obtain⟨f0,f1,f2,f3,f4,f5⟩:=hf e (by simp);obtain⟨g0,g1,g2,g3,g4,g5⟩:=hf it (by simp);have helt:e<s.heap.objs.size:=NO he;have hilt:it<s.heap.objs.size:=by obtain⟨o,eo,_⟩:=hi.obj;exact NO eo
  refine wpAny_pyNext_enum_itemD D he (d1 i hi) hlt hei hef fun y h' tk hy ho hst' ht hsz hk=>?_
  have ey:y=u:=by
   rw[<- Qe,hu]at hy;exact(NN hy).symm
  subst ey;refine⟨_,rfl,?_⟩;refine wpAny_letOwnedTupleGo_enum (s:={s with heap:=h',toks:=tk+1}) ho fun h2 he2 hs2=>?_;replace hs2:Heap.SameBut e h' h2:=hs2;have hold:∀b o,b≠e->b≠it->s.heap.get? b=some o->h2.get? b=some o:=fun b o h1 h3 q=>(hs2.2 b h1).trans (hk b o h1 h3 q);have ht2:h2.get? s.heap.objs.size=some {cls:=.type "tuple",data:=.seq #[.int i tk,y]}:=(hs2.2 _ (Of helt)).trans ht;have hqn:H s.heap.objs.size=none:=I.hok.fresh (Om _)
  have I1:aV X pins σ (cq H s.heap.objs.size (.tup [.int i,x])) {s with heap:=s.heap.push {cls:=.type "tuple",data:=.seq #[.int i tk,y]},toks:=tk}:=by
   refine I.laid (t':=tk) (fun b o eo=>Oj _ eo) (Om _) ?_;exact⟨by show 2<=sizeLine;decide,[.int i tk,y],.cons ⟨tk,rfl⟩ (.cons ru .nil),_,Ol _ rfl,rfl,0,rfl⟩
  have hne:∀b∈[e,it],b≠s.heap.objs.size:=fun b hb=>by
   rcases NZ.mp hb with rfl|hb
   ·exact NR helt
   ·rw[PX.mp hb];exact NR hilt
  have hf':∀b∈[e,it],nv X pins (cq H s.heap.objs.size (.tup [.int i,x])) b:=fun b hb=>by
   obtain⟨k0,k1⟩:=hf b hb;exact⟨by rw[bq (hne b hb)];exact k0,k1⟩
  have I2:aV X pins σ (cq H s.heap.objs.size (.tup [.int i,x])) {s with heap:=h2,toks:=tk+1}:=by
   refine aV.turns (s:={s with heap:=s.heap.push {cls:=.type "tuple",data:=.seq #[.int i tk,y]},toks:=tk}) I1 (ch:=[e,it]) (t':=tk+1) (fun b o hb eo=>?_) hf';simp only[NZ,Qc,Qd,not_or]at hb;by_cases hbq:b=s.heap.objs.size
   ·subst hbq;have:=(Ol s.heap (o:={cls:=.type "tuple",data:=.seq #[.int i tk,y]}) rfl).symm.trans eo;rw[ht2];exact this
   ·have:s.heap.get? b=some o:=by
     rw[Qf _ _ _ hbq]at eo;exact eo
    exact hold b o hb.1 hb.2 this
  refine⟨.ref s.heap.objs.size,_,I2,rfl,⟨_,x,rfl,hqn,rfl,fun ys hy=>by rw[Iw I hy hq];exact hx⟩,⟨⟨y,by simpa using he2⟩,?_⟩,fun b hb=>(hf' b hb).1⟩;refine(d2 (i+1) h' hst').keep fun o eo=>?_;exact(hs2.2 it (N0 hei)).trans eo
 done:=by
  intro X hP hw hK hc i pins s σ H E I hf st hg;subst hP hw hK;obtain⟨⟨old,he⟩,hi⟩:=st;obtain⟨xs,hq,hx⟩:=hg;obtain⟨its,St,rv,D,d1,d2⟩:=xh I hc hq hai
  have hil:its.size=i:=by
   have h1:=rv.length;have h2:its.toList.length=its.size:=N9;omega
  subst hil;refine wpAny_pyNext_enum_endD D he (d1 _ hi) fun h' hx=>⟨rfl,?_⟩;refine I.turns (ch:=[e,it]) (t':=s.toks) (fun b o hb eo=>hx b o (fun z=>hb (by rw[z];simp)) eo) hf
 self:=fun _ _ _ _ _ st h=>by
  obtain⟨⟨old,he⟩,hi⟩:=st;exact wpAny_pyIter_enum he h
section
variable{X:Cx}{tg:Expr}
def JZ(K:W.Frag)(ta:TA):TI:=fun σ H R=>ta σ H fun vs H1=>∃a b,vs=[.ref a]/\(∃xs,Sq b K H1 a xs)/\R (Mt b K a) H1
theorem FS {a:Expr}{ta:TA}{p pos tpos:Pos}{elts:List Expr}{k1:Nat} (hg:Gl X "enumerate") (hm:X.mg "enumerate" = none) (ha:PA X [a] ta) (hs:starEach [a] X.env=[(false,eval a X.env)]:=by rfl):PI X (.Tuple elts k1 tpos) (.Call (.Name "enumerate" p) [a] [] pos) (JZ X.K ta):=by
 intro pins s σ H R I h;refine Call_ (oC I hg hm (by rfl) (On (eF (ha pos pins s σ H _ I h) fun us s1 ⟨vs,H1,I1,r1,q1⟩=>?_) hs rfl));obtain⟨l,b,e,⟨xs,hq⟩,q⟩:=q1;subst e;obtain⟨u,rfl,ru⟩:=fD r1;cases ru
 have fin:∀h',IsEnum h' (s1.heap.objs.size+1) s1.heap.objs.size 0 .none->uD b h' s1.heap.objs.size l 0->l<s1.heap.objs.size->h'.objs.size=s1.heap.objs.size+2->(∀b o,s1.heap.get? b=some o->h'.get? b=some o) ->
   wpAny (model X.prog X.w) X.A (pyIter (.ref (s1.heap.objs.size+1))) (Mq X pins σ (.Tuple elts k1 tpos) R) X.xe {s1 with heap:=h'}:=by
  intro h' he hi hl hsz hk;have I2:aV X pins σ H1 {s1 with heap:=h'}:=I1.kept (t':=s1.toks) hk;refine wpAny_pyIter_enum he ?_;refine⟨_,[s1.heap.objs.size+1,s1.heap.objs.size],_,_,H1,rfl,I2,As (b:=b) l s1.heap.objs.size (s1.heap.objs.size+1) (Nat.succ_ne_self _) (NR hl) (NR (PH hl)),⟨⟨.none,he⟩,hi⟩,fun b hb=>?_,q⟩;rcases NZ.mp hb with rfl|hb
  ·exact I1.fpOk (Qg _) (I1.hok.fresh (Qg _))
  ·rw[PX.mp hb];exact I1.fpOk (Om _) (I1.hok.fresh (Om _))
 cases b with
 |true=>
  obtain⟨its,rv,pl,hz⟩:=I1.list (show fT X.K H1 l xs from hq);have hl:l<s1.heap.objs.size:=by obtain⟨o,eo,_⟩:=pl.isList;exact NO eo
  exact call_enumerate_list pl.isList fun h' he hi hsz hk=>fin h' he hi hl hsz hk
 |false=>
  obtain⟨its,rv,pl,hz⟩:=I1.tuple (show fS X.K H1 l xs from hq);have hl:l<s1.heap.objs.size:=by obtain⟨o,eo,_⟩:=pl;exact NO eo
  exact y0 pl fun h' he hi hsz hk=>fin h' he hi hl hsz hk
end
end L2
namespace RS
open PySem
def z7(mask:Nat):Nat->Nat->Nat->List Nat
 |0,_,_=>[]
 |n+1,i,pe=>(List.range (SetTable.runEnd mask i+1-i)).map (i+·)++z7 mask n (SetTable.leap mask i pe).1 (SetTable.leap mask i pe).2
def cY(mask:Nat)(h:Int):List Nat:=z7 mask (SetTable.turns mask) (SetTable.bits h%(mask+1)) (SetTable.bits h)
def jb(t:SetTable):Nat->SetTable.Probe->List Nat
 |0,_=>[]
 |n+1,p=>p.j::jb t n (t.advance p)
def nz(mask i pe:Nat)(d:Option Nat):SetTable.Probe:={j:=i,more:=SetTable.runEnd mask i-i,i,perturb:=pe,dummy:=d}
theorem wd(t:SetTable):∀(m n:Nat)(p:SetTable.Probe),p.more=m ->
  jb t (m+1+n) p=(List.range (m+1)).map (p.j+·)++jb t n (nz t.mask (SetTable.leap t.mask p.i p.perturb).1 (SetTable.leap t.mask p.i p.perturb).2 p.dummy)
 |0,n,p,h=>by
  have e:0+1+n=n+1:=by omega
  rw[e];show p.j::jb t n (t.advance p)=_
  have ea:t.advance p=nz t.mask (SetTable.leap t.mask p.i p.perturb).1 (SetTable.leap t.mask p.i p.perturb).2 p.dummy:=by
   unfold SetTable.advance;rw[NM (by omega)];rfl
  rw[ea];simp
 |m+1,n,p,h=>by
  have e:m+1+1+n=(m+1+n)+1:=by omega
  rw[e];show p.j::jb t (m+1+n) (t.advance p)=_
  have ea:t.advance p={p with j:=p.j+1,more:=p.more-1}:=by
   unfold SetTable.advance;rw[NL (by omega)]
  rw[ea,wd t m n {p with j:=p.j+1,more:=p.more-1} (by show p.more-1=m;omega)];rw[Qh (n:=m+1),Pe,Qi];show p.j::((List.range (m+1)).map (p.j+1+·)++_)=(p.j+0)::(List.map _ _)++_;rw[Nat.add_zero];show p.j::(_++_)=p.j::(_++_);congr 2;apply Qj;intro a _;show p.j+1+a=p.j+(a+1);omega
theorem Cu(mask i:Nat):i<=SetTable.runEnd mask i/\SetTable.runEnd mask i<=i+9:=by
 unfold SetTable.runEnd;split <;> omega
theorem qV(t:SetTable):∀(n i pe:Nat)(d:Option Nat),jb t (z7 t.mask n i pe).length (nz t.mask i pe d)=z7 t.mask n i pe
 |0,_,_,_=>rfl
 |n+1,i,pe,d=>by
  have hr:=Cu t.mask i;show jb t ((List.range (SetTable.runEnd t.mask i+1-i)).map (i+·)++_).length _=_;rw[ON,OO,Qk];have e:SetTable.runEnd t.mask i+1-i=(SetTable.runEnd t.mask i-i)+1:=by omega
  rw[e,wd t (SetTable.runEnd t.mask i-i) _ (nz t.mask i pe d) rfl];show _++jb t (z7 t.mask n (SetTable.leap t.mask i pe).1 (SetTable.leap t.mask i pe).2).length (nz t.mask (SetTable.leap t.mask i pe).1 (SetTable.leap t.mask i pe).2 d)=_;rw[qV t n];show _=(List.range (SetTable.runEnd t.mask i+1-i)).map (i+·)++_;rw[e];rfl
theorem uP(mask:Nat):∀(n i pe:Nat),(z7 mask n i pe).length<=10*n
 |0,_,_=>PV _
 |n+1,i,pe=>by
  have hr:=Cu mask i;have ih:=uP mask n (SetTable.leap mask i pe).1 (SetTable.leap mask i pe).2;show ((List.range (SetTable.runEnd mask i+1-i)).map (i+·)++_).length<=_;rw[ON,OO,Qk];omega
theorem uY(t:SetTable)(hashAt:Nat->Int)(h:Int):∀(pre:List Nat)(j:Nat)(post:List Nat)(fuel:Nat)(p:SetTable.Probe),jb t (pre.length+1+post.length) p=pre++j::post->pre.length<fuel->p.dummy=none ->
  (∀k∈pre,∃i,t.slot k=.live i/\hashAt i≠h) ->
  (t.slot j=.empty->SetTable.probe.go t hashAt h fuel p=some (.empty j none))/\(∀i,t.slot j=.live i->hashAt i=h->∃nx,SetTable.probe.go t hashAt h fuel p=some (.candidate j i nx))
 |[],j,post,0,p,_,hf,_,_=>by simp at hf
 |[],j,post,fuel+1,p,hw,_,hd,_=>by
  have ew:jb t (([]:List Nat).length+1+post.length) p=p.j::jb t post.length (t.advance p):=by
   rw[Ql,show 0+1+post.length=post.length+1 from by omega];rfl
  rw[ew,Pv]at hw;have ej:p.j=j:=(Qm hw).1;refine⟨fun he=>?_,fun i hl hh=>?_⟩
  ·show (match t.slot p.j with | .empty=>_ | .dummy=>_ | .live i=>_)=_;rw[ej,he,hd]
  ·refine⟨t.advance p,?_⟩;show (match t.slot p.j with | .empty=>_ | .dummy=>_ | .live i=>_)=_;rw[ej,hl];show (if (hashAt i == h)=true then _ else _)=_;rw[NL (by simpa using hh)]
 |x::pre,j,post,0,p,_,hf,_,_=>by simp at hf
 |x::pre,j,post,fuel+1,p,hw,hf,hd,hp=>by
  have ew:jb t ((x::pre).length+1+post.length) p=p.j::jb t (pre.length+1+post.length) (t.advance p):=by
   rw[PD,show pre.length+1+1+post.length=(pre.length+1+post.length)+1 from by omega];rfl
  rw[ew,Qn]at hw;have ej:p.j=x:=(Qm hw).1;have er:=(Qm hw).2;obtain⟨i,hl,hne⟩:=hp x NX
  have hda:(t.advance p).dummy=none:=by
   unfold SetTable.advance;split
   ·exact hd
   ·exact hd
  have ih:=uY t hashAt h pre j post fuel (t.advance p) er (by rw[PD]at hf;omega) hda (fun k hk=>hp k (NY _ hk))
  have eg:SetTable.probe.go t hashAt h (fuel+1) p=SetTable.probe.go t hashAt h fuel (t.advance p):=by
   show (match t.slot p.j with | .empty=>_ | .dummy=>_ | .live i=>_)=_;rw[ej,hl];show (if (hashAt i == h)=true then _ else _)=_;rw[NM (by simpa using hne)]
  rw[eg];exact ih
def Ew(xs:List Nat):Prop:=xs.Pairwise (·<·)
theorem rH(xs:Array Nat)(j:Nat):∀(fuel lo hi:Nat),lo<=hi->hi<=xs.size->hi-lo<=fuel->(∀i k,i<k->k<xs.size->xs.getD i j<xs.getD k j)->(∀i,i<lo->xs.getD i j<j)->(∀i,hi<=i->i<xs.size->j<=xs.getD i j) ->
  let b:=SetTable.below.go xs j fuel lo hi
  b<=xs.size/\(∀i,i<b->xs.getD i j<j)/\(∀i,b<=i->i<xs.size->j<=xs.getD i j)
 |0,lo,hi,h1,h2,h3,hr,ha,hb=>by
  have e:lo=hi:=by omega
  subst e;exact⟨h2,ha,hb⟩
 |fuel+1,lo,hi,h1,h2,h3,hr,ha,hb=>by
  by_cases hlt:lo<hi
  ·simp only [SetTable.below.go, hlt, OX];by_cases hc:xs.getD ((lo+hi) / 2) j<j
   ·rw [NL hc];refine rH xs j fuel _ hi (by omega) h2 (by omega) hr (fun i hi'=>?_) hb;by_cases e:i=(lo+hi) / 2
    ·rw[e];exact hc
    ·have:=hr i ((lo+hi) / 2) (by omega) (by omega);omega
   ·rw [NM hc];refine rH xs j fuel lo _ (by omega) (by omega) (by omega) hr ha (fun i hi' hs=>?_);by_cases e:i=(lo+hi) / 2
    ·rw[e];omega
    ·have:=hr ((lo+hi) / 2) i (by omega) hs;omega
  ·have e : lo = hi := by omega
   subst e;simp only[SetTable.below.go,hlt,OW];exact⟨h2,ha,hb⟩
theorem uS{xs:Array Nat}(h:Ew xs.toList)(j:Nat):∀i k,i<k->k<xs.size->xs.getD i j<xs.getD k j:=fun i k hik hk=>by
 have hi:i<xs.size:=by omega
 have:=Qo.mp h i k (by simpa using hi) (by simpa using hk) hik;simpa[Array.getD,hi,hk] using this
theorem mY{xs:Array Nat}(h:Ew xs.toList)(j:Nat):SetTable.below xs j<=xs.size/\(∀i,i<SetTable.below xs j->xs.getD i j<j)/\(∀i,SetTable.below xs j<=i->i<xs.size->j<=xs.getD i j):=
 rH xs j xs.size 0 xs.size (PV _) (Om _) (by omega) (uS h j) (fun i hi=>by omega) (fun i h1 h2=>by omega)
theorem Bu{xs:Array Nat}(h:Ew xs.toList){i j:Nat}(e:xs[i]?=some j):SetTable.below xs j=i:=by
 obtain⟨h1,h2,h3⟩:=mY h j
 have hi:i<xs.size:=by
  rcases Qp.mp e with⟨q,_⟩;exact q
 have ei:xs.getD i j=j:=by
  rcases Qp.mp e with⟨q,z⟩
  simp[Array.getD,hi,z]
 by_cases hlt:SetTable.below xs j<i
 ·have a:=h3 (SetTable.below xs j) (Om _) (by omega);have b:=uS h j (SetTable.below xs j) i hlt hi;omega
 ·by_cases hgt : i < SetTable.below xs j
  ·have:=h2 i hgt;omega
  ·omega
theorem kN{α:Type}(xs:Array α)(p:Nat)(x:α):(SetTable.insertAt xs p x).toList=xs.toList.take p++x::xs.toList.drop p:=by
 unfold SetTable.insertAt;simp[Qq]
theorem kv{α:Type}(p:α->Prop):∀(l:List α),(∃x∈l,p x)->∃pre x post,l=pre++x::post/\p x/\∀y∈pre,¬ p y
 |[],h=>by obtain⟨x,hx,_⟩:=h;simp at hx
 |a::l,h=>by
  by_cases ha:p a
  ·exact⟨[],a,l,rfl,ha,fun y hy=>by simp at hy⟩
  ·obtain ⟨x, hx, px⟩ := h;rcases NZ.mp hx with z|z
   ·rw[z]at px;exact absurd px ha
   ·obtain ⟨pre, y, post, e, py, hp⟩ := kv p l ⟨x, z, px⟩;refine⟨a::pre,y,post,by rw[e];rfl,py,fun w hw=>?_⟩;rcases NZ.mp hw with q|q
    ·rw[q];exact ha
    ·exact hp w q
structure sY(t:SetTable)(es:Array (Int×Value))(Z:List (Nat×Int×Value)):Prop where
 place:t.place.toList=Z.map (·.1)
 ents:es.toList=Z.map (·.2)
 ris:Ew (Z.map (·.1))
 top:∀z∈Z,z.1<=t.mask
 dum:t.dummies=#[]
 reach:∀z∈Z,∃pre post,cY t.mask z.2.1=pre++z.1::post/\∀k∈pre,k∈Z.map (·.1)
theorem sY.size{t:SetTable}{es:Array (Int×Value)}{Z:List (Nat×Int×Value)}(T:sY t es Z):t.place.size=Z.length/\es.size=Z.length:=by
 have a:=Oa List.length T.place;have b:=Oa List.length T.ents;simp at a b;exact⟨a,b⟩
theorem sY.fill{t:SetTable}{es:Array (Int×Value)}{Z:List (Nat×Int×Value)}(T:sY t es Z):t.fill=Z.length:=by
 unfold SetTable.fill;rw[T.size.1,T.dum];rfl
theorem tW(j:Nat):SetTable.has #[] j=false:=by
 unfold SetTable.has;simp
theorem sY.slot_empty{t:SetTable}{es:Array (Int×Value)}{Z:List (Nat×Int×Value)}(T:sY t es Z){j:Nat}(h:j∉Z.map (·.1)):t.slot j=.empty:=by
 unfold SetTable.slot
 have hn:¬ (t.place[SetTable.below t.place j]? == some j)=true:=by
  intro e;have e':t.place[SetTable.below t.place j]?=some j:=by simpa using e
  apply h;rw[<- T.place];rw[<- Qe]at e';exact OM e'
 simp only[hn,T.dum,tW];rfl
theorem sY.slot_live{t:SetTable}{es:Array (Int×Value)}{Z:List (Nat×Int×Value)}(T:sY t es Z){i:Nat}{z:Nat×Int×Value}(h:Z[i]?=some z):t.slot z.1=.live i:=by
 have e:t.place[i]?=some z.1:=by
  rw[<- Qe,T.place,OK,h];rfl
 have r:Ew t.place.toList:=by rw[T.place];exact T.ris
 have eb:=Bu r e;unfold SetTable.slot;have hc:(t.place[SetTable.below t.place z.1]? == some z.1)=true:=by rw[eb,e];simp
 simp only[hc,OX];rw[eb]
theorem sY.hashAt{t:SetTable}{es:Array (Int×Value)}{Z:List (Nat×Int×Value)}(T:sY t es Z){i:Nat}{z:Nat×Int×Value}(h:Z[i]?=some z):es[i]?=some z.2:=by
 rw[<- Qe,T.ents,OK,h];rfl
theorem jO{α:Type}:∀{l1 l2:List α},l1.Nodup->(∀x∈l1,x∈l2)->l1.length<=l2.length
 |[],_,_,_=>PV _
 |a::r,l2,hn,hs=>by
  obtain⟨s,t,e⟩:=List.append_of_mem (hs a NX);have hn':=OC.mp hn
  have ih:=jO (l1:=r) (l2:=s++t) hn'.2 (fun x hx=>by
   have hx2:=hs x (NY _ hx);rw[e]at hx2;rcases N1.mp hx2 with q|q
   ·exact N2 _ q
   ·rcases NZ.mp q with q | q
    ·rw[q]at hx;exact absurd hx hn'.1
    ·exact Oq _ q)
  rw[e,ON,PD,PD];rw[ON]at ih;omega
theorem zr(mask:Nat):∀(n i pe:Nat),i<=mask->∀j∈z7 mask n i pe,j<=mask
 |0,_,_,_,j,h=>by simp[z7]at h
 |n+1,i,pe,hi,j,h=>by
  rcases N1.mp h with q|q
  ·obtain ⟨k, hk, e⟩ := Qr.mp q;have hk':=NT.mp hk;have:SetTable.runEnd mask i<=mask:=by unfold SetTable.runEnd;split <;> omega
   have e':i+k=j:=e;omega
  ·refine zr mask n _ _ ?_ j q;show (i*5+1+pe / 32)%(mask+1)<=mask;exact Nat.le_of_lt_succ (Nat.mod_lt _ (Nat.succ_pos mask))
theorem jV{mask:Nat}{h:Int}{j:Nat}(e:j∈cY mask h):j<=mask:=by
 refine zr mask _ _ _ ?_ j e;exact Nat.le_of_lt_succ (Nat.mod_lt _ (Nat.succ_pos mask))
theorem tY{m:Nat}{l:List Nat}(h:l.length<=m):∃j,j<=m/\j∉l:=by
 refine Qs fun hn=>?_
 have hall:∀j∈List.range (m+1),j∈l:=fun j hj=>by
  refine Qs fun hj'=>hn ⟨j,?_,hj'⟩;have:=NT.mp hj;omega
 have:=jO (Qt (n:=m+1)) hall;rw[Qk]at this;omega
theorem sY.search{t:SetTable}{es:Array (Int×Value)}{Z:List (Nat×Int×Value)}(T:sY t es Z){h:Int}(cov:∀j,j<=t.mask->j∈cY t.mask h)(hz:Z.length<=t.mask)(hA:Nat->Int)(hAe:∀i z,Z[i]?=some z->hA i=z.2.1) :
  (∃i z nx,Z[i]?=some z/\z.2.1=h/\t.probe hA h (t.probeStart h)=some (.candidate z.1 i nx)) \/
  ((∀z∈Z,z.2.1≠h)/\∃j pre post,t.probe hA h (t.probeStart h)=some (.empty j none)/\j<=t.mask/\j∉Z.map (·.1)/\cY t.mask h=pre++j::post/\∀k∈pre,k∈Z.map (·.1)):=by
 obtain⟨j0,hj0,hn0⟩:=tY (m:=t.mask) (l:=Z.map (·.1)) (by rw[OO];exact hz);obtain⟨pre,j,post,e,hs,hp⟩:=kv (fun j=>j∉Z.map (·.1)\/∃z∈Z,z.1=j/\z.2.1=h) (cY t.mask h) ⟨j0,cov j0 hj0,.inl hn0⟩
 have hw:jb t (pre.length+1+post.length) (t.probeStart h)=pre++j::post:=by
  have q:=qV t (SetTable.turns t.mask) (SetTable.bits h%(t.mask+1)) (SetTable.bits h) none
  have el:(z7 t.mask (SetTable.turns t.mask) (SetTable.bits h%(t.mask+1)) (SetTable.bits h)).length=pre.length+1+post.length:=by
   show (cY t.mask h).length=_;rw[e,ON,PD];omega
  rw[el]at q;exact q.trans e
 have hlen:pre.length<10*SetTable.turns t.mask:=by
  have q:=uP t.mask (SetTable.turns t.mask) (SetTable.bits h%(t.mask+1)) (SetTable.bits h)
  have el:(z7 t.mask (SetTable.turns t.mask) (SetTable.bits h%(t.mask+1)) (SetTable.bits h)).length=pre.length+1+post.length:=by
   show (cY t.mask h).length=_;rw[e,ON,PD];omega
  omega
 have occ:∀k∈pre,k∈Z.map (·.1):=fun k hk=>by
  refine Qs fun q=>hp k hk (.inl q)
 have hpre:∀k∈pre,∃i,t.slot k=.live i/\hA i≠h:=fun k hk=>by
  obtain⟨z,hzm,ez⟩:=Qr.mp (occ k hk);obtain⟨i,hi⟩:=Qu hzm;refine⟨i,ez ▸ T.slot_live hi,fun q=>hp k hk (.inr ⟨z,hzm,ez,?_⟩)⟩;rw[<- hAe i z hi];exact q
 obtain⟨g1,g2⟩:=uY t hA h pre j post (10*SetTable.turns t.mask) (t.probeStart h) hw hlen rfl hpre;by_cases hany:∃z∈Z,z.2.1=h
 ·obtain ⟨z, hzm, ez⟩ := hany;obtain⟨pz,qz,ezz,hoz⟩:=T.reach z hzm;rw[ez]at ezz
  have hjo:j∈Z.map (·.1):=by
   have e2:pre++j::post=pz++z.1::qz:=by rw[<- e,<- ezz]
   rcases List.append_eq_append_iff.mp e2 with⟨a,h1,h2⟩|⟨c,h1,h2⟩
   ·cases a with
    |nil=>
     simp only[Pv]at h2;rw[(Qm h2).1];exact Qv hzm
    |cons x a=>
     rw[Qn]at h2;have:j∈pz:=by rw[h1,(Qm h2).1];simp
     exact hoz j this
   ·cases c with
    |nil=>
     simp only[Pv]at h2;rw[<- (Qm h2).1];exact Qv hzm
    |cons x c=>
     rw[Qn]at h2;have:z.1∈pre:=by rw[h1,(Qm h2).1];simp
     exact absurd (.inr ⟨z,hzm,rfl,ez⟩) (hp z.1 this)
  rcases hs with q|⟨z',hz',e1,e2⟩
  ·exact absurd hjo q
  ·obtain⟨i,hi⟩:=Qu hz';obtain⟨nx,en⟩:=g2 i (e1 ▸ T.slot_live hi) (by rw[hAe i z' hi];exact e2);exact .inl ⟨i,z',nx,hi,e2,by rw[e1];exact en⟩
 ·have hno : ∀ z ∈ Z, z.2.1 ≠ h := fun z hz' e' => hany ⟨z, hz', e'⟩;rcases hs with q|⟨z',hz',e1,e2⟩
  ·have hjm:j<=t.mask:=jV (h:=h) (by rw[e];simp);exact .inr ⟨hno,j,pre,post,g1 (T.slot_empty q),hjm,q,e,occ⟩
  ·exact absurd e2 (hno z' hz')
theorem yB{l:List Nat}{j p:Nat}(h:Ew l)(h1:∀x∈l.take p,x<j)(h2:∀x∈l.drop p,j<x):Ew (l.take p++j::l.drop p):=by
 unfold Ew at *;have h':(l.take p++l.drop p).Pairwise (·<·):=by rw[Qw];exact h
 rw[List.pairwise_append]at h'⊢;refine⟨h'.1,Qx.mpr ⟨fun x hx=>h2 x hx,h'.2.1⟩,fun a ha b hb=>?_⟩;rcases NZ.mp hb with q|q
 ·rw[q];exact h1 a ha
 ·exact h'.2.2 a ha b q
theorem sY.put{t:SetTable}{es:Array (Int×Value)}{Z:List (Nat×Int×Value)}(T:sY t es Z){j:Nat}{h:Int}{x:Value}{pre post:List Nat}(hj:j<=t.mask)(hn:j∉Z.map (·.1))(e:cY t.mask h=pre++j::post)(hp:∀k∈pre,k∈Z.map (·.1)) :
  ∃Z',sY (t.put j).1 (SetTable.insertAt es (t.put j).2 (h,x)) Z'/\Z'.Perm ((j,h,x)::Z)/\(t.put j).1={t with place:=SetTable.insertAt t.place (SetTable.below t.place j) j}:=by
 have e1:(t.put j).1={t with place:=SetTable.insertAt t.place (SetTable.below t.place j) j}:=by
  unfold SetTable.put;simp only[T.dum,tW];rw[NM Ou]
 have e2:(t.put j).2=SetTable.below t.place j:=rfl;have r:Ew t.place.toList:=by rw[T.place];exact T.ris
 obtain⟨b1,b2,b3⟩:=mY r j;generalize hb:SetTable.below t.place j=p at *;refine⟨Z.take p++(j,h,x)::Z.drop p,⟨?_,?_,?_,fun z hz=>?_,by rw[e1];exact T.dum,fun z hz=>?_⟩,?_,e1⟩
 ·rw[e1];show (SetTable.insertAt t.place p j).toList=_;rw[kN,T.place,Qy,Pe,QA,QB]
 ·rw[e2,kN,T.ents,Qy,Pe,QA,QB]
 ·rw [Qy, Pe, QA, QB];have hlen:t.place.size=(Z.map (·.1)).length:=by rw[<- T.place];simp
  refine yB T.ris (fun y hy=>?_) (fun y hy=>?_)
  ·obtain ⟨i, hi⟩ := Qu hy;rw[List.getElem?_take]at hi;split at hi
   ·rename_i hlt;have q:=b2 i hlt;rw[<- T.place,Qe]at hi;simp only[QC,hi,QD]at q;exact q
   ·cases hi
  ·obtain⟨i,hi⟩:=Qu hy;rw[List.getElem?_drop]at hi;have hmem:y∈Z.map (·.1):=OM hi;rw[<- T.place,Qe]at hi;have hlt:p+i<t.place.size:=(Qp.mp hi).1;have q:=b3 (p+i) (by omega) hlt;simp only[QC,hi,QD]at q;have:y≠j:=fun ey=>hn (ey ▸ hmem);omega
 ·rw [e1];show z.1<=t.mask;rcases N1.mp hz with q|q
  ·exact T.top z (QE q)
  ·rcases NZ.mp q with q | q
   ·rw[q];exact hj
   ·exact T.top z (QF q)
 ·rw [e1];show ∃pre post,cY t.mask z.2.1=pre++z.1::post/\_
  have sub:∀k∈Z.map (·.1),k∈(Z.take p++(j,h,x)::Z.drop p).map (·.1):=fun k hk=>by
   rw[<- Qw p Z,Qy]at hk;rw[Qy,Pe];rcases N1.mp hk with q|q
   ·exact N2 _ q
   ·exact Oq _ (NY _ q)
  have old:∀z∈Z,∃pre post,cY t.mask z.2.1=pre++z.1::post/\∀k∈pre,k∈(Z.take p++(j,h,x)::Z.drop p).map (·.1):=fun z hz=>by
   obtain⟨a,b,c,d⟩:=T.reach z hz;exact⟨a,b,c,fun k hk=>sub k (d k hk)⟩
  rcases N1.mp hz with q|q
  ·exact old z (QE q)
  ·rcases NZ.mp q with q | q
   ·rw[q];exact⟨pre,post,e,fun k hk=>sub k (hp k hk)⟩
   ·exact old z (QF q)
 ·have q:(Z.take p++(j,h,x)::Z.drop p).Perm ((j,h,x)::(Z.take p++Z.drop p)):=List.perm_middle;rw[Qw]at q;exact q
theorem tZ(mask:Nat)(owner:Array (Option Nat)):∀(n i pe:Nat),
  SetTable.layClean.free mask owner n i pe=(z7 mask n i pe).find? fun j=>(owner.getD j (some 0)).isNone
 |0,_,_=>rfl
 |n+1,i,pe=>by
  show (match (List.range (SetTable.runEnd mask i+1-i)).find? fun k=>(owner.getD (i+k) (some 0)).isNone with|some k=>_|none=>_)=_;show _=((List.range (SetTable.runEnd mask i+1-i)).map (i+·)++z7 mask n (SetTable.leap mask i pe).1 (SetTable.leap mask i pe).2).find? _;rw[List.find?_append,List.find?_map,<- tZ mask owner n];have ec:((fun j=>(owner.getD j (some 0)).isNone) ∘ fun x=>i+x)=fun k=>(owner.getD (i+k) (some 0)).isNone:=rfl;rw[ec];cases (List.range (SetTable.runEnd mask i+1-i)).find? fun k=>(owner.getD (i+k) (some 0)).isNone with
  |some k=>rfl
  |none=>rfl
structure Hu(mask:Nat)(hs:List Int)(owner:Array (Option Nat)):Prop where
 size:owner.size=mask+1
 all:∀(i:Nat)(h:Int),hs[i]?=some h->∃j:Nat,j<=mask/\owner[j]?=some (some i)/\∃pre post,cY mask h=pre++j::post/\∀k∈pre,∃i':Nat,owner[k]?=some (some i')
 lt:∀(j i:Nat),owner[j]?=some (some i)->i<hs.length
 inj:∀(j j' i:Nat),owner[j]?=some (some i)->owner[j']?=some (some i)->j=j'
theorem F1(mask:Nat):Hu mask [] (Array.replicate (mask+1) none):=by
 have hno:∀(j i:Nat),(Array.replicate (mask+1) (none:Option Nat))[j]?≠some (some i):=fun j i e=>by
  rw[Array.getElem?_replicate]at e;split at e <;> cases e
 exact⟨by simp,fun i h e=>by simp at e,fun j i e=>absurd e (hno j i),fun j j' i e=>absurd e (hno j i)⟩
theorem DK{mask:Nat}{hs:List Int}{owner:Array (Option Nat)}(O:Hu mask hs owner)(hl:hs.length<=mask):∃j,j<=mask/\owner[j]?=some none:=by
 refine Qs fun hn=>?_
 have hall:∀j,j<=mask->∃i,owner[j]?=some (some i):=fun j hj=>by
  have hs':j<owner.size:=by rw[O.size];omega
  cases e:owner[j]? with
  |none=>rw[QG]at e;omega
  |some o=>
   cases o with
   |none=>exact absurd ⟨j,hj,e⟩ hn
   |some i=>exact⟨i,rfl⟩
 have key:∀n,n<=mask+1->∃l:List Nat,l.length=n/\l.Nodup/\(∀i∈l,i<hs.length)/\∀i∈l,∃j,j<n/\owner[j]?=some (some i):=by
  intro n
  induction n with
  |zero=>exact fun _=>⟨[],rfl,QH,fun _ h=>by simp at h,fun _ h=>by simp at h⟩
  |succ n ih=>
   intro hn';obtain⟨l,h1,h2,h3,h4⟩:=ih (by omega);obtain⟨i,hi⟩:=hall n (by omega);refine⟨i::l,by rw[PD,h1],OC.mpr ⟨fun hm=>?_,h2⟩,fun x hx=>?_,fun x hx=>?_⟩
   ·obtain⟨j,hj,ej⟩:=h4 i hm;have:=O.inj j n i ej hi;omega
   ·rcases NZ.mp hx with q | q
    ·rw[q];exact O.lt n i hi
    ·exact h3 x q
   ·rcases NZ.mp hx with q | q
    ·rw[q];exact⟨n,by omega,hi⟩
    ·obtain⟨j,hj,ej⟩:=h4 x q;exact⟨j,by omega,ej⟩
 obtain⟨l,h1,h2,h3,_⟩:=key (mask+1) (Om _);have:=jO h2 (l2:=List.range hs.length) (fun x hx=>NT.mpr (h3 x hx));rw[Qk,h1]at this;omega
theorem DJ{mask:Nat}{hs:List Int}{owner:Array (Option Nat)}{h:Int}(O:Hu mask hs owner)(hl:hs.length<=mask)(cov:∀j,j<=mask->j∈cY mask h) :
  ∃j,SetTable.layClean.free mask owner (SetTable.turns mask) (SetTable.bits h%(mask+1)) (SetTable.bits h)=some j/\Hu mask (hs++[h]) (owner.setIfInBounds j (some hs.length)):=by
 obtain⟨j0,hj0,e0⟩:=DK O hl
 have none_iff:∀j,((owner.getD j (some 0)).isNone=true)↔owner[j]?=some none:=fun j=>by
  rw[QC];cases owner[j]? with
  |none=>simp
  |some o=>cases o <;> simp
 obtain⟨pre,j,post,e,hs',hp⟩:=kv (fun j=>owner[j]?=some none) (cY mask h) ⟨j0,cov j0 hj0,e0⟩;have hjm:j<=mask:=jV (h:=h) (by rw[e];simp);have hjs:j<owner.size:=by rw[O.size];omega
 have hocc:∀k∈pre,∃i',owner[k]?=some (some i'):=fun k hk=>by
  have hkm:k<=mask:=jV (h:=h) (by rw[e];simp[hk]);cases q:owner[k]? with
  |none=>
   rw[QG,O.size]at q;omega
  |some o=>
   cases o with
   |none=>exact absurd q (hp k hk)
   |some i=>exact⟨i,rfl⟩
 have hset:∀k,(owner.setIfInBounds j (some hs.length))[k]?=if j=k then some (some hs.length) else owner[k]?:=fun k=>by
  rw[Array.getElem?_setIfInBounds];by_cases q:j=k
  ·rw[NL q,NL q,NL hjs]
  ·rw[NM q,NM q]
 have keep:∀k i',owner[k]?=some (some i')->(owner.setIfInBounds j (some hs.length))[k]?=some (some i'):=fun k i' q=>by
  rw[hset,NM]
  ·exact q
  ·intro ej;rw[<- ej,hs']at q;cases q
 refine⟨j,?_,by simp[O.size],fun i h' ei=>?_,fun k i ei=>?_,fun k k' i e1 e2=>?_⟩
 ·rw [tZ];show (cY mask h).find? _=some j;rw[e,List.find?_append]
  have e1:pre.find? (fun j=>(owner.getD j (some 0)).isNone)=none:=by
   rw[List.find?_eq_none];intro k hk q;exact hp k hk ((none_iff k).mp q)
  simp only[e1,Option.none_or,List.find?_cons,(none_iff j).mpr hs']
 ·by_cases hi : i < hs.length
  ·rw[OJ hi]at ei;obtain⟨j',a1,a2,pr,po,a3,a4⟩:=O.all i h' ei;exact⟨j',a1,keep j' i a2,pr,po,a3,fun k hk=>(a4 k hk).elim fun i' q=>⟨i',keep k i' q⟩⟩
  ·have hi':i=hs.length:=by
    have:=(N3.mp ei).1;simp at this;omega
   subst hi';rw[OH (Om _),QI]at ei;have eh:h=h':=by simpa using ei
   subst eh;exact⟨j,hjm,by rw[hset,NL rfl],pre,post,e,fun k hk=>(hocc k hk).elim fun i' q=>⟨i',keep k i' q⟩⟩
 ·rw [hset] at ei;rw[ON,Pt];split at ei
  ·cases ei;omega
  ·have:=O.lt k i ei;omega
 ·rw [hset] at e1 e2;split at e1
  ·rename_i q1;cases e1;split at e2
   ·rename_i q2;rw[<- q1,q2]
   ·have:=O.lt k' _ e2;omega
  ·split at e2
   ·cases e2;have:=O.lt k _ e1;omega
   ·exact O.inj k k' i e1 e2
theorem wK{mask:Nat}:∀(hs0 hs1:List Int)(owner:Array (Option Nat)),Hu mask hs0 owner->hs0.length+hs1.length<=mask+1->(∀h∈hs1,∀j,j<=mask->j∈cY mask h) ->
  ∃owner',hs1.foldl (fun(acc:Option (Array (Option Nat)×Nat)) h=>do
   let (owner,k) <- acc
   let j <- SetTable.layClean.free mask owner (SetTable.turns mask) (SetTable.bits h%(mask+1)) (SetTable.bits h)
   pure (owner.setIfInBounds j (some k),k+1)) (some (owner,hs0.length))=some (owner',(hs0++hs1).length)/\Hu mask (hs0++hs1) owner'
 |hs0,[],owner,O,_,_=>⟨owner,by simp,by simpa using O⟩
 |hs0,h::hs1,owner,O,hl,cov=>by
  rw[PD]at hl;obtain⟨j,ej,O'⟩:=DJ (h:=h) O (by omega) (cov h NX);obtain⟨ow,e1,e2⟩:=wK (hs0++[h]) hs1 _ O' (by rw[ON,Pt];omega) (fun x hx=>cov x (NY _ hx));rw[Pp,List.singleton_append]at e1 e2;refine⟨ow,?_,e2⟩;rw[Pq];show List.foldl _ ((SetTable.layClean.free mask owner (SetTable.turns mask) (SetTable.bits h%(mask+1)) (SetTable.bits h)).bind fun j=>some (owner.setIfInBounds j (some hs0.length),hs0.length+1)) hs1=_;rw[ej];show List.foldl _ (some (owner.setIfInBounds j (some hs0.length),hs0.length+1)) hs1=_;rw[ON,Pt]at e1;exact e1
theorem wD{α:Type}:∀l:List α,(List.range l.length).filterMap (fun i=>l[i]?)=l
 |[]=>rfl
 |a::l=>by
  rw[PD,Qh,NW];show a::List.filterMap _ _=_;rw[O0];show a::List.filterMap (fun i=>l[i]?) _=_;rw[wD l]
theorem Gq{mask:Nat}{hs:List Int}(hl:hs.length<=mask+1)(cov:∀h∈hs,∀j,j<=mask->j∈cY mask h):∃owner,SetTable.layClean mask hs.toArray=some owner/\Hu mask hs owner:=by
 obtain⟨ow,e1,e2⟩:=wK [] hs _ (F1 mask) (by rw[Ql,QJ];exact hl) cov;refine⟨ow,?_,by simpa using e2⟩;unfold SetTable.layClean;rw[List.foldl_toArray']
 ·show Option.map (·.1) (hs.foldl _ (some (Array.replicate (mask+1) none,([]:List Int).length)))=_;rw[e1];rfl
 ·simp
theorem rQ{t:SetTable}{es:Array (Int×Value)}{wanted mask:Nat}(hm:SetTable.sizeAbove wanted-1=mask)(hl:es.size<=mask)(cov:∀e∈es.toList,∀j,j<=mask->j∈cY mask e.1) :
  ∃t' order Z',t.relaid (es.map (·.1)) wanted=some (t',order)/\sY t' (order.filterMap (es[·]?)) Z'/\(Z'.map (·.2)).Perm es.toList/\t'.mask=mask/\t'.led=t.led/\t'.plain=t.plain/\order.toList.Perm (List.range es.size):=by
 have ea:es.map (·.1)=(es.toList.map (·.1)).toArray:=by rw[<- Array.toList_map]
 obtain⟨ow,e1,O⟩:=Gq (mask:=mask) (hs:=es.toList.map (·.1)) (by simp;omega) (fun h hh=>by
  obtain⟨e,he,q⟩:=Qr.mp hh
  rw[<- q];exact cov e he)
 let live:List (Nat×Nat):=(List.range (mask+1)).filterMap fun j=>(ow.getD j none).map (j,·)
 have hlive:∀j i,(j,i)∈live↔(j<=mask/\ow[j]?=some (some i)):=fun j i=>by
  simp only[live,Oo,NT];constructor
  ·rintro ⟨k, hk, q⟩
   rw[QC]at q;cases e:ow[k]? with
   |none=>rw[e]at q;cases q
   |some o=>
    rw[e]at q;cases o with
    |none=>cases q
    |some i'=>
     simp only[QD,Option.map_some,QK,Prod.mk.injEq]at q;obtain⟨q1,q2⟩:=q;subst q1;subst q2;exact⟨by omega,e⟩
  ·rintro ⟨hj, e⟩
   refine⟨j,by omega,?_⟩;rw[QC,e];rfl
 have hfst:(live.map (·.1)).Pairwise (·<·):=by
  have gen:∀(l:List Nat),l.Pairwise (·<·)->((l.filterMap fun j=>(ow.getD j none).map (j,·)).map (·.1)).Pairwise (·<·)/\∀x∈((l.filterMap fun j=>(ow.getD j none).map (j,·)).map (·.1)),x∈l:=by
   intro l
   induction l with
   |nil=>intro _;exact⟨List.Pairwise.nil,fun x hx=>by simp at hx⟩
   |cons a l ih=>
    intro hp;obtain⟨h1,h2⟩:=Qx.mp hp;obtain⟨i1,i2⟩:=ih h2;rw[NW];cases q:(ow.getD a none).map (a,·) with
    |none=>exact⟨i1,fun x hx=>NY _ (i2 x hx)⟩
    |some p=>
     have ep:p.1=a:=by
      cases hq:ow.getD a none with
      |none=>rw[hq]at q;cases q
      |some i=>rw[hq]at q;cases q;rfl
     show (p.1::List.map _ _).Pairwise _/\∀x∈p.1::List.map _ _,x∈a::l;rw[ep]
     exact⟨Qx.mpr ⟨fun x hx=>h1 x (i2 x hx),i1⟩,fun x hx=>by
      rcases NZ.mp hx with z|z
      ·rw[z];exact NX
      ·exact NY _ (i2 x z)⟩
  exact(gen _ List.pairwise_lt_range).1
 have hnd:live.Nodup:=by
  have:=hfst.imp (fun h=>NR h);exact List.Pairwise.of_map (·.1) (fun a b h e=>h (by rw[e])) this
 have hsz:∀j i,(j,i)∈live->i<es.size:=fun j i h=>by
  have:=O.lt j i ((hlive j i).mp h).2;simpa using this
 have hsnd:(live.map (·.2)).Perm (List.range es.size):=by
  refine(QL ?_ Qt).mpr fun i=>?_
  ·refine List.Pairwise.map _ (fun a b h=>?_) (List.Pairwise.and_mem.mp hnd);obtain⟨ha,hb,hne⟩:=h;intro e;have q1:=((hlive a.1 a.2).mp ha).2;have q2:=((hlive b.1 b.2).mp hb).2;rw[<- e]at q2;exact hne (Prod.ext (O.inj _ _ _ q1 q2) e)
  ·rw [NT, Qr];constructor
   ·rintro⟨p,hp,e⟩;rw[<- e];exact hsz p.1 p.2 hp
   ·intro hi;obtain⟨j,hj,q,_⟩:=O.all i (es[i].1) (by rw[OK,Qe,QM hi];rfl);exact⟨(j,i),(hlive j i).mpr ⟨hj,q⟩,rfl⟩
 let Z':List (Nat×Int×Value):=live.filterMap fun p=>(es[p.2]?).map fun e=>(p.1,e)
 have hZ1:Z'.map (·.1)=live.map (·.1):=by
  have gen:∀l:List (Nat×Nat),(∀p∈l,p.2<es.size)->(l.filterMap fun p=>(es[p.2]?).map fun e=>(p.1,e)).map (·.1)=l.map (·.1):=by
   intro l
   induction l with
   |nil=>intro _;rfl
   |cons p l ih=>
    intro h;rw[NW,QM (h p NX)];show p.1::List.map _ _=p.1::List.map _ _;rw[ih fun q hq=>h q (NY _ hq)]
  exact gen live fun p hp=>hsz p.1 p.2 hp
 have hZ2:Z'.map (·.2)=(live.map (·.2)).filterMap (es[·]?):=by
  have gen:∀l:List (Nat×Nat),(l.filterMap fun p=>(es[p.2]?).map fun e=>(p.1,e)).map (·.2)=(l.map (·.2)).filterMap (es[·]?):=by
   intro l
   induction l with
   |nil=>rfl
   |cons p l ih=>
    rw[NW,Pe,NW];cases es[p.2]? with
    |none=>exact ih
    |some e=>show e::List.map _ _=e::_;rw[ih]
  exact gen live
 have hes:(List.range es.size).filterMap (es[·]?)=es.toList:=by
  have q:=wD es.toList;rw[N9]at q;simpa only[Qe] using q
 refine⟨{mask,place:=(live.map (·.1)).toArray,dummies:=#[],finger:=t.finger,led:=t.led,moves:=t.movedTo mask,plain:=t.plain},(live.map (·.2)).toArray,Z',?_,⟨?_,?_,?_,fun z hz=>?_,rfl,fun z hz=>?_⟩,?_,rfl,rfl,rfl,hsnd⟩
 ·unfold SetTable.relaid SetTable.laid;rw[hm,ea,e1];rfl
 ·show (live.map (·.1))=_;rw[hZ1]
 ·rw[hZ2];simp
 ·rw[hZ1];exact hfst
 ·have : z.1 ∈ live.map (·.1) := by rw [<- hZ1]; exact Qv hz
  obtain⟨p,hp,q⟩:=Qr.mp this;rw[<- q];exact((hlive p.1 p.2).mp hp).1
 ·obtain⟨p,hp,q⟩:=Oo.mp hz;rw[QM (hsz p.1 p.2 hp)]at q;have ez:z=(p.1,es[p.2]'(hsz p.1 p.2 hp)):=(NN q).symm;obtain⟨hj,ho⟩:=(hlive p.1 p.2).mp hp;obtain⟨j,a1,a2,pre,post,a3,a4⟩:=O.all p.2 (es[p.2]'(hsz p.1 p.2 hp)).1 (by rw[OK,Qe,QM (hsz p.1 p.2 hp)];rfl);have ejp:j=p.1:=O.inj _ _ _ a2 ho;refine⟨pre,post,by rw[ez];rw[ejp]at a3;exact a3,fun k hk=>?_⟩;obtain⟨i',hi'⟩:=a4 k hk;rw[hZ1];have hkm:k<=mask:=jV (h:=(es[p.2]'(hsz p.1 p.2 hp)).1) (by rw[a3];simp[hk]);exact Qr.mpr ⟨(k,i'),(hlive k i').mpr ⟨hkm,hi'⟩,rfl⟩
 ·rw[hZ2,<- hes];exact hsnd.filterMap _
def prs:List (List Int):=((List.range 36).filter fun n=>n / 6<n%6).map fun n=>[((n / 6:Nat):Int),((n%6:Nat):Int)]
def hsh(ks:List Int):Int:=reduceHash (Builtin.Tuple.tupleHashOf (ks.map hashInt))
theorem CP{prog:Program}{w:World}(ks:List Int):tupleKeyHash (intKind prog w) ks=hsh ks:=rfl
def HG(mask:Nat):Bool:=prs.all fun ks=>(List.range (mask+1)).all fun j=>(cY mask (hsh ks)).contains j
theorem M0:HG 7=true:=by decide +kernel
theorem Ho:HG 31=true:=by decide +kernel
theorem LM:(prs.map hsh).Nodup:=by decide +kernel
theorem zC:prs.length=15:=by decide +kernel
theorem yg{mask:Nat}(h:HG mask=true){ks:List Int}(hk:ks∈prs):∀j,j<=mask->j∈cY mask (hsh ks):=fun j hj=>by
 have a:=QN.mp h ks hk;have b:=QN.mp a j (NT.mpr (by omega));simpa using b
theorem JX{l:List (List Int)}(h:(l.map hsh).Nodup){a b:List Int}(ha:a∈l)(hb:b∈l)(e:hsh a=hsh b):a=b:=by
 induction l with
 |nil=>simp at ha
 |cons c l ih=>
  rw[Pe]at h;obtain⟨h1,h2⟩:=OC.mp h;rcases NZ.mp ha with qa|qa <;> rcases NZ.mp hb with qb|qb
  ·rw[qa,qb]
  ·exact absurd (by rw[<- qa,e];exact Qv qb) h1
  ·exact absurd (by rw[<- qb,<- e];exact Qv qa) h1
  ·exact ih h2 qa qb
theorem Gx{a b:List Int}(ha:a∈prs)(hb:b∈prs)(e:hsh a=hsh b):a=b:=JX LM ha hb e
theorem uT{a b:Int}(h1:0<=a)(h2:a<b)(h3:b<6):[a,b]∈prs:=by
 have key:∀x:Nat,x<6->∀y:Nat,y<6->x<y->[(x:Int),(y:Int)]∈prs:=by decide +kernel
 have:=key a.toNat (by omega) b.toNat (by omega) (by omega);rw[Int.toNat_of_nonneg h1,Int.toNat_of_nonneg (by omega)]at this;exact this
end RS
namespace RS
open PySem PyProof.Rows
abbrev KP:=List Int×Addr
structure eV(w:World)(h:Heap)(a:Addr)(qs:List (Int×Value))(o:Obj)(es:Array (Int×Value))(ep:Nat)(t:SetTable)(Z:List (Nat×Int×Value)):Prop where
 ho:h.get? a=some o
 ex:o.ExactSet
 hd:o.data=.set es ep t
 tab:sY t es Z
 plain:t.plain=true
 led:t.led=!w.params.followText "set-order"
 big:(t.mask=7/\Z.length<=4)\/(t.mask=31/\Z.length<=18)
 perm:(Z.map (·.2)).Perm qs
def xS(p:KP):Int×Value:=(hsh p.1,Value.ref p.2)
def bY(w:World)(h:Heap)(a:Addr)(ps:List KP):Prop:=∃o es ep t Z,eV w h a (ps.map xS) o es ep t Z/\(∀p∈ps,p.1∈prs)/\(ps.map (·.1)).Nodup
theorem eV.len{w:World}{h:Heap}{a:Addr}{ps:List (Int×Value)}{o es ep t Z}(S:eV w h a ps o es ep t Z):Z.length=ps.length:=by
 have:=S.perm.length_eq;simpa using this
theorem lW{ps:List KP}(hk:∀p∈ps,p.1∈prs)(hn:(ps.map (·.1)).Nodup):ps.length<=15:=by
 have:=jO hn (l2:=prs) (fun x hx=>by obtain⟨p,hp,e⟩:=Qr.mp hx;rw[<- e];exact hk p hp);rw[OO,zC]at this;exact this
theorem eV.fits{w:World}{h:Heap}{a:Addr}{ps:List (Int×Value)}{o es ep t Z}(S:eV w h a ps o es ep t Z):t.fits es.size=true:=by
 unfold SetTable.fits;rw[S.tab.fill,S.tab.size.1,S.tab.size.2];rcases S.big with⟨h1,h2⟩|⟨h1,h2⟩ <;> simp[h1] <;> omega
theorem eV.cov{w:World}{h:Heap}{a:Addr}{ps:List (Int×Value)}{o es ep t Z}(S:eV w h a ps o es ep t Z){k:List Int}(hk:k∈prs):∀j,j<=t.mask->j∈cY t.mask (hsh k):=by
 rcases S.big with⟨h1,h2⟩|⟨h1,h2⟩ <;> rw[h1]
 ·exact yg M0 hk
 ·exact yg Ho hk
theorem bY.keeps{w:World}{h h':Heap}{a:Addr}{ps:List KP}(S:bY w h a ps)(k:∀o,h.get? a=some o->h'.get? a=some o):bY w h' a ps:=by
 obtain⟨o,es,ep,t,Z,S,hk,hn⟩:=S;exact⟨o,es,ep,t,Z,⟨k o S.ho,S.ex,S.hd,S.tab,S.plain,S.led,S.big,S.perm⟩,hk,hn⟩
section
variable{prog:Program}{w:World}{A:Around}{E:Value->Shared->Prop}{s:Shared}
abbrev Tk(prog:Program)(w:World)(h:Heap)(k:List Int)(r:Addr):Prop:=IsTupleKey (intKind prog w) h k r
theorem items_int{k:List Int}{vs:List Value}(h:ItemsAre (intKind prog w) k vs):∀v∈vs,∃i t,v=.int i t:=by
 induction h with
 |nil=>intro v hv;simp at hv
 | @cons k v' ks vs h1 _ ih=>
  intro v hv;rcases NZ.mp hv with q|q
  ·obtain⟨t,e⟩:=NH (k:=k) (v:=v') h1;exact⟨k,t,by rw[q,e]⟩
  ·exact ih v q
theorem wM{k:List Int}{r:Addr}{Q:Bool->Shared->Prop}(hk:Tk prog w s.heap k r)(h:Q false s):wpAny (model prog w) A (ofAClassStatement 8 (.ref r)) Q E s:=by
 have hT:=hk.typeIs;obtain⟨o,items,n,ho,hc,hd,hi⟩:=hk;unfold ofAClassStatement;refine Oc (O9 hT ?_);dsimp only;simp only[Pz,OX];refine Oc (Og ?_);simp only[QO,PB,OW];refine Oc (P8 ho hd ?_);dsimp only;refine Oc ?_;show wpAny _ _ (forIn items _ _) _ _ s;rw[<- Array.forIn_toList];refine QP _ (fun rest r s'=>r.1=none/\s'=s/\∀v∈rest,∃i t,v=.int i t) _ ?_ ?_ _ _ ⟨rfl,rfl,items_int hi⟩
 ·rintro v rest r s' ⟨hr, rfl, hall⟩
  obtain⟨i,t,e⟩:=hall v NX;subst e;unfold ofAClassStatement;refine Oc (Og ?_);simp only[PB,OW];exact Og ⟨rfl,rfl,fun u hu'=>hall u (NY _ hu')⟩
 ·rintro ⟨r1, r2⟩ s' ⟨hr, rfl, _⟩
  simp only at hr;subst hr;exact Og h
theorem sV{k:List Int}{r:Addr}{Q:Bool->Shared->Prop}(hk:Tk prog w s.heap k r)(h:Q true s):wpAny (model prog w) A (hashByValue 8 (.ref r)) Q E s:=by
 have hT:=hk.typeIs;obtain⟨o,items,n,ho,hc,hd,hi⟩:=hk;unfold hashByValue;refine Oc (wpAny_specialOf hT F.slot_tuple_hash.lookup ?_);dsimp only;refine Oc (P8 ho hd ?_);refine Oc ?_;show wpAny _ _ (forIn items _ _) _ _ s;rw[<- Array.forIn_toList];refine QP _ (fun rest r s'=>r.1=none/\s'=s/\∀v∈rest,∃i t,v=.int i t) _ ?_ ?_ _ _ ⟨rfl,rfl,items_int hi⟩
 ·rintro v rest r s' ⟨hr, rfl, hall⟩
  obtain⟨i,t,e⟩:=hall v NX;subst e;unfold hashByValue;refine Oc (Og ?_);simp only[QO,PB,OW];exact Og ⟨rfl,rfl,fun u hu'=>hall u (NY _ hu')⟩
 ·rintro ⟨r1, r2⟩ s' ⟨hr, rfl, _⟩
  simp only at hr;subst hr;exact Og h
theorem DO{k:List Int}{r:Addr}{ys:List Value}{Q:Bool->Shared->Prop}(hk:Tk prog w s.heap k r)(hy:∀y∈ys,∃k' r',y=.ref r'/\Tk prog w s.heap k' r')(h:Q false s):wpAny (model prog w) A (searchCouldBeSeen (.ref r) ys) Q E s:=by
 unfold searchCouldBeSeen;refine Oc ?_;refine QP _ (fun rest r' s'=>r'.1=none/\s'=s/\∀y∈rest,∃k' r',y=.ref r'/\Tk prog w s.heap k' r') _ ?_ ?_ _ _ ⟨rfl,rfl,hy⟩
 ·rintro v rest q s' ⟨hr, rfl, hall⟩
  obtain⟨k',r',e,hk'⟩:=hall v NX;subst e;have hrest:=fun u hu'=>hall u (NY _ hu');dsimp only;by_cases hv:(r == r' || carriedByValue (Value.ref r)&&carriedByValue (Value.ref r'))=true
  ·rw[NL hv];exact Og ⟨rfl,rfl,hrest⟩
  ·rw[NM hv];refine Oc (wpAny_eqIsQuiet_tuple hk ?_);simp only[QO,PB,OW];refine Oc (wpAny_eqIsQuiet_tuple hk' ?_);simp only[QO,PB,OW];refine Oc (wM hk ?_);simp only[PB,OW];refine Oc (wM hk' ?_);simp only[PB,OW];exact Og ⟨rfl,rfl,hrest⟩
 ·rintro ⟨r1, r2⟩ s' ⟨hr, rfl, _⟩
  simp only at hr;subst hr;exact Og h
end
end RS
namespace RS
open PySem PyProof.Rows
section
variable{prog:Program}{w:World}{A:Around}{E:Value->Shared->Prop}{s:Shared}
theorem C0{h:Heap}{a:Addr}{ps:List KP}{o es ep t Z}(S:eV w h a (ps.map xS) o es ep t Z){z:Nat×Int×Value}(hz:z∈Z):∃p∈ps,z.2=(hsh p.1,Value.ref p.2):=by
 have:z.2∈Z.map (·.2):=Qv hz;obtain⟨p,hp,e⟩:=Qr.mp (S.perm.mem_iff.mp this);exact⟨p,hp,e.symm⟩
theorem Ka{h:Heap}{a:Addr}{ps:List KP}{o es ep t Z}(S:eV w h a (ps.map xS) o es ep t Z){p:KP}(hp:p∈ps):∃z∈Z,z.2=(hsh p.1,Value.ref p.2):=by
 have:xS p∈ps.map xS:=Qv hp;obtain⟨z,hz,e⟩:=Qr.mp (S.perm.mem_iff.mpr this);exact⟨z,hz,e⟩
theorem Ap{a r:Addr}{k:List Int}{ps:List KP}{o es ep t Z}{Q:SetFound->Shared->Prop}(S:eV w s.heap a (ps.map xS) o es ep t Z)(hks:∀p∈ps,p.1∈prs)(hk:k∈prs)(hr:Tk prog w s.heap k r)(hps:∀p∈ps,Tk prog w s.heap p.1 p.2)(hu:A.units<cLine)
  (h1:k∈ps.map (·.1)->Q (.there none) s)
  (h2:k∉ps.map (·.1)->∀j pre post,j<=t.mask->j∉Z.map (·.1)->cY t.mask (hsh k)=pre++j::post->(∀x∈pre,x∈Z.map (·.1))->Q (.free j false) s) :
  wpAny (model prog w) A (setSearch a (.ref r) (hsh k) true) Q E s:=by
 have hodd:t.gaveWay=false:=by
  unfold SetTable.gaveWay;rcases S.big with⟨q,_⟩|⟨q,_⟩ <;> rw[q] <;> decide
 have hz:Z.length<=t.mask:=by rcases S.big with⟨q,q2⟩|⟨q,q2⟩ <;> omega
 unfold setSearch setSearchFrom;refine Oc (QR S.ho S.hd S.fits ?_);dsimp only;rw[hodd];simp only[PB,OW];generalize hpr:SetTable.probe t _ (hsh k) (Option.getD none (t.probeStart (hsh k)))=pr
 have key:∀(hA:Nat->Int) pr,(∀i z,Z[i]?=some z->hA i=z.2.1)->t.probe hA (hsh k) (t.probeStart (hsh k))=pr ->
   (∃i z nx,Z[i]?=some z/\z.2.1=hsh k/\pr=some (.candidate z.1 i nx)) \/
   ((∀z∈Z,z.2.1≠hsh k)/\∃j pre post,pr=some (.empty j none)/\j<=t.mask/\j∉Z.map (·.1)/\cY t.mask (hsh k)=pre++j::post/\∀x∈pre,x∈Z.map (·.1)):=fun hA pr hAe e=>by
  subst e;exact S.tab.search (S.cov hk) hz hA hAe
 rcases key _ pr (fun i z hi=>by show (Option.map (·.1) es[i]?).getD 0=_;rw[S.tab.hashAt hi];rfl) hpr with⟨i,z,nx,hi,ez,e⟩|⟨hno,j,pre,post,e,hj,hn,e2,hp⟩
 ·subst e;dsimp only;have hzm:z∈Z:=OM hi;obtain⟨p,hp,ep'⟩:=C0 S hzm;have ek:p.1=k:=Gx (hks p hp) hk (by rw[<- ez,ep']);have hin:k∈ps.map (·.1):=by rw[<- ek];exact Qv hp
  have rest:wpAny (model prog w) A (do
    let some (_,y):=es[i]? | unsupported "internal:set-entry"
    let equal <- holding [y] (eqBool y (.ref r))
    let (es',_,t') <- setState a
    if true&&equal then return SetFound.there none
    let some same:=t'.sameMemory t.moves t.mask|unsupported "set.changed-during-lookup:is-the-new-block-at-the-old-address"
    let still <- match (if same then t'.slot z.1 else .empty) with
     |.live i'=>match es'[i']? with
      |some (_,y')=>do pure (if <- isSame y' y then some i' else none)
      |none=>pure none
     |_=>pure none
    match still with
    |none=>rule "set.search.anew";setSearchFrom a (.ref r) (hsh k) true 99999 none
    |some i'=>if equal then return .there (some i') else setSearchFrom a (.ref r) (hsh k) true 99999 (some nx)) Q E s:=by
   rw[S.tab.hashAt hi,ep'];dsimp only;refine Oc (Od (wpAny_eqBool_tuple hu (hps p hp) hr ?_));refine Oc (QR S.ho S.hd S.fits ?_);dsimp only;rw[ek,Pw rfl];simp only[QS,OX];exact Og (h1 hin)
  by_cases hl:(!t.led)=true
  ·rw [NL hl];refine Oc (DO hr (fun y hy=>?_) ?_)
   ·obtain ⟨e', he', q⟩ := Qr.mp hy
    have he2:e'∈es.toList:=by
     have:=Array.mem_filter.mp (QT.mp he');exact QT.mpr this.1
    rw[S.tab.ents]at he2;obtain⟨z',hz',q2⟩:=Qr.mp he2;obtain⟨p',hp',q3⟩:=C0 S hz';exact⟨p'.1,p'.2,by rw[<- q,<- q2,q3],hps p' hp'⟩
   ·simp only[PB,OW];exact rest
  ·rw[NM hl];exact rest
 ·subst e;dsimp only;refine Og (h2 (fun hin=>?_) j pre post hj hn e2 hp);obtain⟨p,hpm,ek⟩:=Qr.mp hin;obtain⟨z,hzm,ez⟩:=Ka S hpm;exact hno z hzm (by rw[ez,<- ek])
end
end RS
namespace RS
open PySem PyProof.Rows
def ja(ps:List KP)(k:List Int)(r:Addr):List KP:=if k∈ps.map (·.1) then ps else ps++[(k,r)]
section
variable{prog:Program}{w:World}{A:Around}{E:Value->Shared->Prop}{s:Shared}
theorem Cd{a r:Addr}{k:List Int}{ps:List KP}{Q:Bool->Shared->Prop}(S:bY w s.heap a ps)(hk:k∈prs)(hr:Tk prog w s.heap k r)(hps:∀p∈ps,Tk prog w s.heap p.1 p.2)(hu:A.units<cLine)
  (h:∀b h',Heap.SameBut a s.heap h'->bY w h' a (ja ps k r)->Q b {s with heap:=h'}):wpAny (model prog w) A (setAddHashed a (.ref r) (hsh k)) Q E s:=by
 obtain⟨o,es,ep,t,Z,S,hk0,hn0⟩:=S;unfold setAddHashed setAddHashedIn;refine Od (Oc (QR S.ho S.hd S.fits ?_));dsimp only;have hsc:byScan (Value.ref r) es=false:=rfl;rw[hsc];simp only[PB,OW];refine Oc (Ap S hk0 hk hr hps hu (fun hin=>?_) fun hin j pre post hj hn e hp=>?_)
 ·dsimp only;refine Og ?_;have q:=h false s.heap (Heap.SameBut.refl a s.heap) (by unfold ja;rw[NL hin];exact⟨o,es,ep,t,Z,S,hk0,hn0⟩);cases s;exact q
 ·dsimp only;refine Oc (QR S.ho S.hd S.fits ?_);dsimp only;obtain⟨Z',T',hperm,et⟩:=S.tab.put (x:=Value.ref r) hj hn e hp;have e2:(t.put j).2=SetTable.below t.place j:=rfl;have hpl:(t.put j).1.plain=true:=by rw[et];exact S.plain
  have hled:(t.put j).1.led=t.led:=by rw[et]
  have hmask:(t.put j).1.mask=t.mask:=by rw[et]
  have hperm':(Z'.map (·.2)).Perm ((ps++[(k,r)]).map xS):=by
   have q1:=hperm.map (·.2);refine q1.trans ?_;rw[Pe,Qy];refine List.Perm.trans (List.Perm.cons _ S.perm) ?_;exact(List.perm_append_singleton _ _).symm
  have hkeys:∀p∈ps++[(k,r)],p.1∈prs:=fun p hp'=>by
   rcases N1.mp hp' with q|q
   ·exact hk0 p q
   ·rw[PX]at q;rw[q];exact hk
  have hnd:((ps++[(k,r)]).map (·.1)).Nodup:=by
   rw[Qy];refine QU.mpr ⟨hn0,by simp,fun x hx y hy=>?_⟩;simp at hy;rw[hy];rintro rfl;exact hin hx
  have hlen15:=lW hkeys hnd;have hZ':Z'.length=ps.length+1:=by rw[hperm.length_eq,PD,S.len,OO]
  have hesz:(SetTable.insertAt es (t.put j).2 (hsh k,Value.ref r)).size=Z'.length:=T'.size.2;have hadd:ja ps k r=ps++[(k,r)]:=by unfold ja;rw[NM hin]
  rw[hadd]at h;rw[ON,Pt]at hlen15;generalize ht1:(t.put j).1=t1 at *;generalize hes1:SetTable.insertAt es (t.put j).2 (hsh k,Value.ref r)=es1 at *;have hline:es1.size<=sizeLine:=by rw[hesz,hZ'];exact NU hlen15 (by decide)
  rw[hpl];simp only[OX];refine Oc (sV hr ?_);simp only[OX];refine Oc (QV S.ho S.hd ?_ hline)
  have hg:(s.heap.update a (Obj.putSet es1 t1)).get? a=some {o with data:=.set es1 (ep+1) t1}:=by
   have:=Ph (Obj.putSet es1 t1) S.ho (by rw[QW es1 t1 S.hd];rfl);rw[QW es1 t1 S.hd]at this;exact this
  have hsb1:=Qa s.heap a (Obj.putSet es1 t1);have hfill:t1.fill=ps.length+1:=by rw[T'.fill,hZ']
  by_cases hfull:t1.tooFull=true
  ·simp only [hfull, QX, QS, OX]
   have hm7:t.mask=7/\ps.length=4:=by
    unfold SetTable.tooFull at hfull;rw[hfill,hmask]at hfull;have hf:(ps.length+1)*5 ≥ t.mask*3:=by simpa using hfull
    have hl:=S.len;rw[OO]at hl;rcases S.big with⟨q,q2⟩|⟨q,q2⟩
    ·rw[q]at hf;exact⟨q,by omega⟩
    ·rw[q]at hf;omega
   have hes0:es.size=4:=by rw[S.tab.size.2,S.len,OO,hm7.2]
   have hsz1:es1.size=5:=by rw[hesz,hZ',hm7.2]
   have hgr:SetTable.grown (es.size+1)=20:=by rw[hes0];rfl
   rw[hgr];unfold setRelay
   have hfits1:t1.fits es1.size=true:=by
    unfold SetTable.fits;rw[T'.fill,T'.size.1,hesz,hmask,hm7.1,hZ',hm7.2];rfl
   refine Oc (Oc (QR hg rfl hfits1 ?_));dsimp only;rw[NM (by decide)]
   obtain⟨t2,order,Z2,er,T2,hp2,hm2,hl2,hpl2,_⟩:=rQ (t:=t1) (es:=es1) (wanted:=20) (mask:=31) (by rfl) (by rw[hsz1];decide) (fun e' he'=>by
    rw[T'.ents]at he';obtain⟨p,hp',q⟩:=Qr.mp (hperm'.mem_iff.mp he');rw[<- q]
    exact yg Ho (hkeys p hp'))
   rw[er]
   have hZ2:Z2.length=5:=by
    have:=hp2.length_eq;simp at this;omega
   have hes2:(order.filterMap (es1[·]?)).size=5:=by rw[T2.size.2,hZ2]
   have hne:((order.filterMap (es1[·]?)).size != es1.size)=false:=by rw[hes2,hsz1];rfl
   refine Oc ?_;show wpAny _ A (if ((order.filterMap (es1[·]?)).size != es1.size)=true then _ else _) _ _ _;rw[hne];simp only[PB,OW];refine Og ?_;refine QV hg rfl ?_ (by rw[hes2];decide)
   have hg2:((s.heap.update a (Obj.putSet es1 t1)).update a (Obj.putSet (order.filterMap (es1[·]?)) t2)).get? a=some {o with data:=.set (order.filterMap (es1[·]?)) (ep+1+1) t2}:=by
    have:=Ph (Obj.putSet (order.filterMap (es1[·]?)) t2) hg (by rw[QW _ t2 rfl];rfl);rw[QW _ t2 rfl]at this;exact this
   refine Og ?_;refine h true _ (hsb1.trans (Qa _ a _)) ⟨_,_,_,t2,Z2,⟨hg2,S.ex,rfl,T2,by rw[hpl2];exact hpl,by rw[hl2,hled];exact S.led,.inr ⟨hm2,by omega⟩,?_⟩,hkeys,hnd⟩;refine hp2.trans ?_;rw[T'.ents];exact hperm'
  ·have hf : t1.tooFull = false := by simpa using hfull
   simp only[hf,Bool.and_false,PB,OW];refine Og ?_;refine h true _ hsb1 ⟨_,_,_,t1,Z',⟨hg,S.ex,rfl,T',hpl,by rw[hled];exact S.led,?_,hperm'⟩,hkeys,hnd⟩;unfold SetTable.tooFull at hf;rw[hfill,hmask]at hf;have hf':¬ ((ps.length+1)*5 ≥ t.mask*3):=by simpa using hf
   rw[hmask,hZ'];rcases S.big with⟨q,q2⟩|⟨q,q2⟩
   ·rw[q]at hf'⊢;exact .inl ⟨rfl,by omega⟩
   ·rw[q]at hf'⊢;exact .inr ⟨rfl,by omega⟩
end
def gh(qs:List KP):List KP:=qs.foldl (fun ps p=>ja ps p.1 p.2) []
theorem xH(qs:List KP)(p:KP):gh (qs++[p])=ja (gh qs) p.1 p.2:=by unfold gh;rw[List.foldl_append];rfl
theorem rJ{ps:List KP}{k:List Int}{r:Addr}{p:KP}(h:p∈ja ps k r):p∈ps\/p=(k,r):=by
 unfold ja at h;split at h
 ·exact .inl h
 ·rcases N1.mp h with q | q
  ·exact .inl q
  ·exact .inr (PX.mp q)
theorem pM:∀{qs ps:List KP}{p:KP},p∈qs.foldl (fun ps p=>ja ps p.1 p.2) ps->p∈ps\/p∈qs
 |[],_,_,h=>.inl h
 |q::qs,ps,p,h=>by
  rw[Pq]at h;rcases pM h with z|z
  ·rcases rJ z with z | z
   ·exact .inl z
   ·exact .inr (by rw[z];exact NX)
  ·exact .inr (NY _ z)
theorem mZ{qs:List KP}{p:KP}(h:p∈gh qs):p∈qs:=(pM h).elim (fun z=>by simp at z) id
theorem rY{ps:List KP}{k:List Int}{r:Addr}(h:(ps.map (·.1)).Nodup):((ja ps k r).map (·.1)).Nodup:=by
 unfold ja;split
 ·exact h
 ·rename_i hn;rw[Qy];refine QU.mpr ⟨h,by simp,fun x hx y hy=>?_⟩;simp at hy;rw[hy];rintro rfl;exact hn hx
theorem mC:∀{qs ps:List KP},(ps.map (·.1)).Nodup->((qs.foldl (fun ps p=>ja ps p.1 p.2) ps).map (·.1)).Nodup
 |[],_,h=>h
 |q::qs,ps,h=>by rw[Pq];exact mC (rY h)
theorem vA{qs:List KP}:((gh qs).map (·.1)).Nodup:=mC (ps:=[]) QH
def mw (w:World):Bool:=!w.params.followText "set-order"
theorem lz {w:World}{h:Heap}{a:Addr} (e:h.get? a=some {cls:=.type "set",dict:=none,data:=.set #[] 0 (.fresh 0 0 (mw w))}):bY w h a []:=
 ⟨_,_,_,_,[],⟨e,⟨rfl,rfl,rfl⟩,rfl,⟨rfl,rfl,List.Pairwise.nil,fun z hz=>by simp at hz,rfl,fun z hz=>by simp at hz⟩,rfl,rfl,.inl ⟨rfl,by decide⟩,List.Perm.nil⟩,fun p hp=>by simp at hp,QH⟩
section
variable{prog:Program}{w:World}{A:Around}{R:Result->Shared->Prop}{I:Addr}{fp wr:List Addr}{G:Array GenState->Array GenState->Prop}{P:Nat->Value->Prop}{St:Nat->Shared->Prop}
structure BP(prog:Program)(w:World)(u:Nat)(S:Addr)(vs:List Value)(J:Nat->Heap->Prop):Prop where
 keep:∀i h h',(∀b o,b<=S->h.get? b=some o->h'.get? b=some o)->J i h->J i h'
 add:∀(A:Around)(i:Nat)(v:Value)(s:Shared)(E:Value->Shared->Prop)(Q:Bool->Shared->Prop),A.units<=u->vs[i]?=some v->J i s.heap ->
  (∀b h' tk,s.toks<=tk->Heap.SameBut S s.heap h'->J (i+1) h'->Q b {s with heap:=h',toks:=tk})->wpAny (model prog w) A (setAdd S v) Q E s
theorem wV{u:Nat}{vs:List Value}{J:Nat->Heap->Prop}(W:WalksS prog w A.in1 I fp wr G vs.length P St)(S:Addr)(hSf:S∉fp)(hwr:∀b∈wr,S<b)(hP:∀(i:Nat) v,P i v->vs[i]?=some v)(hJ:BP prog w u S vs J)(hu:A.units+1<=u) :
  ∀(k i:Nat)(s:Shared),vs.length-i=k->i<=vs.length->St i s->J i s.heap ->
   (∀s',Moved (S::wr) G s s'->J vs.length s'.heap->R (.ok (.ret .none)) s') ->
   codeAny (model prog w) A (.builtin "set.update.loop" ⟨[.ref S,.ref I],[]⟩) R s:=by
 have hSw:S∉wr:=fun h=>hSf (W.sub _ h);have hsub:∀b∈wr,b∈S::wr:=fun b hb=>NY _ hb;have hle:∀b,b<=S->b∉wr:=fun b hb z=>NQ _ (NP (hwr b z) hb);intro k
 induction k with
 |zero=>
  intro i s ek hi hst hS hR;have hin:i=vs.length:=by omega
  subst hin;refine QY F.entry_set_update_loop ?_;rw[QZ Q0 _];show wpAny _ A.in1 (pyNext (.ref I) >>= _) _ _ s;refine Oc (W.done s _ _ hst fun s' hm=>?_);show wpAny _ A.in1 (ret Value.none) _ _ s';exact Og (hR s' (hm.mono hsub) (hJ.keep _ _ _ (fun b o hb e=>hm.heap b o (hle b hb) e) hS))
 |succ k ih=>
  intro i s ek hi hst hS hR;have hlt:i<vs.length:=by omega
  refine QY F.entry_set_update_loop ?_;rw[QZ Q0 _];show wpAny _ A.in1 (pyNext (.ref I) >>= _) _ _ s;refine Oc (W.item i s _ _ hlt hst fun v s' hPv hst' hm=>?_);have hv:=hP i v hPv;have hS':=hJ.keep i _ s'.heap (fun b o hb e=>hm.heap b o (hle b hb) e) hS;show wpAny _ A.in1 (holding [v] (setAdd S v) >>= _) _ _ s';refine Oc (Od ?_);refine hJ.add A.in1 i v s' _ _ (by show A.units+1<=u;exact hu) hv hS' fun b h' tk ht hsb hS2=>?_;have hkeep:∀b o,b≠S->s'.heap.get? b=some o->h'.get? b=some o:=fun b o hb e=>(hsb.2 b hb).trans e;refine Og ⟨Q2 Q0 _,ih (i+1) _ (by omega) hlt (W.frame _ s' _ _ hst' ht fun b hb o e=>hkeep b o (fun z=>hSf (by rw[<- z];exact hb)) e) hS2 fun s'' hm'' hS''=>?_⟩;refine hR s'' (Moved.trans W.gtrans ((hm.mono hsub).then_heap ht fun b o hb e=>?_) hm'') hS'';exact hkeep b o (fun z=>hb (by rw[z];exact NX)) e
end
section
variable{prog:Program}{w:World}{A:Around}{E:Value->Shared->Prop}{s:Shared}
theorem nT(a:Value){Q1:Value->Shared->Prop}
  (h:Q1 (.ref s.heap.objs.size) {s with heap:=s.heap.push {cls:=.type "set",dict:=none,data:=.set #[] 0 (.fresh 0 0 (mw w))}}) :
  codeAny (model prog w) A (.call (.builtin "set.__new__") ⟨[.type "set",a],[]⟩) (wants Q1 E) s:=by
 refine PN ?_;show wpAny _ A.in1 (do checkBuiltinCall "set.__new__" ⟨[.type "set",a],[]⟩;again (.builtin "set.__new__" ⟨[.type "set",a],[]⟩)) _ _ s;refine Oc (PU (F.newCall_set_1 a) (Og ⟨Q2 F.plain_set_new _,QY F.entry_set_new ?_⟩));rw[QZ F.plain_set_new _];unfold Builtin.«set.__new__» Builtin.Frozenset.newClass;have hsub:=sub_set_self;obtain⟨hp,g,d,tk,os⟩:=s;dsimp only
 wp_walk
 refine PQ (Og ?_);dsimp only;simp only[newObj];refine Oc (wpAny_alloc (Og ?_));exact Og h
namespace F
theorem sub_list_set:isSubtype (.type "list") (.type "set")=pure false:=by rw[Q3];kernel_rfl
theorem sub_list_frozenset:isSubtype (.type "list") (.type "frozenset")=pure false:=by rw[Q3];kernel_rfl
end F
theorem nN{l:Addr}{items:Array Value}{J:Nat->Heap->Prop}{Q:Value->Shared->Prop}
  (hh:A.handled=none) (hl:s.heap.IsList l items) (hJ:BP prog w (A.units+20) s.heap.objs.size items.toList J)
  (h0:∀h',(∀b o,s.heap.get? b=some o->h'.get? b=some o)->h'.get? s.heap.objs.size=some {cls:=.type "set",dict:=none,data:=.set #[] 0 (.fresh 0 0 (mw w))}->J 0 h')
  (h:∀(h':Heap)(tk:Nat),J items.size h'->(∀b o,b<s.heap.objs.size->s.heap.get? b=some o->h'.get? b=some o)->Q (.ref s.heap.objs.size) {s with heap:=h',toks:=tk}) :
  wpAny (model prog w) A (call (.type "set") [.ref l]) Q E s:=by
 obtain⟨c,tl,hmro⟩:=Q4.mro;have hmade:=Q4.made;have hsub:=Q4.sub;refine Oy (PN ?_);show wpAny _ _ (callAny (.type "set") _) _ _ _;refine Og ⟨Q5 _ (by decide +kernel),QY PySem.F.entry_type_call ?_⟩;rw[Around.under_plain (weight_type_call_type "set" [.ref l] []) rfl];have h1:=Q4.notType;have h2:=Q4.canCreate;have hct:=PySem.F.typeCall_set_1 (.ref l)
 repeat (any_goals (first|assumption|wp_step))
 refine OA (nT (.ref l) (E:=E) (Q1:=fun obj s1=>obj=.ref s.heap.objs.size/\s1={s with heap:=s.heap.push {cls:=.type "set",dict:=none,data:=.set #[] 0 (.fresh 0 0 (mw w))}}) ⟨rfl,rfl⟩) fun r s1 hr=>?_;cases r with
 |error e=>exact hr
 |ok fl=>
  cases fl with
  |ret obj=>
   obtain⟨rfl,rfl⟩:=hr;generalize hled:mw w=led;have hS:(s.heap.push {cls:=.type "set",dict:=none,data:=.set #[] 0 (.fresh 0 0 led)}).get? s.heap.objs.size=some {cls:=.type "set",dict:=none,data:=.set #[] 0 (.fresh 0 0 led)}:=Ol _ rfl;have hTy:Shared.TypeIs {s with heap:=s.heap.push {cls:=.type "set",dict:=none,data:=.set #[] 0 (.fresh 0 0 led)}} (.ref s.heap.objs.size) "set" := ⟨_,hS,rfl⟩;have hli:=Q4.init.lookup;have hbi:=Q4.init.bind (.ref s.heap.objs.size)
   repeat (any_goals (first|assumption|wp_step))
   refine OA (Q6 (R:=wants (fun r s2=>r=.none/\∃h' tk,s2={s with heap:=h',toks:=tk}/\J items.size h' /\
     (∀b o,b<s.heap.objs.size->s.heap.get? b=some o->h'.get? b=some o)) E) Q4.init.plain PySem.F.entry_set_init (check_set_init_1 hTy ?_)) fun r2 s2 hr2=>?_
   ·obtain ⟨ol, hol, hcl, nl, hdl⟩ := hl;obtain⟨ocls,odict,odata,oslots⟩:=ol;simp only at hcl hdl;subst hcl;subst hdl;have hol':(s.heap.push {cls:=.type "set",dict:=none,data:=.set #[] 0 (.fresh 0 0 led)}).get? l=some {cls:=.type "list",dict:=odict,data:=.seq items nl,slots:=oslots}:=Oj _ hol;have hsls:=F.sub_list_set;have hslf:=F.sub_list_frozenset;have hne:(Value.type "list" == Value.type "dict")=false:=by decide
    have hl1:(s.heap.push {cls:=.type "set",dict:=none,data:=.set #[] 0 (.fresh 0 0 led)}).IsList l items:=⟨_,hol',rfl,nl,rfl⟩;unfold Builtin.«set.__init__» noKeywords Builtin.Frozenset.updateFrom;generalize hPI:pyIter=PI
    wp_walk
    subst hPI;refine Q7 hl1 ?_;refine Oc (Q8 ?_);have hlS:l<s.heap.objs.size:=NO hol;have hh3:A.in1.in1.in1.handled=none:=by simp[hh]
    have hneI:l≠(s.heap.push {cls:=.type "set",dict:=none,data:=.set #[] 0 (.fresh 0 0 led)}).objs.size:=by
     rw[PJ];exact NR (PH hlS)
    have hSf:s.heap.objs.size ∉ [(s.heap.push {cls:=.type "set",dict:=none,data:=.set #[] 0 (.fresh 0 0 led)}).objs.size,l]:=by
     rw[PJ];simp only[NZ,PX,Qc,Qd,not_or];exact⟨NR (PF _),Of hlS⟩
    have W:=(Q9 (prog:=prog) (w:=w) hh3 (s.heap.push {cls:=.type "set",dict:=none,data:=.set #[] 0 (.fresh 0 0 led)}).objs.size l hneI items).toS;rw[show items.size=items.toList.length by rw[N9]]at W
    refine wV W s.heap.objs.size hSf (fun b hb=>?_) (fun i v hv=>by rw[Qe];exact hv) hJ (by simp only[Around.in1];omega) (items.toList.length-0) 0 _ (by omega) (PV _)
     ⟨⟨_,Ol _ rfl,rfl,rfl⟩,?hL⟩ ?hS0 ?hR
    case hL=>
     obtain⟨o,ho,rest⟩:=hl1;exact⟨o,Oj _ ho,rest⟩
    case hS0=>
     refine h0 _ (fun b o e=>Oj _ (Oj _ e)) ?_;rw[hled];exact Oj _ hS
    case hR=>
     intro s' hm hS';obtain⟨h',g',d',tk',os'⟩:=s';have eg:g'=s.gens:=hm.gens;have ed:d'=s.drawn:=hm.drawn;have eo:os'=s.os:=hm.os;subst eg;subst ed;subst eo;show wpAny _ _ _ _ _ _;refine Og ?_;show wpAny _ _ (ret Value.none) _ _ _;refine Og ⟨rfl,h',tk',rfl,by rw[N9]at hS';exact hS',fun b o hb e=>?_⟩;have hb1:b≠s.heap.objs.size:=NR hb
     have hb2:b≠(s.heap.push {cls:=.type "set",dict:=none,data:=.set #[] 0 (.fresh 0 0 led)}).objs.size:=by
      rw[PJ];exact NR (PH hb)
     exact hm.heap b o (by simp only[NZ,PX,Qc,Qd,not_or];exact⟨hb1,hb2⟩) (Oj _ (Oj _ e))
    ·rw[PJ]at hb;rw[PX.mp hb];exact PF _
   ·cases r2 with
    |error e=>exact hr2
    |ok fl2=>
     cases fl2 with
     |ret r=>
      obtain⟨rfl,h',tk,rfl,hS',hk'⟩:=hr2
      repeat (any_goals (first|assumption|wp_step))
      exact h _ _ hS' hk'
     |_=>exact hr2.elim
  |_=>exact hr.elim
namespace F
theorem sub_tuple_set:isSubtype (.type "tuple") (.type "set")=pure false:=by rw[Q3];kernel_rfl
theorem sub_tuple_frozenset:isSubtype (.type "tuple") (.type "frozenset")=pure false:=by rw[Q3];kernel_rfl
end F
theorem mz{l:Addr}{items:Array Value}{J:Nat->Heap->Prop}{Q:Value->Shared->Prop}
  (hh:A.handled=none) (hl:s.heap.IsTuple l items) (hJ:BP prog w (A.units+20) s.heap.objs.size items.toList J)
  (h0:∀h',(∀b o,s.heap.get? b=some o->h'.get? b=some o)->h'.get? s.heap.objs.size=some {cls:=.type "set",dict:=none,data:=.set #[] 0 (.fresh 0 0 (mw w))}->J 0 h')
  (h:∀(h':Heap)(tk:Nat),J items.size h'->(∀b o,b<s.heap.objs.size->s.heap.get? b=some o->h'.get? b=some o)->Q (.ref s.heap.objs.size) {s with heap:=h',toks:=tk}) :
  wpAny (model prog w) A (call (.type "set") [.ref l]) Q E s:=by
 obtain⟨c,tl,hmro⟩:=Q4.mro;have hmade:=Q4.made;have hsub:=Q4.sub;refine Oy (PN ?_);show wpAny _ _ (callAny (.type "set") _) _ _ _;refine Og ⟨Q5 _ (by decide +kernel),QY PySem.F.entry_type_call ?_⟩;rw[Around.under_plain (weight_type_call_type "set" [.ref l] []) rfl];have h1:=Q4.notType;have h2:=Q4.canCreate;have hct:=PySem.F.typeCall_set_1 (.ref l)
 repeat (any_goals (first|assumption|wp_step))
 refine OA (nT (.ref l) (E:=E) (Q1:=fun obj s1=>obj=.ref s.heap.objs.size/\s1={s with heap:=s.heap.push {cls:=.type "set",dict:=none,data:=.set #[] 0 (.fresh 0 0 (mw w))}}) ⟨rfl,rfl⟩) fun r s1 hr=>?_;cases r with
 |error e=>exact hr
 |ok fl=>
  cases fl with
  |ret obj=>
   obtain⟨rfl,rfl⟩:=hr;generalize hled:mw w=led;have hS:(s.heap.push {cls:=.type "set",dict:=none,data:=.set #[] 0 (.fresh 0 0 led)}).get? s.heap.objs.size=some {cls:=.type "set",dict:=none,data:=.set #[] 0 (.fresh 0 0 led)}:=Ol _ rfl;have hTy:Shared.TypeIs {s with heap:=s.heap.push {cls:=.type "set",dict:=none,data:=.set #[] 0 (.fresh 0 0 led)}} (.ref s.heap.objs.size) "set" := ⟨_,hS,rfl⟩;have hli:=Q4.init.lookup;have hbi:=Q4.init.bind (.ref s.heap.objs.size)
   repeat (any_goals (first|assumption|wp_step))
   refine OA (Q6 (R:=wants (fun r s2=>r=.none/\∃h' tk,s2={s with heap:=h',toks:=tk}/\J items.size h' /\
     (∀b o,b<s.heap.objs.size->s.heap.get? b=some o->h'.get? b=some o)) E) Q4.init.plain PySem.F.entry_set_init (check_set_init_1 hTy ?_)) fun r2 s2 hr2=>?_
   ·obtain ⟨ol, hol, hcl, nl, hdl⟩ := hl;obtain⟨ocls,odict,odata,oslots⟩:=ol;simp only at hcl hdl;subst hcl;subst hdl;have hol':(s.heap.push {cls:=.type "set",dict:=none,data:=.set #[] 0 (.fresh 0 0 led)}).get? l=some {cls:=.type "tuple",dict:=odict,data:=.seq items nl,slots:=oslots}:=Oj _ hol;have hsls:=F.sub_tuple_set;have hslf:=F.sub_tuple_frozenset;have hne:(Value.type "tuple" == Value.type "dict")=false:=by decide
    have hl1:(s.heap.push {cls:=.type "set",dict:=none,data:=.set #[] 0 (.fresh 0 0 led)}).IsTuple l items:=⟨_,hol',rfl,nl,rfl⟩;unfold Builtin.«set.__init__» noKeywords Builtin.Frozenset.updateFrom;generalize hPI:pyIter=PI
    wp_walk
    subst hPI;refine Qb hl1 ?_;refine Oc (Q8 ?_);have hlS:l<s.heap.objs.size:=NO hol;have hh3:A.in1.in1.in1.handled=none:=by simp[hh]
    have hneI:l≠(s.heap.push {cls:=.type "set",dict:=none,data:=.set #[] 0 (.fresh 0 0 led)}).objs.size:=by
     rw[PJ];exact NR (PH hlS)
    have hSf:s.heap.objs.size ∉ [(s.heap.push {cls:=.type "set",dict:=none,data:=.set #[] 0 (.fresh 0 0 led)}).objs.size,l]:=by
     rw[PJ];simp only[NZ,PX,Qc,Qd,not_or];exact⟨NR (PF _),Of hlS⟩
    have W:=(Ra (prog:=prog) (w:=w) hh3 (s.heap.push {cls:=.type "set",dict:=none,data:=.set #[] 0 (.fresh 0 0 led)}).objs.size l hneI items).toS;rw[show items.size=items.toList.length by rw[N9]]at W
    refine wV W s.heap.objs.size hSf (fun b hb=>?_) (fun i v hv=>by rw[Qe];exact hv) hJ (by simp only[Around.in1];omega) (items.toList.length-0) 0 _ (by omega) (PV _)
     ⟨⟨_,Ol _ rfl,rfl,rfl⟩,?hL⟩ ?hS0 ?hR
    case hL=>
     obtain⟨o,ho,rest⟩:=hl1;exact⟨o,Oj _ ho,rest⟩
    case hS0=>
     refine h0 _ (fun b o e=>Oj _ (Oj _ e)) ?_;rw[hled];exact Oj _ hS
    case hR=>
     intro s' hm hS';obtain⟨h',g',d',tk',os'⟩:=s';have eg:g'=s.gens:=hm.gens;have ed:d'=s.drawn:=hm.drawn;have eo:os'=s.os:=hm.os;subst eg;subst ed;subst eo;show wpAny _ _ _ _ _ _;refine Og ?_;show wpAny _ _ (ret Value.none) _ _ _;refine Og ⟨rfl,h',tk',rfl,by rw[N9]at hS';exact hS',fun b o hb e=>?_⟩;have hb1:b≠s.heap.objs.size:=NR hb
     have hb2:b≠(s.heap.push {cls:=.type "set",dict:=none,data:=.set #[] 0 (.fresh 0 0 led)}).objs.size:=by
      rw[PJ];exact NR (PH hb)
     exact hm.heap b o (by simp only[NZ,PX,Qc,Qd,not_or];exact⟨hb1,hb2⟩) (Oj _ (Oj _ e))
    ·rw[PJ]at hb;rw[PX.mp hb];exact PF _
   ·cases r2 with
    |error e=>exact hr2
    |ok fl2=>
     cases fl2 with
     |ret r=>
      obtain⟨rfl,h',tk,rfl,hS',hk'⟩:=hr2
      repeat (any_goals (first|assumption|wp_step))
      exact h _ _ hS' hk'
     |_=>exact hr2.elim
  |_=>exact hr.elim
theorem rX{qs:List KP}{S:Addr}{u:Nat}(hk:∀p∈qs,p.1∈prs)(hS:∀p∈qs,p.2<S)(hu:u<cLine):BP prog w u S (qs.map fun p=>Value.ref p.2) (fun i h=>bY w h S (gh (qs.take i))/\∀p∈qs,Tk prog w h p.1 p.2):=by
 have keepT:∀{h1 h2:Heap}{q:KP},q∈qs->(∀b o,b<S->h1.get? b=some o->h2.get? b=some o)->Tk prog w h1 q.1 q.2->Tk prog w h2 q.1 q.2:=fun {h1 h2 q} hq kk t=>by
  obtain⟨o,items,n,ho,r⟩:=t;exact⟨o,items,n,kk _ o (hS q hq) ho,r⟩
 refine⟨fun i h h' hk' ⟨j1,j2⟩=>⟨j1.keeps fun o e=>hk' S o (Om _) e,fun p hp=>keepT hp (fun b o hb e=>hk' b o (NV hb) e) (j2 p hp)⟩,fun A i v s E Q hA hv ⟨j1,j2⟩ hQ=>?_⟩;rw[OK]at hv;cases e:qs[i]? with
 |none=>rw[e]at hv;cases hv
 |some p=>
  rw[e]at hv;cases hv;have hpm:p∈qs:=OM e;unfold setAdd;refine Od ?_;refine Oc (wpAny_pyHash_tuple (by omega) (j2 p hpm) ?_);rw[CP];refine Cd (s:={s with toks:=s.toks+(p.1.length+1)}) j1 (hk p hpm) (j2 p hpm) (fun q hq=>j2 q (QE (mZ hq))) (by omega) fun b h' hsb hS2=>?_;have etk:qs.take (i+1)=qs.take i++[p]:=by rw[Rb,e];rfl
  refine hQ b h' _ (Nat.le_add_right _ _) hsb ⟨by rw[etk,xH];exact hS2,fun q hq=>keepT hq (fun b o hb e=>(hsb.2 b (NR hb)).trans e) (j2 q hq)⟩
theorem CL{qs:List KP}(hT:∀p∈qs,Tk prog w s.heap p.1 p.2):∀p∈qs,p.2<s.heap.objs.size:=fun p hp=>by
 obtain⟨o,_,_,ho,_⟩:=hT p hp;exact NO ho
theorem xo{l:Addr}{items:Array Value}{qs:List KP}{Q:Value->Shared->Prop}
  (hh:A.handled=none) (hl:s.heap.IsList l items) (hi:items.toList=qs.map fun p=>Value.ref p.2) (hk:∀p∈qs,p.1∈prs) (hT:∀p∈qs,Tk prog w s.heap p.1 p.2) (hu:A.units+20<cLine)
  (h:∀(h':Heap)(tk:Nat),bY w h' s.heap.objs.size (gh qs)->(∀b o,b<s.heap.objs.size->s.heap.get? b=some o->h'.get? b=some o)->Q (.ref s.heap.objs.size) {s with heap:=h',toks:=tk}) :
  wpAny (model prog w) A (call (.type "set") [.ref l]) Q E s:=by
 have hlen:items.size=qs.length:=by rw[<- N9,hi,OO]
 refine nN hh hl (hi ▸ rX hk (CL hT) hu) (fun h' k e=>⟨lz e,fun p hp=>?_⟩) fun h' tk ⟨j1,_⟩=>h h' tk ?_
 ·obtain⟨o,its,n,ho,rest⟩:=hT p hp;exact⟨o,its,n,k _ _ ho,rest⟩
 ·rw[hlen,Rc]at j1;exact j1
theorem vf{l:Addr}{items:Array Value}{qs:List KP}{Q:Value->Shared->Prop}
  (hh:A.handled=none) (hl:s.heap.IsTuple l items) (hi:items.toList=qs.map fun p=>Value.ref p.2) (hk:∀p∈qs,p.1∈prs) (hT:∀p∈qs,Tk prog w s.heap p.1 p.2) (hu:A.units+20<cLine)
  (h:∀(h':Heap)(tk:Nat),bY w h' s.heap.objs.size (gh qs)->(∀b o,b<s.heap.objs.size->s.heap.get? b=some o->h'.get? b=some o)->Q (.ref s.heap.objs.size) {s with heap:=h',toks:=tk}) :
  wpAny (model prog w) A (call (.type "set") [.ref l]) Q E s:=by
 have hlen:items.size=qs.length:=by rw[<- N9,hi,OO]
 refine mz hh hl (hi ▸ rX hk (CL hT) hu) (fun h' k e=>⟨lz e,fun p hp=>?_⟩) fun h' tk ⟨j1,_⟩=>h h' tk ?_
 ·obtain⟨o,its,n,ho,rest⟩:=hT p hp;exact⟨o,its,n,k _ _ ho,rest⟩
 ·rw[hlen,Rc]at j1;exact j1
end
end RS
namespace RS
open PySem PySem.W PyProof.Rows
structure fM(n:Nat)(p:Array Nat):Prop where
 size:p.size=n
 perm:p.toList.Perm (List.range n)
def at'(key:Nat->Int)(p:Array Nat)(k:Nat):Int:=key (p.getD k 0)
def Ey(key:Nat->Int)(p:Array Nat)(m:Nat):Prop:=∀i j,i<j->j<m->at' key p i<at' key p j
def EJ(key:Nat->Int)(p:Array Nat)(m:Nat):Prop:=∀i j,i<j->j<m->at' key p j<at' key p i
section
variable{n:Nat}{key:Nat->Int}{cmp:Nat->Nat->(Bool->Shared->Prop)->Shared->Prop}{s:Shared}{p:Array Nat}
theorem fM.lt(g:fM n p){k:Nat}(hk:k<n):p.getD k 0<n:=by
 have hs:k<p.size:=by rw[g.size];exact hk
 have:p[k]∈p.toList:=by rw[QT];exact Array.getElem_mem hs
 have:=g.perm.mem_iff.mp this;rw[NT]at this;simpa[Array.getD,hs] using this
theorem fM.inj(g:fM n p){k k':Nat}(hk:k<n)(hk':k'<n)(e:p.getD k 0=p.getD k' 0):k=k':=by
 have hs:k<p.toList.length:=by rw[N9,g.size];exact hk
 have hs':k'<p.toList.length:=by rw[N9,g.size];exact hk'
 have nd:p.toList.Nodup:=g.perm.nodup_iff.mpr Qt;refine(N4 (h₀:=hs) (h₁:=hs') nd).mp ?_;have h1:k<p.size:=by rw[g.size];exact hk
 have h2:k'<p.size:=by rw[g.size];exact hk'
 simpa[Array.getD,h1,h2] using e
variable(hkey:∀i j,i<n->j<n->key i=key j->i=j)(hc:∀i j,i<n->j<n->∀C:Bool->Shared->Prop,C (decide (key i<key j)) s->cmp i j C s)
include hkey in
theorem Cc(g:fM n p){k k':Nat}(hk:k<n)(hk':k'<n)(h:k≠k'):at' key p k≠at' key p k':=fun e=>h (g.inj hk hk' (hkey _ _ (g.lt hk) (g.lt hk') e))
include hkey hc
theorem yj(g:fM n p):∀(f m:Nat)(Q:Nat->Shared->Prop),1<=m->m+f<=n->Ey key p m->(∀m',m<=m'->m'<=m+f->Ey key p m'->(m'=m+f\/at' key p m'<at' key p (m'-1))->Q m' s)->(kas_asc p f m).kasWp cmp Q s
 |0,m,Q,h1,h2,ha,hQ=>hQ m (Om _) (Om _) ha (.inl rfl)
 |f+1,m,Q,h1,h2,ha,hQ=>by
  show cmp (p.getD m 0) (p.getD (m-1) 0) _ s;refine hc _ _ (g.lt (by omega)) (g.lt (by omega)) _ ?_;by_cases hlt:key (p.getD m 0)<key (p.getD (m-1) 0)
  ·rw[Pw hlt];(show (if true=true then _ else _:KasT _).kasWp cmp _ s);rw[NL rfl];exact hQ m (Om _) (by omega) ha (.inr hlt)
  ·rw [NI hlt]; (show (if false = true then _ else _ : KasT _).kasWp cmp _ s); rw [NM Ou];have hne:=Cc hkey g (k:=m) (k':=m-1) (by omega) (by omega) (by omega);have hgt:at' key p (m-1)<at' key p m:=by unfold at' at *;omega
   refine yj g f (m+1) Q (by omega) (by omega) (fun i j hij hj=>?_) (fun m' a b c d=>hQ m' (by omega) (by omega) c (d.elim (fun e=>.inl (by omega)) .inr));by_cases ej:j=m
   ·subst ej;by_cases ei:i=j-1
    ·rw[ei];exact hgt
    ·have:=ha i (j-1) (by omega) (by omega);omega
   ·exact ha i j hij (by omega)
theorem zV(g:fM n p):∀(f m:Nat)(Q:Array Nat×Nat×Nat->Shared->Prop),1<=m->m+f<=n->EJ key p m->(∀m',m<=m'->m'<=m+f->EJ key p m'->Q (p,m',0) s)->(kas_desc f p m 0).kasWp cmp Q s
 |0,m,Q,h1,h2,ha,hQ=>hQ m (Om _) (Om _) ha
 |f+1,m,Q,h1,h2,ha,hQ=>by
  show cmp (p.getD m 0) (p.getD (m-1) 0) _ s;refine hc _ _ (g.lt (by omega)) (g.lt (by omega)) _ ?_;by_cases hlt:key (p.getD m 0)<key (p.getD (m-1) 0)
  ·rw [Pw hlt]; (show (if true = true then _ else _ : KasT _).kasWp cmp _ s); rw [NL rfl, NM (by omega)];refine zV g f (m+1) Q (by omega) (by omega) (fun i j hij hj=>?_) (fun m' a b c=>hQ m' (by omega) (by omega) c);by_cases ej:j=m
   ·subst ej;by_cases ei:i=j-1
    ·rw[ei];exact hlt
    ·have:=ha i (j-1) (by omega) (by omega);have:at' key p j<at' key p (j-1):=hlt;omega
   ·exact ha i j hij (by omega)
  ·rw [NI hlt]; (show (if false = true then _ else _ : KasT _).kasWp cmp _ s); rw [NM Ou];show cmp (p.getD (m-1) 0) (p.getD m 0) _ s;refine hc _ _ (g.lt (by omega)) (g.lt (by omega)) _ ?_;have hne:=Cc hkey g (k:=m) (k':=m-1) (by omega) (by omega) (by omega);have hgt:key (p.getD (m-1) 0)<key (p.getD m 0):=by unfold at' at hne;omega
   rw[Pw hgt];(show (if true=true then _ else _:KasT _).kasWp cmp _ s);rw[NL rfl];exact hQ m (Om _) (by omega) ha
omit hkey hc in
theorem qT{p p':Array Nat}{k k':Nat}(h:p[k]?=p'[k']?):at' key p k=at' key p' k':=by
 unfold at';rw[QC,QC,h]
omit hkey hc in
theorem tX{p':Array Nat}(g:fM n p)(h:p'.Perm p)(hs:p'.size=p.size):fM n p':=⟨hs.trans g.size,(Array.perm_iff_toList_perm.mp h).trans g.perm⟩
omit hkey hc in
theorem FG(g:fM n p){m:Nat}(hm:m<=n)(hd:EJ key p m):fM n (kas_rev p 0 m)/\Ey key (kas_rev p 0 m) m:=by
 have hs:m<=p.size:=by rw[g.size];exact hm
 refine⟨tX g (mirror_perm _ _ _ _) (mirror_size _ _ _ _),fun i j hij hj=>?_⟩;have ei:at' key (kas_rev p 0 m) i=at' key p (0+m-1-i):=qT (by unfold kas_rev;rw[getElem?_mirror_all hs,NL ⟨PV _,by omega⟩]);have ej:at' key (kas_rev p 0 m) j=at' key p (0+m-1-j):=qT (by unfold kas_rev;rw[getElem?_mirror_all hs,NL ⟨PV _,by omega⟩]);rw[ei,ej];exact hd _ _ (by omega) (by omega)
theorem C8(g:fM n p){m:Nat}(h1:1<=m)(hm:m<=n)(hd:EJ key p m)(Q:Nat×Array Nat->Shared->Prop)(hQ:∀m' p',fM n p'->1<=m'->m'<=n->Ey key p' m'->Q (m',p') s):(kas_tail3 m n p).kasWp cmp Q s:=by
 obtain⟨g',ha⟩:=FG (key:=key) g hm hd;unfold kas_tail3;rw[Re];exact yj hkey hc g' (n-m) m _ h1 (by omega) ha fun m' a b c d=>hQ m' _ g' (by omega) (by omega) c
theorem Eg(g:fM n p)(h2:2<=n)(Q:Nat×Array Nat->Shared->Prop)(hQ:∀m' p',fM n p'->1<=m'->m'<=n->Ey key p' m'->Q (m',p') s):(kas_count n p).kasWp cmp Q s:=by
 unfold kas_count;rw[Re];refine yj hkey hc g (n-1) 1 _ (Om _) (by omega) (fun i j hij hj=>by omega) fun m a b c d=>?_;by_cases e:m=n
 ·rw[NL (by simpa using e)];exact hQ m p g a (by omega) c
 ·rw [NM (by simpa using e)];by_cases h1:m>1
  ·rw[NL h1];show cmp (p.getD 0 0) (p.getD (m-1) 0) _ s;refine hc _ _ (g.lt (by omega)) (g.lt (by omega)) _ ?_;have:at' key p 0<at' key p (m-1):=c 0 (m-1) (by omega) (by omega);rw[Pw (show key (p.getD 0 0)<key (p.getD (m-1) 0) from this)];(show (if true=true then _ else _:KasT _).kasWp cmp _ s);rw[NL rfl];exact hQ m p g a (by omega) c
  ·rw [NM h1];have em:m=1:=by omega
   subst em;unfold kas_descPart;rw[Re];have hlt:at' key p 1<at' key p 0:=d.elim (fun e'=>by omega) id;refine zV hkey hc g (n-(1+1)) (1+1) _ (by omega) (by omega) (fun i j hij hj=>?_) fun m' a' b' c'=>?_
   ·have ei : i = 0 := by omega
    have ej:j=1:=by omega
    rw[ei,ej];exact hlt
   ·show (if (0:Nat)>0 then _ else _:KasT (Nat×Array Nat)).kasWp cmp Q s;rw[NM (by omega)];exact C8 hkey hc g (by omega) (by omega) c' Q hQ
theorem rj(g:fM n p){k:Nat}(hk:k<n)(ha:Ey key p k):∀(f l r:Nat)(Q:Nat->Shared->Prop),l<=r->r<=k->r-l<=f->(∀i,i<l->at' key p i<at' key p k)->(∀i,r<=i->i<k->at' key p k<at' key p i) ->
  (∀l',l'<=k->(∀i,i<l'->at' key p i<at' key p k)->(∀i,l'<=i->i<k->at' key p k<at' key p i)->Q l' s)->(kas_place p k f l r).kasWp cmp Q s
 |0,l,r,Q,h1,h2,h3,ha1,hb1,hQ=>by
  have e:l=r:=by omega
  subst e;exact hQ l h2 ha1 hb1
 |f+1,l,r,Q,h1,h2,h3,ha1,hb1,hQ=>by
  unfold kas_place;by_cases e:l ≥ r
  ·rw [NL e];have e':l=r:=by omega
   subst e';exact hQ l h2 ha1 hb1
  ·rw [NM e];show cmp (p.getD k 0) (p.getD ((l+r) / 2) 0) _ s;refine hc _ _ (g.lt hk) (g.lt (by omega)) _ ?_;by_cases hlt:key (p.getD k 0)<key (p.getD ((l+r) / 2) 0)
   ·rw [Pw hlt]; (show (if true = true then _ else _ : KasT _).kasWp cmp _ s); rw [NL rfl];refine rj g hk ha f l ((l+r) / 2) Q (by omega) (by omega) (by omega) ha1 (fun i hi hik=>?_) hQ;by_cases ei:i=(l+r) / 2
    ·rw[ei];exact hlt
    ·have:=ha ((l+r) / 2) i (by omega) hik;have:at' key p k<at' key p ((l+r) / 2):=hlt;omega
   ·rw [NI hlt]; (show (if false = true then _ else _ : KasT _).kasWp cmp _ s); rw [NM Ou];have hne:=Cc hkey g (k:=k) (k':=(l+r) / 2) hk (by omega) (by omega);have hgt:at' key p ((l+r) / 2)<at' key p k:=by unfold at' at *;omega
    refine rj g hk ha f ((l+r) / 2+1) r Q (by omega) h2 (by omega) (fun i hi=>?_) hb1 hQ;by_cases ei:i=(l+r) / 2
    ·rw[ei];exact hgt
    ·have:=ha i ((l+r) / 2) (by omega) (by omega);omega
theorem C6:∀(f:Nat)(p:Array Nat)(k:Nat)(Q:Array Nat->Shared->Prop),fM n p->k+f=n->Ey key p k->(∀p',fM n p'->Ey key p' n->Q p' s)->(kas_bin f p k).kasWp cmp Q s
 |0,p,k,Q,g,hk,ha,hQ=>by
  have e:k=n:=by omega
  rw[e]at ha;exact hQ p g ha
 |f+1,p,k,Q,g,hk,ha,hQ=>by
  unfold kas_bin;rw[Re];refine rj hkey hc g (by omega) ha k 0 k _ (PV _) (Om _) (by omega) (fun i hi=>by omega) (fun i h1 h2=>by omega) fun l hl ha1 hb1=>?_;have hs:k<p.size:=by rw[g.size];omega
  refine C6 f _ (k+1) Q (tX g (bubble_perm _ _ _) (bubble_size _ _ _)) (by omega) (fun i j hij hj=>?_) hQ
  have hb:∀x,at' key (bubble p k (k-l)) x=if x=l then at' key p k else if l<x/\x<=k then at' key p (x-1) else at' key p x:=fun x=>by
   have e:=getElem?_bubble hs (k-l) (by omega) x;have el:k-(k-l)=l:=by omega
   rw[el]at e;by_cases e1:x=l
   ·rw[NL e1]at e⊢;exact qT e
   ·rw [NM e1] at e ⊢;by_cases e2:l<x/\x<=k
    ·rw[NL e2]at e⊢;exact qT e
    ·rw[NM e2]at e⊢;exact qT e
  rw[hb i,hb j];by_cases i1:i=l
  ·rw[NL i1,NM (by omega),NL ⟨by omega,by omega⟩];exact hb1 (j-1) (by omega) (by omega)
  ·rw [NM i1];by_cases i2:l<i/\i<=k
   ·rw[NL i2,NM (by omega),NL ⟨by omega,by omega⟩];exact ha (i-1) (j-1) (by omega) (by omega)
   ·rw [NM i2];have hi:i<l:=by omega
    by_cases j1:j=l
    ·rw[NL j1];exact ha1 i hi
    ·rw [NM j1];by_cases j2:l<j/\j<=k
     ·rw [NL j2];by_cases ej:i=j-1
      ·omega
      ·exact ha i (j-1) (by omega) (by omega)
     ·rw[NM j2];exact ha i j hij (by omega)
theorem Fm(h2:2<=n)(Q:Array Nat->Shared->Prop)(hQ:∀p',fM n p'->Ey key p' n->Q p' s):(kas_sort n).kasWp cmp Q s:=by
 unfold kas_sort;rw[Re];have g0:fM n (List.toArray (List.range n)):=⟨by simp,by simp⟩;refine Eg hkey hc g0 h2 _ fun m p' g h1 hm ha=>?_;show (if m<n then _ else _:KasT (Array Nat)).kasWp cmp Q s;by_cases e:m<n
 ·rw [NL e];have em:max m 1=m:=by omega
  rw[em];exact C6 hkey hc (n-m) p' m Q g (by omega) ha hQ
 ·rw [NM e];have em:m=n:=by omega
  rw[em]at ha;exact hQ p' g ha
end
def sE(k:List Int):Int:=k.getD 0 0*6+k.getD 1 0
theorem gn{k:List Int}(h:k∈prs):∃a b:Int,k=[a,b]/\0<=a/\a<b/\b<6:=by
 have key:∀k∈prs,0<=k.getD 0 0/\k.getD 0 0<k.getD 1 0/\k.getD 1 0<6/\k=[k.getD 0 0,k.getD 1 0]:=by decide +kernel
 obtain⟨h1,h2,h3,h4⟩:=key k h;exact⟨_,_,h4,h1,h2,h3⟩
theorem GC{k k':List Int}(h:k∈prs)(h':k'∈prs)(e:sE k=sE k'):k=k':=by
 obtain⟨a,b,rfl,h1,h2,h3⟩:=gn h;obtain⟨c,d,rfl,h4,h5,h6⟩:=gn h';have e':a*6+b=c*6+d:=e;have:a=c:=by omega
 have:b=d:=by omega
 subst_vars;rfl
section
variable{prog:Program}{w:World}{A:Around}{E:Value->Shared->Prop}{s:Shared}
theorem xX {h:Heap}{a b:Int}{r:Addr} (t:Tk prog w h [a,b] r):∃o n t1 t2,h.get? r=some o/\o.cls=.type "tuple" /\ o.data=.seq #[.int a t1,.int b t2] n:=by
 obtain⟨o,items,n,ho,hc,hd,hi⟩:=t;cases hi':items.toList with
 |nil=>rw[hi']at hi;cases hi
 |cons v1 r1=>
  rw[hi']at hi;cases hi with
  |cons h1 t1=>
   cases t1 with
   |cons h2 t2=>
    cases t2;obtain⟨x1,e1⟩:=NH (k:=a) h1;obtain⟨x2,e2⟩:=NH (k:=b) h2
    have e:items=#[.int a x1,.int b x2]:=by
     apply Array.toList_inj.mp;rw[hi',e1,e2]
    exact⟨o,n,x1,x2,ho,hc,by rw[hd,e]⟩
theorem F0{x y:Addr}{k k':List Int}{Q:Bool->Shared->Prop}(hx:Tk prog w s.heap k x)(hy:Tk prog w s.heap k' y)(hk:k∈prs)(hk':k'∈prs)(h:Q (decide (sE k<sE k')) s) :
  wpAny (model prog w) A (keyLt' (tuples' true) (.ref x) (.ref y)) Q E s:=by
 obtain⟨a,b,rfl,h1,h2,h3⟩:=gn hk;obtain⟨c,d,rfl,h4,h5,h6⟩:=gn hk';obtain⟨o,n,t1,t2,ho,_,hd⟩:=xX hx;obtain⟨o',n',t1',t2',ho',_,hd'⟩:=xX hy;have h':Q (decide (a*6+b<c*6+d)) s:=h;refine kat_lt ho hd ho' hd' ?_;show KatLex prog w A true (decide (2<2)) Q [(.int a t1,.int c t1'),(.int b t2,.int d t2')] 0 s;refine kat_cons (NK ?_);by_cases e1:a=c
 ·rw [show (a == c) = true by simpa using e1];refine kat_yes (kat_cons (NK ?_));by_cases e2:b=d
  ·rw [show (b == d) = true by simpa using e2];refine kat_yes (kat_nil ?_);have:decide (a*6+b<c*6+d)=decide (2<2):=by rw[Rf];omega
   rw[<- this];exact h'
  ·rw [show (b == d) = false by simpa using e2];refine kat_no ?_;show wpAny _ A (oneLt' false _ _) Q _ s;refine kat_one _ _ (lt_int ?_);have:decide (a*6+b<c*6+d)=decide (b<d):=by rw[Rf];omega
   show Q _ s;rw[<- this];exact h'
 ·rw [show (a == c) = false by simpa using e1];refine kat_no ?_;show wpAny _ A (keyLt' oneType' _ _) Q _ s;refine kat_lt_int ?_;have:decide (a*6+b<c*6+d)=decide (a<c):=by rw[Rf];omega
  rw[<- this];exact h'
end
def jg(ps:List KP):Prop:=ps.Pairwise fun p q=>sE p.1<sE q.1
def aY(ps:List KP):List Value:=ps.map fun p=>Value.ref p.2
section
variable{prog:Program}{w:World}{A:Around}{E:Value->Shared->Prop}{s:Shared}
theorem zq{h:Heap}:∀{ps:List KP},(∀p∈ps,p.1∈prs)->(∀p∈ps,Tk prog w h p.1 p.2)->∃fs,KatTups h (aY ps) fs/\fs.length=ps.length/\∀v∈fs,∃i t,v=Value.int i t
 |[],_,_=>⟨[],KatTups.nil,rfl,fun v hv=>by simp at hv⟩
 |p::ps,hk,ht=>by
  obtain⟨fs,h1,h2,h3⟩:=zq (ps:=ps) (fun q hq=>hk q (NY _ hq)) (fun q hq=>ht q (NY _ hq));obtain⟨a,b,e,_⟩:=gn (hk p NX);have t:=ht p NX;rw[e]at t;obtain⟨o,n,t1,t2,ho,hc,hd⟩:=xX t;refine⟨.int a t1::fs,KatTups.cons ho hc hd rfl h1,by rw[PD,PD,h2],fun v hv=>?_⟩;rcases NZ.mp hv with q|q
  ·exact⟨a,t1,q⟩
  ·exact h3 v q
theorem Jl{ps:List KP}(hk:∀p∈ps,p.1∈prs)(hn:(ps.map (·.1)).Nodup){p:Array Nat}(g:fM ps.length p)(ha:Ey (fun i=>sE (ps.getD i ([],0)).1) p ps.length) :
  ∃out:List KP,(p.toList.map fun i=>(aY ps).getD i Value.none)=aY out/\out.Perm ps/\jg out:=by
 refine⟨p.toList.map fun i=>ps.getD i ([],0),?_,?_,?_⟩
 ·unfold aY;rw[Qi];refine Qj fun i hi=>?_;have hi':i<ps.length:=NT.mp (g.perm.mem_iff.mp hi);simp[Rg,hi']
 ·refine (g.perm.map _).trans ?_
  have:(List.range ps.length).map (fun i=>ps.getD i ([],0))=ps:=by
   apply Rh;intro i;rw[OK];by_cases hi:i<ps.length
   ·rw[Ri hi];simp[hi]
   ·rw[Rj (by simpa using hi),Rj (by omega)];rfl
  rw[this]
 ·unfold jg;rw[Rk];refine Qo.mpr fun i j hi hj hij=>?_;have hi':i<p.size:=by simpa using hi
  have hj':j<p.size:=by simpa using hj
  have:=ha i j hij (by rw[<- g.size];exact hj');unfold at' at this;simpa[Array.getD,hi',hj'] using this
theorem yw {a:Addr}{ps:List KP}{n:Nat}{P:PySem.Fin->Shared->Prop} (ho:s.heap.get? a=some (seqObj "list" (aY ps).toArray n)) (hk:∀p∈ps,p.1∈prs) (hn:(ps.map (·.1)).Nodup) (hT:∀p∈ps,Tk prog w s.heap p.1 p.2)
  (h:∀out:List KP,out.Perm ps->jg out->P (.done (.ret .none)) {s with heap:=sortedHeap s.heap a (aY ps) (aY out).toArray}) :
  wpAny (model prog w) A (Builtin.«list.sort» ⟨[.ref a],[]⟩) P E s:=by
 have hlen:=lW hk hn;have hvl:(aY ps).length=ps.length:=by unfold aY;rw[OO]
 rw[list_sort_plain];have hal:a<s.heap.objs.size:=NO ho;refine Oc (listItems_at ho rfl ?_);refine Oc (Rm ho rfl ?_ (by rw[Ow,hvl];exact NU hlen (by decide)) (PV _));obtain⟨e1,ho1⟩:∃e1,(s.heap.update a (Obj.mapSeq fun _=>#[])).get? a=some (seqObj "list" #[] e1):=⟨_,Rn ho (fun _=>#[])⟩;refine Oc (seqEpoch_at ho1 rfl ?_);refine Oc (wpAny_newTuple ?_);refine Oc (Rp ?_);refine Od ?_
 have ho6:(((s.heap.update a (Obj.mapSeq fun _=>#[])).push (seqObj "tuple" (aY ps).toArray 0)).push (seqObj "list" #[] 0)).get? a=some (seqObj "list" #[] e1):=by
  rw[Qf _ _ _ (by rw[Rq,Rt];exact NR (PH hal)),Qf _ _ _ (by rw[Rt];exact NR hal)];exact ho1
 show wpAny (model prog w) A _ P E {s with heap:=((s.heap.update a (Obj.mapSeq fun _=>#[])).push (seqObj "tuple" (aY ps).toArray 0)).push (seqObj "list" #[] 0)};dsimp only
 have hna:∀p∈ps,p.2≠a:=fun p hp e=>by
  obtain⟨o,items,m,ho',hc',_⟩:=hT p hp;rw[e,ho]at ho';have:=NN ho';subst this;exact absurd (show Value.type "list" = Value.type "tuple" from hc') (by decide)
 generalize hS:({s with heap:=((s.heap.update a (Obj.mapSeq fun _=>#[])).push (seqObj "tuple" (aY ps).toArray 0)).push (seqObj "list" #[] 0)}:Shared)=s1;have eh1:s1.heap=((s.heap.update a (Obj.mapSeq fun _=>#[])).push (seqObj "tuple" (aY ps).toArray 0)).push (seqObj "list" #[] 0):=by rw[<- hS]
 have hT1:∀p∈ps,Tk prog w s1.heap p.1 p.2:=fun p hp=>by
  obtain⟨o,items,m,ho',rest⟩:=hT p hp;refine⟨o,items,m,?_,rest⟩;rw[eh1];refine Oj _ (Oj _ ?_);rw[Ru _ _ _ _ (hna p hp)];exact ho'
 rw[<- eh1]at ho6
 have hfin:∀out:List KP,out.Perm ps->jg out->P (.done (.ret .none)) {s1 with heap:=s1.heap.update a (Obj.mapSeq fun _=>(aY out).toArray)}:=fun out h1 h2=>by
  have q:=h out h1 h2;rw[<- hS];exact q
 have hszv:(aY ps).toArray.size=ps.length:=by rw[Ow,hvl]
 by_cases h2:(aY ps).toArray.size<2
 ·rw [NL h2, NL h2];refine Oc (Og ?_);rw[StateT.run_pure];refine Oc (Og ?_);dsimp only;refine Oc (seqEpoch_at ho6 rfl ?_)
  have eo:(arrOf (SortSt.mk' general' ((aY ps).toArray.zip (aY ps).toArray) #[] 7 none)).map (·.2)=(aY ps).toArray:=by
   show (((aY ps).toArray.zip (aY ps).toArray)).map (·.2)=_;apply Array.toList_inj.mp;rw[Array.toList_map,Array.toList_zip];exact List.map_snd_zip (Om _)
  rw[eo];refine Oc (Rm ho6 rfl ?_ (PV _) (by show (aY ps).toArray.size<=_;rw[hszv];exact NU hlen (by decide)));simp only[Rv,PB,OW];refine Og (hfin ps (List.Perm.refl _) ?_);rw[hszv]at h2
  match ps,h2 with
  |[],_=>exact List.Pairwise.nil
  |[_],_=>exact List.pairwise_singleton _ _
  |_::_::_,h=>rw[PD,PD]at h;omega
 ·rw [NM h2, NM h2];rw[hszv]at h2;obtain⟨fs,k1,k2,k3⟩:=zq hk hT1;refine Oc (kat_kind (T:=Value.type "int") k1 (by omega) (fun v hv=>?_) (by rfl) ?_)
  ·obtain⟨i,t,e⟩:=k3 v hv;rw[e];exact .now
  ·have et : (Value.type "int" != Value.type "tuple") = true := by decide
   rw[et]
   refine Oc (N7 (kat_run (ks:=aY ps) (vs:=aY ps) (Q:=fun st' s'=>s'=s1/\failedOf st'=none/\∃out:List KP,out.Perm ps/\jg out/\(arrOf st').map (·.2)=(aY out).toArray)
    (G:=fun p s'=>s'=s1/\∃out:List KP,(p.toList.map fun i=>(aY ps).getD i Value.none)=aY out/\out.Perm ps/\jg out) rfl (by rw[hvl];omega) (by rw[hvl];omega) ?_ ?_) ?_ fun _ _ e=>e)
   ·rintro p st' s' hp har hf ⟨e, out, o1, o2, o3⟩
    exact⟨e,hf,out,o2,o3,by rw[kat_snds rfl har,o1]⟩
   ·rw [hvl];refine Fm (key:=fun i=>sE (ps.getD i ([],0)).1) (fun i j hi hj e=>?_) (fun i j hi hj C hC=>?_) (by omega) _ (fun p g ha=>⟨rfl,Jl hk hn g ha⟩)
    ·have hi' : ps.getD i ([], 0) = ps[i] := by simp [Rg, hi]
     have hj':ps.getD j ([],0)=ps[j]:=by simp[Rg,hj]
     simp only[hi',hj']at e;have e2:=GC (hk _ (Rw hi)) (hk _ (Rw hj)) e;have hil:i<(ps.map (·.1)).length:=by rw[OO];exact hi
     have hjl:j<(ps.map (·.1)).length:=by rw[OO];exact hj
     exact(N4 (h₀:=hil) (h₁:=hjl) hn).mp (by simpa using e2)
    ·unfold kas_ask;have gi:(aY ps).getD i Value.none=.ref ps[i].2:=by unfold aY;simp[Rg,hi]
     have gj:(aY ps).getD j Value.none=.ref ps[j].2:=by unfold aY;simp[Rg,hj]
     have hi':ps.getD i ([],0)=ps[i]:=by simp[Rg,hi]
     have hj':ps.getD j ([],0)=ps[j]:=by simp[Rg,hj]
     rw[gi,gj];simp only[hi',hj']at hC;exact F0 (hT1 _ (Rw hi)) (hT1 _ (Rw hj)) (hk _ (Rw hi)) (hk _ (Rw hj)) hC
   ·rintro ⟨⟨⟩, st'⟩ s' ⟨rfl, hf, out, o1, o2, o3⟩
    dsimp only;refine Oc (seqEpoch_at ho6 rfl ?_);rw[o3];refine Oc (Rm ho6 rfl ?_ (PV _) (by show (aY out).toArray.size<=_;rw[Ow];unfold aY;rw[OO,o1.length_eq];exact NU hlen (by decide)));rw[hf];simp only[Rv,PB,OW];exact Og (hfin out o1 o2)
end
end RS
namespace RS
open PySem PySem.W PyProof.Rows
namespace Fx
theorem slot_setiter_next:Slot "set_iterator" "__next__" "set_iterator.__next__" :=
 .of (owner:="set_iterator") (n:="__next__") (by rw[typeLookup_type,builtinLookup_eq_fast];kernel_rfl) (by decide +kernel) (by decide +kernel) (by decide +kernel)
  (by first|exact .inl (by decide +kernel)|exact .inr (by decide +kernel)) (by rw[Q3];kernel_rfl)
theorem entry_setiter_next:entryFor table "set_iterator.__next__" = some Builtin.«set_iterator.__next__»:=entryFor_of_fast (by kernel_rfl)
theorem args_setiter_next (a:Value):argsOk "set_iterator.__next__" ⟨[a],[]⟩:=by unfold argsOk;kernel_rfl
theorem entry_set_iter:entryFor table "set.__iter__" = some Builtin.«frozenset.__iter__»:=
 entryFor_alias (id':="frozenset.__iter__") (by kernel_rfl) rfl (by decide +kernel) (by kernel_rfl)
end Fx
def eA (h:Heap) (I S:Addr) (i n ep slot:Nat):Prop:=h.get? I=some {cls:=.type "set_iterator",dict:=none,data:=.fields #[.int (slot:Int) 0,.int (i:Int) 0,.ref S,.int (n:Int) 0,.int (ep:Int) 0],slots:=#[]}
def eH (w:World) (S:Addr) (ep:Nat) (es:Array (Int×Value)):List (Int×Value):=if w.params.followText "set-order" then (pickOrder (w.params.setOrder S ep) es).toList else es.toList
def dN (w:World) (Z:List (Nat×Int×Value)) (i:Nat):Nat:=if w.params.followText "set-order" then 0 else if i=0 then 0 else (Z.getD (i-1) (0,0,.none)).1+1
theorem tP{α:Type}(next:Nat->Nat):∀(fuel k:Nat)(left:List α)(out:Array α),left.length=fuel->(pickOrder.go next fuel k left out).toList.Perm (out.toList++left)
 |0,k,left,out,h=>by
  have:left=[]:=Rx.mp h;subst this;show out.toList.Perm (out.toList++[]);rw[Ox]
 |fuel+1,k,left,out,h=>by
  have hlt:next k%left.length<left.length:=Nat.mod_lt _ (by omega)
  show (match left[next k%left.length]? with|some x=>_|none=>_:Array α).toList.Perm _;rw[Ry hlt];show (pickOrder.go next fuel (k+1) (left.eraseIdx (next k%left.length)) (out.push left[next k%left.length])).toList.Perm _;refine(tP next fuel (k+1) _ _ (by rw[List.length_eraseIdx_of_lt hlt];omega)).trans ?_;rw[Array.toList_push,Pp];refine List.Perm.append_left _ ?_;rw[List.singleton_append,List.eraseIdx_eq_take_drop_succ]
  have q:(left.take (next k%left.length)++left[next k%left.length]::left.drop (next k%left.length+1))=left:=by
   rw[List.getElem_cons_drop];exact Qw _ _
  have q2:=(List.perm_middle (a:=left[next k%left.length]) (l₁:=left.take (next k%left.length)) (l₂:=left.drop (next k%left.length+1))).symm;rw[q]at q2;exact q2
theorem lr{w:World}{S:Addr}{ep:Nat}{es:Array (Int×Value)}:(eH w S ep es).Perm es.toList:=by
 unfold eH;split
 ·have:=tP (w.params.setOrder S ep) es.size 0 es.toList #[] (by simp);simpa[pickOrder] using this
 ·exact List.Perm.refl _
theorem El {t:SetTable}{es:Array (Int×Value)}{Z:List (Nat×Int×Value)} (T:sY t es Z) {w:World} (hb:w.params.followText "set-order" = false) {i:Nat} (hi:i<=Z.length):SetTable.below t.place (dN w Z i)=i:=by
 have r:Ew t.place.toList:=by rw[T.place];exact T.ris
 obtain⟨b1,b2,b3⟩:=mY r (dN w Z i);have hsz:=T.size.1
 have gz:∀k,k<Z.length->t.place.getD k (dN w Z i)=(Z.getD k (0,0,.none)).1:=fun k hk=>by
  have e:t.place[k]?=some (Z[k]).1:=by rw[<- Qe,T.place,OK,Ry hk];rfl
  rw[QC,e,Rg,Ry hk];rfl
 have hris:∀a b,a<b->b<Z.length->(Z.getD a (0,0,.none)).1<(Z.getD b (0,0,.none)).1:=fun a b hab hbz=>by
  rw[<- gz a (by omega),<- gz b hbz];exact uS r _ a b hab (by omega)
 have hs:dN w Z i=if i=0 then 0 else (Z.getD (i-1) (0,0,.none)).1+1:=by
  unfold dN;rw[hb,NM Ou]
 by_cases h0:i=0
 ·rw [NL h0] at hs;rw[hs]at b2⊢;by_cases hz:SetTable.below t.place 0=0
  ·rw[hz,h0]
  ·have:=b2 0 (by omega);omega
 ·rw [NM h0] at hs
  have hlo:¬ SetTable.below t.place (dN w Z i)<=i-1:=fun hle=>by
   have:=b3 (i-1) hle (by omega);rw[gz _ (by omega)]at this;omega
  have hhi:¬ i<SetTable.below t.place (dN w Z i):=fun hlt=>by
   have:=b2 i hlt;have hiz:i<Z.length:=by omega
   rw[gz i hiz]at this;have:=hris (i-1) i (by omega) hiz;omega
  omega
section
variable{prog:Program}{w:World}{A:Around}{E:Value->Shared->Prop}{s:Shared}
theorem wz{a:Addr}{ps:List (Int×Value)}{o es ep t Z}{i:Nat}{Q:Option (Value×Nat)->Shared->Prop}(S:eV w s.heap a ps o es ep t Z)(hi:i<=Z.length)
  (h:Q (((eH w a ep es)[i]?).map fun e=>(e.2,dN w Z (i+1))) s):wpAny (model prog w) A (setNext a (dN w Z i) i ep) Q E s:=by
 unfold setNext;refine Oc (QR S.ho S.hd S.fits ?_);dsimp only;unfold setsByText;refine Oc (Oc (PQ (Og ?_)));cases hb:w.params.followText "set-order" with
 |true=>
  have e1:eH w a ep es=(pickOrder (w.params.setOrder a ep) es).toList:=by unfold eH;rw[hb,NL rfl]
  have e2:∀j,dN w Z j=0:=fun j=>by unfold dN;rw[hb,NL rfl]
  rw[e1,e2]at h;show wpAny _ _ (if (w.params.followText "set-order")=true then _ else _) _ _ _;rw[hb,NL rfl];rw[NM (by simp)];refine Oc ?_;unfold setWalk;refine Oc (QR S.ho S.hd S.fits ?_);dsimp only;unfold setsByText;refine Oc (Oc (PQ (Og ?_)));show wpAny _ _ (if (w.params.followText "set-order")=true then _ else _) _ _ _;rw[hb,NL rfl];refine Oc (PQ (Og (Og ?_)));rw[e2,<- Qe];exact h
 |false=>
  have e1:eH w a ep es=es.toList:=by unfold eH;rw[hb,NM Ou]
  have hled:t.led=true:=by rw[S.led,hb];rfl
  show wpAny _ _ (if (w.params.followText "set-order")=true then _ else _) _ _ _;rw[hb,NM Ou];have hdr:(!t.plain&&decide (es.size>1))=false:=by rw[S.plain];rfl
  show wpAny _ _ (if (!t.plain&&decide (es.size>1))=true then _ else _) _ _ _;rw[hdr,NM Ou];refine Oc ?_;show wpAny _ _ (if (!t.led && !es.isEmpty)=true then _ else _) _ _ _;rw[hled];simp only[QO,Oi,PB,OW];refine Og (Og ?_);rw[El S.tab hb hi];rw[e1,Qe]at h;by_cases hlt:i<Z.length
  ·have ez : Z[i]? = some Z[i] := Ry hlt;have ee:=S.tab.hashAt ez;have ep':t.place[i]?=some (Z[i]).1:=by rw[<- Qe,S.tab.place,OK,ez];rfl
   rw[ee,ep'];rw[ee]at h
   have es':dN w Z (i+1)=(Z[i]).1+1:=by
    unfold dN;rw[hb,NM Ou,NM (by omega),Nat.add_sub_cancel,Rg,ez];rfl
   rw[es']at h;exact h
  ·have : es[i]? = none := by rw [QG, S.tab.size.2]; omega
   rw[this];rw[this]at h;exact h
end
end RS
namespace RS
open PySem PySem.W PyProof.Rows
section
variable{prog:Program}{w:World}{A:Around}{E:Value->Shared->Prop}{s:Shared}
theorem eA.typeIs {I S:Addr}{i n ep slot:Nat} (h:eA s.heap I S i n ep slot):s.TypeIs (.ref I) "set_iterator" := ⟨_,h,rfl⟩
theorem hZ {a:Addr}{ps:List (Int×Value)}{o es ep t Z} (S:eV w s.heap a ps o es ep t Z):s.TypeIs (.ref a) "set" := ⟨o,S.ho,S.ex.1⟩
theorem Dn{a:Addr}{ps:List (Int×Value)}{o es ep t Z}{Q:Value->Shared->Prop}(S:eV w s.heap a ps o es ep t Z)
  (hQ:Q (.ref s.heap.objs.size) {s with heap:=s.heap.push {cls:=.type "set_iterator",data:=.fields #[.int ((0:Nat):Int) 0,.int ((0:Nat):Int) 0,.ref a,.int (Z.length:Int) 0,.int (ep:Int) 0]}}) :
  wpAny (model prog w) A (pyIter (.ref a)) Q E s:=by
 refine wpAny_pyIter_slot (hZ S) PySem.F.slot_set_iter (O6 PySem.F.slot_set_iter (hZ S) Fx.entry_set_iter ?_ (PySem.F.args_set_iter_1 _));unfold Builtin.«frozenset.__iter__» Builtin.Frozenset.sizeOf;refine Oc (m:=Builtin.Frozenset.slot0 "__iter__" _) (PU (a:=a) rfl ?_);refine Oc (Oc (Rz S.ho S.hd S.fits (Og ?_)));unfold setDrawn;refine Oc (Oc (QR S.ho S.hd S.fits ?_));dsimp only;unfold setsByText;refine Oc (Oc (PQ (Og (Og ?_))));have hdr:(!w.params.followText "set-order" && (!t.plain&&decide (es.size>1)))=false:=by rw[S.plain];simp
 show wpAny _ _ (if (!w.params.followText "set-order" && (!t.plain&&decide (es.size>1)))=true then _ else _) _ _ _;rw[hdr,NM Ou];refine Oc (Og ?_);refine Oc (wpAny_setEpoch_of S.ho S.hd S.fits ?_);refine Oc (Pc (Og ⟨_,rfl, "set_iterator",_,⟨_,Ol _ rfl,rfl⟩,Fx.slot_setiter_next.lookup,?_⟩));rw[S.tab.size.2];exact hQ
theorem Do{I a:Addr}{ps:List (Int×Value)}{o es ep t Z}{i:Nat}{v:Int×Value}{Q:Option Value->Shared->Prop}(S:eV w s.heap a ps o es ep t Z)(hit:eA s.heap I a i Z.length ep (dN w Z i))(hv:(eH w a ep es)[i]?=some v)
  (hQ:∀h',eA h' I a (i+1) Z.length ep (dN w Z (i+1))->Heap.SameBut I s.heap h'->Q (some v.2) {s with heap:=h'}):wpAny (model prog w) A (pyNext (.ref I)) Q E s:=by
 have hT:=hit.typeIs;have hoi:=hit;unfold eA at hoi
 have hil:i<Z.length:=by
  have:=(N3.mp hv).1;rw[lr.length_eq,N9,S.tab.size.2]at this;exact this
 unfold pyNext;refine Oc (wpAny_attempt (O4 (name:=Str.ofString "__next__") hT Fx.slot_setiter_next (O6 Fx.slot_setiter_next hT Fx.entry_setiter_next ?_ (Fx.args_setiter_next _))));unfold Builtin.«set_iterator.__next__»;refine Oc (m:=slotArgs "__next__" 0 _) (PU (a:=(.ref I,[])) rfl ?_);dsimp only;unfold fieldsOf;refine Oc (Oc (Oh hoi ?_));refine Og ?_;refine Oc (Rz S.ho S.hd S.fits ?_);rw[S.tab.size.2];simp only[Rv,PB,OW,OU];refine Oc (wz S (NV hil) ?_);rw[hv];dsimp only[Option.map_some];refine Oc (RA hoi (by simp) fun h1 e1 sb1=>?_);refine Oc (RA (s:={s with heap:=h1}) e1 (by simp) fun h2 e2 sb2=>?_);refine Og ⟨v.2,rfl,Og (hQ h2 ?_ (sb1.trans sb2))⟩;unfold eA;rw[e2];simp[rawInt]
theorem Fy{I a:Addr}{ps:List (Int×Value)}{o es ep t Z}{Q:Option Value->Shared->Prop}(hh:A.handled=none)(S:eV w s.heap a ps o es ep t Z)(hit:eA s.heap I a Z.length Z.length ep (dN w Z Z.length))
  (hQ:∀h',Heap.ExtBut I s.heap h'->Q none {s with heap:=h'}):wpAny (model prog w) A (pyNext (.ref I)) Q E s:=by
 have hT:=hit.typeIs;have hoi:=hit;unfold eA at hoi
 have hv:(eH w a ep es)[Z.length]?=none:=by
  rw[List.getElem?_eq_none_iff,lr.length_eq,N9,S.tab.size.2];exact Om _
 unfold pyNext;refine Oc (wpAny_attempt (O4 (name:=Str.ofString "__next__") hT Fx.slot_setiter_next (O6 Fx.slot_setiter_next hT Fx.entry_setiter_next ?_ (Fx.args_setiter_next _))));unfold Builtin.«set_iterator.__next__»;refine Oc (m:=slotArgs "__next__" 0 _) (PU (a:=(.ref I,[])) rfl ?_);dsimp only;unfold fieldsOf;refine Oc (Oc (Oh hoi ?_));refine Og ?_;refine Oc (Rz S.ho S.hd S.fits ?_);rw[S.tab.size.2];simp only[Rv,PB,OW,OU];refine Oc (wz S (Om _) ?_);rw[hv];dsimp only[Option.map_none];refine Oc (RA hoi (by simp) fun h1 e1 sb1=>?_);refine Oc ?_;simp only[newExc,newTuple];refine Oc (Pc ?_ (by size_fits));refine Oc (m:=firstArgMember _ _) (PU (a:=Value.none) (by first|rfl|(simp only[firstArgMember];rfl)) ?_);refine Pc ?_ (by size_fits);simp only[raiseNew];refine Oc (wpAny_handled ?_);rw[show A.in1.handled=none from hh];refine Oc (Og (wpAny_throw ?_));refine Oc (wpAny_isInstance (T:="StopIteration") (b:=true) ⟨_,Ol _ rfl,rfl⟩ isSubtype_stop ?_);exact Og (hQ _ ((sb1.extBut.push _).push _))
end
end RS
namespace RS
open PySem PySem.W PyProof.Rows
namespace Fx
theorem entry_extend_loop:entryFor table "list.extend.loop" = some Builtin.«list.extend.loop»:=entryFor_of_fast (by kernel_rfl)
theorem plain_extend_loop:plainId "list.extend.loop" = true:=by decide +kernel
theorem split_set_len:splitId "set.__len__" = some ("set", "__len__"):=by decide +kernel
end Fx
section
variable{prog:Program}{w:World}{A:Around}{E:Value->Shared->Prop}{s:Shared}
theorem xC{a:Addr}{ps:List (Int×Value)}{o es ep t Z}{Q:Bool->Shared->Prop}(S:eV w s.heap a ps o es ep t Z)(h:Q false s):wpAny (model prog w) A (Builtin.List.listLengthHint (.ref a)) Q E s:=by
 unfold Builtin.List.listLengthHint;refine Oc (wpAny_specialOf (hZ S) PySem.F.slot_set_len.lookup ?_);dsimp only;rw[Fx.split_set_len];dsimp only;refine Oc (wpAny_isInstance (hZ S) sub_set_self ?_);simp only[QO,PB,OW];rw[NL (by rfl)];refine Oc (O9 (hZ S) ?_);exact Og h
theorem xD{R:Result->Shared->Prop}{I a L:Addr}{ps:List (Int×Value)}{o es ep t Z}(hh:A.handled=none)(hIa:I≠a)(hIL:I≠L)(hLa:L≠a)(hz:Z.length<=100) :
  ∀(k i n:Nat) (s:Shared),Z.length-i=k->i<=Z.length->eV w s.heap a ps o es ep t Z->eA s.heap I a i Z.length ep (dN w Z i)->s.heap.get? L=some (seqObj "list" (((eH w a ep es).take i).map (·.2)).toArray n) ->
   (∀h' m,(∀b u,b≠I->b≠L->s.heap.get? b=some u->h'.get? b=some u)->h'.get? L=some (seqObj "list" ((eH w a ep es).map (·.2)).toArray m)->R (.ok (.ret (.ref L))) {s with heap:=h'}) ->
   codeAny (model prog w) A (.builtin "list.extend.loop" ⟨[.ref L,.ref I,.ref L],[]⟩) R s:=by
 intro k
 induction k with
 |zero=>
  intro i n s ek hi S hit hL hR;have e:i=Z.length:=by omega
  subst e;refine QY Fx.entry_extend_loop ?_;rw[QZ Fx.plain_extend_loop _];show wpAny _ A.in1 (pyNext (.ref I) >>= _) _ _ s;refine Oc (Fy (by simpa using hh) S hit fun h' eb=>?_);show wpAny _ A.in1 (ret (.ref L)) _ _ _;refine Og (hR h' n (fun b u hb _ q=>eb b u hb q) ?_);rw[Qq (by rw[lr.length_eq,N9,S.tab.size.2];exact Om _)]at hL;exact eb L _ (N0 hIL) hL
 |succ k ih=>
  intro i n s ek hi S hit hL hR;have hil:i<(eH w a ep es).length:=by rw[lr.length_eq,N9,S.tab.size.2];omega
  refine QY Fx.entry_extend_loop ?_;rw[QZ Fx.plain_extend_loop _];show wpAny _ A.in1 (pyNext (.ref I) >>= _) _ _ s;refine Oc (Do S hit (Ry hil) fun h' hit' sb=>?_);have hL':h'.get? L=some (seqObj "list" (((eH w a ep es).take i).map (·.2)).toArray n):=(sb.2 L (N0 hIL)).trans hL
  have hsz:(((eH w a ep es).take i).map (·.2)).toArray.size<=100:=by
   rw[Ow,OO,OF];omega
  show wpAny _ A.in1 (Builtin.List.listUpdate (.ref L) _ >>= _) _ _ _;refine Oc (Rm (s:={s with heap:=h'}) hL' rfl ?_ (NU hsz (by decide)) (by rw[Array.size_push];exact NU (Nat.succ_le_succ hsz) (by decide)));have hL2:=Rn hL' (·.push ((eH w a ep es)[i]).2)
  have eL:(((eH w a ep es).take i).map (·.2)).toArray.push ((eH w a ep es)[i]).2=(((eH w a ep es).take (i+1)).map (·.2)).toArray:=by
   have q:(eH w a ep es).take (i+1)=(eH w a ep es).take i++[(eH w a ep es)[i]]:=by rw[Rb,Ry hil];rfl
   rw[q,Qy,List.push_toArray];rfl
  rw[eL]at hL2;have hsb2:=Qa h' L (Obj.mapSeq (·.push ((eH w a ep es)[i]).2));refine Og ⟨Q2 Fx.plain_extend_loop _,ih (i+1) _ _ (by omega) (by omega) ?_ ?_ hL2 fun h'' m kk hm=>?_⟩
  ·refine⟨?_,S.ex,S.hd,S.tab,S.plain,S.led,S.big,S.perm⟩;exact(hsb2.2 a (N0 hLa)).trans ((sb.2 a (N0 hIa)).trans S.ho)
  ·exact(hsb2.2 I hIL).trans hit'
  ·refine hR h'' m (fun b u hb1 hb2 q=>kk b u hb1 hb2 ?_) hm;exact(hsb2.2 b hb2).trans ((sb.2 b hb1).trans q)
theorem nR{α β:Type}{f:α->β}{l m:List β}(h:l.Perm m):∀ps:List α,m=ps.map f->∃qs:List α,qs.Perm ps/\l=qs.map f:=by
 induction h with
 |nil=>
  intro ps e;have:ps=[]:=List.map_eq_nil_iff.mp e.symm;exact⟨[],by rw[this],rfl⟩
 |cons x _ ih=>
  intro ps e;cases ps with
  |nil=>cases e
  |cons p ps=>
   rw[Pe]at e;obtain⟨qs,h1,h2⟩:=ih ps (Qm e).2;exact⟨p::qs,h1.cons p,by rw[Pe,<- h2,(Qm e).1]⟩
 |swap x y l=>
  intro ps e
  match ps,e with
  |p::q::r,e=>
   rw[Pe,Pe]at e;obtain⟨e1,e2⟩:=Qm e;obtain⟨e2,e3⟩:=Qm e2;exact⟨q::p::r,List.Perm.swap _ _ _,by rw[Pe,Pe,e1,e2,e3]⟩
 |trans _ _ ih1 ih2=>
  intro ps e;obtain⟨qs,h1,h2⟩:=ih2 ps e;obtain⟨rs,h3,h4⟩:=ih1 qs h2;exact⟨rs,h3.trans h1,h4⟩
theorem pK{a:Addr}{ps:List (Int×Value)}{o es ep t Z}{Q:List Value->Shared->Prop}(hh:A.handled=none)(S:eV w s.heap a ps o es ep t Z)(hz:Z.length<=100)
  (h:∀qs:List (Int×Value),qs.Perm ps->∀h',(∀b u,s.heap.get? b=some u->h'.get? b=some u)->s.heap.objs.size<=h'.objs.size->Q (qs.map (·.2)) {s with heap:=h'}):wpAny (model prog w) A (collect (.ref a)) Q E s:=by
 have hal:a<s.heap.objs.size:=NO S.ho;unfold collect;refine Oc (Q8 (QY entry_proto_collect' ?_));show wpAny _ _ (do again (.builtin "list.__iadd__" ⟨[<- newList [],.ref a],[]⟩)) _ _ s;refine Oc (Rp (Og ⟨Q5 _ (by decide +kernel),QY entry_list_iadd' ?_⟩));show wpAny _ _ (Builtin.List.listExtendWith (.ref s.heap.objs.size) (.ref a) (.ref s.heap.objs.size)) _ _ {s with heap:=s.heap.push (seqObj "list" #[] 0)};have S1:eV w (s.heap.push (seqObj "list" #[] 0)) a ps o es ep t Z:=⟨Oj _ S.ho,S.ex,S.hd,S.tab,S.plain,S.led,S.big,S.perm⟩;unfold Builtin.List.listExtendWith;refine Oc (O9 (hZ (s:={s with heap:=s.heap.push (seqObj "list" #[] 0)}) S1) ?_)
 have hsame:Builtin.List.listSameRef (.ref s.heap.objs.size) (.ref a)=false:=by
  show (s.heap.objs.size == a)=false;simpa using Of hal
 rw[hsame,NM (by decide)];refine Oc (Dn (s:={s with heap:=s.heap.push (seqObj "list" #[] 0)}) S1 ?_);dsimp only;generalize hH:(s.heap.push (seqObj "list" #[] 0)).push {cls:=.type "set_iterator",data:=.fields #[.int ((0:Nat):Int) 0,.int ((0:Nat):Int) 0,.ref a,.int (Z.length:Int) 0,.int (ep:Int) 0]}=H2;have eI:(s.heap.push (seqObj "list" #[] 0)).objs.size=s.heap.objs.size+1:=by rw[Rq]
 have hk2:∀b u,s.heap.get? b=some u->H2.get? b=some u:=fun b u q=>by rw[<- hH];exact Oj _ (Oj _ q)
 have S2:eV w H2 a ps o es ep t Z:=⟨hk2 a o S.ho,S.ex,S.hd,S.tab,S.plain,S.led,S.big,S.perm⟩;have hL2:H2.get? s.heap.objs.size=some (seqObj "list" #[] 0):=by rw[<- hH];exact Oj _ (Ol _ rfl)
 have hI2:H2.get? (s.heap.objs.size+1)=some {cls:=.type "set_iterator",data:=.fields #[.int ((0:Nat):Int) 0,.int ((0:Nat):Int) 0,.ref a,.int (Z.length:Int) 0,.int (ep:Int) 0]}:=by
  rw[<- hH,<- eI];exact Ol _ rfl
 rw[eI];refine Oc (Od (xC (s:={s with heap:=H2}) S2 ?_));rw[NL (by rfl)];refine Oc (PR ?_);refine Oc ?_;unfold Builtin.List.listTouch;refine Oc (Rm (s:={s with heap:=H2}) hL2 rfl ?_ (PV _) (by decide));have hL3:=Rn hL2 (·.push Value.none);refine Rm (s:={s with heap:=H2.update s.heap.objs.size (Obj.mapSeq (·.push Value.none))}) hL3 rfl ?_ (by decide) (by decide);have hL4:=Rn hL3 (·.pop);have sb3:=Qa H2 s.heap.objs.size (Obj.mapSeq (·.push Value.none));have sb4:=(sb3.trans (Qa (H2.update s.heap.objs.size (Obj.mapSeq (·.push Value.none))) s.heap.objs.size (Obj.mapSeq (·.pop))));generalize hH4:(H2.update s.heap.objs.size (Obj.mapSeq (·.push Value.none))).update s.heap.objs.size (Obj.mapSeq (·.pop))=H4 at hL4 sb4;have neL:a≠s.heap.objs.size:=NR hal;have neI:s.heap.objs.size+1≠s.heap.objs.size:=Nat.succ_ne_self _;refine Og ⟨Q5 _ (by decide +kernel),?_⟩
 refine xD (by simpa using hh) (Of (PH hal)) neI (N0 neL) hz (Z.length-0) 0 _ {s with heap:=H4} (by omega) (PV _)
  ⟨(sb4.2 a neL).trans S2.ho,S.ex,S.hd,S.tab,S.plain,S.led,S.big,S.perm⟩ ?_ (by rw[List.take_zero];exact hL4) fun h' m kk hm=>?_
 ·unfold eA;have e0:dN w Z 0=0:=by unfold dN;split <;> simp
  rw[e0];exact(sb4.2 _ neI).trans hI2
 ·dsimp only;refine Oc (Oh hm ?_);refine Og ?_;have hp:(eH w a ep es).Perm ps:=lr.trans (by rw[S.tab.ents];exact S.perm)
  have fin:=h (eH w a ep es) hp h' fun b u q=>by
   have hb:b<s.heap.objs.size:=NO q;exact kk b u (NR (PH hb)) (NR hb) ((sb4.2 b (NR hb)).trans (hk2 b u q))
  exact fin (NV (NO hm))
theorem xE{a:Addr}{ps:List KP}{Q:List Value->Shared->Prop}(hh:A.handled=none)(S:bY w s.heap a ps)
  (h:∀qs:List KP,qs.Perm ps->∀h',(∀b u,s.heap.get? b=some u->h'.get? b=some u)->s.heap.objs.size<=h'.objs.size->Q (aY qs) {s with heap:=h'}):wpAny (model prog w) A (collect (.ref a)) Q E s:=by
 obtain⟨o,es,ep,t,Z,S,hk,hn⟩:=S;have h15:=lW hk hn;refine pK hh S (by rw[S.len,OO];omega) fun qs hq h' k1 k2=>?_;obtain⟨rs,q1,q2⟩:=nR hq ps rfl;have q3:qs.map (·.2)=aY rs:=by rw[q2,Qi];rfl
 rw[q3];exact h rs q1 h' k1 k2
theorem AB{x:Value}{ps:List KP}{Q:Value->Shared->Prop}(hk:∀p∈ps,p.1∈prs)(hn:(ps.map (·.1)).Nodup)(hT:∀p∈ps,Tk prog w s.heap p.1 p.2)
  (hcol:∀Q':List Value->Shared->Prop,(∀qs:List KP,qs.Perm ps->∀h',(∀b u,s.heap.get? b=some u->h'.get? b=some u)->s.heap.objs.size<=h'.objs.size->Q' (aY qs) {s with heap:=h'})->wpAny (model prog w) A.in1 (collect x) Q' E s)
  (h:∀out:List KP,out.Perm ps->jg out->∀h' D,s.heap.objs.size<=D->(∀b u,s.heap.get? b=some u->h'.get? b=some u)->(∃n,h'.get? D=some (seqObj "list" (aY out).toArray n))->Q (.ref D) {s with heap:=h'}) :
  wpAny (model prog w) A (call (.builtin "sorted") [x]) Q E s:=by
 refine RB kind_sorted plain_sorted entry_sorted (args_sorted1 _) ?_;unfold Builtin.«sorted»;refine Oc (m:=checkCount "sorted" 1 1 _) (Og ?_);refine Oc (hcol _ fun qs hqs h1 k1 hsz=>?_);have hkq:∀p∈qs,p.1∈prs:=fun p hp=>hk p (hqs.mem_iff.mp hp);have hnq:(qs.map (·.1)).Nodup:=(hqs.map _).nodup_iff.mpr hn;have hlen:=lW hkq hnq;have hvl:(aY qs).length<=15:=by unfold aY;rw[OO];exact hlen
 refine Oc (Rp ?_ (NU hvl (by decide)));have hoL:(h1.push (seqObj "list" (aY qs).toArray 0)).get? h1.objs.size=some (seqObj "list" (aY qs).toArray 0):=Ol _ rfl;have hnn:∀b u,h1.get? b=some u->b≠h1.objs.size:=fun b u q=>NR (NO q);refine Oc (Od (O6 slot_list_sort (s:={s with heap:=h1.push (seqObj "list" (aY qs).toArray 0)}) ⟨_,hoL,rfl⟩ RC ?body (args_list_sort _)))
 case body=>
  refine yw (s:={s with heap:=h1.push (seqObj "list" (aY qs).toArray 0)}) hoL hkq hnq (fun p hp=>?_) fun out h2 h3=>?_
  ·obtain⟨o,its,n,ho,rest⟩:=hT p (hqs.mem_iff.mp hp);exact⟨o,its,n,Oj _ (k1 _ _ ho),rest⟩
  ·refine ⟨_, rfl, Og ⟨_, rfl, h out (h2.trans hqs) h3 _ h1.objs.size hsz (fun b u q => ?_) ?_⟩⟩
   ·have hb:=hnn b u (k1 b u q);unfold sortedHeap;rw[Ru _ _ _ _ hb];refine Oj _ (Oj _ ?_);rw[Ru _ _ _ _ hb];exact Oj _ (k1 b u q)
   ·unfold sortedHeap;have g1:=Rn hoL (fun _=>#[]);have g2:=Oj (seqObj "list" #[] 0) (Oj (seqObj "tuple" (aY qs).toArray 0) g1);exact⟨_,Rn g2 (fun _=>(aY out).toArray)⟩
theorem yv{a:Addr}{ps:List KP}{Q:Value->Shared->Prop}(hh:A.handled=none)(S:bY w s.heap a ps)(hT:∀p∈ps,Tk prog w s.heap p.1 p.2)
  (h:∀out:List KP,out.Perm ps->jg out->∀h' D,s.heap.objs.size<=D->(∀b u,s.heap.get? b=some u->h'.get? b=some u)->(∃n,h'.get? D=some (seqObj "list" (aY out).toArray n))->Q (.ref D) {s with heap:=h'}) :
  wpAny (model prog w) A (call (.builtin "sorted") [.ref a]) Q E s:=by
 obtain⟨o,es,ep,t,Z,S0,hk,hn⟩:=id S;exact AB hk hn hT (fun Q' hq=>xE (by simpa using hh) S hq) h
end
end RS
namespace RS
open PySem PySem.W PyProof.Rows
theorem sY.free{t:SetTable}{es:Array (Int×Value)}{Z:List (Nat×Int×Value)}(T:sY t es Z){h:Int}(cov:∀j,j<=t.mask->j∈cY t.mask h)(hz:Z.length<=t.mask)(hA:Nat->Int)(hne:∀i,hA i≠h) :
  ∃j pre post,t.probe hA h (t.probeStart h)=some (.empty j none)/\j<=t.mask/\j∉Z.map (·.1)/\cY t.mask h=pre++j::post/\∀k∈pre,k∈Z.map (·.1):=by
 obtain⟨j0,hj0,hn0⟩:=tY (m:=t.mask) (l:=Z.map (·.1)) (by rw[OO];exact hz);obtain⟨pre,j,post,e,hs,hp⟩:=kv (fun j=>j∉Z.map (·.1)) (cY t.mask h) ⟨j0,cov j0 hj0,hn0⟩
 have el:(z7 t.mask (SetTable.turns t.mask) (SetTable.bits h%(t.mask+1)) (SetTable.bits h)).length=pre.length+1+post.length:=by
  show (cY t.mask h).length=_;rw[e,ON,PD];omega
 have hw:jb t (pre.length+1+post.length) (t.probeStart h)=pre++j::post:=by
  have q:=qV t (SetTable.turns t.mask) (SetTable.bits h%(t.mask+1)) (SetTable.bits h) none;rw[el]at q;exact q.trans e
 have hlen:pre.length<10*SetTable.turns t.mask:=by
  have q:=uP t.mask (SetTable.turns t.mask) (SetTable.bits h%(t.mask+1)) (SetTable.bits h);omega
 have occ:∀k∈pre,k∈Z.map (·.1):=fun k hk=>Qs fun q=>hp k hk q
 have hpre:∀k∈pre,∃i,t.slot k=.live i/\hA i≠h:=fun k hk=>by
  obtain⟨z,hzm,ez⟩:=Qr.mp (occ k hk);obtain⟨i,hi⟩:=Qu hzm;exact⟨i,ez ▸ T.slot_live hi,hne i⟩
 obtain⟨g1,g2⟩:=uY t hA h pre j post (10*SetTable.turns t.mask) (t.probeStart h) hw hlen rfl hpre;exact⟨j,pre,post,g1 (T.slot_empty hs),jV (h:=h) (by rw[e];simp),hs,e,occ⟩
abbrev KI:=Int×Tok
def BM(p:KI):Int×Value:=(hashInt p.1,Value.int p.1 p.2)
def ins:List Int:=[0,1,2,3,4,5]
theorem Gv{i:Int}:i∈ins↔0<=i/\i<6:=by
 unfold ins;simp only[NZ,Qc,Qd];omega
def HF(mask:Nat):Bool:=ins.all fun k=>(List.range (mask+1)).all fun j=>(cY mask (hashInt k)).contains j
theorem LU:HF 7=true:=by decide +kernel
theorem C2:HF 31=true:=by decide +kernel
theorem u4{mask:Nat}(h:HF mask=true){k:Int}(hk:k∈ins):∀j,j<=mask->j∈cY mask (hashInt k):=fun j hj=>by
 have a:=QN.mp h k hk;have b:=QN.mp a j (NT.mpr (by omega));simpa using b
theorem tV{a b:Int}(ha:a∈ins)(hb:b∈ins)(e:hashInt a=hashInt b):a=b:=by
 have key:∀x∈ins,∀y∈ins,hashInt x=hashInt y->x=y:=by decide +kernel
 exact key a ha b hb e
def dA(w:World)(h:Heap)(a:Addr)(ps:List KI):Prop:=∃o es ep t Z,eV w h a (ps.map BM) o es ep t Z/\(∀p∈ps,p.1∈ins)/\(ps.map (·.1)).Nodup
theorem lu{ps:List KI}(hk:∀p∈ps,p.1∈ins)(hn:(ps.map (·.1)).Nodup):ps.length<=6:=by
 have:=jO hn (l2:=ins) (fun x hx=>by obtain⟨p,hp,e⟩:=Qr.mp hx;rw[<- e];exact hk p hp);rw[OO]at this;exact this
theorem dA.keeps{w:World}{h h':Heap}{a:Addr}{ps:List KI}(S:dA w h a ps)(k:∀o,h.get? a=some o->h'.get? a=some o):dA w h' a ps:=by
 obtain⟨o,es,ep,t,Z,S,hk,hn⟩:=S;exact⟨o,es,ep,t,Z,⟨k o S.ho,S.ex,S.hd,S.tab,S.plain,S.led,S.big,S.perm⟩,hk,hn⟩
theorem MZ{w:World}{h:Heap}{a:Addr}{ps:List (Int×Value)}{o es ep t Z}(S:eV w h a ps o es ep t Z){k:Int}(hk:k∈ins):∀j,j<=t.mask->j∈cY t.mask (hashInt k):=by
 rcases S.big with⟨h1,h2⟩|⟨h1,h2⟩ <;> rw[h1]
 ·exact u4 LU hk
 ·exact u4 C2 hk
def vP(ps:List KI)(k:Int)(t:Tok):List KI:=if k∈ps.map (·.1) then ps else ps++[(k,t)]
section
variable{prog:Program}{w:World}{A:Around}{E:Value->Shared->Prop}{s:Shared}
theorem tL{a:Addr}{k:Int}{tk:Tok}{ps0:List (Int×Value)}{o es ep t Z}(S:eV w s.heap a ps0 o es ep t Z){Q:ScanMet->Shared->Prop} :
  ∀(l:List (Int×Value))(n:Nat),(∀e∈l,∃p:KI,e=BM p/\p.1∈ins)->k∈ins->((∃e∈l,e.1=hashInt k)->∀i,Q (.found i) s)->((∀e∈l,e.1≠hashInt k)->Q .absent s)->wpAny (model prog w) A (setScanFrom a (.int k tk) (hashInt k) true l n) Q E s
 |[],n,_,_,h1,h2=>by
  unfold setScanFrom;exact Og (h2 fun e he=>by simp at he)
 |e::l,n,hl,hk,h1,h2=>by
  obtain⟨p,rfl,hp⟩:=hl e NX;show wpAny _ _ (setScanFrom a _ _ true ((hashInt p.1,Value.int p.1 p.2)::l) n) _ _ _;unfold setScanFrom;by_cases he:hashInt p.1=hashInt k
  ·rw[NL (by simpa using he)];have ek:=tV hp hk he;refine Oc (m:=setEpoch a) (wpAny_setEpoch_of S.ho S.hd S.fits ?_);refine Oc (NK ?_);rw[ek];simp only[Pz,QS,OX];exact Og (h1 ⟨_,NX,he⟩ _)
  ·rw [NM (by simpa using he)];refine tL S l (n+1) (fun x hx=>hl x (NY _ hx)) hk (fun⟨x,hx,ex⟩=>h1 ⟨x,NY _ hx,ex⟩) fun hx=>h2 fun x hxm=>?_;rcases NZ.mp hxm with z|z
   ·rw[z];exact he
   ·exact hx x z
theorem GK{a:Addr}{k:Int}{tk:Tok}{ps:List KI}{Q:Bool->Shared->Prop}(S:dA w s.heap a ps)(hk:k∈ins)
  (h:∀b h',Heap.SameBut a s.heap h'->dA w h' a (vP ps k tk)->Q b {s with heap:=h'}):wpAny (model prog w) A (setAddHashed a (.int k tk) (hashInt k)) Q E s:=by
 obtain⟨o,es,ep,t,Z,S,hk0,hn0⟩:=S
 have hent:∀e∈es.toList,∃p∈ps,e=BM p:=fun e he=>by
  rw[S.tab.ents]at he;obtain⟨p,hp,q⟩:=Qr.mp (S.perm.mem_iff.mp he);exact⟨p,hp,q.symm⟩
 have hto:∀p∈ps,BM p∈es.toList:=fun p hp=>by
  rw[S.tab.ents];exact S.perm.mem_iff.mpr (Qv hp)
 have hlen6:=lu hk0 hn0;have hZl:Z.length=ps.length:=by rw[S.len,OO]
 have hesz0:es.size=ps.length:=by rw[S.tab.size.2,hZl]
 have hz:Z.length<=t.mask:=by rcases S.big with⟨q,q2⟩|⟨q,q2⟩ <;> omega
 unfold setAddHashed setAddHashedIn;refine Od (Oc (QR S.ho S.hd S.fits ?_));dsimp only
 have hsc:byScan (Value.int k tk) es=true:=by
  unfold byScan;have h1:decide (es.size<scanBound)=true:=Pw (by rw[hesz0];unfold scanBound;omega)
  have h2:es.all (fun x=>x.2.scannable)=true:=by
   rw[<- Array.all_toList,QN];intro e he;obtain⟨p,_,rfl⟩:=hent e he;rfl
  rw[h1,h2];rfl
 rw[hsc];simp only[OX];refine Oc ?_;unfold setAddByScan;refine Oc (PR ?_);refine Oc ?_;show wpAny _ _ (setScanFrom a (.int k tk) (hashInt k) true es.toList 0) _ _ _;refine tL S es.toList 0 (fun e he=>by obtain⟨p,hp,e'⟩:=hent e he;exact⟨p,e',hk0 p hp⟩) hk (fun hex i=>?_) fun hno=>?_
 ·obtain ⟨e, he, q⟩ := hex;obtain⟨p,hp,rfl⟩:=hent e he;have ek:p.1=k:=tV (hk0 p hp) hk q;refine Og (Og ?_)
  have q:=h false s.heap (Heap.SameBut.refl a s.heap) (by
   unfold vP;rw[NL (by rw[<- ek];exact Qv hp)];exact⟨o,es,ep,t,Z,S,hk0,hn0⟩)
  cases s;exact q
 ·have hin:k∉ps.map (·.1):=fun hx=>by
   obtain⟨p,hp,e⟩:=Qr.mp hx;exact hno _ (hto p hp) (by rw[<- e];rfl)
  dsimp only;obtain⟨j,pre,post,epr,hj,hn,e,hp⟩:=S.tab.free (MZ S hk) hz (fun _=>hashInt k+1) (fun _=>by omega);obtain⟨Z',T',hperm,et⟩:=S.tab.put (x:=Value.int k tk) hj hn e hp
  have hfree:t.freeSlot (hashInt k)=some (j,false):=by
   unfold SetTable.freeSlot;rw[epr];rfl
  have hpl:(t.put j).1.plain=true:=by rw[et];exact S.plain
  have hled:(t.put j).1.led=t.led:=by rw[et]
  have hmask:(t.put j).1.mask=t.mask:=by rw[et]
  have hperm':(Z'.map (·.2)).Perm ((ps++[(k,tk)]).map BM):=by
   refine(hperm.map (·.2)).trans ?_;rw[Pe,Qy];refine List.Perm.trans (List.Perm.cons _ S.perm) ?_;exact(List.perm_append_singleton _ _).symm
  have hkeys:∀p∈ps++[(k,tk)],p.1∈ins:=fun p hp'=>by
   rcases N1.mp hp' with q|q
   ·exact hk0 p q
   ·rw[PX]at q;rw[q];exact hk
  have hnd:((ps++[(k,tk)]).map (·.1)).Nodup:=by
   rw[Qy];refine QU.mpr ⟨hn0,by simp,fun x hx y hy=>?_⟩;simp at hy;rw[hy];rintro rfl;exact hin hx
  have hlen:=lu hkeys hnd;have hZ':Z'.length=ps.length+1:=by rw[hperm.length_eq,PD,hZl]
  have hesz:(SetTable.insertAt es (t.put j).2 (hashInt k,Value.int k tk)).size=Z'.length:=T'.size.2;have hadd:vP ps k tk=ps++[(k,tk)]:=by unfold vP;rw[NM hin]
  rw[hadd]at h;rw[ON,Pt]at hlen
  have hfit:(t.put j).1.fits (SetTable.insertAt es (t.put j).2 (hashInt k,Value.int k tk)).size=true:=by
   unfold SetTable.fits;rw[T'.fill,T'.size.1,hesz,hmask];rcases S.big with⟨q,q2⟩|⟨q,q2⟩ <;> simp[q] <;> omega
  have hlay:layNew t es (hashInt k) (.int k tk)=(SetTable.insertAt es (t.put j).2 (hashInt k,Value.int k tk),(t.put j).1,false,false):=by
   unfold layNew;rw[hfree];dsimp only;unfold SetTable.orStandIn;rw[hfit];rfl
  rw[hlay];dsimp only;generalize ht1:(t.put j).1=t1 at *;generalize hes1:SetTable.insertAt es (t.put j).2 (hashInt k,Value.int k tk)=es1 at *;have hline:es1.size<=sizeLine:=by rw[hesz,hZ'];exact NU hlen (by decide)
  refine Oc (Og ?_);refine Oc (Og ?_);rw[hpl];simp only[OX];refine Oc (m:=hashByValue 8 (.int k tk)) (Og ?_);simp only[OX];refine Oc (QV S.ho S.hd ?_ hline)
  have hg:(s.heap.update a (Obj.putSet es1 t1)).get? a=some {o with data:=.set es1 (ep+1) t1}:=by
   have:=Ph (Obj.putSet es1 t1) S.ho (by rw[QW es1 t1 S.hd];rfl);rw[QW es1 t1 S.hd]at this;exact this
  have hsb1:=Qa s.heap a (Obj.putSet es1 t1);have hfill:t1.fill=ps.length+1:=by rw[T'.fill,hZ']
  by_cases hfull:t1.tooFull=true
  ·simp only [hfull, QX, QS, OX]
   have hm7:t.mask=7/\ps.length=4:=by
    unfold SetTable.tooFull at hfull;rw[hfill,hmask]at hfull;have hf:(ps.length+1)*5 ≥ t.mask*3:=by simpa using hfull
    rcases S.big with⟨q,q2⟩|⟨q,q2⟩
    ·rw[q]at hf;exact⟨q,by omega⟩
    ·rw[q]at hf;omega
   have hsz1:es1.size=5:=by rw[hesz,hZ',hm7.2]
   have hgr:SetTable.grown es1.size=20:=by rw[hsz1];rfl
   rw[hgr]
   obtain⟨t2,order,Z2,er,T2,hp2,hm2,hl2,hpl2,hord⟩:=rQ (t:=t1) (es:=es1) (wanted:=20) (mask:=31) (by rfl) (by rw[hsz1];decide) (fun e' he'=>by
    rw[T'.ents]at he';obtain⟨p,hp',q⟩:=Qr.mp (hperm'.mem_iff.mp he');rw[<- q]
    exact u4 C2 (hkeys p hp'))
   have hZ2:Z2.length=5:=by
    have:=hp2.length_eq;simp at this;omega
   have hes2:(order.filterMap (es1[·]?)).size=5:=by rw[T2.size.2,hZ2]
   have hrel:relayAll t1 es1 20=(order.filterMap (es1[·]?),t2,false):=by
    unfold relayAll;rw[er];dsimp only
    have c1:coversAll order es1.size=true:=by
     unfold coversAll;exact List.isPerm_iff.mpr hord
    have c2:t2.fits (order.filterMap (es1[·]?)).size=true:=by
     unfold SetTable.fits;rw[T2.fill,T2.size.1,hes2,hm2,hZ2];rfl
    rw[c1,c2];rfl
   rw[hrel];dsimp only;refine Oc (Oc (Og (Og ?_)));refine Oc (QV hg rfl ?_ (by rw[hes2];decide))
   have hg2:((s.heap.update a (Obj.putSet es1 t1)).update a (Obj.putSet (order.filterMap (es1[·]?)) t2)).get? a=some {o with data:=.set (order.filterMap (es1[·]?)) (ep+1+1) t2}:=by
    have:=Ph (Obj.putSet (order.filterMap (es1[·]?)) t2) hg (by rw[QW _ t2 rfl];rfl);rw[QW _ t2 rfl]at this;exact this
   refine Og (Og ?_);refine h true _ (hsb1.trans (Qa _ a _)) ⟨_,_,_,t2,Z2,⟨hg2,S.ex,rfl,T2,by rw[hpl2];exact hpl,by rw[hl2,hled];exact S.led,.inr ⟨hm2,by omega⟩,?_⟩,hkeys,hnd⟩;refine hp2.trans ?_;rw[T'.ents];exact hperm'
  ·have hf : t1.tooFull = false := by simpa using hfull
   simp only[hf,Bool.and_false,PB,OW];refine Og (Og ?_);refine h true _ hsb1 ⟨_,_,_,t1,Z',⟨hg,S.ex,rfl,T',hpl,by rw[hled];exact S.led,?_,hperm'⟩,hkeys,hnd⟩;unfold SetTable.tooFull at hf;rw[hfill,hmask]at hf;have hf':¬ ((ps.length+1)*5 ≥ t.mask*3):=by simpa using hf
   rw[hmask,hZ'];rcases S.big with⟨q,q2⟩|⟨q,q2⟩
   ·rw[q]at hf'⊢;exact .inl ⟨rfl,by omega⟩
   ·rw[q]at hf'⊢;exact .inr ⟨rfl,by omega⟩
end
end RS
namespace L2
open PySem PySem.Spec PyProof.Rows
theorem eW.thr{P:Program}{w:World}{H:Hp}{h:Heap}{a:Addr}{o:HO}(x:eW P w H h a o):∃ob,h.get? a=some ob:=by
 cases o with
 |lst xs=>obtain⟨_,_,_,_,e⟩:=x;exact⟨_,e⟩
 |tup xs=>obtain⟨_,_,_,ob,e,_⟩:=x;exact⟨_,e⟩
 |dK kvs=>obtain⟨_,_,_,_,o,_,_,e,_⟩:=x;exact⟨_,e⟩
 |dT kvs=>obtain⟨_,_,_,_,o,_,_,e,_⟩:=x;exact⟨_,e⟩
 |set S n=>obtain⟨o,_,_,_,e,_⟩:=x;exact⟨_,e⟩
 |ins C dx fs=>obtain⟨_,_,_,e,_⟩:=x;exact⟨_,e⟩
 |own y=>obtain⟨_,e⟩:=x;exact⟨_,e⟩
 |xd fs=>obtain⟨_,⟨_,_,_,e,_⟩,_⟩:=x;exact⟨_,e⟩
 |rng lo hi=>obtain⟨_,_,_,e⟩:=x;exact⟨_,e⟩
 |frz ob u=>obtain⟨e,_⟩:=x;exact⟨_,e⟩
 |tbl ps=>exact⟨_,show h.get? a=some _ from x⟩
 |met f y=>exact⟨_,show h.get? a=some _ from x⟩
 |ext φ=>obtain⟨_,⟨_,e⟩,_⟩:=x;exact⟨_,e⟩
theorem BS{fs:List Addr}{H0 H':Hp}{h0 h1 h' B:Heap}(u:Un fs [] H0 H' h0 h1)(hB:∀b o,h0.get? b=some o->b∉fs->∃o',B.get? b=some o')(k1:B.StaysIn h1)(k2:B.StaysIn h')(up:h1.UpToSlots h')
  (hf:∀b∈fs,H0 b=none/\∃o,h0.get? b=some o/\∀vs,o.data≠.fields vs):Un fs [] H0 H' h0 h' where
 keep:=fun b o e n hb hx=>by
  obtain⟨o',q⟩:=hB b o e hb;have q1:=k1 b o' q;rw[u.keep b o e n hb hx]at q1;cases q1;exact k2 b o q
 slot:=fun b o e n hb hx=>by
  obtain⟨sl,q⟩:=u.slot b o e n hb hx;obtain⟨_,o1,e1,nf⟩:=hf b hb;rw[e]at e1;cases e1;obtain⟨sl',q'⟩:=up b _ q nf;exact⟨sl',q'⟩
 free:=u.free
 there:=fun b o e hx=>by
  by_cases hb:b∈fs
  ·obtain⟨n,o1,e1,nf⟩:=hf b hb;rw[e]at e1;cases e1;obtain⟨sl,q⟩:=u.slot b o e n hb hx;obtain⟨sl',q'⟩:=up b _ q nf;exact⟨_,q'⟩
  ·obtain⟨o',q⟩:=hB b o e hb;exact⟨o',k2 b o' q⟩
 tups:=u.tups
 frzs:=u.frzs
 tbls:=u.tbls
def Kq(P:Program)(w:World):vE:=fun outer H s E e s'=>
 ∃ea C a0 B H',e=.ref ea/\s'.os=s.os/\AllBare s'.gens/\Un (pk outer) [] H H' s.heap s'.heap/\om P w H' B/\Heap.FlyingW B outer ea (.ref C) a0 s'.heap/\H' ea=none /\
  (∀b o,s.heap.get? b=some o->b∉pk outer->∃o',B.get? b=some o')/\E (.ref C) (some ea) H'
section
variable{P:Program}{w:World}{K:W.Frag}{mg:Str->Option Value}{base:Heap}{N:List Str}{qual:Str}{scope:Scope}{f:Addr}{cdv:Value}{A:Around}{outer:List Env}{s0:Shared}{H0:Hp}{E:XK}
abbrev Es(P:Program)(w:World)(K:W.Frag)(mg:Str->Option Value)(base:Heap)(N:List Str)(qual:Str)(scope:Scope)(f:Addr)(cdv:Value)(A:Around)(outer:List Env)(s0:Shared)(H0:Hp)(E:XK):Cx:=qE (Kq P w) P w K mg base N qual scope f cdv A outer s0 H0 E
theorem Gy{b:Addr}(hb:b∈pk (envOfC qual scope s0.heap.objs.size f cdv::outer)):b=s0.heap.objs.size\/b∈pk outer:=by
 obtain⟨env,he,hf⟩:=Oo.mp hb;rcases NZ.mp he with rfl|he
 ·exact .inl (NN hf).symm
 ·exact .inr (Oo.mpr ⟨env,he,hf⟩)
theorem pI{pins:List (Addr×Obj)}{σ:St}{H:Hp}{s:Shared}(I:aV (Es P w K mg base N qual scope f cdv A outer s0 H0 E) pins σ H s){b:Addr}{o:Obj}(e:s0.heap.get? b=some o)(hb:b∉pk outer) :
  (∃o',s.heap.get? b=some o')/\b∉pk (envOfC qual scope s0.heap.objs.size f cdv::outer):=
 ⟨I.base.there b o e (fun z => by cases z), fun z => by
  rcases Gy z with z|z
  ·exact absurd (NO e) (by rw[z];exact NQ _)
  ·exact hb z⟩
theorem t4{pins:List (Addr×Obj)}{σ:St}{H:Hp}{s:Shared}(I:aV (Es P w K mg base N qual scope f cdv A outer s0 H0 E) pins σ H s):∀b∈pk outer,H0 b=none/\∃o,s0.heap.get? b=some o/\∀vs,o.data≠.fields vs:=
 fun b hb=>⟨I.ok.frf b hb,(I.ok.funs.mem hb).2⟩
theorem Hf:kf (Kq P w) (Es P w K mg base N qual scope f cdv A outer s0 H0 E) E:=by
 intro pins σ H s e s' I hc;obtain⟨ea,C,a0,B,H',rfl,os,bare,un,hok,fl,hn,bk,q⟩:=hc;have J:=I.call' os un (hok.kept fl.1) bare (ch:=[]) (fun b z=>absurd z (by simp))
 have hB:∀b o,s0.heap.get? b=some o->b∉pk outer->∃o',B.get? b=some o':=fun b o e hb=>by
  obtain⟨⟨o1,e1⟩,nb⟩:=pI I e hb;exact bk b o1 e1 nb
 refine wpAny_leaves_onW I.ok.frames rfl fl fun h' fl' up=>?_;exact⟨ea,C,a0,B,H',rfl,J.os,bare,BS J.base hB fl.1 fl'.1 up (t4 I),hok,fl',hn,hB,q⟩
theorem JL{pins:List (Addr×Obj)}{σ:St}{H:Hp}{s s':Shared}{ea C:Addr}{vs:List Value}(I:aV (Es P w K mg base N qual scope f cdv A outer s0 H0 E) pins σ H s)(hs:s'={s with heap:=s'.heap})
  (hx:Heap.MadeExcOf s.heap s'.heap ea (.ref C) vs) (q:H ea=none->E (.ref C) (some ea) H):(Es P w K mg base N qual scope f cdv A outer s0 H0 E).xe (.ref ea) s':=by
 have hn:H ea=none:=by
  cases z:H ea with
  |none=>rfl
  |some u=>
   obtain⟨o,e⟩:=(I.hok ea u z).thr;rw[hx.new]at e;cases e
 have hin:∀env∈(envOfC qual scope s0.heap.objs.size f cdv::outer),∀b,env.frame=some b->b∈pk (envOfC qual scope s0.heap.objs.size f cdv::outer):=fun env he b hb=>Oo.mpr ⟨env,he,hb⟩;have hst:(W.hideAll s.heap (pk (envOfC qual scope s0.heap.objs.size f cdv::outer))).StaysIn s.heap:=fun b o q=>W.of_hideAll _ q
 have hB:∀b o,s0.heap.get? b=some o->b∉pk outer->∃o',(W.hideAll s.heap (pk (envOfC qual scope s0.heap.objs.size f cdv::outer))).get? b=some o':=fun b o e hb=>by
  obtain⟨⟨o1,e1⟩,nb⟩:=pI I e hb;exact⟨o1,W.hideAll_get _ e1 nb⟩
 have nfr:∀c u,H c=some u->c∉pk (envOfC qual scope s0.heap.objs.size f cdv::outer):=fun c u e z=>by rw[I.stkFree c z]at e;cases e
 have hok:om P w H (W.hideAll s.heap (pk (envOfC qual scope s0.heap.objs.size f cdv::outer))):=fun b u e=>
  (I.hok b u e).stay (fun c v hc r => W.hideAll_get _ r (by
   rcases hc with rfl|hc
   ·exact nfr _ _ e
   ·exact nfr _ _ hc)) (fun _ r=>r) fun _ _ r=>r
 show wpAny _ _ (leaving _ (.ref ea)) _ _ s';refine wpAny_leaves_madeW I.ok.frames rfl hst (W.funFrames_hide I.stack hin) hx fun h' t fl _ _ up=>?_;rw[hs];exact⟨ea,C,.ref t,_,H,rfl,I.os,I.bare,BS I.base hB hst fl.1 ((Heap.UpToSlots.of_keeps hx.keeps).trans up) (t4 I),hok,fl,hn,hB,q hn⟩
def An(mg:Str->Option Value)(base:Heap)(c:Str)(C:Addr):Prop:=∃bm newId B initId,OwnCls c C bm newId mg base/\ExcBaseFacts B newId initId bm
theorem AI {c:Str}{C:Addr}{np cpos pos:Pos} (O:An mg base c C) (hg:Gl (Es P w K mg base N qual scope f cdv A outer s0 H0 E) c) (hd:(c == ("__debug__" : Str))=false) :
  PS (Es P w K mg base N qual scope f cdv A outer s0 H0 E) (.Raise (some (.Call (.Name c np) [] [] cpos)) none pos) (fun _ _ H=>∀ea,H ea=none->E (.ref C) (some ea) H):=by
 intro pins s σ H D I q;obtain⟨bm,newId,B,initId,O,FB⟩:=O;obtain⟨tl,Nn,nm,qn,bs,hdct,sn,sub,ab,col,dd,k0,k1,k2,k3,k5,mN,hC,hN,hni,T⟩:=O.obj
 refine wpAny_Raise_call_subT (C:=C) (nm:=nm) (q:=qn) (N:=Nn) (bs:=bs) (bm:=tl) (hdct:=hdct) (sn:=sn) (sub:=sub) (ab:=ab) (col:=col) (dd:=dd) (k0:=k0) (k1:=k1) (k2:=k2) (k3:=k3) (k5:=k5)
  FB (mN:=mN) (T.hasType FB.hasBase) (I.ok.hd rfl) rfl hni (nB I hg O.bound ⟨rfl,?_⟩ hd)
 exact evalArgs_empty ⟨rfl,PV _,I.bk _ _ hC,hN.keeps I.bk,T.keeps I.bk,fun h' e hm=>JL I rfl hm (q e)⟩
end
structure Cx.Fn(X:Cx):Prop where
 ex:X.ex=[]
 stk:X.stack=X.env::X.outer
 fr:X.env.frame=some X.env.locals
def LY(X:Cx)(pins:List (Addr×Obj))(E:XK)(e:Value)(s':Shared):Prop:=
 ∃ea C a0 B σ H',e=.ref ea/\aV X pins σ H' s'/\om X.prog X.w H' B/\Heap.FlyingW B X.stack ea (.ref C) a0 s'.heap/\H' ea=none /\
  (∀b o,X.s₀.heap.get? b=some o->b∉X.fs->∃o',B.get? b=some o')/\(∀p∈X.pn++pins,∃o',B.get? p.1=some o')/\E (.ref C) (some ea) H'
abbrev Cx.tri(X:Cx)(pins:List (Addr×Obj))(E:XK):Cx:={X with pn:=X.pn++pins,xe:=LY X pins E}
theorem Cx.Ok.tri{X:Cx}{pins:List (Addr×Obj)}{E:XK}(ok:X.Ok):(X.tri pins E).Ok:=
 ⟨ok.mod,ok.kind,ok.glob,ok.blt,ok.above,ok.inj,ok.has,ok.cab,ok.hd,ok.frames,ok.stk,ok.exf,ok.bs,ok.bsz,ok.noex,ok.exfs,ok.funs,ok.frf⟩
theorem Cx.Ok.untri{X:Cx}{pins:List (Addr×Obj)}{E:XK}(ok:(X.tri pins E).Ok):X.Ok:=
 ⟨ok.mod,ok.kind,ok.glob,ok.blt,ok.above,ok.inj,ok.has,ok.cab,ok.hd,ok.frames,ok.stk,ok.exf,ok.bs,ok.bsz,ok.noex,ok.exfs,ok.funs,ok.frf⟩
section
variable{X:Cx}{pins pins':List (Addr×Obj)}{σ:St}{H:Hp}{s:Shared}{E:XK}
theorem aV.tri(I:aV X pins σ H s):aV (X.tri pins E) [] σ H s:=
 ⟨I.ok.tri,I.os,I.bare,I.base,I.loc,I.cell,I.free,I.freeC,fun p hp=>I.pin p (by simpa using hp),I.hok,I.len⟩
theorem aV.untri(I:aV (X.tri pins E) pins' σ H s):aV X pins σ H s:=
 ⟨I.ok.untri,I.os,I.bare,I.base,I.loc,I.cell,I.free,I.freeC,fun p hp=>I.pin p (N2 _ hp),I.hok,I.len⟩
theorem SP.untri{D:oy}{f:Flow}{s':Shared}(h:SP (X.tri pins E) pins' D f s'):SP X pins D f s':=by
 cases f with
 |next=>obtain⟨σ',H',I,q⟩:=h;exact⟨σ',H',I.untri,q⟩
 |brk=>obtain⟨σ',H',I,q⟩:=h;exact⟨σ',H',I.untri,q⟩
 |cont=>obtain⟨σ',H',I,q⟩:=h;exact⟨σ',H',I.untri,q⟩
 |ret u=>obtain⟨v,σ',H',I,r,q⟩:=h;exact⟨v,σ',H',I.untri,r,q⟩
end
theorem zP{X:Cx}(F:X.Fn){b:Addr}(hb:b∈pk X.stack):b=X.env.locals\/b∈X.fs:=by
 rw[F.stk]at hb;obtain⟨env,he,hf⟩:=Oo.mp hb;rcases NZ.mp he with rfl|he
 ·rw[F.fr]at hf;exact .inl (NN hf).symm
 ·exact .inr (Oo.mpr ⟨env,he,hf⟩)
theorem He{X:Cx}{pins:List (Addr×Obj)}{E:XK}(F:X.Fn):kf (Kq X.prog X.w) (X.tri pins E) E:=by
 intro pins' σ H s e s' I hc;obtain⟨ea,C,a0,B,H',rfl,os,bare,un,hok,fl,hn,bk,q⟩:=hc;have J:=I.call' os un (hok.kept fl.1) bare (ch:=[]) (fun b z=>absurd z (by simp));refine⟨ea,C,a0,B,σ,H',rfl,J.untri,hok,fl,hn,fun b o e hb=>?_,fun p hp=>?_,q⟩
 ·obtain ⟨o1, e1⟩ := I.base.there b o e (by show b ∉ X.ex; rw [F.ex]; exact fun z => by cases z);refine bk b o1 e1 fun z=>?_;rcases zP F z with z|z
  ·have:=I.ok.above;rw[z]at e;exact absurd (NO e) (Nat.not_lt.mpr this)
  ·exact hb z
 ·obtain ⟨p1, p2, p3, p4, p5⟩ := I.pin p (N2 _ hp);refine bk p.1 p.2 p1 fun z=>?_;rcases zP F z with z|z
  ·exact p3 z
  ·exact p4 z
theorem zX{h h':Heap}{c:Addr}{v:Option Value}(x:h.IsCell c v)(up:h.UpToSlots h'):h'.IsCell c v:=by
 obtain⟨o,ho,hd⟩:=x;obtain⟨sl,q⟩:=up c o ho fun vs z=>by rw[hd]at z;cases z
 exact⟨_,q,hd⟩
section
variable{X:Cx}{pins:List (Addr×Obj)}{σ:St}{H:Hp}{s:Shared}{h' B:Heap}{ea C:Addr}{a0:Value}
theorem aV.up(F:X.Fn)(I:aV X pins σ H s)(hok:om X.prog X.w H B)(c1:∀b o,X.s₀.heap.get? b=some o->b∉X.fs->∃o',B.get? b=some o')(c2:∀p∈X.pn++pins,∃o',B.get? p.1=some o')
  (k1:B.StaysIn s.heap) (k2:B.StaysIn h') (up:s.heap.UpToSlots h'):aV X pins σ H {s with heap:=h'}:=by
 have hb:Un X.fs [] X.H₀ H X.s₀.heap h':=BS (by rw[<- F.ex];exact I.base) c1 k1 k2 up fun b hb=>⟨I.ok.frf b hb,(I.ok.funs.mem hb).2⟩;refine⟨I.ok,I.os,I.bare,by rw[F.ex];exact hb,?_,fun x c e=>?_,I.free,I.freeC,fun p hp=>?_,hok.kept k2,I.len⟩
 ·obtain ⟨m, hn, hl⟩ := I.loc;refine⟨m,up.ns hn,fun i x v a b c=>?_⟩;obtain⟨u,r,l⟩:=hl i x v a b c;refine⟨u,r,?_⟩;rcases l with l|⟨k,c,e,hc⟩
  ·exact .inl l
  ·exact .inr ⟨k,c,e,zX hc up⟩
 ·obtain⟨v,hv⟩:=I.cell x c e;exact⟨v,zX hv up⟩
 ·obtain⟨p1,p2⟩:=I.pin p hp;obtain⟨o',e⟩:=c2 p hp;have e1:=k1 _ _ e;rw[p1]at e1;cases e1;exact⟨k2 _ _ e,p2⟩
def vQ(ea C:Addr):HO:=.ext fun h=>∃oe,h.get? ea=some oe/\oe.cls=.ref C
theorem Un.track{fs ex:List Addr}{H0:Hp}{h0 h:Heap}{o:HO}(u:Un fs ex H0 H h0 h)(hn:h0.get? ea=none)(hH:H ea=none):Un fs ex H0 (cq H ea o) h0 h where
 keep:=u.keep
 slot:=u.slot
 free:=fun b ob e n hx=>by rw[bq fun z=>by rw[z,hn]at e;cases e];exact u.free b ob e n hx
 there:=u.there
 tups:=fun b xs q=>by have:=u.tups b xs q;rw[bq (bW this hH)];exact this
 frzs:=fun b ob xs q=>by have:=u.frzs b ob xs q;rw[bq (bW this hH)];exact this
 tbls:=fun b ps q=>by obtain⟨m,this⟩:=u.tbls b ps q;exact⟨m,by rw[bq (bW this hH)];exact this⟩
theorem aV.track(F:X.Fn)(I:aV X pins σ H s)(c1:∀b o,X.s₀.heap.get? b=some o->b∉X.fs->∃o',B.get? b=some o')(c2:∀p∈X.pn++pins,∃o',B.get? p.1=some o')
  (fl:Heap.FlyingW B X.stack ea (.ref C) a0 s.heap) (hH:H ea=none):aV X pins σ (cq H ea (vQ ea C)) s:=by
 obtain⟨f1,f2,f3,oe,vs,T,oT,ts,he,⟨hc,_⟩,hd,_⟩:=fl
 have hn:X.s₀.heap.get? ea=none:=by
  cases z:X.s₀.heap.get? ea with
  |none=>rfl
  |some o=>
   by_cases hf:ea∈X.fs
   ·obtain⟨_,o1,e1,nf⟩:=I.ok.funs.mem hf;obtain⟨sl,e2⟩:=I.base.slot ea o1 e1 (I.ok.frf ea hf) hf (by rw[F.ex];exact fun z=>by cases z);rw[he]at e2;cases e2;exact absurd hd (nf vs)
   ·obtain⟨o',e⟩:=c1 ea o z hf;rw[f2]at e;cases e
 have nl:X.env.locals≠ea:=fun z=>by
  obtain⟨m,⟨o',es,ep,ho',hd',_⟩,_⟩:=I.loc;rw[z,he]at ho';cases ho';rw[hd]at hd';cases hd'
 refine⟨I.ok,I.os,I.bare,I.base.track hn hH,I.loc,I.cell,by rw[bq nl];exact I.free,fun x c e=>?_,fun p hp=>?_,fun b u q=>?_,I.len⟩
 ·rw [bq fun z => ?_]
  ·exact I.freeC x c e
  ·obtain⟨v,o',ho',hd'⟩:=I.cell x c e;rw[z,he]at ho';cases ho';rw[hd]at hd';cases hd'
 ·obtain ⟨p1, p2, p3, p4, p5⟩ := I.pin p hp;refine⟨p1,?_,p3,p4,p5⟩;rw[bq fun z=>?_]
  ·exact p2
  ·obtain⟨o',e⟩:=c2 p hp;rw[z,f2]at e;cases e
 ·by_cases hb : b = ea
  ·subst hb;rw[bN]at q;cases q;refine⟨⟨oe,he,hc⟩,⟨oe,he⟩,fun h1 h2 a k=>?_⟩;obtain⟨o,e,c⟩:=a;exact⟨o,k o e,c⟩
  ·rw[bq hb]at q;exact(I.hok b u q).stay (fun _ _ _ r=>r) (fun c r=>by rw[bq (bW r hH)];exact r) fun c xs r=>by rw[bq (bW r hH)];exact r
end
abbrev Cx.hnd(X:Cx)(ea:Addr):Cx:={X with A:=X.A.mark (some (.ref ea)),calm:=false,xe:=fun _ _=>False}
theorem aV.hnd{X:Cx}{pins:List (Addr×Obj)}{σ:St}{H:Hp}{s:Shared}{ea:Addr}(I:aV X pins σ H s):aV (X.hnd ea) pins σ H s:=
 ⟨⟨I.ok.mod, I.ok.kind, I.ok.glob, I.ok.blt, I.ok.above, I.ok.inj, I.ok.has, I.ok.cab, (fun z => by cases z), I.ok.frames, I.ok.stk, I.ok.exf, I.ok.bs, I.ok.bsz, I.ok.noex, I.ok.exfs, I.ok.funs, I.ok.frf⟩,
   I.os,I.bare,I.base,I.loc,I.cell,I.free,I.freeC,I.pin,I.hok,I.len⟩
theorem aV.unhnd{X:Cx}{pins:List (Addr×Obj)}{σ:St}{H:Hp}{s:Shared}{ea:Addr}(ok:X.Ok)(I:aV (X.hnd ea) pins σ H s):aV X pins σ H s:=
 ⟨ok,I.os,I.bare,I.base,I.loc,I.cell,I.free,I.freeC,I.pin,I.hok,I.len⟩
theorem aV.forget{X:Cx}{pins:List (Addr×Obj)}{σ:St}{H:Hp}{s:Shared}{h':Heap}{t':Nat}{m:Str->Option Value}(I:aV X pins σ H s)(hn:h'.Ns X.env.locals m)(sb:Heap.SameBut X.env.locals s.heap h') :
  aV X pins (List.replicate X.N.length none) H {s with heap:=h',toks:=t'}:=by
 have ne:∀b o,X.s₀.heap.get? b=some o->b≠X.env.locals:=fun b o e z=>by
  have:=I.ok.above;rw[z]at e;exact absurd (NO e) (Nat.not_lt.mpr this)
 have same:∀b,b≠X.env.locals->h'.get? b=s.heap.get? b:=fun b hb=>sb.2 b hb;refine⟨I.ok,I.os,I.bare,⟨fun b o e n hb hx=>?_,fun b o e n hb hx=>?_,I.base.free,fun b o e hx=>?_,I.base.tups,I.base.frzs,I.base.tbls⟩,⟨m,hn,fun i x v _ e=>?_⟩,fun x c e=>?_,I.free,I.freeC,fun p hp=>?_,fun b u q=>?_,by simp⟩
 ·rw[same b (ne b o e)];exact I.base.keep b o e n hb hx
 ·rw[same b (ne b o e)];exact I.base.slot b o e n hb hx
 ·rw[same b (ne b o e)];exact I.base.there b o e hx
 ·rw[OI]at e;split at e <;> cases e
 ·obtain⟨v,o,ho,hd⟩:=I.cell x c e;exact⟨v,o,by rw[same c (I.cne x c e)];exact ho,hd⟩
 ·obtain⟨p1,p2,p3,p4⟩:=I.pin p hp;exact⟨by rw[same _ p3];exact p1,p2,p3,p4⟩
 ·have nb : ∀ c u, H c = some u -> c ≠ X.env.locals := fun c u e z => by rw [z, I.free] at e; cases e
  exact(I.hok b u q).stay (fun c v hc r=>by
   rw[same c]
   ·exact r
   ·rcases hc with rfl | hc
    ·exact nb _ _ q
    ·exact nb _ _ hc) (fun _ r=>r) fun _ _ r=>r
theorem IX{X:Cx}(F:X.Fn){r n:Str}{R:Addr}{i:Nat}{np hpos pos:Pos}{body suite:List Stmt}{b0:Stmt}{tb:XK->TS}{th:TS}
  (hN:X.N.Nodup) (hi:X.N[i]?=some n) (hx:Ex X.env.scope n) (hl:X.env.kindOf n=some .local) (hg:Gl X r) (hm:X.mg r=some (.ref R)) (hd:(r == ("__debug__" : Str))=false)
  (hb:∀pins E,j7 (X.tri pins E) body (tb E)) (hs:∀ea,j7 (X.hnd ea) (b0::suite) th) :
  PS X (.Try body [.ExceptHandler (some (.Name r np)) (some n) (b0::suite) hpos] [] [] pos) (fun D σ H=>∃E:XK,(∀C ea H',E (.ref C) (some ea) H'->H' ea=none->W.exmOne X.K (.ref C) (.ref R)=some true /\
   ∀σ':St,σ'.length=X.N.length->th {nx:=fun _ _=>False,rt:=D.rt} (σ'.set i (some (.ref ea))) (cq H' ea (vQ ea C)))/\tb E D σ H):=by
 intro pins s σ H D I hq;obtain⟨E,hE,hq⟩:=hq;refine wpAny_Try_except (N7 (hb pins E [] s σ H D I.tri hq) (fun f s1 h1=>?_) fun e s1 h1=>?_)
 ·cases f with
  |next=>exact Ob (SP.untri h1)
  |brk=>exact SP.untri h1
  |cont=>exact SP.untri h1
  |ret u=>exact SP.untri h1
 ·obtain ⟨ea, C, a0, B, σ1, H1, rfl, I1, hok, fl, hn, c1, c2, q⟩ := h1;obtain⟨q1,q2⟩:=hE C ea H1 q hn;have fl0:=fl;rw[F.stk]at fl;refine wpAny_looks_onW (by rw[<- F.stk];exact I.ok.frames) F.fr fl fun h4 held4 up4=>?_;refine wpAny_landsW held4 fun h5 fl5 up5=>?_;have fl5':=fl5;rw[<- F.stk]at fl5';have I5:=I1.up F hok c1 c2 fl0.1 fl5.1 (up4.trans up5);have J5:aV (X.hnd ea) pins σ1 H1 {s1 with heap:=h5}:=I5.hnd;refine wpAny_handleBy_cons (codeAny_handlers_test (nB J5 hg hm ?_ hd)) (by intro q;cases q);obtain⟨ob,hob,hobc⟩:=fl5.there
  have LT:W.Looks (model X.prog X.w) h5 (typeOf (.ref ea)) (.ref C):=by
   rw[<- hobc];exact(W.Looks.ld hob).andThen .now
  refine(W.exm_one J5.kIn LT q1).here (codeAny_handlers_suite_as ?_);refine lands_againW fl5 fun h6 fl6 up6=>?_;have fl6':=fl6;rw[<- F.stk]at fl6';have I6:=I5.up F hok c1 c2 fl5.1 fl6.1 up6;have I6':=I6.track F c1 c2 fl6' hn;refine qX (v:=.ref ea) I6' hN hi hx rfl (fun s7 I7=>?_) (.inr hl);refine N7 (hs ea pins s7 _ _ _ I7.hnd (q2 σ1 I1.len)) (fun f s8 h8=>?_) fun _ _ z=>False.elim z;cases f with
  |next=>obtain⟨_,_,_,z⟩:=h8;exact False.elim z
  |brk=>obtain⟨_,_,_,z⟩:=h8;exact False.elim z
  |cont=>obtain⟨_,_,_,z⟩:=h8;exact False.elim z
  |ret u=>
   obtain⟨v,σ',H',I8,rv,z⟩:=h8;have I8':=I8.unhnd I.ok;obtain⟨m,hn8,_⟩:=I8'.loc;refine wpAny_nameGoes hl hn8 (by rw[I.ok.kind];rfl) fun h9 m9 hn9 sb=>?_;exact⟨v,_,H',I8'.forget hn9 sb,rv,z⟩
structure fK(k:Nat)(A:Around):Prop where
 dp:A.depth+3*k+5<recursionLimit
 un:A.units+16*k+200<cLine
 gd:A.guards=some []
theorem gv.h{k:Nat}{A:Around}(r:gv k A):fK k A:=⟨r.dp,r.un,r.gd⟩
theorem fK.mark{k:Nat}{A:Around}(r:fK k A)(e:Option Value):fK k (A.mark e):=⟨r.dp,r.un,r.gd⟩
theorem fK.mono{j k:Nat}{A:Around}(r:fK k A)(h:j<=k):fK j A:=⟨by have:=r.dp;omega,by have:=r.un;omega,r.gd⟩
theorem fK.deeper{k:Nat}{A:Around}(r:fK (k+1) A)(env:Env):fK k (A.deeper env):=
 ⟨by have:=r.dp;show A.depth+1+3*k+5<_;omega,by have:=r.un;show A.units+3+16*k+200<_;omega,r.gd⟩
theorem fK.depth{k:Nat}{A:Around}(r:fK k A):A.depth<recursionLimit:=by have:=r.dp;omega
theorem fK.units{k:Nat}{A:Around}(r:fK k A):A.units+64<cLine:=by have:=r.un;omega
structure wb(P:Program)(w:World)(K:W.Frag)(mg:Str->Option Value)(base:Heap)(CX:vE)(k:Nat)(f:Addr)(fd:FuncData)(ps:List Str)(sp:Sp):Prop where
 len:∀vs H Q E,sp vs H Q E->vs.length=ps.length
 run:∀(A:Around)(outer:List Env)(s:Shared)(H:Hp)(args:Args)(us:List Value)(vs:List V)(Q:VK)(E:XK),fK k A->Ao P w K mg base A outer s H->BindsTo s fd args (ps.zip us)->ba vs us->sp vs H Q E ->
  codeAny (model P w) A (.call (.ref f) args) (CR CX outer P w H s Q E) s
section
variable{X:Cx}{CX:vE}{k:Nat}{f C:Addr}{fd:FuncData}{ps:List Str}{sp:Sp}{dvs:List V}{ds:List Value}{E:XK}{x m:Str}{p pos apos:Pos}{e o:Expr}{es:List Expr}{ta:TE}{t:TA}
theorem FF{pins:List (Addr×Obj)}{σ:St}{H:Hp}{s:Shared}{Q:VK}{us:List Value}{vs:List V}(F:wb X.prog X.w X.K X.mg X.base CX k f fd ps sp)(hr:fK k X.A)(hb:iu X.K fd ps ds)(hd:ba dvs ds)(hx:kf CX X E)
  (I:aV X pins σ H s) (r:ba vs us) (h:sp (vs++dvs) H Q E):wpAny (model X.prog X.w) X.A (call (.ref f) us) (EP X pins σ Q) X.xe s:=by
 have r2:ba (vs++dvs) (us++ds):=r.append hd;have hl:(us++ds).length=ps.length:=by rw[<- r2.length];exact F.len _ _ _ _ h
 refine Oy (OA (F.run X.A X.stack s H ⟨us,[]⟩ (us++ds) (vs++dvs) Q E hr I.env0 (hb s us I.kIn hl) r2 h) fun r s' hq=>?_);cases r with
 |error e=>exact hx pins σ H s e s' I hq
 |ok fl=>
  cases fl with
  |ret u=>exact I.after hq
  |next=>exact False.elim hq
  |brk=>exact False.elim hq
  |cont=>exact False.elim hq
theorem DI(F:wb X.prog X.w X.K X.mg X.base CX k f fd ps sp)(hr:fK k X.A)(hg:Gl X x)(hm:X.mg x=some (.ref f))(hk:W.keepIn X.K (.ref f)=true)(hb:iu X.K fd ps ds)(hd:ba dvs ds)(hx:kf CX X E)
  (ha:PA X (e::es) t) (hdb:(x == ("__debug__" : Str))=false:=by decide) (he:starEach (e::es) X.env=(false,eval e X.env)::starEach es X.env:=by rfl) (hpl:(backTo pos (starEach es X.env)).any (·.1)=false:=by rfl) :
  PE X (.Call (.Name x p) (e::es) [] pos) (GV sp dvs E t):=by
 intro pins s σ H Q I h;refine OB (nB I hg hm ?_ hdb);refine W.callWith_K (h₀:=X.base) I.ok.mod.kin hk (eF (ha pos pins s σ H _ I h) fun us s1 ⟨vs,H1,I1,r,q⟩=>⟨I1.kIn,?_⟩) he hpl;exact FF F hr hb hd hx I1 r q
end
def qN(CX:vE)(P:Program)(w:World)(K:W.Frag)(mg:Str->Option Value)(base:Heap)(N:List Str)(qual:Str)(scope:Scope)(f:Addr)(cd:Value)(A:Around)(outer:List Env)(s:Shared)(H:Hp)(E:XK):Cx where
 prog:=P
 w:=w
 K:=K
 mg:=mg
 base:=base
 A:=A.deeper (envOfC qual scope s.heap.objs.size f cd)
 N:=N
 s₀:=s
 H₀:=H
 env:=envOfC qual scope s.heap.objs.size f cd
 outer:=outer
 stack:=envOfC qual scope s.heap.objs.size f cd::outer
 ex:=[]
 calm:=false
 fn:=fun _=>true
 pn:=[]
 xe:=fun e s'=>wpAny (model P w) (A.deeper (envOfC qual scope s.heap.objs.size f cd)) (leaving (envOfC qual scope s.heap.objs.size f cd) e) (fun _ s''=>CX outer H s E e s'') (fun e' s''=>CX outer H s E e' s'') s'
theorem yM{CX:vE}{P:Program}{w:World}{K:W.Frag}{mg:Str->Option Value}{base:Heap}{N ps:List Str}{qual:Str}{scope:Scope}{f:Addr}{cd:Value}{A:Around}{outer:List Env}{s s1:Shared}{H:Hp}{E:XK}{us:List Value}{vs:List V}
  (S:aR N ps scope) (e0:Ao P w K mg base A outer s H) (hl:vs.length=ps.length) (r:ba vs us)
  (x:InCallC s s.heap.objs.size (bindL (envOfC qual scope s.heap.objs.size f cd).kindOf (ps.zip us) fun _=>none) (cellsFrom (s.heap.objs.size+1) scope.names []) (bindC (envOfC qual scope s.heap.objs.size f cd).kindOf (ps.zip us) fun _=>none) s1) :
  aV (qN CX P w K mg base N qual scope f cd A outer s H E) [] (start N vs) H s1:=by
 have hpl:ps.length<=N.length:=by have:=Oa List.length S.pre;rw[OF]at this;omega
 obtain⟨h1,tk,rfl,hk⟩:=x.done;have noA:∀b:Addr,b∉(qN CX P w K mg base N qual scope f cd A outer s H E).ex:=fun b z=>absurd (show b∈([]:List Addr) from z) (by simp)
 refine⟨⟨e0.mod,S.kind,rfl,rfl,Om _,fun y z c h1 h2=>?_,fun y hy=>?_,fun y c _ h=>?_,(fun z=>by cases z),Around.frames_deeper e0.frames,.inr ⟨rfl,rfl⟩,fun b z=>absurd z (noA b),e0.bs,e0.bsz,fun b _ _=>noA b,fun b z=>absurd z (noA b),e0.funs,e0.frf⟩,
  rfl,e0.bare,Un.kept hk,⟨_,x.toInCall.ns,fun i y v h1 h2 h3=>?_⟩,fun y c h=>⟨_,x.cell y c h⟩,e0.hok.fresh (Om _),fun y c h=>?_,fun p hp=>absurd (show p∈([]:List (Addr×Obj)) from hp) (by simp),e0.hok.kept hk,?_⟩
 ·exact name_of_addr x.apart (OG h1) (OG h2)
 ·have hy : scope.names.lookup y = some .cell \/ scope.names.lookup y = some .free := hy;rcases hy with hy|hy
  ·exact nL hy
  ·exact absurd rfl (S.nofree _ (OG hy))
 ·exact NV (x.above y c (OG h))
 ·have hi:i<vs.length:=by
   unfold start at h2;by_cases hi:i<vs.length
   ·exact hi
   ·rw[OH (by simpa using hi)]at h2;rw[OI]at h2;split at h2 <;> cases h2
  have ha:vs[i]?=some v:=by
   unfold start at h2;rw[OJ (by simpa using hi),OK]at h2;cases e:vs[i]? with
   |none=>rw[e]at h2;cases h2
   |some a=>rw[e]at h2;cases h2;rfl
  obtain⟨u,hu,rv⟩:=r.get ha
  have hp:ps[i]?=some y:=by
   rw[<- S.pre,OL (by omega)];exact h1
  have ndP:ps.Nodup:=by rw[<- S.pre];exact S.nd.sublist (List.take_sublist _ _)
  refine⟨u,rv,?_⟩;rcases S.par y (OM hp) with k|k
  ·exact .inl ⟨k,oY ndP hp hu k⟩
  ·obtain⟨c,e⟩:=nL (n:=s.heap.objs.size+1) k;refine .inr ⟨.inl k,c,e,?_⟩;have q:=x.cell y c e;rw[oZ ndP hp hu (by show scope.names.lookup y≠_;rw[k];decide)]at q;exact q
 ·exact e0.hok.fresh (NV (x.above y c (OG h)))
 ·unfold start;show _=N.length;rw[ON,OO,OP];omega
theorem J4{CX:vE}{P:Program}{w:World}{K:W.Frag}{mg:Str->Option Value}{base:Heap}{k:Nat}{f:Addr}{name qual:Str}{params:Arguments}{body:List Stmt}{scope:Scope}{dV kV doc pm cdv ct oc:Value}{an od:Option Addr}
  {osl:Array (Option Value)}{N ps:List Str}{sp:Sp} (lk:K.lookup f=some ⟨oc,od,.func (W.fnOf name qual params body scope dV kV doc pm an cdv ct),osl⟩) (hcd:W.codeIn K cdv qual=true) (S:aR N ps scope)
  (len:∀vs H Q E,sp vs H Q E->vs.length=ps.length)
  (hbody : ∀ (A : Around) (outer : List Env) (s : Shared) (H : Hp) (vs : List V) (Q : VK) (E : XK), fK k (A.deeper (envOfC qual scope s.heap.objs.size f cdv)) -> sp vs H Q E ->
   ∃t,j7 (qN CX P w K mg base N qual scope f cdv A outer s H E) body t/\t {nx:=fun _ H'=>Q .non H',rt:=Q} (start N vs) H) :
  wb P w K mg base CX (k+1) f (W.fnOf name qual params body scope dV kV doc pm an cdv ct) ps sp:=by
 refine⟨len,fun A outer s H args us vs Q E hr e0 hb r hsp=>?_⟩;have hl:=len _ _ _ _ hsp;have KX:K.In s.heap:=e0.mod.kin.keeps fun b o e=>(e0.bs b o e).1;have lim:s.heap.NoLimit:=e0.mod.nolimit.keeps fun b o e=>(e0.bs b o e).1
 have hkind:∀y∈ps.zip us,scope.names.lookup y.1=some .local\/(scope.names.lookup y.1=some .cell/\((cellsFrom (s.heap.objs.size+1) scope.names []).lookup y.1).isSome=true):=fun⟨n,v⟩ hy=>by
  rcases S.par n (OD hy).1 with q|q
  ·exact .inl q
  ·exact .inr ⟨q,W.cellsFrom_some _ _ _ (.inl q)⟩
 refine codeAny_call_function hr.depth (KX _ _ lk) rfl S.co S.gen rfl (W.codeRec_of KX hcd) (hb _ _ _ _ ?_);refine wpAny_newFunctionEnv_cells S.kind hkind fun env he s1 x=>?_;subst he;refine⟨lim.keeps x.toInCall.keep,codeAny_func ?_⟩;obtain⟨t,ht,hq⟩:=hbody A outer s H vs Q E (hr.deeper _) hsp;have I:aV (qN CX P w K mg base N qual scope f cdv A outer s H E) [] (start N vs) H s1:=yM S e0 hl r x;refine N7 (ht [] s1 (start N vs) H _ I hq) (fun fl s' hs=>?_) fun e s' hs=>hs
 have fin:∀{σ':St}{H':Hp}{v:V}{u:Value},aV (qN CX P w K mg base N qual scope f cdv A outer s H E) [] σ' H' s'->bV v u->Q v H'->CE outer P w H s Q u s':=
  fun {σ' H' v u} J rv q=>⟨v,H',J.os,J.bare,J.base,J.hok,rv,q⟩
 cases fl with
 |ret u=>
  obtain⟨v,σ',H',J,rv,q⟩:=hs;exact fin J rv q
 |next=>
  obtain⟨σ',H',J,q⟩:=hs;exact fin (v:=V.non) (u:=Value.none) J rfl q
 |brk=>
  obtain⟨_,_,_,q⟩:=hs;exact False.elim q
 |cont=>
  obtain⟨_,_,_,q⟩:=hs;exact False.elim q
section
variable{P:Program}{w:World}{K:W.Frag}{mg:Str->Option Value}{base:Heap}
theorem gZ.okH{x qual:Str}{st:Stmt}{f:Addr}{fd:FuncData}{N ps:List Str}{k:Nat}{sp:Sp}(F:gZ K x qual st f fd)(S:aR N ps (ar st))(len:∀vs H Q E,sp vs H Q E->vs.length=ps.length)
  (hbody : ∀ (cdv : Value) (A : Around) (outer : List Env) (s : Shared) (H : Hp) (vs : List V) (Q : VK) (E : XK), fK k (A.deeper (envOfC qual (ar st) s.heap.objs.size f cdv)) -> sp vs H Q E ->
   ∃t,j7 (qN xO P w K mg base N qual (ar st) f cdv A outer s H E).nox (cj st) t/\t {nx:=fun _ H'=>Q .non H',rt:=Q} (start N vs) H):wb P w K mg base xO (k+1) f fd ps sp:=by
 obtain⟨oc,od,kV,doc,pm,an,cdv,ct,osl,rfl,lk,hcd⟩:=F.ex;refine J4 lk hcd S len fun A outer s H vs Q E hr hsp=>?_;obtain⟨t,h,q⟩:=hbody cdv A outer s H vs Q E hr hsp;exact⟨t,h.nox,q⟩
end
end L2
namespace PySem.W
open PySem PySem.Spec PySem.Calls PyProof.Rows
section
variable{prog:Program}{w:World}{A:Around}{E:Value->Shared->Prop}{s:Shared}{K:Frag}{x D:Addr}{a g:Value}{name:Str}{h:Heap}{M:Model}
theorem xB (X:K.In h) (ha:findIn K (.ref D) name=some (some a)) (hg:specialIn K a "__get__" = some (some g)) (ht:takesIn K a=some true):Looks M h (Builtin.ObjectAttr.find (.ref x) (.ref D) name) (.bind g a):=
 (looks_findIn X ha).andThen ((show Looks M h (Builtin.ObjectAttr.getOf (some a)) (some g) from looks_specialIn X hg).andThen ((show Looks M h (Builtin.ObjectAttr.dataDescriptor? (some a) (some g)) (some (g,a)) from (looks_takesIn X ht).andThen .now).andThen (Looks.tag .now)))
theorem yV {R:Result->Shared->Prop} (X:K.In s.heap) (L:Looks (model prog w) s.heap (typeOf (.ref x)) (.ref D)) (hm:mroIn K D (.type "object")=some true) (hr:R (.ok (.ret (.ref D))) s) :
  codeAny (model prog w) A (.call (.builtin "getset_descriptor.__get__") ⟨[.builtin "object.__class__",.ref x,.ref D],[]⟩) R s:=by
 obtain⟨hh,g,d,t,os⟩:=s;have L0:Looks (model prog w) hh (typeOf (.ref x)) (.ref D):=L;have L1:Looks (model prog w) hh (isSubtype (.ref D) (.type "object")) true:=looks_mroIn X hm;have hT5:(⟨hh,g,d,t,os⟩:Shared).TypeIs (.builtin "object.__class__") "getset_descriptor" := F.typeOf_object_class;have ow:(".".intercalate ("object.__class__".cutAt '.').dropLast) = "object" := by decide +kernel
 refine Q6 F.slot_gs_get.plain F.entry_gs_get (F.slot_gs_get.check _ _ _ _ _ _ _ _ hT5 (F.args_gs_get _ _ _) ?_)
 repeat (any_goals (first|assumption|with_reducible refine L0.at ?_|(rw[ow])|with_reducible refine L1.at ?_|wp_step))
 refine⟨Q5 _ (by decide +kernel),QY KF.entry_class ?_⟩;unfold Builtin.«object.__class__»
 repeat (any_goals (first|assumption|with_reducible refine L0.at ?_|wp_step))
theorem Eb {hh:Heap}{g:Array GenState}{d:Drawn}{t:Nat}{os:OsState}{M:Model}{nameV:Value}{Q:Unit->Shared->Prop} (X:K.In hh) (L0:Looks M hh (typeOf (.ref x)) (.ref D)) (hmB:mroIn K D (.type "BaseException")=some true) (hq:Q () ⟨hh,g,d,t,os⟩) :
  wpAny M A (checkBuiltinCall "BaseException.__getattribute__" ⟨[.ref x,nameV],[]⟩) Q E ⟨hh,g,d,t,os⟩:=by
 have hk:builtinKind "BaseException.__getattribute__" = some .slot:=by decide +kernel
 have hsplit:splitId "BaseException.__getattribute__" = some ("BaseException", "__getattribute__"):=by decide +kernel
 have ha:=F.args_bexc_ga (.ref x) nameV;have L1:=looks_mroIn (M:=M) X hmB;simp only[checkBuiltinCall,hk,hsplit];refine Oc ?_
 ·unfold isInstance
  repeat (first|lk|wp_step)
  exact hq
theorem Ea {tk:Tok}{Q:Fin->Shared->Prop} (X:K.In s.heap) (L:Looks (model prog w) s.heap (typeOf (.ref x)) (.ref D)) (ha:findIn K (.ref D) "__class__" = some (some (.builtin "object.__class__"))) (hn:specialIn K (.builtin "object.__class__") "__get__" = some (some (.builtin "getset_descriptor.__get__"))) (htk:takesIn K (.builtin "object.__class__")=some true) (hm:mroIn K D (.type "object")=some true) (hq:Q (.done (.ret (.ref D))) s) :
  wpAny (model prog w) A (Builtin.«object.__getattribute__» ⟨[.ref x,.str "__class__" tk],[]⟩) Q E s:=by
 obtain⟨hh,g,d,t,os⟩:=s;have L0:Looks (model prog w) hh (typeOf (.ref x)) (.ref D):=L;have f3:Looks (model prog w) hh (Builtin.ObjectAttr.find (.ref x) (.ref D) "__class__") (.bind (.builtin "getset_descriptor.__get__") (.builtin "object.__class__")):=xB X ha hn htk;unfold Builtin.«object.__getattribute__»
 repeat (any_goals (first|assumption|with_reducible refine L0.at ?_|with_reducible refine f3.at ?_|wp_step))
 refine yV (s:=⟨hh,g,d,t,os⟩) X L hm ?_
 repeat (any_goals (first|assumption|wp_step))
theorem Bg {Q:Option Value->Shared->Prop} (X:K.In s.heap) (L:Looks (model prog w) s.heap (typeOf (.ref x)) (.ref D)) (hga:findIn K (.ref D) "__getattribute__" = some (some (.builtin "BaseException.__getattribute__"))) (hgn:findIn K (.ref D) "__getattr__" = some none)
  (ha:findIn K (.ref D) "__class__" = some (some (.builtin "object.__class__"))) (hn:specialIn K (.builtin "object.__class__") "__get__" = some (some (.builtin "getset_descriptor.__get__"))) (htk:takesIn K (.builtin "object.__class__")=some true) (hm:mroIn K D (.type "object")=some true) (hmB:mroIn K D (.type "BaseException")=some true) (hq:Q (some (.ref D)) {s with toks:=s.toks+1}) :
  wpAny (model prog w) A (getAttr? (.ref x) "__class__") Q E s:=by
 obtain⟨hh,g,d,t,os⟩:=s;have L0:Looks (model prog w) hh (typeOf (.ref x)) (.ref D):=L;have L1:Looks (model prog w) hh (typeLookup (.ref D) "__getattribute__") (some (.builtin "BaseException.__getattribute__")):=looks_findIn X hga;have L2:Looks (model prog w) hh (typeLookup (.ref D) "__getattr__") none:=looks_findIn X hgn;have f3:=PySem.F.attr_ValueError.ga.bind (.ref x);have hx2:(Value.builtin "BaseException.__getattribute__" == Value.builtin "object.__getattribute__")=false:=by decide +kernel
 have hx1:(onTheHeap (Value.ref D)&&Value.builtin "BaseException.__getattribute__" == Value.builtin "object.__getattribute__")=false:=by rw[hx2];rfl
 have hx0:(false&&onTheHeap (Value.builtin "BaseException.__getattribute__"))=false:=rfl;unfold getAttr? getAttrBy?
 repeat (any_goals (first|assumption|with_reducible refine L0.at ?_|with_reducible refine L1.at ?_|with_reducible refine L2.at ?_|wp_step))
 refine Q6 PySem.F.attr_ValueError.ga.plain F.entry_bexc_ga (Eb X L0 hmB (Ea (tk:=t) X L0 ha hn htk hm ?_))
 repeat (any_goals (first|assumption|wp_step))
end
def excCls (K:Frag) (D:Addr):Bool:=findIn K (.ref D) "__getattribute__" == some (some (.builtin "BaseException.__getattribute__"))&&findIn K (.ref D) "__getattr__" == some none&&(clsIn K D).isSome&&findIn K (.ref D) "__class__" == some (some (.builtin "object.__class__")) &&
 mroIn K D (.type "object") == some true&&mroIn K D (.type "BaseException") == some true&&specialIn K (.builtin "object.__class__") "__get__" == some (some (.builtin "getset_descriptor.__get__"))&&takesIn K (.builtin "object.__class__") == some true
section
variable{K:Frag}{x D:Addr}
theorem kitx_exc(e:excCls K D=true):KitX K (.ref x) (.ref D) (fun h=>∃ox,h.get? x=some ox/\ox.cls=.ref D):=by
 unfold excCls at e;simp only[Pb,RD]at e;obtain⟨⟨⟨⟨⟨⟨⟨hga,hgn⟩,hc⟩,ha⟩,hm⟩,hmB⟩,hn⟩,htk⟩:=e
 exact {
  ty:=fun _ _ _ ⟨ox,h1,h2⟩=>h2 ▸ (Looks.ld h1).andThen .now
  it:=fun _ _ X _=>by
   obtain⟨cdD,hcD⟩:=OE.mp hc;unfold clsIn at hcD;split at hcD
   ·rename_i c' d' cd' sl' ho;intro A' Q' E' s' k q;unfold isType loadHead;exact Oc (wpAny_loadPart (k _ _ (X _ _ ho)) (Og q))
   ·cases hcD
  ne:=fun h tp dd its n sl X htp=>by
   obtain⟨cdD,hcD⟩:=OE.mp hc;refine Bool.eq_false_iff.mpr fun q=>?_;have e:D=tp:=Value.ref.inj (RD.mp q);subst e;unfold clsIn at hcD;split at hcD
   ·rename_i c' d' cd' sl' ho;have z:=(X _ _ ho).symm.trans htp;cases z
   ·cases hcD
  ca:=fun {prog w A E Q s} X ⟨ox,h1,h2⟩ h=>Bg X (h2 ▸ (Looks.ld h1).andThen .now) hga hgn ha hn htk hm hmB h}
end
end PySem.W
namespace L2
open PySem PySem.Spec PyProof.Rows
def KL(K:W.Frag)(u:Value):List V->Hp->VK->Prop:=fun xs H Q=>∃a D b v,xs=[.ref a,v]/\bV v u/\H a=some (vQ a D)/\W.excCls K D=true/\W.kitOne K (.ref D) u=some b/\Q (.bl b) H
theorem xi {X:Cx}{u:Value} (hu:∀v w,bV v u->bV v w->w=u):cZ X (.builtin "isinstance") (KL X.K u):=by
 intro pins s σ H xs us Q I r h;obtain⟨a,D,b,v,rfl,rv,ea,hc,e,q⟩:=h;cases r with
 |cons r1 r2=>
  cases r2 with
  |cons r3 r4=>
   cases r4;cases (show _=Value.ref a from r1);have z:=hu v _ rv r3;subst z;obtain⟨⟨oe,h1,h2⟩,_⟩:=(show eW X.prog X.w H s.heap a (vQ a D) from I.hok a _ ea);exact W.kia_one (W.kitx_exc hc) I.kIn ⟨oe,h1,h2⟩ e (fun z=>nomatch z) fun tk=>⟨.bl b,H,I.tok _,rfl,q⟩
end L2
namespace L2
open PySem PySem.Spec PyProof.Rows RS
inductive D where
 |non|bl (b:Bool)|int (i:Int)|str (x:Str)|tup (xs:List D)|frz (xs:List D)|obj (n:Nat)
inductive O where
 |lst (xs:List D)|set (ks:List (List Int))|iset (ks:List Int)|dic|exc (c:Str)
abbrev aw:=List O
abbrev Ro:=List (Option D)
def GO(K:W.Frag)(H:Hp)(a:Addr)(xs:List V):Prop:=
 (∃ o, H a = some (.frz o (.lst xs))) \/
  ∃(o:Obj) (its:Array Value) (n:Nat),K.lookup a=some o/\o.cls=.type "list" /\ o.dict=none/\o.data=.seq its n/\its.size<=sizeLine/\ba xs its.toList
theorem GO.sq{K:W.Frag}{H:Hp}{a:Addr}{xs:List V}(h:GO K H a xs):fT K H a xs:=by
 rcases h with⟨o,h⟩|h
 ·exact .inl (.inr ⟨o,h⟩)
 ·exact .inr h
section
variable(K:W.Frag)(H:Hp)(α:List Addr)
mutual
def aP:D->V->Prop
 |.non,v=>v=.non
 |.bl b,v=>v=.bl b
 |.int i,v=>v=.int i
 |.str x,v=>v=.str x
 |.tup xs,v=>∃a vs,v=.ref a/\fS K H a vs/\Reps xs vs
 |.frz xs,v=>∃a vs,v=.ref a/\GO K H a vs/\Reps xs vs
 |.obj n,v=>∃a,v=.ref a/\α[n]?=some a
def Reps:List D->List V->Prop
 |[],vs=>vs=[]
 |x::xs,vs=>∃v r,vs=v::r/\aP x v/\Reps xs r
end
end
structure me(K:W.Frag)(H H':Hp)(α α':List Addr):Prop where
 tup:∀a xs,fS K H a xs->fS K H' a xs
 frz:∀a xs,GO K H a xs->GO K H' a xs
 pre:∀(n:Nat) a,α[n]?=some a->α'[n]?=some a
section
variable{K:W.Frag}{H H' H1 H2:Hp}{α α' α1 α2:List Addr}
theorem me.refl:me K H H α α:=⟨fun _ _ h=>h,fun _ _ h=>h,fun _ _ h=>h⟩
theorem me.trans(a:me K H H1 α α1)(b:me K H1 H2 α1 α2):me K H H2 α α2:=
 ⟨fun c xs h=>b.tup c xs (a.tup c xs h),fun c xs h=>b.frz c xs (a.frz c xs h),fun n c h=>b.pre n c (a.pre n c h)⟩
mutual
theorem aP.mono(e:me K H H' α α'):∀{d:D}{v:V},aP K H α d v->aP K H' α' d v
 |.non,_,h=>by simp only[aP]at h⊢;exact h
 |.bl _,_,h=>by simp only[aP]at h⊢;exact h
 |.int _,_,h=>by simp only[aP]at h⊢;exact h
 |.str _,_,h=>by simp only[aP]at h⊢;exact h
 |.tup xs,_,h=>by
  simp only[aP]at h⊢;obtain⟨a,vs,rfl,h1,h2⟩:=h;exact⟨a,vs,rfl,e.tup a vs h1,Reps.mono e h2⟩
 |.frz xs,_,h=>by
  simp only[aP]at h⊢;obtain⟨a,vs,rfl,h1,h2⟩:=h;exact⟨a,vs,rfl,e.frz a vs h1,Reps.mono e h2⟩
 |.obj n,_,h=>by
  simp only[aP]at h⊢;obtain⟨a,rfl,h1⟩:=h;exact⟨a,rfl,e.pre n a h1⟩
theorem Reps.mono(e:me K H H' α α'):∀{ds:List D}{vs:List V},Reps K H α ds vs->Reps K H' α' ds vs
 |[],_,h=>by simp only[Reps]at h⊢;exact h
 |d::ds,_,h=>by
  simp only[Reps]at h⊢;obtain⟨v,r,rfl,h1,h2⟩:=h;exact⟨v,r,rfl,aP.mono e h1,Reps.mono e h2⟩
end
theorem Reps.nil:Reps K H α [] []:=by simp only[Reps]
theorem Reps.cons{d:D}{ds:List D}{v:V}{vs:List V}(h1:aP K H α d v)(h2:Reps K H α ds vs):Reps K H α (d::ds) (v::vs):=by
 simp only[Reps];exact⟨v,vs,rfl,h1,h2⟩
theorem Reps.length:∀{ds:List D}{vs:List V},Reps K H α ds vs->vs.length=ds.length
 |[],vs,h=>by simp only[Reps]at h;rw[h];rfl
 |d::ds,vs,h=>by
  simp only[Reps]at h;obtain⟨v,r,rfl,h1,h2⟩:=h;simp[Reps.length h2]
theorem Reps.get:∀{ds:List D}{vs:List V}{i:Nat}{d:D},Reps K H α ds vs->ds[i]?=some d->∃v,vs[i]?=some v/\aP K H α d v
 |[],_,_,_,_,e=>by simp at e
 |d::ds,vs,i,x,h,e=>by
  simp only[Reps]at h;obtain⟨v,r,rfl,h1,h2⟩:=h;cases i with
  |zero=>simp at e;subst e;exact⟨v,rfl,h1⟩
  |succ i=>exact Reps.get (i:=i) h2 (by simpa using e)
theorem Reps.getV:∀{ds:List D}{vs:List V}{i:Nat}{v:V},Reps K H α ds vs->vs[i]?=some v->∃d,ds[i]?=some d/\aP K H α d v
 |[],vs,_,_,h,e=>by simp only[Reps]at h;subst h;simp at e
 |d::ds,vs,i,x,h,e=>by
  simp only[Reps]at h;obtain⟨v,r,rfl,h1,h2⟩:=h;cases i with
  |zero=>simp at e;subst e;exact⟨d,rfl,h1⟩
  |succ i=>exact Reps.getV (i:=i) h2 (by simpa using e)
theorem Reps.append:∀{ds es:List D}{vs ws:List V},Reps K H α ds vs->Reps K H α es ws->Reps K H α (ds++es) (vs++ws)
 |[],_,vs,_,h,g=>by simp only[Reps]at h;subst h;exact g
 |d::ds,_,vs,_,h,g=>by
  simp only[Reps]at h;obtain⟨v,r,rfl,h1,h2⟩:=h;exact Reps.cons h1 (Reps.append h2 g)
theorem Reps.take:∀{ds:List D}{vs:List V}(n:Nat),Reps K H α ds vs->Reps K H α (ds.take n) (vs.take n)
 |[],vs,n,h=>by simp only[Reps]at h;subst h;simpa using Reps.nil
 |d::ds,vs,n,h=>by
  simp only[Reps]at h;obtain⟨v,r,rfl,h1,h2⟩:=h;cases n with
  |zero=>exact Reps.nil
  |succ n=>exact Reps.cons h1 (Reps.take n h2)
theorem Reps.drop:∀{ds:List D}{vs:List V}(n:Nat),Reps K H α ds vs->Reps K H α (ds.drop n) (vs.drop n)
 |[],vs,n,h=>by simp only[Reps]at h;subst h;simpa using Reps.nil
 |d::ds,vs,n,h=>by
  cases n with
  |zero=>exact h
  |succ n=>
   simp only[Reps]at h;obtain⟨v,r,rfl,h1,h2⟩:=h;exact Reps.drop n h2
theorem Reps.set{d:D}{v:V}(q:aP K H α d v):∀{ds:List D}{vs:List V}(n:Nat),Reps K H α ds vs->Reps K H α (ds.set n d) (vs.set n v)
 |[],vs,n,h=>by simp only[Reps]at h;subst h;simpa using Reps.nil
 |e::ds,vs,n,h=>by
  simp only[Reps]at h;obtain⟨v',r,rfl,h1,h2⟩:=h;cases n with
  |zero=>exact Reps.cons q h2
  |succ n=>exact Reps.cons h1 (Reps.set q n h2)
theorem Reps.reverse:∀{ds:List D}{vs:List V},Reps K H α ds vs->Reps K H α ds.reverse vs.reverse
 |[],vs,h=>by simp only[Reps]at h;subst h;exact Reps.nil
 |d::ds,vs,h=>by
  simp only[Reps]at h;obtain⟨v,r,rfl,h1,h2⟩:=h;rw[Pl,Pl];exact Reps.append (Reps.reverse h2) (Reps.cons h1 Reps.nil)
theorem Reps.one{d:D}{vs:List V}(h:Reps K H α [d] vs):∃v,vs=[v]/\aP K H α d v:=by
 simp only[Reps]at h;obtain⟨v,r,rfl,h1,rfl⟩:=h;exact⟨v,rfl,h1⟩
theorem Reps.two{d e:D}{vs:List V}(h:Reps K H α [d,e] vs):∃v u,vs=[v,u]/\aP K H α d v/\aP K H α e u:=by
 simp only[Reps]at h;obtain⟨v,r,rfl,h1,u,r',rfl,h2,rfl⟩:=h;exact⟨v,u,rfl,h1,h2⟩
theorem Reps.snoc{d:D}{ds:List D}{v:V}{vs:List V}(h:Reps K H α ds vs)(q:aP K H α d v):Reps K H α (ds++[d]) (vs++[v]):=h.append (Reps.cons q Reps.nil)
theorem Reps.ints:∀{ns:List Int}{vs:List V},Reps K H α (ns.map D.int) vs->vs=ns.map V.int
 |[],vs,h=>by simp only[Pd,Reps]at h;exact h
 |n::ns,vs,h=>by
  simp only[Pe,Reps]at h;obtain⟨v,r,rfl,h1,h2⟩:=h;simp only[aP]at h1;rw[h1,Reps.ints h2];rfl
theorem lD:∀(ns:List Int),Reps K H α (ns.map D.int) (ns.map V.int)
 |[]=>Reps.nil
 |n::ns=>Reps.cons (by simp only[aP]) (lD ns)
theorem aI{xs:List D}{v:V}:aP K H α (.tup xs) v↔∃a vs,v=.ref a/\fS K H a vs/\Reps K H α xs vs:=by simp only[aP]
theorem bw{xs:List D}{v:V}:aP K H α (.frz xs) v↔∃a vs,v=.ref a/\GO K H a vs/\Reps K H α xs vs:=by simp only[aP]
theorem aQ{n:Nat}{v:V}:aP K H α (.obj n) v↔∃a,v=.ref a/\α[n]?=some a:=by simp only[aP]
theorem av{n:Int}{v:V}:aP K H α (.int n) v↔v=.int n:=by simp only[aP]
theorem a8{n:Bool}{v:V}:aP K H α (.bl n) v↔v=.bl n:=by simp only[aP]
theorem br{n:Str}{v:V}:aP K H α (.str n) v↔v=.str n:=by simp only[aP]
theorem bP{v:V}:aP K H α .non v↔v=.non:=by simp only[aP]
end
def sL(K:W.Frag)(w:World)(H:Hp)(α:List Addr):O->Addr->Prop
 |.lst xs,a=>∃vs,H a=some (.lst vs)/\Reps K H α xs vs
 |.set ks,a=>∃ps:List KP,ps.map (·.1)=ks/\H a=some (.ext fun h=>bY w h a ps)/\(∀p∈ps,p.1∈prs)/\(ps.map (·.1)).Nodup/\∀p∈ps,fS K H p.2 (p.1.map V.int)
 |.iset ks,a=>∃ps:List KI,ps.map (·.1)=ks/\H a=some (.ext fun h=>dA w h a ps)/\ks.length<=6
 |.dic,a=>H a=some (.dK [])
 |.exc c,a=>∃C,W.nsIn K mainGlobals c=some (some (.ref C))/\H a=some (vQ a C)
structure fF(K:W.Frag)(w:World)(H:Hp)(α:List Addr)(μ:aw):Prop where
 len:α.length=μ.length
 nd:α.Nodup
 ob:∀(n:Nat) o a,μ[n]?=some o->α[n]?=some a->sL K w H α o a
section
variable{K:W.Frag}{w:World}{H H':Hp}{α α':List Addr}{μ:aw}
theorem sL.live{o:O}{a:Addr}(h:sL K w H α o a):H a≠none:=by
 cases o with
 |lst xs=>obtain⟨vs,e,_⟩:=h;rw[e];exact fun z=>by cases z
 |set ks=>obtain⟨ps,_,e,_⟩:=h;rw[e];exact fun z=>by cases z
 |iset ks=>obtain⟨ps,_,e,_⟩:=h;rw[e];exact fun z=>by cases z
 |dic=>have e:H a=some (.dK []):=h;rw[e];exact fun z=>by cases z
 |exc c=>obtain⟨C,_,e⟩:=h;rw[e];exact fun z=>by cases z
theorem sL.mono{o:O}{a:Addr}(h:sL K w H α o a)(e:me K H H' α α')(ha:H' a=H a):sL K w H' α' o a:=by
 cases o with
 |lst xs=>obtain⟨vs,q,r⟩:=h;exact⟨vs,ha.trans q,r.mono e⟩
 |set ks=>obtain⟨ps,h1,q,h2,h3,h4⟩:=h;exact⟨ps,h1,ha.trans q,h2,h3,fun p hp=>e.tup _ _ (h4 p hp)⟩
 |iset ks=>obtain⟨ps,h1,q,h2⟩:=h;exact⟨ps,h1,ha.trans q,h2⟩
 |dic=>exact ha.trans h
 |exc c=>obtain⟨C,h1,q⟩:=h;exact⟨C,h1,ha.trans q⟩
theorem fF.at(S:fF K w H α μ){n:Nat}{o:O}(e:μ[n]?=some o):∃a,α[n]?=some a/\sL K w H α o a:=by
 have hn:n<μ.length:=(N3.mp e).1;have hn':n<α.length:=by rw[S.len];exact hn
 exact⟨α[n],Ry hn',S.ob n o _ e (Ry hn')⟩
theorem fF.live(S:fF K w H α μ){a:Addr}(h:a∈α):H a≠none:=by
 obtain⟨n,hn,e⟩:=List.getElem_of_mem h;have hm:n<μ.length:=by rw[<- S.len];exact hn
 exact(S.ob n _ a (Ry hm) (by rw[<- e];exact Ry hn)).live
theorem fF.fresh(S:fF K w H α μ){p:Addr}(h:H p=none):p∉α:=fun z=>S.live z h
theorem fF.same(S:fF K w H α μ)(e:me K H H' α α)(h:∀a,H a≠none->H' a=H a):fF K w H' α μ:=
 ⟨S.len,S.nd,fun n o a h1 h2=>(S.ob n o a h1 h2).mono e (h a (S.ob n o a h1 h2).live)⟩
theorem bK{p:Addr}{o:HO}(h:H p=none):me K H (cq H p o) α α:=by
 refine⟨fun a xs q=>?_,fun a xs q=>?_,fun _ _ z=>z⟩
 ·rcases q with (q | ⟨x, q⟩) | q
  ·exact .inl (.inl (by rw[bq (bW q h)];exact q))
  ·exact .inl (.inr ⟨x,by rw[bq (bW q h)];exact q⟩)
  ·exact .inr q
 ·rcases q with ⟨x, q⟩ | q
  ·exact .inl ⟨x,by rw[bq (bW q h)];exact q⟩
  ·exact .inr q
theorem kg{p:Addr}{vs:List V}{o:HO}(h:H p=some (.lst vs)):me K H (cq H p o) α α:=by
 refine⟨fun a xs q=>?_,fun a xs q=>?_,fun _ _ z=>z⟩
 ·rcases q with (q | ⟨x, q⟩) | q
  ·exact .inl (.inl (by rw[bq (tx q h (by intro z;cases z))];exact q))
  ·exact .inl (.inr ⟨x,by rw[bq (tx q h (by intro z;cases z))];exact q⟩)
  ·exact .inr q
 ·rcases q with ⟨x, q⟩ | q
  ·exact .inl ⟨x,by rw[bq (tx q h (by intro z;cases z))];exact q⟩
  ·exact .inr q
theorem ji(β:List Addr):me K H H α (α++β):=⟨fun _ _ h=>h,fun _ _ h=>h,fun n a h=>by rw[OJ (N3.mp h).1];exact h⟩
theorem fF.tuple(S:fF K w H α μ){p:Addr}{vs:List V}(h:H p=none):fF K w (cq H p (.tup vs)) α μ:=
 S.same (bK h) fun a ha=>bq fun z=>ha (by rw[z];exact h)
theorem fF.more(S:fF K w H α μ){p:Addr}{o:O}{ho:HO}(h:H p=none)(q:sL K w (cq H p ho) (α++[p]) o p):fF K w (cq H p ho) (α++[p]) (μ++[o]):=by
 refine⟨by simp[S.len],?_,fun n o' a h1 h2=>?_⟩
 ·rw[QU];exact⟨S.nd,by simp,fun x hx y hy z=>by simp at hy;subst hy;subst z;exact S.fresh h hx⟩
 ·by_cases hn : n < μ.length
  ·rw[OJ hn]at h1;rw[OJ (by rw[S.len];exact hn)]at h2;exact(S.ob n o' a h1 h2).mono ((bK h).trans (ji [p])) (bq fun z=>(S.ob n o' a h1 h2).live (by rw[z];exact h))
  ·have hn':n=μ.length:=by
    have:=(N3.mp h1).1;simp at this;omega
   subst hn';rw[OH (Om _)]at h1;rw[OH (by rw[S.len];exact Om _),S.len]at h2;simp at h1 h2;subst h1;subst h2;exact q
theorem fF.put(S:fF K w H α μ){n:Nat}{a:Addr}{xs ys:List D}{us vs:List V}(h1:μ[n]?=some (.lst xs))(h2:α[n]?=some a)(h3:H a=some (.lst us))(q:Reps K H α ys vs):fF K w (cq H a (.lst vs)) α (μ.set n (.lst ys)):=by
 have e:=kg (K:=K) (α:=α) (o:=.lst vs) h3;refine⟨by simp[S.len],S.nd,fun m o b g1 g2=>?_⟩;have hn:n<μ.length:=(N3.mp h1).1;by_cases hm:m=n
 ·subst hm;rw[N5 hn]at g1;cases g1;rw[h2]at g2;cases g2;exact⟨vs,bN,q.mono e⟩
 ·rw[N6 (fun z=>hm z.symm)]at g1;refine(S.ob m o b g1 g2).mono e (bq fun z=>hm ?_);subst z;have i1:=(N3.mp g2);have i2:=(N3.mp h2);obtain⟨l1,e1⟩:=i1;obtain⟨l2,e2⟩:=i2;exact(N4 S.nd).mp (e1.trans e2.symm)
end
structure dy(K:W.Frag)(H:Hp)(α:List Addr)(ρ:Ro)(σ:St):Prop where
 len:ρ.length=σ.length
 at':∀(i:Nat) d,ρ[i]?=some (some d)->∃v,σ[i]?=some (some v)/\aP K H α d v
theorem dy.mono{K:W.Frag}{H H':Hp}{α α':List Addr}{ρ:Ro}{σ:St}(e:me K H H' α α')(R:dy K H α ρ σ):dy K H' α' ρ σ:=
 ⟨R.len,fun i d h=>let ⟨v,h1,h2⟩:=R.at' i d h;⟨v,h1,h2.mono e⟩⟩
theorem dy.set{K:W.Frag}{H:Hp}{α:List Addr}{ρ:Ro}{σ:St}{d:D}{v:V}(R:dy K H α ρ σ)(i:Nat)(q:aP K H α d v):dy K H α (ρ.set i (some d)) (σ.set i (some v)):=by
 refine⟨by simp[R.len],fun j d' h=>?_⟩;by_cases hj:j=i
 ·subst hj;have hl:j<ρ.length:=by have:=(N3.mp h).1;simpa using this
  rw[N5 hl]at h;cases h;exact⟨v,by rw[N5 (by rw[<- R.len];exact hl)],q⟩
 ·rw[N6 (fun z=>hj z.symm)]at h⊢;exact R.at' j d' h
structure DX where
 cls:Str
 args:List D
inductive ai(β:Type) where
 |ok (a:β) (μ:aw)|exc (x:DX) (μ:aw)|bad
def ai.bind{β γ:Type}(o:ai β)(g:β->aw->ai γ):ai γ:=match o with
 |.ok a μ=>g a μ
 |.exc x μ=>.exc x μ
 |.bad=>.bad
@[simp] theorem aa {β γ:Type}{a:β}{μ:aw}{g:β->aw->ai γ}:(ai.ok a μ).bind g=g a μ:=RE (RF _)
inductive SO where
 |next (ρ:Ro) (μ:aw)|ret (d:D) (μ:aw)|brk (ρ:Ro) (μ:aw)|cnt (ρ:Ro) (μ:aw)|exc (x:DX) (μ:aw)|bad
def ai.bindS{β:Type}(o:ai β)(g:β->aw->SO):SO:=match o with
 |.ok a μ=>g a μ
 |.exc x μ=>.exc x μ
 |.bad=>.bad
@[simp] theorem af {β:Type}{a:β}{μ:aw}{g:β->aw->SO}:(ai.ok a μ).bindS g=g a μ:=RE (RF _)
def SO.bind(o:SO)(g:Ro->aw->SO):SO:=match o with
 |.next ρ μ=>g ρ μ
 |o=>o
structure Pa where
 K:W.Frag
 w:World
 xw:DX->aw->Hp->List Addr->Prop
abbrev Pa.S(p:Pa):=fF p.K p.w
abbrev Pa.X(p:Pa):=me p.K
abbrev Pa.R(p:Pa):=aP p.K
abbrev Pa.Rs(p:Pa):=Reps p.K
def aE{β:Type}(p:Pa)(H:Hp)(α:List Addr)(o:ai β)(R:β->aw->Hp->List Addr->Prop):Prop:=match o with
 |.ok a μ'=>∀H' α',p.X H H' α α'->p.S H' α' μ'->R a μ' H' α'
 |.exc x μ'=>∀H' α',p.X H H' α α'->p.S H' α' μ'->p.xw x μ' H' α'
 |.bad=>False
def fL(p:Pa)(H:Hp)(α:List Addr)(o:SO)(D:oy):Prop:=match o with
 |.next ρ' μ'=>∀H' α' σ',p.X H H' α α'->p.S H' α' μ'->dy p.K H' α' ρ' σ'->D.nx σ' H'
 |.brk ρ' μ'=>∀H' α' σ',p.X H H' α α'->p.S H' α' μ'->dy p.K H' α' ρ' σ'->D.bk σ' H'
 |.cnt ρ' μ'=>∀H' α' σ',p.X H H' α α'->p.S H' α' μ'->dy p.K H' α' ρ' σ'->D.ct σ' H'
 |.ret d μ'=>∀H' α' v,p.X H H' α α'->p.S H' α' μ'->p.R H' α' d v->D.rt v H'
 |.exc x μ'=>∀H' α',p.X H H' α α'->p.S H' α' μ'->p.xw x μ' H' α'
 |.bad=>False
section
variable{p:Pa}{H H1:Hp}{α α1:List Addr}{β γ:Type}
theorem aE.imp{o:ai β}{R R':β->aw->Hp->List Addr->Prop}(h:aE p H α o R)(k:∀a μ' H' α',p.X H H' α α'->p.S H' α' μ'->R a μ' H' α'->R' a μ' H' α'):aE p H α o R':=by
 cases o with
 |ok a μ=>exact fun H' α' e s=>k a μ H' α' e s (h H' α' e s)
 |exc x μ=>exact h
 |bad=>exact h
theorem aE.from{o:ai β}{R:β->aw->Hp->List Addr->Prop}(e:p.X H H1 α α1)(h:aE p H α o R):aE p H1 α1 o R:=by
 cases o with
 |ok a μ=>exact fun H' α' e' s=>h H' α' (e.trans e') s
 |exc x μ=>exact fun H' α' e' s=>h H' α' (e.trans e') s
 |bad=>exact h
theorem aE.bind{o:ai β}{g:β->aw->ai γ}{R:γ->aw->Hp->List Addr->Prop}(h:aE p H α (o.bind g) R):aE p H α o (fun a μ1 H1 α1=>aE p H1 α1 (g a μ1) R):=by
 cases o with
 |ok a μ=>exact fun H' α' e s=>aE.from e h
 |exc x μ=>exact h
 |bad=>exact h
theorem aE.now{a:β}{μ:aw}{R:β->aw->Hp->List Addr->Prop}(h:aE p H α (.ok a μ) R)(s:p.S H α μ):R a μ H α:=h H α me.refl s
theorem fL.from{o:SO}{D:oy}(e:p.X H H1 α α1)(h:fL p H α o D):fL p H1 α1 o D:=by
 cases o with
 |next ρ μ=>exact fun H' α' σ' e' s r=>h H' α' σ' (e.trans e') s r
 |brk ρ μ=>exact fun H' α' σ' e' s r=>h H' α' σ' (e.trans e') s r
 |cnt ρ μ=>exact fun H' α' σ' e' s r=>h H' α' σ' (e.trans e') s r
 |ret d μ=>exact fun H' α' v e' s r=>h H' α' v (e.trans e') s r
 |exc x μ=>exact fun H' α' e' s=>h H' α' (e.trans e') s
 |bad=>exact h
theorem aE.bindS{o:ai β}{g:β->aw->SO}{D:oy}(h:fL p H α (o.bindS g) D):aE p H α o (fun a μ1 H1 α1=>fL p H1 α1 (g a μ1) D):=by
 cases o with
 |ok a μ=>exact fun H' α' e s=>fL.from e h
 |exc x μ=>exact h
 |bad=>exact h
end
abbrev ME:=Ro->aw->ai D
abbrev MT:=Ro->aw->ai Bool
abbrev MA:=Ro->aw->ai (List D)
abbrev MS:=Ro->aw->SO
abbrev MG:=D->Ro->aw->ai Ro
abbrev RV(p:Pa)(Q:VK):D->aw->Hp->List Addr->Prop:=fun d _ H' α'=>∀v,p.R H' α' d v->Q v H'
def tD(p:Pa)(f:ME):TE:=fun σ H Q=>∃α ρ μ,p.S H α μ/\dy p.K H α ρ σ/\aE p H α (f ρ μ) (RV p Q)
def iD(p:Pa)(f:MT):TT:=fun σ H Q=>∃α ρ μ,p.S H α μ/\dy p.K H α ρ σ/\aE p H α (f ρ μ) (fun b _ H' _=>Q b H')
def nr(p:Pa)(f:MA):TA:=fun σ H Q=>∃α ρ μ,p.S H α μ/\dy p.K H α ρ σ/\aE p H α (f ρ μ) (fun ds _ H' α'=>∀vs,p.Rs H' α' ds vs->Q vs H')
def i5(p:Pa)(f:MS):TS:=fun D σ H=>∃α ρ μ,p.S H α μ/\dy p.K H α ρ σ/\fL p H α (f ρ μ) D
def oa(p:Pa)(g:MG):TG:=fun v σ H Q=>∃α ρ μ d,p.S H α μ/\dy p.K H α ρ σ/\p.R H α d v/\aE p H α (g d ρ μ) (fun ρ' _ H' α'=>∀σ',dy p.K H' α' ρ' σ'->Q σ' H')
theorem PE.weak{X:Cx}{e:Expr}{t t':TE}(h:PE X e t)(k:∀σ H Q,t' σ H Q->t σ H Q):PE X e t':=fun pins s σ H Q I q=>h pins s σ H Q I (k σ H Q q)
theorem PT.weak{X:Cx}{e:Expr}{t t':TT}(h:PT X e t)(k:∀σ H Q,t' σ H Q->t σ H Q):PT X e t':=fun pins s σ H Q I q=>h pins s σ H Q I (k σ H Q q)
theorem PW.weak{X:Cx}{e:Expr}{t t':TT}(h:PW X e t)(k:∀σ H Q,t' σ H Q->t σ H Q):PW X e t':=fun wh pins s σ H Q I q=>h wh pins s σ H Q I (k σ H Q q)
theorem PA.weak{X:Cx}{e:List Expr}{t t':TA}(h:PA X e t)(k:∀σ H Q,t' σ H Q->t σ H Q):PA X e t':=fun pos pins s σ H Q I q=>h pos pins s σ H Q I (k σ H Q q)
theorem PS.weak{X:Cx}{e:Stmt}{t t':TS}(h:PS X e t)(k:∀D σ H,t' D σ H->t D σ H):PS X e t':=fun pins s σ H Q I q=>h pins s σ H Q I (k Q σ H q)
theorem j7.weak{X:Cx}{e:List Stmt}{t t':TS}(h:j7 X e t)(k:∀D σ H,t' D σ H->t D σ H):j7 X e t':=fun pins s σ H Q I q=>h pins s σ H Q I (k Q σ H q)
def ak(i:Nat):ME:=fun ρ μ=>match ρ[i]? with
 |some (some d)=>.ok d μ
 |_=>.bad
def cC(d:D):ME:=fun _ μ=>.ok d μ
def aN(op:D->D->aw->ai D)(fa fb:ME):ME:=fun ρ μ=>(fa ρ μ).bind fun a μ1=>(fb ρ μ1).bind fun b μ2=>op a b μ2
def mq(op:D->aw->ai D)(fa:ME):ME:=fun ρ μ=>(fa ρ μ).bind fun a μ1=>op a μ1
def aB:MA:=fun _ μ=>.ok [] μ
def ag(fa:ME)(fr:MA):MA:=fun ρ μ=>(fa ρ μ).bind fun a μ1=>(fr ρ μ1).bind fun r μ2=>.ok (a::r) μ2
def aC(f:List D->aw->ai D)(fa:MA):ME:=fun ρ μ=>(fa ρ μ).bind f
def dj(fa:MA):ME:=aC (fun ds μ=>if ds.length<=sizeLine then .ok (.tup ds) μ else .bad) fa
def iF(fa:MA):ME:=aC (fun ds μ=>if ds.length<=sizeLine then .ok (.obj μ.length) (μ++[.lst ds]) else .bad) fa
def Eu:D->aw->ai Bool
 |.bl b,μ=>.ok b μ
 |_,_=>.bad
def lT(f:ME):MT:=fun ρ μ=>(f ρ μ).bind Eu
def zj(f g:MT):MT:=fun ρ μ=>(f ρ μ).bind fun b μ1=>if b=true then g ρ μ1 else .ok false μ1
def nu(f g:MT):MT:=fun ρ μ=>(f ρ μ).bind fun b μ1=>if b=true then .ok true μ1 else g ρ μ1
def eU(f:MT):MT:=fun ρ μ=>(f ρ μ).bind fun b μ1=>.ok (!b) μ1
def jf(f g:ME):ME:=fun ρ μ=>(f ρ μ).bind fun a μ1=>(Eu a μ1).bind fun b μ2=>if b=true then g ρ μ2 else .ok (.bl false) μ2
def v7(f:ME):ME:=fun ρ μ=>(f ρ μ).bind fun a μ1=>(Eu a μ1).bind fun b μ2=>.ok (.bl (!b)) μ2
def uu(p:Pa)(op:D->D->aw->ai D)(r:R2):Prop:=∀a b v y H α μ Q,p.S H α μ->p.R H α a v->p.R H α b y->aE p H α (op a b μ) (RV p Q)->r v y H Q
def Nl(p:Pa)(op:D->aw->ai D)(r:V->Hp->VK->Prop):Prop:=∀a v H α μ Q,p.S H α μ->p.R H α a v->aE p H α (op a μ) (RV p Q)->r v H Q
def vH(p:Pa)(f:List D->aw->ai D)(r:List V->Hp->VK->Prop):Prop:=∀ds vs H α μ Q,p.S H α μ->p.Rs H α ds vs->aE p H α (f ds μ) (RV p Q)->r vs H Q
section
variable{p:Pa}
theorem qU{d:D}{μ:aw}{H:Hp}{α:List Addr}{R:Bool->aw->Hp->List Addr->Prop}{v:V}(h:aE p H α (Eu d μ) R)(r:p.R H α d v)(s:p.S H α μ):∃b,d=.bl b/\v=.bl b/\R b μ H α:=by
 cases d with
 |bl b=>exact⟨b,rfl,a8.mp r,h.now s⟩
 |non=>exact h.elim
 |int i=>exact h.elim
 |str x=>exact h.elim
 |tup xs=>exact h.elim
 |frz xs=>exact h.elim
 |obj n=>exact h.elim
variable{X:Cx}{a b c:Expr}{es:List Expr}{fa fb fc:ME}{pos:Pos}
theorem IG{i:Nat}{x:Str}(h:PE X (.Name x pos) (Hy i)):PE X (.Name x pos) (tD p (ak i)):=h.weak fun σ H Q ⟨α,ρ,μ,S,R,P⟩=>by
 unfold ak at P;cases e:ρ[i]? with
 |none=>rw[e]at P;exact P.elim
 |some o=>
  rw[e]at P;cases o with
  |none=>exact P.elim
  |some d=>
   obtain⟨v,h1,h2⟩:=R.at' i d e;exact⟨v,h1,P.now S v h2⟩
theorem BH{e:Expr}{v:V}{d:D}(h:PE X e (tC v))(r:∀H α,p.R H α d v):PE X e (tD p (cC d)):=h.weak fun σ H Q ⟨α,ρ,μ,S,R,P⟩=>P.now S v (r H α)
theorem oA{op:Operator}{o:D->D->aw->ai D}{r:R2}(ho:j8 X (binaryOp op) r)(hd:uu p o r)(ha:PE X a (tD p fa))(hb:PE X b (tD p fb)):PE X (.BinOp a op b pos) (tD p (aN o fa fb)):=
 (LA ho ha hb).weak fun σ H Q ⟨α,ρ,μ,S,R,P⟩=>⟨α,ρ,μ,S,R,P.bind.imp fun x μ1 H1 α1 X1 S1 P1 v rv=>⟨α1,ρ,μ1,S1,R.mono X1,P1.bind.imp fun y μ2 H2 α2 X2 S2 P2 u ru=>hd x y v u H2 α2 μ2 Q S2 (rv.mono X2) ru P2⟩⟩
theorem IM{op:CmpOp}{o:D->D->aw->ai D}{r:R2}(ho:j8 X (compareOp op) r)(hd:uu p o r)(ha:PE X a (tD p fa))(hb:PE X b (tD p fb))(hm:behindInMarks op b=false):PE X (.Compare a [op] [b] pos) (tD p (aN o fa fb)):=
 (FZ ho ha hb hm).weak fun σ H Q ⟨α,ρ,μ,S,R,P⟩=>⟨α,ρ,μ,S,R,P.bind.imp fun x μ1 H1 α1 X1 S1 P1 v rv=>⟨α1,ρ,μ1,S1,R.mono X1,P1.bind.imp fun y μ2 H2 α2 X2 S2 P2 u ru=>hd x y v u H2 α2 μ2 Q S2 (rv.mono X2) ru P2⟩⟩
theorem Im{op:CmpOp}{o:D->D->aw->ai D}{r:R2}(ho:j8 X (compareOp op) r)(hd:uu p o r)(ha:PE X a (tD p fa))(hb:PE X b (tD p fb))(hm:behindInMarks op b=false):PT X (.Compare a [op] [b] pos) (iD p (lT (aN o fa fb))):=
 (FK ho ha hb hm).weak fun σ H Q ⟨α, ρ, μ, S, R, P⟩ => ⟨α, ρ, μ, S, R, P.bind.bind.imp fun x μ1 H1 α1 X1 S1 P1 v rv => ⟨α1, ρ, μ1, S1, R.mono X1, P1.bind.imp fun y μ2 H2 α2 X2 S2 P2 u ru =>
  hd x y v u H2 α2 μ2 _ S2 (rv.mono X2) ru (P2.imp fun d μ3 H3 α3 X3 S3 P3 z rz=>by
   obtain⟨k,_,e,q⟩:=qU P3 rz S3
   exact⟨k,e,q⟩)⟩⟩
theorem Lo{op:UnaryOp}{o:D->aw->ai D}{r:V->Hp->VK->Prop}(ho:Mb X (unaryOp op) r)(hd:Nl p o r)(ha:PE X a (tD p fa)):PE X (.UnaryOp op a pos) (tD p (mq o fa)):=
 (Lz ho ha).weak fun σ H Q ⟨α,ρ,μ,S,R,P⟩=>⟨α,ρ,μ,S,R,P.bind.imp fun x μ1 H1 α1 X1 S1 P1 v rv=>hd x v H1 α1 μ1 Q S1 rv P1⟩
theorem IR:PA X [] (nr p aB):=qR.weak fun σ H Q ⟨α,ρ,μ,S,R,P⟩=>P.now S [] Reps.nil
theorem FE{fr:MA}(ha:PE X a (tD p fa))(hr:PA X es (nr p fr))(hs:starEach (a::es) X.env=(false,eval a X.env)::starEach es X.env):PA X (a::es) (nr p (ag fa fr)):=
 (jz ha hr hs).weak fun σ H Q ⟨α,ρ,μ,S,R,P⟩=>⟨α,ρ,μ,S,R,P.bind.imp fun x μ1 H1 α1 X1 S1 P1 v rv=>⟨α1,ρ,μ1,S1,R.mono X1,P1.bind.imp fun y μ2 H2 α2 X2 S2 P2 us ru=>P2.now S2 _ (Reps.cons (rv.mono X2) ru)⟩⟩
theorem IH{k:Nat}{fr:MA}(h:PA X es (nr p fr)):PE X (.Tuple es k pos) (tD p (dj fr)):=
 (Je h).weak fun σ H Q ⟨α, ρ, μ, S, R, P⟩ => ⟨α, ρ, μ, S, R, P.bind.imp fun ds μ1 H1 α1 X1 S1 P1 vs rv => by
  by_cases hl:ds.length<=sizeLine
  ·rw[NL hl]at P1;refine⟨by rw[rv.length];exact hl,fun q hq=>?_⟩;exact P1 _ _ (bK hq) (S1.tuple hq) _ (aI.mpr ⟨q,vs,rfl,fS.of bN,rv.mono (bK hq)⟩)
  ·rw [NM hl] at P1
   exact P1.elim⟩
theorem dC{H:Hp}{α:List Addr}{μ:aw}{ds:List D}{vs:List V}{q:Addr}(S:p.S H α μ)(hq:H q=none)(rv:p.Rs H α ds vs) :
  p.X H (cq H q (.lst vs)) α (α++[q])/\p.S (cq H q (.lst vs)) (α++[q]) (μ++[.lst ds])/\p.R (cq H q (.lst vs)) (α++[q]) (.obj μ.length) (.ref q):=by
 have X1:p.X H (cq H q (.lst vs)) α (α++[q]):=(bK hq).trans (ji [q]);exact⟨X1,S.more hq ⟨vs,bN,rv.mono X1⟩,aQ.mpr ⟨q,rfl,by rw[<- S.len];simp⟩⟩
theorem IJ{fr:MA}(h:PA X es (nr p fr)):PE X (.List es pos) (tD p (iF fr)):=
 (CF h).weak fun σ H Q ⟨α, ρ, μ, S, R, P⟩ => ⟨α, ρ, μ, S, R, P.bind.imp fun ds μ1 H1 α1 X1 S1 P1 vs rv => by
  by_cases hl:ds.length<=sizeLine
  ·rw[NL hl]at P1;refine⟨by rw[rv.length];exact hl,fun q hq=>?_⟩;obtain⟨x1,x2,x3⟩:=dC S1 hq rv;exact P1 _ _ x1 x2 _ x3
  ·rw [NM hl] at P1
   exact P1.elim⟩
variable{ft gt:MT}{rest:List Expr}
theorem Ii(ha:PT X a (iD p ft))(hb:PW X (.BoolOp .And (b::rest) pos) (iD p gt)):PW X (.BoolOp .And (a::b::rest) pos) (iD p (zj ft gt)):=
 (IV ha hb).weak fun σ H Q ⟨α, ρ, μ, S, R, P⟩ => ⟨α, ρ, μ, S, R, P.bind.imp fun k μ1 H1 α1 X1 S1 P1 => by
  cases k with
  |true=>rw[NL rfl]at P1⊢;exact⟨α1,ρ,μ1,S1,R.mono X1,P1⟩
  |false=>rw[NM Ou]at P1⊢;exact P1.now S1⟩
theorem Lk(ha:PT X a (iD p ft))(hb:PW X (.BoolOp .Or (b::rest) pos) (iD p gt)):PW X (.BoolOp .Or (a::b::rest) pos) (iD p (nu ft gt)):=
 (Lu ha hb).weak fun σ H Q ⟨α, ρ, μ, S, R, P⟩ => ⟨α, ρ, μ, S, R, P.bind.imp fun k μ1 H1 α1 X1 S1 P1 => by
  cases k with
  |true=>rw[NL rfl]at P1⊢;exact P1.now S1
  |false=>rw[NM Ou]at P1⊢;exact⟨α1,ρ,μ1,S1,R.mono X1,P1⟩⟩
theorem Ik(ha:PT X a (iD p ft)):PT X (.UnaryOp .Not a pos) (iD p (eU ft)):=
 (IW ha).weak fun σ H Q ⟨α,ρ,μ,S,R,P⟩=>⟨α,ρ,μ,S,R,P.bind.imp fun k μ1 H1 α1 X1 S1 P1=>P1.now S1⟩
theorem IP(ha:PE X a (tD p fa))(hb:PE X (.BoolOp .And (b::rest) pos) (tD p fb)):PE X (.BoolOp .And (a::b::rest) pos) (tD p (jf fa fb)):=
 (Jk ha hb).weak fun σ H Q ⟨α, ρ, μ, S, R, P⟩ => ⟨α, ρ, μ, S, R, P.bind.imp fun d μ1 H1 α1 X1 S1 P1 v rv => by
  obtain⟨k,_,e,q⟩:=qU P1.bind rv S1;refine⟨k,e,?_⟩;cases k with
  |true=>rw[NL rfl]at q⊢;exact⟨α1,ρ,μ1,S1,R.mono X1,q⟩
  |false=>rw[NM Ou]at q⊢;exact q.now S1 _ (a8.mpr rfl)⟩
theorem II(ha:PE X a (tD p fa)):PE X (.UnaryOp .Not a pos) (tD p (v7 fa)):=
 (Jh ha).weak fun σ H Q ⟨α, ρ, μ, S, R, P⟩ => ⟨α, ρ, μ, S, R, P.bind.imp fun d μ1 H1 α1 X1 S1 P1 v rv => by
  obtain⟨k,_,e,q⟩:=qU P1.bind rv S1
  exact⟨k,e,q.now S1 _ (a8.mpr rfl)⟩⟩
theorem Dt{id:String}{x:Str}{px:Pos}{f:List D->aw->ai D}{fr:MA}{r:List V->Hp->VK->Prop}(hc:cZ X (.builtin id) r)(hd:vH p f r)(hg:Gl X x)(hm:X.mg x=none)(hv:bootBuiltins x=some (.builtin id))(ha:PA X (a::es) (nr p fr))
  (hn:x ≠ "__name__") (hdb:(x == ("__debug__" : Str))=false) (he:starEach (a::es) X.env=(false,eval a X.env)::starEach es X.env) (hpl:(backTo pos (starEach es X.env)).any (·.1)=false):PE X (.Call (.Name x px) (a::es) [] pos) (tD p (aC f fr)):=
 (nH hc hg hm hv ha hn hdb he hpl).weak fun σ H Q ⟨α,ρ,μ,S,R,P⟩=>⟨α,ρ,μ,S,R,P.bind.imp fun ds μ1 H1 α1 X1 S1 P1 vs rv=>hd ds vs H1 α1 μ1 Q S1 rv P1⟩
theorem AF{T:String}{x:Str}{px:Pos}{f:List D->aw->ai D}{fr:MA}{r:List V->Hp->VK->Prop}(hc:cZ X (.type T) r)(hd:vH p f r)(hg:Gl X x)(hm:X.mg x=none)(hv:bootBuiltins x=some (.type T))(ha:PA X (a::es) (nr p fr))
  (hn:x ≠ "__name__") (hdb:(x == ("__debug__" : Str))=false) (he:starEach (a::es) X.env=(false,eval a X.env)::starEach es X.env) (hpl:(backTo pos (starEach es X.env)).any (·.1)=false):PE X (.Call (.Name x px) (a::es) [] pos) (tD p (aC f fr)):=
 (AN hc hg hm hv ha hn hdb he hpl).weak fun σ H Q ⟨α,ρ,μ,S,R,P⟩=>⟨α,ρ,μ,S,R,P.bind.imp fun ds μ1 H1 α1 X1 S1 P1 vs rv=>hd ds vs H1 α1 μ1 Q S1 rv P1⟩
end
def bR(f:ME):MS:=fun ρ μ=>(f ρ μ).bindS fun d μ'=>.ret d μ'
def dJ:MS:=fun ρ μ=>.next ρ μ
def BI:MS:=fun _ _=>.bad
def bB(f g:MS):MS:=fun ρ μ=>(f ρ μ).bind g
def pj(c:MT)(f g:MS):MS:=fun ρ μ=>(c ρ μ).bindS fun b μ1=>if b=true then f ρ μ1 else g ρ μ1
def cK(f:ME)(g:MG):MS:=fun ρ μ=>(f ρ μ).bindS fun d μ1=>(g d ρ μ1).bindS fun ρ' μ2=>.next ρ' μ2
def kK(f:ME):MS:=fun ρ μ=>(f ρ μ).bindS fun _ μ1=>.next ρ μ1
def ao(i:Nat):MG:=fun d ρ μ=>.ok (ρ.set i (some d)) μ
abbrev Hv:=List D->Ro->aw->ai Ro
def g8:Hv:=fun ds ρ μ=>match ds with
 |[]=>.ok ρ μ
 |_::_=>.bad
def bC(g:MG)(u:Hv):Hv:=fun ds ρ μ=>match ds with
 |[]=>.bad
 |d::r=>(g d ρ μ).bind fun ρ' μ'=>u r ρ' μ'
def g7(n:Nat)(u:Hv):MG:=fun d ρ μ=>match d with
 |.tup xs=>if xs.length=n then u xs ρ μ else .bad
 |_=>.bad
def Ad(o i v:D)(μ:aw):ai Unit:=match o,i with
 |.obj n,.int k=>match μ[n]? with
  |some (.lst xs)=>match y9 xs.length k with
   |some j=>.ok () (μ.set n (.lst (xs.set j v)))
   |none=>.bad
  |_=>.bad
 |_,_=>.bad
def vV(fo fi:ME):MG:=fun d ρ μ=>(fo ρ μ).bind fun o μ1=>(fi ρ μ1).bind fun i μ2=>(Ad o i d μ2).bind fun _ μ3=>.ok ρ μ3
def vJ(p:Pa)(g:Hv):EB:=fun vs σ H Q=>∃α ρ μ ds,p.S H α μ/\dy p.K H α ρ σ/\p.Rs H α ds vs/\aE p H α (g ds ρ μ) (fun ρ' _ H' α'=>∀σ',dy p.K H' α' ρ' σ'->Q σ' H')
theorem PG.weak{X:Cx}{e:Expr}{t t':TG}(h:PG X e t)(k:∀v σ H Q,t' v σ H Q->t v σ H Q):PG X e t':=fun pins s σ H v u Q I r q=>h pins s σ H v u Q I r (k v σ H Q q)
theorem xN.weak{X:Cx}{e:List Expr}{t t':EB}(h:xN X e t)(k:∀v σ H Q,t' v σ H Q->t v σ H Q):xN X e t':=fun pins s σ H v u Q I r q=>h pins s σ H v u Q I r (k v σ H Q q)
theorem PI.weak{X:Cx}{tg e:Expr}{t t':TI}(h:PI X tg e t)(k:∀σ H R,t' σ H R->t σ H R):PI X tg e t':=fun pins s σ H Q I q=>h pins s σ H Q I (k σ H Q q)
section
variable{p:Pa}{X:Cx}{a b c e tg:Expr}{es:List Expr}{f:ME}{g:MG}{u:Hv}{pos:Pos}{st:Stmt}{sts:List Stmt}{fs gs:MS}{ft:MT}
theorem Ir:j7 X [] (i5 p dJ):=FM.weak fun D σ H ⟨α,ρ,μ,S,R,P⟩=>P H α σ me.refl S R
theorem Dp{t u:TS}{D:oy}{σ:St}{H:Hp}{α:List Addr}{o:SO}{k:MS}(h:fL p H α (o.bind k) D)
  (hk:∀D σ H,i5 p k D σ H->u D σ H):fL p H α o {D with nx:=u D}:=by
 cases o with
 |next ρ μ=>exact fun H' α' σ' e s r=>hk _ _ _ ⟨α',ρ,μ,s,r,fL.from e h⟩
 |brk ρ μ=>exact h
 |cnt ρ μ=>exact h
 |ret d μ=>exact h
 |exc x μ=>exact h
 |bad=>exact h
theorem Fd(h1:PS X st (i5 p fs))(h2:j7 X sts (i5 p gs)):j7 X (st::sts) (i5 p (bB fs gs)):=
 (Dz h1 h2).weak fun D σ H ⟨α,ρ,μ,S,R,P⟩=>⟨α,ρ,μ,S,R,Dp (t:=i5 p fs) (σ:=σ) P fun _ _ _ z=>z⟩
theorem Iq(h1:PS X st (i5 p fs)):j7 X [st] (i5 p fs):=FL h1
theorem Ip(h:PE X e (tD p f)):PS X (.Return (some e) pos) (i5 p (bR f)):=
 (IZ h).weak fun D σ H ⟨α,ρ,μ,S,R,P⟩=>⟨α,ρ,μ,S,R,(aE.bindS P).imp fun d μ1 H1 α1 X1 S1 P1 v rv=>P1 H1 α1 v me.refl S1 rv⟩
theorem Dc:PS X st (i5 p BI):=DB.weak fun D σ H ⟨α,ρ,μ,S,R,P⟩=>P
theorem Ll{A B:List Stmt}(hc:PT X c (iD p ft))(ha:j7 X A (i5 p fs))(hb:j7 X B (i5 p gs)):PS X (.If c A B pos) (i5 p (pj ft fs gs)):=
 (Lx hc ha hb).weak fun D σ H ⟨α, ρ, μ, S, R, P⟩ => ⟨α, ρ, μ, S, R, (aE.bindS P).imp fun k μ1 H1 α1 X1 S1 P1 => by
  cases k with
  |true=>rw[NL rfl]at P1⊢;exact⟨α1,ρ,μ1,S1,R.mono X1,P1⟩
  |false=>rw[NM Ou]at P1⊢;exact⟨α1,ρ,μ1,S1,R.mono X1,P1⟩⟩
theorem xk{D:oy}{σ:St}{H:Hp}(h:i5 p (cK f g) D σ H):BF (tD p f) (oa p g) D σ H:=by
 obtain⟨α,ρ,μ,S,R,P⟩:=h;exact⟨α,ρ,μ,S,R,(aE.bindS P).imp fun d μ1 H1 α1 X1 S1 P1 v rv=>⟨α1,ρ,μ1,d,S1,R.mono X1,rv,(aE.bindS P1).imp fun ρ' μ2 H2 α2 X2 S2 P2 σ' r'=>P2 H2 α2 σ' me.refl S2 r'⟩⟩
theorem Iv(he:PE X e (tD p f))(hg:PG X tg (oa p g))(hs:swapsWithSole [tg] e pos.line X.env=pure false)(hw:swappedStores [tg] e X.env=pure none)
  (h1:(assignEach [tg] X.env).map (·.2)=[assign tg X.env]):PS X (.Assign [tg] e pos) (i5 p (cK f g)):=(Ja he hg hs hw h1).weak fun D σ H h=>xk h
theorem rS{i:Nat}{v:V}{σ:St}{H:Hp}{Q:St->Hp->Prop}(h:oa p (ao i) v σ H Q):vW i v σ H Q:=by
 obtain⟨α,ρ,μ,d,S,R,r,P⟩:=h;exact P.now S _ (R.set i r)
theorem Fw{i:Nat}{x:Str}(hN:X.N.Nodup)(hi:X.N[i]?=some x)(hx:Ex X.env.scope x)(hf:X.fn x=true\/X.env.scope.names.lookup x=some .local):PG X (.Name x pos) (oa p (ao i)):=
 (FV hN hi hx hf).weak fun v σ H Q h=>rS h
theorem Io{i:Nat}{x:Str}{pos':Pos}(hN:X.N.Nodup)(hi:X.N[i]?=some x)(hx:Ex X.env.scope x)(he:PE X e (tD p f))(hs:swapsWith e (some (.Name x pos')) pos.line X.env=pure false)(hf:X.fn x=true\/X.env.scope.names.lookup x=some .local) :
  PS X (.Assign [.Name x pos'] e pos) (i5 p (cK f (ao i))):=(IY hN hi hx he hs hf).weak fun D σ H h=>by
 obtain⟨α,ρ,μ,S,R,P⟩:=xk h;exact⟨α,ρ,μ,S,R,P.imp fun d μ1 H1 α1 X1 S1 P1 v rv=>rS (P1 v rv)⟩
theorem Fc(he:PE X e (tD p f))(hs:swapsWith e none pos.line X.env=pure false):PS X (.Expr e pos) (i5 p (kK f)):=
 (FO he hs).weak fun D σ H ⟨α,ρ,μ,S,R,P⟩=>⟨α,ρ,μ,S,R,(aE.bindS P).imp fun d μ1 H1 α1 X1 S1 P1 v rv=>P1 H1 α1 σ me.refl S1 (R.mono X1)⟩
theorem Fv:xN X [] (vJ p g8):=FU.weak fun vs σ H Q ⟨α,ρ,μ,ds,S,R,r,P⟩=>by
 cases ds with
 |nil=>simp only[Reps]at r;exact⟨r,P.now S σ R⟩
 |cons d ds=>exact P.elim
theorem Dl(h1:PG X e (oa p g))(h2:xN X es (vJ p u))(hs:(assignEach (e::es) X.env).map (·.2)=assign e X.env::(assignEach es X.env).map (·.2)):xN X (e::es) (vJ p (bC g u)):=
 (DE h1 h2 hs).weak fun vs σ H Q ⟨α, ρ, μ, ds, S, R, r, P⟩ => by
  cases ds with
  |nil=>exact P.elim
  |cons d ds=>
   simp only[Reps]at r;obtain⟨v,vr,rfl,r1,r2⟩:=r;refine⟨v,vr,rfl,α,ρ,μ,d,S,R,r1,?_⟩;exact(aE.bind (o:=g d ρ μ) P).imp fun ρ' μ1 H1 α1 X1 S1 P1 σ' r'=>⟨α1,ρ',μ1,ds,S1,r',r2.mono X1,P1⟩
theorem IE{k n:Nat}(hK:X.K=p.K)(hc:X.calm=true)(h:xN X es (vJ p u))(hn:(assignEach es X.env).length=n)(hst:(assignEach es X.env).findIdx? (·.1)=none):PG X (.Tuple es k pos) (oa p (g7 n u)):=
 (Jc hc h hn hst).weak fun v σ H Q ⟨α, ρ, μ, d, S, R, r, P⟩ => by
  cases d with
  |tup xs=>
   obtain⟨a,vs,rfl,h1,h2⟩:=aI.mp r;have P':aE p H α (if xs.length=n then u xs ρ μ else .bad) _:=P;by_cases hl:xs.length=n
   ·rw[NL hl]at P';exact⟨a,vs,rfl,by rw[hK];exact h1,by rw[h2.length];exact hl,α,ρ,μ,xs,S,R,h2,P'⟩
   ·rw[NM hl]at P';exact P'.elim
  |non=>exact P.elim
  |bl b=>exact P.elim
  |int i=>exact P.elim
  |str x=>exact P.elim
  |frz xs=>exact P.elim
  |obj n=>exact P.elim
theorem Fz{o i d:D}{μ:aw}{H:Hp}{α:List Addr}{R:Unit->aw->Hp->List Addr->Prop}{vo vi v:V}(S:p.S H α μ)(ro:p.R H α o vo)(ri:p.R H α i vi)(rv:p.R H α d v)(P:aE p H α (Ad o i d μ) R) :
  G0 vo vi v H fun H'=>∃μ',p.X H H' α α/\p.S H' α μ'/\R () μ' H' α:=by
 unfold Ad at P;split at P
 ·rename_i n k;split at P
  ·rename_i xs hx;split at P
   ·rename_i j hj;obtain⟨a,ea,us,hH,rr⟩:=S.at hx;obtain⟨a',rfl,ea'⟩:=aQ.mp ro;rw[ea]at ea';cases ea';rw[av.mp ri];have q:=rr.set rv j;refine⟨a,us,k,j,rfl,rfl,hH,by rw[rr.length];exact hj,_,kg hH,S.put hx ea hH q,?_⟩;exact P _ _ (kg hH) (S.put hx ea hH q)
   ·exact P.elim
  ·exact P.elim
 ·exact P.elim
theorem IF{o i:Expr}{fo fi:ME}(ho:PE X o (tD p fo))(hi:PE X i (tD p fi))
  (ha : ∀ v, assign (.Subscript o i pos) X.env v = (do
   let ov <- holding [v] (eval o X.env)
   let iv <- holding [v,ov] (eval i X.env)
   standAt pos
   holding [v,ov,iv] (setItem ov iv v)
   release [v,ov,iv] [])):PG X (.Subscript o i pos) (oa p (vV fo fi)):=
 (Jd ho hi Dm ha).weak fun v σ H Q ⟨α, ρ, μ, d, S, R, r, P⟩ => ⟨α, ρ, μ, S, R, (aE.bind P).imp fun od μ1 H1 α1 X1 S1 P1 vo ro => ⟨α1, ρ, μ1, S1, R.mono X1, (aE.bind P1).imp fun id μ2 H2 α2 X2 S2 P2 vi ri => by
  obtain⟨pp,xs,k,j,e1,e2,e3,e4,μ3,x3,s3,q⟩:=Fz S2 (ro.mono X2) ri ((r.mono X1).mono X2) (aE.bind P2)
  exact⟨pp,xs,k,j,e1,e2,e3,e4,q.now s3 σ (((R.mono X1).mono X2).mono x3)⟩⟩⟩
end
inductive oj where
 |fix (xs:List D)|own (n:Nat) (xs:List D)|eno (n:Nat) (xs:List D)
def eT:Nat->List D->List D
 |_,[]=>[]
 |i,x::r=>.tup [.int i,x]::eT (i+1) r
theorem ua:∀{xs:List D}{k i:Nat},(eT k xs)[i]?=(xs[i]?).map fun x=>D.tup [.int ((k+i:Nat):Int),x]
 |[],_,_=>by simp[eT]
 |x::r,k,0=>by simp[eT]
 |x::r,k,i+1=>by
  simp only[eT,List.getElem?_cons_succ];rw[ua (xs:=r) (k:=k+1) (i:=i)];congr 1;funext y;congr 4;omega
theorem t9:∀{xs:List D}{k:Nat},(eT k xs).length=xs.length
 |[],_=>rfl
 |x::r,k=>by simp[eT,t9 (xs:=r)]
def oj.items:oj->List D
 |.fix xs=>xs
 |.own _ xs=>xs
 |.eno _ xs=>eT 0 xs
def cF:oj->aw->Prop
 |.fix _,_=>True
 |.own n xs,μ=>μ[n]?=some (.lst xs)
 |.eno n xs,μ=>μ[n]?=some (.lst xs)
def xV(p:Pa)(J:It)(src:oj)(H0:Hp)(α0:List Addr):Prop:=
 ∀H2 α2 μ2,p.X H0 H2 α0 α2->p.S H2 α2 μ2->cF src μ2 ->
  (∀(i:Nat) d,src.items[i]?=some d->J.go i H2/\∀x H3,J.yld i H2 x H3->p.X H2 H3 α2 α2/\p.S H3 α2 μ2/\p.R H3 α2 d x)/\J.stop src.items.length H2
abbrev MI:=Ro->aw->ai oj
def qx(p:Pa)(f:MI):TI:=fun σ H R=>∃α ρ μ,p.S H α μ/\dy p.K H α ρ σ/\aE p H α (f ρ μ) (fun src μ' H' α'=>∀J,cF src μ'->xV p J src H' α'->R J H')
def SO.loop(o:SO)(k:Ro->aw->SO):SO:=match o with
 |.next ρ μ=>k ρ μ
 |.cnt ρ μ=>k ρ μ
 |.brk ρ μ=>.next ρ μ
 |.ret d μ=>.ret d μ
 |.exc x μ=>.exc x μ
 |.bad=>.bad
open Classical in
def gr(src:oj)(g:MG)(fb:MS):List D->Ro->aw->SO
 |[],ρ,μ=>if cF src μ then .next ρ μ else .bad
 |d::r,ρ,μ=>if cF src μ then (g d ρ μ).bindS fun ρ' μ'=>(fb ρ' μ').loop (gr src g fb r) else .bad
def mJ(fi:MI)(g:MG)(fb:MS):MS:=fun ρ μ=>(fi ρ μ).bindS fun src μ1=>gr src g fb src.items ρ μ1
section
variable{p:Pa}{X:Cx}{tg iter c:Expr}{fi:MI}{g:MG}{fb:MS}{ft:MT}{body:List Stmt}{pos:Pos}
theorem A4{H:Hp}{α:List Addr}{o:SO}{k:Ro->aw->SO}{D:oy}{N:St->Hp->Prop}(h:fL p H α (o.loop k) D)
  (hN:∀ρ μ H' α' σ',p.X H H' α α'->p.S H' α' μ->dy p.K H' α' ρ σ'->fL p H' α' (k ρ μ) D->N σ' H'):fL p H α o {D with nx:=N,ct:=N,bk:=D.nx}:=by
 cases o with
 |next ρ μ=>exact fun H' α' σ' e s r=>hN ρ μ H' α' σ' e s r (fL.from e h)
 |cnt ρ μ=>exact fun H' α' σ' e s r=>hN ρ μ H' α' σ' e s r (fL.from e h)
 |brk ρ μ=>exact h
 |ret d μ=>exact h
 |exc x μ=>exact h
 |bad=>exact h
theorem Iu(hp:PassesOwn (model X.prog X.w) X.A X.env X.xe)(hc:X.calm=true)(hi:PI X tg iter (qx p fi))(hg:PG X tg (oa p g))(hb:j7 X body (i5 p fb))(hs:∀x,foldedSetIterable iter X.env x=pure x) :
  PS X (.For tg iter body [] pos) (i5 p (mJ fi g fb)):=(I0 hp hc hi hg hb hs).weak fun D σ H ⟨α,ρ,μ,S,R,P⟩=>by
 refine⟨α,ρ,μ,S,R,(aE.bindS P).imp fun src μ1 H1 α1 X1 S1 P1 J hok hJ=>?_⟩
 refine⟨fun i m σ2 H2=>m=src.items.length-i/\i<=src.items.length/\∃α2 ρ2 μ2,p.X H1 H2 α1 α2/\p.S H2 α2 μ2/\dy p.K H2 α2 ρ2 σ2/\fL p H2 α2 (gr src g fb (src.items.drop i) ρ2 μ2) D,
  ⟨_,rfl,PV _,α1,ρ,μ1,me.refl,S1,R.mono X1,by simpa using P1⟩,?_⟩
 rintro i m σ2 H2 ⟨rfl,hi,α2,ρ2,μ2,X2,S2,R2,P2⟩
 by_cases hlt:i<src.items.length
 ·rw [RG hlt] at P2;unfold gr at P2;by_cases ho:cF src μ2
  ·rw [NL ho] at P2;obtain⟨hgo,hy⟩:=(hJ H2 α2 μ2 X2 S2 ho).1 i _ (Ry hlt)
   refine .inr ⟨hgo,fun σ' H'=>i+1<=src.items.length/\∃α2 ρ2 μ2,p.X H1 H' α1 α2/\p.S H' α2 μ2/\dy p.K H' α2 ρ2 σ'/\fL p H' α2 (gr src g fb (src.items.drop (i+1)) ρ2 μ2) D,
    fun σ' H' ⟨h1,h2⟩=>⟨_,by omega,rfl,h1,h2⟩,fun x H3 yx=>?_⟩
   obtain⟨X3,S3,R3⟩:=hy x H3 yx;refine⟨α2,ρ2,μ2,_,S3,R2.mono X3,R3,(aE.from X3 (aE.bindS P2)).imp fun ρ4 μ4 H4 α4 X4 S4 P4 σ4 R4=>⟨α4,ρ4,μ4,S4,R4,A4 P4 fun ρ5 μ5 H5 α5 σ5 X5 S5 R5 P5=>⟨hlt,α5,ρ5,μ5,((X2.trans X3).trans X4).trans X5,S5,R5,P5⟩⟩⟩
  ·rw[NM ho]at P2;exact P2.elim
 ·have e : i = src.items.length := by omega
  subst e;rw[RH]at P2;unfold gr at P2;by_cases ho:cF src μ2
  ·rw[NL ho]at P2;exact .inl ⟨(hJ H2 α2 μ2 X2 S2 ho).2,P2 H2 α2 σ2 me.refl S2 R2⟩
  ·rw[NM ho]at P2;exact P2.elim
end
section
variable{p:Pa}{X:Cx}{tg iter:Expr}
theorem A7{H:Hp}{α:List Addr}{μ:aw}{n:Nat}{xs:List D}{a:Addr}(S:p.S H α μ)(hn:μ[n]?=some (.lst xs))(ha:α[n]?=some a):xV p (Mh p.K a) (.own n xs) H α:=by
 intro H2 α2 μ2 X2 S2 ho;obtain⟨a',ea,vs,hH,rr⟩:=S2.at ho;rw[X2.pre n a ha]at ea;cases ea;refine⟨fun i d hd=>?_,vs,fT.of hH,by rw[rr.length];exact Om _⟩;obtain⟨v,hv,rv⟩:=rr.get hd;refine⟨⟨vs,v,fT.of hH,hv⟩,fun x H3 ⟨e,hx⟩=>?_⟩;subst e;have:=hx vs (fT.of hH);rw[hv]at this;cases this;exact⟨me.refl,S2,rv⟩
theorem D4{H:Hp}{α:List Addr}{xs:List D}{vs:List V}{a:Addr}(h:GO p.K H a vs)(r:p.Rs H α xs vs):xV p (Mh p.K a) (.fix xs) H α:=by
 intro H2 α2 μ2 X2 S2 ho;have h2:=(X2.frz a vs h).sq;have rr:=r.mono X2;refine⟨fun i d hd=>?_,vs,h2,by rw[rr.length];exact Om _⟩;obtain⟨v,hv,rv⟩:=rr.get hd;refine⟨⟨vs,v,h2,hv⟩,fun x H3 ⟨e,hx⟩=>?_⟩;subst e;have:=hx vs h2;rw[hv]at this;cases this;exact⟨me.refl,S2,rv⟩
theorem D3{H:Hp}{α:List Addr}{xs:List D}{vs:List V}{a:Addr}(h:fS p.K H a vs)(r:p.Rs H α xs vs):xV p (Ms p.K a) (.fix xs) H α:=by
 intro H2 α2 μ2 X2 S2 ho;have h2:=X2.tup a vs h;have rr:=r.mono X2;refine⟨fun i d hd=>?_,vs,h2,by rw[rr.length];exact Om _⟩;obtain⟨v,hv,rv⟩:=rr.get hd;refine⟨⟨vs,v,h2,hv⟩,fun x H3 ⟨e,hx⟩=>?_⟩;subst e;have:=hx vs h2;rw[hv]at this;cases this;exact⟨me.refl,S2,rv⟩
def cu(lo:Int)(n:Nat):List D:=(List.range n).map fun(i:Nat)=>D.int (lo+(i:Int))
theorem wY{H:Hp}{α:List Addr}(lo:Int)(n:Nat):xV p (Ko lo n) (.fix (cu lo n)) H α:=by
 intro H2 α2 μ2 X2 S2 ho;refine⟨fun i d hd=>?_,by simp[oj.items,cu,Ko]⟩;have hd':(cu lo n)[i]?=some d:=hd;unfold cu at hd';rw[OK]at hd';by_cases hi:i<n
 ·rw[Ri hi]at hd';cases hd';refine⟨hi,fun x H3 ⟨e,hx⟩=>?_⟩;subst e;subst hx;exact⟨me.refl,S2,av.mpr rfl⟩
 ·rw[Rj (by simpa using hi)]at hd';cases hd'
def uy(d:D)(μ:aw):ai oj:=match d with
 |.tup xs=>.ok (.fix xs) μ
 |.frz xs=>.ok (.fix xs) μ
 |.obj n=>match μ[n]? with
  |some (.lst xs)=>.ok (.own n xs) μ
  |_=>.bad
 |_=>.bad
def fE(f:ME):MI:=fun ρ μ=>(f ρ μ).bind uy
def MU(K:W.Frag)(tl:TE):TI:=fun σ H R=>tl σ H fun x H1=>∃a,x=.ref a/\(((∃xs,fT K H1 a xs)/\R (Mh K a) H1)\/((∃xs,fS K H1 a xs)/\R (Ms K a) H1))
theorem Jb{l:Expr}{tl:TE}(hl:PE X l tl):PI X tg l (MU X.K tl):=by
 intro pins s σ H R I h;refine eF (hl pins s σ H _ I h) fun v s1 ⟨x,H1,I1,r1,q1⟩=>?_;obtain⟨a,e,q⟩:=q1;subst e;cases r1;rcases q with⟨⟨xs,hq⟩,q⟩|⟨⟨xs,hq⟩,q⟩
 ·obtain ⟨its, rv, p, hz⟩ := I1.list hq;refine Q7 p.isList ?_;refine⟨s1.heap.objs.size,[s1.heap.objs.size],_,_,H1,rfl,I1.kept (t':=s1.toks) fun b o e=>Oj _ e,Ar a _,⟨_,Ol _ rfl,rfl,rfl⟩,fun b hb=>?_,q⟩;have e:b=s1.heap.objs.size:=by simpa using hb
  subst e;exact I1.fpOk (Om _) (I1.hok.fresh (Om _))
 ·obtain ⟨its, rv, p, hz⟩ := I1.tuple hq;refine Qb (show s1.heap.IsTuple a its.toArray from p) ?_;refine⟨s1.heap.objs.size,[s1.heap.objs.size],_,_,H1,rfl,I1.kept (t':=s1.toks) fun b o e=>Oj _ e,ym a _,⟨_,Ol _ rfl,rfl,rfl⟩,fun b hb=>?_,q⟩;have e:b=s1.heap.objs.size:=by simpa using hb
  subst e;exact I1.fpOk (Om _) (I1.hok.fresh (Om _))
theorem ID{l:Expr}{f:ME}(hK:X.K=p.K)(hl:PE X l (tD p f)):PI X tg l (qx p (fE f)):=(Jb hl).weak fun σ H R ⟨α,ρ,μ,S,Rr,P⟩=>by
 refine⟨α,ρ,μ,S,Rr,(aE.bind P).imp fun d μ1 H1 α1 X1 S1 P1 v rv=>?_⟩;rw[hK];cases d with
 |tup xs=>
  obtain⟨a,vs,rfl,h1,h2⟩:=aI.mp rv;exact⟨a,rfl,.inr ⟨⟨vs,h1⟩,P1.now S1 _ trivial (D3 h1 h2)⟩⟩
 |frz xs=>
  obtain⟨a,vs,rfl,h1,h2⟩:=bw.mp rv;exact⟨a,rfl,.inl ⟨⟨vs,h1.sq⟩,P1.now S1 _ trivial (D4 h1 h2)⟩⟩
 |obj n=>
  obtain⟨a,rfl,ha⟩:=aQ.mp rv;unfold uy at P1;dsimp only at P1;split at P1
  ·rename_i xs hx;obtain⟨a',ea,vs,hH,rr⟩:=S1.at hx;rw[ha]at ea;cases ea;exact⟨a,rfl,.inl ⟨⟨vs,fT.of hH⟩,P1.now S1 _ hx (A7 S1 hx ha)⟩⟩
  ·exact P1.elim
 |non=>exact P1.elim
 |bl b=>exact P1.elim
 |int i=>exact P1.elim
 |str x=>exact P1.elim
def i8(ds:List D)(μ:aw):ai oj:=match ds with
 |[.int j]=>if -(2^62)<=j/\j<2^62 then .ok (.fix (cu 0 j.toNat)) μ else .bad
 |_=>.bad
def Ah(ds:List D)(μ:aw):ai oj:=match ds with
 |[.int i,.int j]=>if -(2^62)<=i/\i<2^62/\-(2^62)<=j/\j<2^62 then .ok (.fix (cu i (j-i).toNat)) μ else .bad
 |_=>.bad
def iE(f:List D->aw->ai oj)(fa:MA):MI:=fun ρ μ=>(fa ρ μ).bind f
theorem AE {a:Expr}{fa:MA}{px pos:Pos} (hg:Gl X "range") (hm:X.mg "range" = none) (ha:PA X [a] (nr p fa)) (hs:starEach [a] X.env=[(false,eval a X.env)]):PI X tg (.Call (.Name "range" px) [a] [] pos) (qx p (iE i8 fa)):=
 (AM hg hm ha hs).weak fun σ H R ⟨α, ρ, μ, S, Rr, P⟩ => ⟨α, ρ, μ, S, Rr, (aE.bind P).imp fun ds μ1 H1 α1 X1 S1 P1 vs rv => by
  unfold i8 at P1;split at P1
  ·rename_i j;obtain⟨v,rfl,r1⟩:=rv.one;rw[av.mp r1];split at P1
   ·rename_i hj;exact⟨j,rfl,hj.1,hj.2,P1.now S1 _ trivial (wY 0 _)⟩
   ·exact P1.elim
  ·exact P1.elim⟩
theorem AD {a b:Expr}{fa:MA}{px pos:Pos} (hg:Gl X "range") (hm:X.mg "range" = none) (ha:PA X [a,b] (nr p fa)) (hs:starEach [a,b] X.env=[(false,eval a X.env),(false,eval b X.env)]) (hs2:starEach [b] X.env=[(false,eval b X.env)]):PI X tg (.Call (.Name "range" px) [a,b] [] pos) (qx p (iE Ah fa)):=
 (AL hg hm ha hs hs2).weak fun σ H R ⟨α, ρ, μ, S, Rr, P⟩ => ⟨α, ρ, μ, S, Rr, (aE.bind P).imp fun ds μ1 H1 α1 X1 S1 P1 vs rv => by
  unfold Ah at P1;split at P1
  ·rename_i i j;obtain⟨v,u,rfl,r1,r2⟩:=rv.two;rw[av.mp r1,av.mp r2];split at P1
   ·rename_i hj;exact⟨i,j,rfl,hj,P1.now S1 _ trivial (wY i _)⟩
   ·exact P1.elim
  ·exact P1.elim⟩
theorem tT{b:Bool}{src:oj}{xs:List D}{H:Hp}{α:List Addr}{a:Addr}(hi:src.items=eT 0 xs)
  (hs:∀H2 α2 μ2,p.X H H2 α α2->p.S H2 α2 μ2->cF src μ2->∃vs,Sq b p.K H2 a vs/\p.Rs H2 α2 xs vs ):xV p (Mt b p.K a) src H α:=by
 intro H2 α2 μ2 X2 S2 ho;obtain⟨vs,h2,rr⟩:=hs H2 α2 μ2 X2 S2 ho;rw[hi];refine⟨fun i d hd=>?_,vs,h2,by rw[rr.length,t9]⟩;rw[ua]at hd;cases e:xs[i]? with
 |none=>rw[e]at hd;cases hd
 |some y=>
  rw[e]at hd;cases hd;obtain⟨v,hv,rv⟩:=rr.get e;refine⟨⟨vs,v,h2,hv⟩,fun x H3 ⟨q,w,e1,hq,e2,hx⟩=>?_⟩;subst e1 e2;have:=hx vs h2;rw[hv]at this;cases this;refine⟨bK hq,S2.tuple hq,aI.mpr ⟨q,_,rfl,fS.of bN,?_⟩⟩;rw[QJ];exact Reps.cons (av.mpr rfl) (Reps.cons (rv.mono (bK hq)) Reps.nil)
def k9(ds:List D)(μ:aw):ai oj:=match ds with
 |[.tup xs]=>.ok (.fix (eT 0 xs)) μ
 |[.obj n]=>match μ[n]? with
  |some (.lst xs)=>.ok (.eno n xs) μ
  |_=>.bad
 |_=>.bad
theorem Fu {a:Expr}{fa:MA}{px pos tpos:Pos}{elts:List Expr}{k1:Nat} (hK:X.K=p.K) (hg:Gl X "enumerate") (hm:X.mg "enumerate" = none) (ha:PA X [a] (nr p fa)) (hs:starEach [a] X.env=[(false,eval a X.env)]) :
  PI X (.Tuple elts k1 tpos) (.Call (.Name "enumerate" px) [a] [] pos) (qx p (iE k9 fa)):=
 (FS hg hm ha hs).weak fun σ H R ⟨α, ρ, μ, S, Rr, P⟩ => ⟨α, ρ, μ, S, Rr, (aE.bind P).imp fun ds μ1 H1 α1 X1 S1 P1 vs rv => by
  rw[hK];unfold k9 at P1;split at P1
  ·rename_i xs;obtain⟨v,rfl,r1⟩:=rv.one;obtain⟨a,us,rfl,h1,h2⟩:=aI.mp r1;exact⟨a,false,rfl,⟨us,h1⟩,P1.now S1 _ trivial (tT (b:=false) rfl fun H2 α2 μ2 X2 S2 _=>⟨us,X2.tup a us h1,h2.mono X2⟩)⟩
  ·rename_i n;split at P1
   ·rename_i xs hx;obtain⟨v,rfl,r1⟩:=rv.one;obtain⟨a,rfl,ha⟩:=aQ.mp r1;obtain⟨a',ea,us,hH,rr⟩:=S1.at hx;rw[ha]at ea;cases ea;refine⟨a,true,rfl,⟨us,fT.of hH⟩,P1.now S1 _ hx (tT (b:=true) rfl fun H2 α2 μ2 X2 S2 ho=>?_)⟩;obtain⟨a2,ea2,us2,hH2,rr2⟩:=S2.at (show μ2[n]?=some (.lst xs) from ho);rw[X2.pre n a ha]at ea2;cases ea2;exact⟨us2,fT.of hH2,rr2⟩
   ·exact P1.elim
  ·exact P1.elim⟩
end
def ai.nox{β:Type}(o:ai β):ai β:=match o with
 |.exc _ _=>.bad
 |o=>o
@[simp] theorem ae {β:Type}{a:β}{μ:aw}:(ai.ok a μ).nox=.ok a μ:=RE (RF _)
abbrev Pa.nx(p:Pa):Pa:=⟨p.K,p.w,fun _ _ _ _=>False⟩
theorem dR{β γ:Type}{p:Pa}{H:Hp}{α:List Addr}{o:ai β}{k:β->aw->ai γ}{R:γ->aw->Hp->List Addr->Prop}(h:aE p H α (o.nox.bind k) R):aE p.nx H α o (fun a μ1 H1 α1=>aE p H1 α1 (k a μ1) R):=by
 cases o with
 |ok a μ=>exact fun H' α' e s=>aE.from e h
 |exc x μ=>exact False.elim h
 |bad=>exact h
def eR(cap:List (Option Nat))(ρ:Ro):Ro:=cap.map fun o=>o.bind fun j=>(ρ[j]?).join
theorem dy.cap{K:W.Frag}{H:Hp}{α:List Addr}{ρ:Ro}{σ:St}(R:dy K H α ρ σ)(cap:List (Option Nat)):dy K H α (eR cap ρ) (qO cap σ):=by
 refine⟨by simp[eR,qO],fun i d h=>?_⟩;unfold eR at h;unfold qO;rw[OK]at h⊢;cases e:cap[i]? with
 |none=>rw[e]at h;cases h
 |some o=>
  rw[e]at h;cases o with
  |none=>simp at h
  |some j=>
   simp at h⊢
   obtain⟨v,h1,h2⟩:=R.at' j d (by
    cases e2:ρ[j]? with
    |none=>rw[e2]at h;simp at h
    |some x=>rw[e2]at h;simp at h;rw[h])
   exact⟨v,by rw[h1];rfl,h2⟩
def tm(n:Nat)(y:D)(μ:aw):ai Unit:=match μ[n]? with
 |some (.lst ys)=>if ys.length<sizeLine then .ok () (μ.set n (.lst (ys++[y]))) else .bad
 |_=>.bad
open Classical in
def compLoop(src:oj)(n:Nat)(g:MG)(t:MT)(e:ME):List D->Ro->aw->ai D
 |[],_,μ=>if cF src μ then .ok (.obj n) μ else .bad
 |d::r,ρ,μ=>if cF src μ then (g d ρ μ).nox.bind fun ρ1 μ1=>(t ρ1 μ1).nox.bind fun b μ2=>if b=true then (e ρ1 μ2).nox.bind fun y μ3=>(tm n y μ3).bind fun _ μ4=>compLoop src n g t e r ρ1 μ4 else compLoop src n g t e r ρ1 μ2 else .bad
def cW(fi:MI)(cap:List (Option Nat))(g:MG)(t:MT)(e:ME):ME:=fun ρ μ=>(fi ρ μ).bind fun src μ1=>compLoop src μ1.length g t e src.items (eR cap ρ) (μ1++[.lst []])
def bA:MT:=fun _ μ=>.ok true μ
theorem wF{p:Pa}{n:Nat}{y:D}{μ:aw}{H:Hp}{α:List Addr}{R:Unit->aw->Hp->List Addr->Prop}{v:V}{acc:Addr}(S:p.S H α μ)(ha:α[n]?=some acc)(rv:p.R H α y v)(P:aE p H α (tm n y μ) R) :
  ∃ys,H acc=some (.lst ys)/\ys.length<sizeLine/\∃μ',p.X H (cq H acc (.lst (ys++[v]))) α α/\p.S (cq H acc (.lst (ys++[v]))) α μ'/\R () μ' (cq H acc (.lst (ys++[v]))) α:=by
 unfold tm at P;split at P
 ·rename_i xs hx;obtain⟨a,ea,us,hH,rr⟩:=S.at hx;rw[ha]at ea;cases ea;split at P
  ·rename_i hl;have q:=rr.snoc rv;exact⟨us,hH,by rw[rr.length];exact hl,_,kg hH,S.put hx ha hH q,P _ _ (kg hH) (S.put hx ha hH q)⟩
  ·exact P.elim
 ·exact P.elim
section
variable{p:Pa}{X:Cx}{tg iter elt:Expr}{ifs:List Expr}{scope:Scope}{Nc:List Str}{cap:List (Option Nat)}{fi:MI}{g:MG}{t:MT}{e:ME}{pos pos':Pos}
theorem uc{σ:St}{H:Hp}{Q:VK}(h:tD p (cW fi cap g t e) σ H Q):BW (qx p fi) cap (oa p.nx g) (iD p.nx t) (tD p.nx e) σ H Q:=by
 obtain⟨α,ρ,μ,S,R,P⟩:=h;refine⟨α,ρ,μ,S,R,(aE.bind P).imp fun src μ1 H1 α1 X1 S1 P1 J hok hJ acc hacc=>?_⟩;obtain⟨x1,s1,_⟩:=dC (ds:=[]) (vs:=[]) S1 hacc Reps.nil;have hn:(α1++[acc])[μ1.length]?=some acc:=by rw[<- S1.len];simp
 refine⟨fun i m σ2 H2=>m=src.items.length-i/\i<=src.items.length/\∃α2 ρ2 μ2,p.X H1 H2 α1 α2/\p.S H2 α2 μ2/\dy p.K H2 α2 ρ2 σ2/\α2[μ1.length]?=some acc/\aE p H2 α2 (compLoop src μ1.length g t e (src.items.drop i) ρ2 μ2) (RV p Q),
  ⟨_,rfl,PV _,α1++[acc],eR cap ρ,μ1++[.lst []],x1,s1,((R.mono X1).cap cap).mono x1,hn,by simpa using aE.from x1 P1⟩,?_⟩
 rintro i m σ2 H2 ⟨rfl,hi,α2,ρ2,μ2,X2,S2,R2,a2,P2⟩
 by_cases hlt:i<src.items.length
 ·rw [RG hlt] at P2;unfold compLoop at P2;by_cases ho:cF src μ2
  ·rw [NL ho] at P2;obtain⟨hgo,hy⟩:=(hJ H2 α2 μ2 X2 S2 ho).1 i _ (Ry hlt)
   refine .inr ⟨hgo,fun σ' H'=>i+1<=src.items.length/\∃α2 ρ2 μ2,p.X H1 H' α1 α2/\p.S H' α2 μ2/\dy p.K H' α2 ρ2 σ'/\α2[μ1.length]?=some acc/\aE p H' α2 (compLoop src μ1.length g t e (src.items.drop (i+1)) ρ2 μ2) (RV p Q),
    fun σ' H' ⟨h1,h2⟩=>⟨_,by omega,rfl,h1,h2⟩,fun x H3 yx=>?_⟩
   obtain⟨X3,S3,R3⟩:=hy x H3 yx;refine⟨α2,ρ2,μ2,_,S3,R2.mono X3,R3,(aE.from (p:=p.nx) X3 (dR P2)).imp fun ρ4 μ4 H4 α4 X4 S4 P4 σ4 R4=>?_⟩;refine⟨α4,ρ4,μ4,S4,R4,(dR P4).imp fun b μ5 H5 α5 X5 S5 P5=>?_⟩;have xx:p.X H1 H5 α1 α5:=((X2.trans X3).trans X4).trans X5;have a5:α5[μ1.length]?=some acc:=X5.pre _ _ (X4.pre _ _ (X3.pre _ _ a2));cases b with
   |false=>
    rw[NM Ou]at P5;refine KY ?_;exact⟨hlt,α5,ρ4,μ5,xx,S5,R4.mono X5,a5,P5⟩
   |true=>
    rw[NL rfl]at P5;refine KW ?_;refine⟨α5,ρ4,μ5,S5,R4.mono X5,(dR P5).imp fun y μ6 H6 α6 X6 S6 P6 v rv=>?_⟩;obtain⟨ys,e1,e2,μ7,x7,s7,q7⟩:=wF (p:=p) S6 (X6.pre _ _ a5) rv (aE.bind P6);exact⟨ys,e1,e2,hlt,α6,ρ4,μ7,(xx.trans X6).trans x7,s7,((R4.mono X5).mono X6).mono x7,X6.pre _ _ a5,q7⟩
  ·rw[NM ho]at P2;exact P2.elim
 ·have e : i = src.items.length := by omega
  subst e;rw[RH]at P2;unfold compLoop at P2;by_cases ho:cF src μ2
  ·rw[NL ho]at P2;exact .inl ⟨(hJ H2 α2 μ2 X2 S2 ho).2,P2 H2 α2 me.refl S2 _ (aQ.mpr ⟨acc,rfl,a2⟩)⟩
  ·rw[NM ho]at P2;exact P2.elim
theorem E8{X:Cx}:qA X [] (iD p bA):=fun pins s σ H Q I h=>by
 obtain⟨α,ρ,μ,S,R,P⟩:=h;exact FJ pins s σ H Q I (P.now S)
theorem E7{X:Cx}{c:Expr}{t:MT}(h:PT X c (iD p t)):qA X [c] (iD p t):=FI h
theorem FA(hc:X.calm=true)(S:bF X.N X.env scope Nc cap)(hi:PI X tg iter (qx p fi))
  (hg:∀cl C s H fp,PG (i6 X Nc scope cl C s H fp) tg (oa p.nx g)) (ht:∀cl C s H fp,qA (i6 X Nc scope cl C s H fp) ifs (iD p.nx t)) (he:∀cl C s H fp,PE (i6 X Nc scope cl C s H fp) elt (tD p.nx e))
  (hs:∀x,foldedSetIterable iter X.env x=pure x):PE X (.ListComp elt [⟨tg,iter,ifs,0⟩] scope pos) (tD p (cW fi cap g t e)):=
 (FY hc S hi hg ht he hs).weak fun σ H Q h=>uc h
theorem Fb{i:Nat}{x:Str}{pos1:Pos}{pos2:Pos}(hc:X.calm=true)(hN:X.N.Nodup)(hix:X.N[i]?=some x)(hx:X.env.scope.names.lookup x=some .local)(S:bF X.N X.env scope Nc cap)(hi:PI X tg iter (qx p fi))
  (hg:∀cl C s H fp,PG (i6 X Nc scope cl C s H fp) tg (oa p.nx g)) (ht:∀cl C s H fp,qA (i6 X Nc scope cl C s H fp) ifs (iD p.nx t)) (he:∀cl C s H fp,PE (i6 X Nc scope cl C s H fp) elt (tD p.nx e))
  (hsw:swapsWith (.ListComp elt [⟨tg,iter,ifs,0⟩] scope pos) (some (.Name x pos1)) pos2.line X.env=pure true) (hs:∀x,foldedSetIterable iter X.env x=pure x) :
  PS X (.Assign [.Name x pos1] (.ListComp elt [⟨tg,iter,ifs,0⟩] scope pos) pos2) (i5 p (cK (cW fi cap g t e) (ao i))):=
 (FN hc hN hix hx S hi hg ht he hsw hs).weak fun D σ H h => by
  obtain⟨α,ρ,μ,S,R,P⟩:=h;refine uc ⟨α,ρ,μ,S,R,(aE.bindS P).imp fun d μ1 H1 α1 X1 S1 P1 v rv=>?_⟩;exact P1 H1 α1 _ me.refl S1 ((R.mono X1).set i rv)
end
abbrev MB:=Nat->Ro->aw->ai Ro
def la(e:ME):MB:=fun n ρ μ=>(e ρ μ).nox.bind fun y μ1=>(tm n y μ1).bind fun _ μ2=>.ok ρ μ2
open Classical in
def iq(src:oj)(n:Nat)(g:MG)(t:MT)(fb:MB):List D->Ro->aw->ai Ro
 |[],ρ,μ=>if cF src μ then .ok ρ μ else .bad
 |d::r,ρ,μ=>if cF src μ then (g d ρ μ).nox.bind fun ρ1 μ1=>(t ρ1 μ1).nox.bind fun b μ2=>if b=true then (fb n ρ1 μ2).nox.bind fun ρ2 μ3=>iq src n g t fb r ρ2 μ3 else iq src n g t fb r ρ1 μ2 else .bad
def jI(fi:MI)(g:MG)(t:MT)(fb:MB):MB:=fun n ρ μ=>(fi ρ μ).nox.bind fun src μ1=>iq src n g t fb src.items ρ μ1
def kd(fi:MI)(cap:List (Option Nat))(g:MG)(t:MT)(fb:MB):ME:=fun ρ μ=>(fi ρ μ).bind fun src μ1=>(iq src μ1.length g t fb src.items (eR cap ρ) (μ1++[.lst []])).bind fun _ μ2=>.ok (.obj μ1.length) μ2
section
variable{p:Pa}
def vG(p:Pa)(fb:MB)(acc:Addr):BC:=fun σ H N=>∃α ρ μ n,p.S H α μ/\dy p.K H α ρ σ/\α[n]?=some acc/\aE p H α (fb n ρ μ) (fun ρ' _ H' α'=>∀σ',dy p.K H' α' ρ' σ'->N σ' H')
theorem Bh{e:ME}{acc:Addr}{σ:St}{H:Hp}{N:St->Hp->Prop}(h:vG p (la e) acc σ H N):BV (tD p.nx e) acc σ H N:=by
 obtain⟨α,ρ,μ,n,S,R,a,P⟩:=h;refine⟨α,ρ,μ,S,R,(dR P).imp fun y μ6 H6 α6 X6 S6 P6 v rv=>?_⟩;obtain⟨ys,e1,e2,μ7,x7,s7,q7⟩:=wF (p:=p) S6 (X6.pre _ _ a) rv (aE.bind P6);exact⟨ys,e1,e2,q7.now s7 σ ((R.mono X6).mono x7)⟩
theorem mW{src:oj}{n:Nat}{g:MG}{t:MT}{fb:MB}{acc:Addr}{J:It}{H1 H0:Hp}{α1 α0:List Addr}{ρ:Ro}{μ1:aw}{σ:St}{N:St->Hp->Prop}(X0:p.X H0 H1 α0 α1)(S1:p.S H1 α1 μ1)(R:dy p.K H1 α1 ρ σ)(hn:α1[n]?=some acc)(hJ:xV p J src H0 α0)
  (P1:aE p H1 α1 (iq src n g t fb src.items ρ μ1) (fun ρ' _ H' α'=>∀σ',dy p.K H' α' ρ' σ'->N σ' H')):L6 J (oa p.nx g) (iD p.nx t) (vG p.nx fb acc) N σ H1:=by
 refine⟨fun i m σ2 H2=>m=src.items.length-i/\i<=src.items.length/\∃α2 ρ2 μ2,p.X H0 H2 α0 α2/\p.S H2 α2 μ2/\dy p.K H2 α2 ρ2 σ2/\α2[n]?=some acc/\aE p H2 α2 (iq src n g t fb (src.items.drop i) ρ2 μ2) (fun ρ' _ H' α'=>∀σ',dy p.K H' α' ρ' σ'->N σ' H'),
  ⟨_,rfl,PV _,α1,ρ,μ1,X0,S1,R,hn,by simpa using P1⟩,?_⟩
 rintro i m σ2 H2 ⟨rfl,hi,α2,ρ2,μ2,X2,S2,R2,a2,P2⟩
 by_cases hlt:i<src.items.length
 ·rw [RG hlt] at P2;unfold iq at P2;by_cases ho:cF src μ2
  ·rw [NL ho] at P2;obtain⟨hgo,hy⟩:=(hJ H2 α2 μ2 X2 S2 ho).1 i _ (Ry hlt)
   refine .inr ⟨hgo,fun σ' H'=>i+1<=src.items.length/\∃α2 ρ2 μ2,p.X H0 H' α0 α2/\p.S H' α2 μ2/\dy p.K H' α2 ρ2 σ'/\α2[n]?=some acc/\aE p H' α2 (iq src n g t fb (src.items.drop (i+1)) ρ2 μ2) (fun ρ' _ H' α'=>∀σ',dy p.K H' α' ρ' σ'->N σ' H'),
    fun σ' H' ⟨h1,h2⟩=>⟨_,by omega,rfl,h1,h2⟩,fun x H3 yx=>?_⟩
   obtain⟨X3,S3,R3⟩:=hy x H3 yx;refine⟨α2,ρ2,μ2,_,S3,R2.mono X3,R3,(aE.from (p:=p.nx) X3 (dR P2)).imp fun ρ4 μ4 H4 α4 X4 S4 P4 σ4 R4=>?_⟩;refine⟨α4,ρ4,μ4,S4,R4,(dR P4).imp fun b μ5 H5 α5 X5 S5 P5=>?_⟩;have xx:p.X H0 H5 α0 α5:=((X2.trans X3).trans X4).trans X5;have a5:α5[n]?=some acc:=X5.pre _ _ (X4.pre _ _ (X3.pre _ _ a2));cases b with
   |false=>
    rw[NM Ou]at P5;refine KY ?_;exact⟨hlt,α5,ρ4,μ5,xx,S5,R4.mono X5,a5,P5⟩
   |true=>
    rw[NL rfl]at P5;refine KW ?_;refine⟨α5,ρ4,μ5,n,S5,R4.mono X5,a5,(dR P5).imp fun ρ6 μ6 H6 α6 X6 S6 P6 σ' r'=>?_⟩;exact⟨hlt,α6,ρ6,μ6,xx.trans X6,S6,r',X6.pre _ _ a5,P6⟩
  ·rw[NM ho]at P2;exact P2.elim
 ·have e : i = src.items.length := by omega
  subst e;rw[RH]at P2;unfold iq at P2;by_cases ho:cF src μ2
  ·rw[NL ho]at P2;exact .inl ⟨(hJ H2 α2 μ2 X2 S2 ho).2,P2.now S2 _ R2⟩
  ·rw[NM ho]at P2;exact P2.elim
theorem yN{fi:MI}{g:MG}{t:MT}{fb:MB}{acc:Addr}{σ:St}{H:Hp}{N:St->Hp->Prop}(h:vG p.nx (jI fi g t fb) acc σ H N):Ck (qx p.nx fi) (oa p.nx g) (iD p.nx t) (vG p.nx fb acc) σ H N:=by
 obtain⟨α,ρ,μ,n,S,R,a,P⟩:=h;refine⟨α,ρ,μ,S,R,(dR P).imp fun src μ1 H1 α1 X1 S1 P1 J hok hJ=>?_⟩;exact mW (p:=p.nx) me.refl S1 (R.mono X1) (X1.pre _ _ a) hJ P1
theorem yS{fi:MI}{cap:List (Option Nat)}{g:MG}{t:MT}{fb:MB}{σ:St}{H:Hp}{Q:VK}(h:tD p (kd fi cap g t fb) σ H Q):mO (fun _=>.lst []) (qx p fi) cap (oa p.nx g) (iD p.nx t) (fun acc=>vG p.nx fb acc) σ H Q:=by
 obtain⟨α,ρ,μ,S,R,P⟩:=h;refine⟨α,ρ,μ,S,R,(aE.bind P).imp fun src μ1 H1 α1 X1 S1 P1 J hok hJ acc hacc=>?_⟩;obtain⟨x1,s1,_⟩:=dC (ds:=[]) (vs:=[]) S1 hacc Reps.nil;have hn:(α1++[acc])[μ1.length]?=some acc:=by rw[<- S1.len];simp
 refine mW (p:=p) x1 s1 (((R.mono X1).cap cap).mono x1) hn hJ ((aE.from x1 (aE.bind P1)).imp fun ρ' μ' H' α' X' S' P' σ' r'=>?_);exact P'.now S' _ (aQ.mpr ⟨acc,rfl,X'.pre _ _ hn⟩)
variable{X:Cx}{elt:Expr}{cl0 cl:Comprehension}{rest:List Comprehension}{scope:Scope}{Nc:List Str}{cap:List (Option Nat)}{fi:MI}{g:MG}{t:MT}{fb:MB}{pos:Pos}{e:Expr}{d:Nat}{acc:Addr}
theorem FD{f:ME}{gens:List Comprehension}(hg:gens[d]?=none)(hxe:X.xe=uw)(hel:PE X elt (tD p.nx f)):ur X (.ListComp elt gens scope pos) d acc (vG p.nx (la f) acc):=fun pins s σ H N I h=>rk hg hxe hel pins s σ H N I (Bh (p:=p.nx) h)
theorem Du(he:mR e=true)(hz:∀g∈clausesOf e,g.is_async=0)(hg:(clausesOf e)[d]?=some cl)(hxe:X.xe=uw)(hc:X.calm=true)(hi:PI X cl.target cl.iter (qx p.nx fi))(hgc:PG X cl.target (oa p.nx g))(htc:qA X cl.ifs (iD p.nx t))(hb:ur X e (d+1) acc (vG p.nx fb acc))
  (hs:∀x,foldedSetIterable cl.iter X.env x=pure x):ur X e d acc (vG p.nx (jI fi g t fb) acc):=fun pins s σ H N I h=>AO he hz hg hxe hc hi hgc htc hb hs pins s σ H N I (yN h)
theorem Dr(hc:X.calm=true)(hz:∀g∈cl0::rest,g.is_async=0)(S:bF X.N X.env scope Nc cap)(hi:PI X cl0.target cl0.iter (qx p fi))
  (hg:∀cl C s H fp,PG (i6 X Nc scope cl C s H fp) cl0.target (oa p.nx g)) (ht:∀cl C s H fp,qA (i6 X Nc scope cl C s H fp) cl0.ifs (iD p.nx t)) (hb:∀cl C s H fp acc,ur (i6 X Nc scope cl C s H fp) (.ListComp elt (cl0::rest) scope pos) 1 acc (vG p.nx fb acc))
  (hs:∀x,foldedSetIterable cl0.iter X.env x=pure x):PE X (.ListComp elt (cl0::rest) scope pos) (tD p (kd fi cap g t fb)):=
 (wI hc hz S hi hg ht hb hs).weak fun σ H Q h=>yS h
end
mutual
def D.low(n:Nat):D->Prop
 |.tup xs=>D.lows n xs
 |.frz xs=>D.lows n xs
 |.obj m=>m<n
 |_=>True
def D.lows(n:Nat):List D->Prop
 |[]=>True
 |x::xs=>x.low n/\D.lows n xs
end
def O.low(n:Nat):O->Prop
 |.lst xs=>D.lows n xs
 |_=>True
section
variable{K:W.Frag}{H:Hp}{α α':List Addr}
mutual
theorem aP.low:∀{d:D}{v:V},aP K H α d v->d.low α.length
 |.non,_,_=>trivial
 |.bl _,_,_=>trivial
 |.int _,_,_=>trivial
 |.str _,_,_=>trivial
 |.tup xs,_,h=>by
  obtain⟨a,vs,rfl,h1,h2⟩:=aI.mp h;simp only[D.low];exact Reps.low h2
 |.frz xs,_,h=>by
  obtain⟨a,vs,rfl,h1,h2⟩:=bw.mp h;simp only[D.low];exact Reps.low h2
 |.obj n,_,h=>by
  obtain⟨a,rfl,h1⟩:=aQ.mp h;simp only[D.low];exact(N3.mp h1).1
theorem Reps.low:∀{ds:List D}{vs:List V},Reps K H α ds vs->D.lows α.length ds
 |[],_,_=>trivial
 |d::ds,_,h=>by
  simp only[Reps]at h;obtain⟨v,r,rfl,h1,h2⟩:=h;simp only[D.lows];exact⟨aP.low h1,Reps.low h2⟩
end
mutual
theorem aP.cut{n:Nat}(e:∀m,m<n->α'[m]?=α[m]?):∀{d:D}{v:V},aP K H α' d v->d.low n->aP K H α d v
 |.non,_,h,_=>by simp only[aP]at h⊢;exact h
 |.bl _,_,h,_=>by simp only[aP]at h⊢;exact h
 |.int _,_,h,_=>by simp only[aP]at h⊢;exact h
 |.str _,_,h,_=>by simp only[aP]at h⊢;exact h
 |.tup xs,_,h,b=>by
  obtain⟨a,vs,rfl,h1,h2⟩:=aI.mp h;simp only[D.low]at b;exact aI.mpr ⟨a,vs,rfl,h1,Reps.cut e h2 b⟩
 |.frz xs,_,h,b=>by
  obtain⟨a,vs,rfl,h1,h2⟩:=bw.mp h;simp only[D.low]at b;exact bw.mpr ⟨a,vs,rfl,h1,Reps.cut e h2 b⟩
 |.obj m,_,h,b=>by
  obtain⟨a,rfl,h1⟩:=aQ.mp h;simp only[D.low]at b;exact aQ.mpr ⟨a,rfl,by rw[<- e m b];exact h1⟩
theorem Reps.cut{n:Nat}(e:∀m,m<n->α'[m]?=α[m]?):∀{ds:List D}{vs:List V},Reps K H α' ds vs->D.lows n ds->Reps K H α ds vs
 |[],_,h,_=>by simp only[Reps]at h⊢;exact h
 |d::ds,_,h,b=>by
  simp only[Reps]at h⊢;obtain⟨v,r,rfl,h1,h2⟩:=h;simp only[D.lows]at b;exact⟨v,r,rfl,aP.cut e h1 b.1,Reps.cut e h2 b.2⟩
end
end
def HD(μ μ':aw)(d:D):Prop:=d.low μ.length/\μ.length<=μ'.length/\∀(i:Nat) o,i<μ.length->μ'[i]?=some o->μ[i]?=some o\/o.low μ.length
open Classical in
def qh(μ:aw)(o:ai D):ai D:=match o with
 |.ok d μ'=>if HD μ μ' d then .ok d (μ'.take μ.length) else .ok d μ'
 |o=>o
theorem qo{p:Pa}{H:Hp}{α:List Addr}{μ:aw}{o:ai D}{Q:VK}(S:p.S H α μ)(P:aE p H α (qh μ o) (RV p Q)):aE p H α o (RV p Q):=by
 cases o with
 |exc x μ'=>exact P
 |bad=>exact P
 |ok d μ'=>
  unfold qh at P;dsimp only at P;by_cases hg:HD μ μ' d
  ·rw [NL hg] at P;obtain⟨g1,g2,g3⟩:=hg;intro H' α' e s v rv
   have al:∀m,m<μ.length->α'[m]?=α[m]?:=fun m hm=>by
    have hm':m<α.length:=by rw[S.len];exact hm
    rw[Ry hm'];exact e.pre m _ (Ry hm')
   refine P H' α ⟨e.tup,e.frz,fun _ _ z=>z⟩ ⟨by rw[OF,S.len];omega,S.nd,fun n o a h1 h2=>?_⟩ v (aP.cut al rv g1);have hn:n<μ.length:=by rw[<- S.len];exact(N3.mp h2).1
   rw[OL hn]at h1;have q:=s.ob n o a h1 (e.pre n a h2)
   have ob:o.low μ.length:=by
    rcases g3 n o hn h1 with z|z
    ·have q0 := S.ob n o a z h2;cases o with
     |lst xs=>obtain⟨vs,_,r⟩:=q0;have:=r.low;rw[S.len]at this;exact this
     |set ks=>trivial
     |iset ks=>trivial
     |dic=>trivial
     |exc c=>trivial
    ·exact z
   cases o with
   |lst xs=>obtain⟨vs,h3,r⟩:=q;exact⟨vs,h3,Reps.cut al r ob⟩
   |set ks=>exact q
   |iset ks=>exact q
   |dic=>exact q
   |exc c=>exact q
  ·rw[NM hg]at P;exact P
def SO.out(o:SO):ai D:=match o with
 |.ret d μ=>.ok d μ
 |.next _ μ=>.ok .non μ
 |.exc x μ=>.exc x μ
 |_=>.bad
def ip(n N:Nat)(fb:MS):List D->aw->ai D:=fun ds μ=>if ds.length=n then qh μ (fb (ds.map some++List.replicate (N-n) none) μ).out else .bad
def En(p:Pa)(n:Nat)(F:List D->aw->ai D):Sp:=fun vs H Q _=>vs.length=n/\∃α ds μ,p.S H α μ/\p.Rs H α ds vs/\aE p H α (F ds μ) (RV p Q)
structure dg(P:Program)(w:World)(K:W.Frag)(mg:Str->Option Value)(base:Heap)(p:Pa)(k:Nat)(x:Str)(n:Nat)(F:List D->aw->ai D):Prop where
 len:∀ds μ,ds.length≠n->F ds μ=.bad
 fn:∃f fd ps,mg x=some (.ref f)/\W.keepIn K (.ref f)=true/\iu K fd ps []/\qG P w K mg base xO k f fd ps (En p n F)
section
variable{p:Pa}{X:Cx}{k n:Nat}{x:Str}{F:List D->aw->ai D}{a:Expr}{es:List Expr}{fr:MA}{pos px:Pos}
theorem FC (h:dg X.prog X.w X.K X.mg X.base p k x n F) (hr:gv k X.A) (hg:Gl X x) (ha:PA X (a::es) (nr p fr)) (hdb:(x == ("__debug__" : Str))=false) (he:starEach (a::es) X.env=(false,eval a X.env)::starEach es X.env) (hpl:(backTo pos (starEach es X.env)).any (·.1)=false) :
  PE X (.Call (.Name x px) (a::es) [] pos) (tD p (aC F fr)):=by
 obtain⟨f,fd,ps,h1,h2,h3,h4⟩:=h.fn;refine(uV (dvs:=[]) (E:=E0) h4 hr hg h1 h2 h3 .nil B2 ha hdb he hpl).weak fun σ H Q ⟨α,ρ,μ,S,R,P⟩=>⟨α,ρ,μ,S,R,(aE.bind P).imp fun ds μ1 H1 α1 X1 S1 P1 vs rv=>?_⟩;show En p n F (vs++[]) H1 Q E0;rw[Ox];refine⟨?_,α1,ds,μ1,S1,rv,P1⟩;by_cases hl:ds.length=n
 ·rw[rv.length];exact hl
 ·rw[h.len ds μ1 hl]at P1;exact P1.elim
end
theorem kz{K:W.Frag}{H:Hp}{α:List Addr}{ds:List D}{vs:List V}(r:Reps K H α ds vs)(m:Nat):dy K H α (ds.map some++List.replicate m none) (vs.map some++List.replicate m none):=by
 refine⟨by simp[r.length],fun i d h=>?_⟩;by_cases hi:i<ds.length
 ·rw [OJ (by simpa using hi), OK] at h;cases e:ds[i]? with
  |none=>rw[e]at h;cases h
  |some x=>
   rw[e]at h;cases h;obtain⟨v,hv,rv⟩:=r.get e;refine⟨v,?_,rv⟩;rw[OJ (by simp[r.length,hi]),OK,hv];rfl
 ·rw[OH (by simpa using hi),OI]at h;split at h <;> cases h
theorem Ke{P:Program}{w:World}{K:W.Frag}{mg:Str->Option Value}{base:Heap}{p:Pa}{k n:Nat}{x qual:Str}{st:Stmt}{f:Addr}{fd:FuncData}{N ps:List Str}{fb:MS}
  (F:gZ K x qual st f fd) (S:aR N ps (ar st)) (hn:ps.length=n) (hm:mg x=some (.ref f)) (hb:iu K fd ps [])
  (body : ∀ (cdv : Value) (A : Around) (outer : List Env) (s : Shared) (H : Hp) (E : XK), gv k (A.deeper (envOfC qual (ar st) s.heap.objs.size f cdv)) ->
   j7 (qE xO P w K mg base N qual (ar st) f cdv A outer s H E).nox (cj st) (i5 p fb)):dg P w K mg base p (k+1) x n (ip n N.length fb):=by
 refine⟨fun ds μ h=>by unfold ip;rw[NM h],f,fd,ps,hm,F.kp,hb,?_⟩;refine F.ok S (fun vs H Q E h=>h.1.trans hn.symm) fun cdv A outer s H vs Q E hr h=>?_;refine⟨_,body cdv A outer s H E hr,?_⟩;obtain⟨hl,α,ds,μ,S1,R1,P1⟩:=h;unfold ip at P1;have hd:ds.length=n:=by rw[<- R1.length];exact hl
 rw[NL hd]at P1;have P2:=qo S1 P1;unfold start;rw[hl];refine⟨α,_,μ,S1,kz R1 _,?_⟩;cases e:fb (ds.map some++List.replicate (N.length-n) none) μ with
 |ret d μ'=>rw[e]at P2;exact fun H' α' v x s r=>P2 H' α' x s v r
 |next ρ μ'=>rw[e]at P2;exact fun H' α' σ' x s r=>P2 H' α' x s .non (bP.mpr rfl)
 |exc x μ'=>rw[e]at P2;exact P2
 |brk ρ μ'=>rw[e]at P2;exact P2.elim
 |cnt ρ μ'=>rw[e]at P2;exact P2.elim
 |bad=>rw[e]at P2;exact P2.elim
end L2
namespace L2
open PySem PySem.Spec PyProof.Rows RS
section
variable(K:W.Frag)(H:Hp)
mutual
def og:PyData->V->Prop
 |.none,v=>v=.non
 |.bool b,v=>v=.bl b
 |.int i,v=>v=.int i
 |.str x,v=>v=.str x
 |.tuple xs,v=>∃a vs,v=.ref a/\fS K H a vs/\RdPs xs vs
 |.list xs,v=>∃a vs,v=.ref a/\fT K H a vs/\RdPs xs vs
 |.dict _,_=>False
def RdPs:List PyData->List V->Prop
 |[],vs=>vs=[]
 |x::xs,vs=>∃v r,vs=v::r/\og x v/\RdPs xs r
end
end
section
variable{X:Cx}{pins:List (Addr×Obj)}{σ:St}{H:Hp}{s:Shared}
mutual
theorem dB(I:aV X pins σ H s):∀(d:PyData)(x:V)(v:Value),og X.K H d x->bV x v->∃as,Reads s.heap v d as
 |.none,_,_,h,r=>by simp only[og]at h;subst h;cases r;exact⟨_,.none⟩
 |.bool b,_,_,h,r=>by simp only[og]at h;subst h;cases r;exact⟨_,.bool b⟩
 |.int b,_,_,h,r=>by simp only[og]at h;subst h;obtain⟨t,rfl⟩:=r;exact⟨_,.int b t⟩
 |.str b,_,_,h,r=>by simp only[og]at h;subst h;obtain⟨t,rfl⟩:=r;exact⟨_,.str b t⟩
 |.tuple xs,_,_,h,r=>by
  simp only[og]at h;obtain⟨a,vs,rfl,h1,h2⟩:=h;cases r;obtain⟨its,rv,⟨o,e1,e2,n,e3⟩,_⟩:=I.tuple h1;obtain⟨as,q⟩:=readsAll_of I xs vs its h2 rv;exact⟨_,.tuple e1 e2 e3 (by simpa using q)⟩
 |.list xs,_,_,h,r=>by
  simp only[og]at h;obtain⟨a,vs,rfl,h1,h2⟩:=h;cases r;obtain⟨its,rv,⟨o,n,e1,e2,_,e3⟩,_⟩:=I.list h1;obtain⟨as,q⟩:=readsAll_of I xs vs its h2 rv;exact⟨_,.list e1 e2 e3 (by simpa using q)⟩
 |.dict _,_,_,h,_=>by simp only[og]at h
theorem readsAll_of(I:aV X pins σ H s):∀(ds:List PyData)(xs:List V)(vs:List Value),RdPs X.K H ds xs->ba xs vs->∃as,ReadsAll s.heap vs ds as
 |[],_,_,h,r=>by simp only[RdPs]at h;subst h;cases r;exact⟨_,.nil⟩
 |d::ds,_,_,h,r=>by
  simp only[RdPs]at h;obtain⟨v,q,rfl,h1,h2⟩:=h;cases r with
  |cons r rr=>
   obtain⟨as,g1⟩:=dB I d _ _ h1 r;obtain⟨bs,g2⟩:=readsAll_of I ds _ _ h2 rr;exact⟨_,.cons g1 g2⟩
end
def eG(d:PyData):Bool:=d.canLay0&&decide (d.depth<=60)
def BK(K:W.Frag)(neg:Bool):R2:=fun x y H Q=>∃a b,og K H a x/\og K H b y/\eG a=true/\eG b=true/\Q (.bl (if neg then !PyData.eqv a b else PyData.eqv a b)) H
theorem oR{a b:PyData}{A:Around}(ha:eG a=true)(hu:A.units+64<cLine):A.units+min a.depth b.depth<cLine:=by
 unfold eG at ha;simp only[Pb,RI]at ha;have:=Nat.min_le_left a.depth b.depth;omega
theorem bU{a:PyData}(ha:eG a=true):a.canLay0=true:=by
 unfold eG at ha;simp only[Pb,RI]at ha;exact ha.1
theorem rT{a:PyData}(ha:eG a=true):a.depth<=60:=by
 unfold eG at ha;simp only[Pb,RI]at ha;exact ha.2
theorem Jt(hu:X.A.units+64<cLine):j8 X (compareOp .Eq) (BK X.K false):=by
 intro pins s σ H x y v u Q I rx ry h;obtain⟨a,b,h1,h2,h3,h4,q⟩:=h;obtain⟨as,r1⟩:=dB I a x v h1 rx;obtain⟨bs,r2⟩:=dB I b y u h2 ry;exact SeqAt.compareEq_reads r1 r2 (bU h3) (bU h4) (oR h3 hu) ⟨.bl _,H,I,rfl,q⟩
theorem Jp(hu:X.A.units+64<cLine):j8 X (compareOp .NotEq) (BK X.K true):=by
 intro pins s σ H x y v u Q I rx ry h;obtain⟨a,b,h1,h2,h3,h4,q⟩:=h;obtain⟨as,r1⟩:=dB I a x v h1 rx;obtain⟨bs,r2⟩:=dB I b y u h2 ry;exact SeqAt.compareNe_reads r1 r2 (bU h3) (bU h4) (oR h3 hu) ⟨.bl _,H,I,rfl,q⟩
def BJ(K:W.Frag)(neg:Bool):R2:=fun x y H Q=>∃a b xs,og K H a x/\og K H b y/\(b=.list xs\/b=.tuple xs)/\eG a=true/\eG b=true/\Q (.bl (if neg then !(xs.any fun y=>PyData.eqv y a) else xs.any fun y=>PyData.eqv y a)) H
theorem Js(hu:X.A.units+64<cLine):j8 X (compareOp .In) (BJ X.K false):=by
 intro pins s σ H x y v u Q I rx ry h;obtain⟨a,b,xs,h1,h2,hb,h3,h4,q⟩:=h;obtain⟨as,r1⟩:=dB I a x v h1 rx;obtain⟨bs,r2⟩:=dB I b y u h2 ry;have hd:=rT h3;rcases hb with rfl|rfl
 ·refine SeqAt.in_list_reads r2 r1 (by simpa[PyData.canLay0] using bU h4) (bU h3) ?_ ⟨.bl _,H,I,rfl,q⟩;have:=OV (PyData.depthAll xs) a.depth;omega
 ·refine SeqAt.in_tuple_reads r2 r1 (by simpa[PyData.canLay0] using bU h4) (bU h3) ?_ ⟨.bl _,H,I,rfl,q⟩;have:=OV (PyData.depthAll xs) a.depth;omega
theorem AS(hu:X.A.units+64<cLine):j8 X (compareOp .NotIn) (BJ X.K true):=by
 intro pins s σ H x y v u Q I rx ry h;obtain⟨a,b,xs,h1,h2,hb,h3,h4,q⟩:=h;obtain⟨as,r1⟩:=dB I a x v h1 rx;obtain⟨bs,r2⟩:=dB I b y u h2 ry;have hd:=rT h3;rcases hb with rfl|rfl
 ·refine SeqAt.notIn_list_reads r2 r1 (by simpa[PyData.canLay0] using bU h4) (bU h3) ?_ ⟨.bl _,H,I,rfl,q⟩;have:=OV (PyData.depthAll xs) a.depth;omega
 ·refine SeqAt.notIn_tuple_reads r2 r1 (by simpa[PyData.canLay0] using bU h4) (bU h3) ?_ ⟨.bl _,H,I,rfl,q⟩;have:=OV (PyData.depthAll xs) a.depth;omega
end
mutual
def xJ(μ:aw):D->Option PyData
 |.non=>some .none
 |.bl b=>some (.bool b)
 |.int i=>some (.int i)
 |.str x=>some (.str x)
 |.tup xs=>(toPs μ xs).map .tuple
 |.frz xs=>(toPs μ xs).map .list
 |.obj _=>none
def toPs(μ:aw):List D->Option (List PyData)
 |[]=>some []
 |x::xs=>(xJ μ x).bind fun a=>(toPs μ xs).map fun r=>a::r
end
def Ac(μ:aw)(d:D):Option PyData:=match d with
 |.obj n=>match μ[n]? with
  |some (.lst xs)=>(toPs μ xs).map .list
  |_=>none
 |d=>xJ μ d
def iN(μ:aw):List D->Option (List PyData)
 |[]=>some []
 |x::xs=>(Ac μ x).bind fun a=>(iN μ xs).map fun r=>a::r
def mI(μ:aw)(d:D):Option PyData:=match d with
 |.obj n=>match μ[n]? with
  |some (.lst xs)=>(iN μ xs).map .list
  |_=>none
 |.tup xs=>(iN μ xs).map .tuple
 |d=>xJ μ d
section
variable{K:W.Frag}{w:World}{H:Hp}{α:List Addr}{μ:aw}
mutual
theorem iG:∀{d:D}{q:PyData}{v:V},xJ μ d=some q->aP K H α d v->og K H q v
 |.non,_,_,h,r=>by simp only[xJ]at h;cases h;simp only[og];exact bP.mp r
 |.bl b,_,_,h,r=>by simp only[xJ]at h;cases h;simp only[og];exact a8.mp r
 |.int b,_,_,h,r=>by simp only[xJ]at h;cases h;simp only[og];exact av.mp r
 |.str b,_,_,h,r=>by simp only[xJ]at h;cases h;simp only[og];exact br.mp r
 |.tup xs,_,_,h,r=>by
  simp only[xJ]at h;cases e:toPs μ xs with
  |none=>rw[e]at h;cases h
  |some ys=>
   rw[e]at h;cases h;obtain⟨a,vs,rfl,h1,h2⟩:=aI.mp r;simp only[og];exact⟨a,vs,rfl,h1,toPs_ok e h2⟩
 |.frz xs,_,_,h,r=>by
  simp only[xJ]at h;cases e:toPs μ xs with
  |none=>rw[e]at h;cases h
  |some ys=>
   rw[e]at h;cases h;obtain⟨a,vs,rfl,h1,h2⟩:=bw.mp r;simp only[og];exact⟨a,vs,rfl,h1.sq,toPs_ok e h2⟩
 |.obj n,_,_,h,r=>by simp only[xJ]at h;cases h
theorem toPs_ok:∀{ds:List D}{qs:List PyData}{vs:List V},toPs μ ds=some qs->Reps K H α ds vs->RdPs K H qs vs
 |[],_,_,h,r=>by simp only[toPs]at h;cases h;simp only[RdPs];simp only[Reps]at r;exact r
 |x::xs,_,_,h,r=>by
  simp only[toPs]at h;cases e1:xJ μ x with
  |none=>rw[e1]at h;cases h
  |some a=>
   cases e2:toPs μ xs with
   |none=>rw[e1,e2]at h;cases h
   |some ys=>
    rw[e1,e2]at h;cases h;simp only[Reps]at r;obtain⟨v,vr,rfl,r1,r2⟩:=r;simp only[RdPs];exact⟨v,vr,rfl,iG e1 r1,toPs_ok e2 r2⟩
end
theorem E5{d:D}{q:PyData}{v:V}(S:fF K w H α μ)(h:Ac μ d=some q)(r:aP K H α d v):og K H q v:=by
 cases d with
 |obj n=>
  unfold Ac at h;dsimp only at h;split at h
  ·rename_i xs hx;obtain⟨a,ea,us,hH,rr⟩:=S.at hx;obtain⟨a',rfl,ea'⟩:=aQ.mp r;rw[ea]at ea';cases ea';cases e:toPs μ xs with
   |none=>rw[e]at h;cases h
   |some ys=>
    rw[e]at h;cases h;simp only[og];exact⟨a,us,rfl,fT.of hH,toPs_ok e rr⟩
  ·cases h
 |non=>exact iG h r
 |bl b=>exact iG h r
 |int i=>exact iG h r
 |str x=>exact iG h r
 |tup xs=>exact iG h r
 |frz xs=>exact iG h r
theorem qW(S:fF K w H α μ):∀{ds:List D}{qs:List PyData}{vs:List V},iN μ ds=some qs->Reps K H α ds vs->RdPs K H qs vs
 |[],_,_,h,r=>by simp only[iN]at h;cases h;simp only[RdPs];simp only[Reps]at r;exact r
 |x::xs,_,_,h,r=>by
  simp only[iN]at h;cases e1:Ac μ x with
  |none=>rw[e1]at h;cases h
  |some a=>
   cases e2:iN μ xs with
   |none=>rw[e1,e2]at h;cases h
   |some ys=>
    rw[e1,e2]at h;cases h;simp only[Reps]at r;obtain⟨v,vr,rfl,r1,r2⟩:=r;simp only[RdPs];exact⟨v,vr,rfl,E5 S e1 r1,qW S e2 r2⟩
theorem mM{d:D}{q:PyData}{v:V}(S:fF K w H α μ)(h:mI μ d=some q)(r:aP K H α d v):og K H q v:=by
 cases d with
 |obj n=>
  unfold mI at h;dsimp only at h;split at h
  ·rename_i xs hx;obtain⟨a,ea,us,hH,rr⟩:=S.at hx;obtain⟨a',rfl,ea'⟩:=aQ.mp r;rw[ea]at ea';cases ea';cases e:iN μ xs with
   |none=>rw[e]at h;cases h
   |some ys=>
    rw[e]at h;cases h;simp only[og];exact⟨a,us,rfl,fT.of hH,qW S e rr⟩
  ·cases h
 |tup xs=>
  unfold mI at h;dsimp only at h;cases e:iN μ xs with
  |none=>rw[e]at h;cases h
  |some ys=>
   rw[e]at h;cases h;obtain⟨a,vs,rfl,h1,h2⟩:=aI.mp r;simp only[og];exact⟨a,vs,rfl,h1,qW S e h2⟩
 |non=>exact iG h r
 |bl b=>exact iG h r
 |int i=>exact iG h r
 |str x=>exact iG h r
 |frz xs=>exact iG h r
end
def kW(neg:Bool)(a b:D)(μ:aw):ai D:=match mI μ a,mI μ b with
 |some p,some q=>if eG p=true/\eG q=true then .ok (.bl (if neg then !PyData.eqv p q else PyData.eqv p q)) μ else .bad
 |_,_=>.bad
def uG:PyData->Option (List PyData)
 |.list xs=>some xs
 |.tuple xs=>some xs
 |_=>none
def qy(neg:Bool)(a b:D)(μ:aw):ai D:=match mI μ a,mI μ b with
 |some p,some q=>match uG q with
  |some xs=>if eG p=true/\eG q=true then .ok (.bl (if neg then !(xs.any fun y=>PyData.eqv y p) else xs.any fun y=>PyData.eqv y p)) μ else .bad
  |none=>.bad
 |_,_=>.bad
theorem Hh{p:Pa}{neg:Bool}:uu p (kW neg) (BK p.K neg):=by
 intro a b v y H α μ Q S ra rb P;unfold kW at P;split at P
 ·rename_i x z hx hz;split at P
  ·rename_i hf;exact⟨x,z,mM S hx ra,mM S hz rb,hf.1,hf.2,P.now S _ (a8.mpr rfl)⟩
  ·exact P.elim
 ·exact P.elim
theorem Hg{p:Pa}{neg:Bool}:uu p (qy neg) (BJ p.K neg):=by
 intro a b v y H α μ Q S ra rb P;unfold qy at P;split at P
 ·rename_i x z hx hz;split at P
  ·rename_i xs hxs;split at P
   ·rename_i hf;refine⟨x,z,xs,mM S hx ra,mM S hz rb,?_,hf.1,hf.2,P.now S _ (a8.mpr rfl)⟩;cases z <;> first|(cases hxs;exact .inl rfl)|(cases hxs;exact .inr rfl)|(cases hxs)
   ·exact P.elim
  ·exact P.elim
 ·exact P.elim
end L2
namespace L2
open PySem PySem.Spec PyProof.Rows RS
open PySem.SeqAt
open PySem.AutoSeq1 (wpAny_loadPart')
open PySem.MeetsSeq PySem.MeetsSeq2 PySem.MeetsSeq3
def xU(op:CmpOp)(A:Around)(s:Shared)(y x:Value)(k:Bool):Prop:=∀(prog:Program)(w:World)(E:Value->Shared->Prop)(Q:Value->Shared->Prop),Q (.bool k) s->wpAny (model prog w) A (richCompare op y x) Q E s
def qD(t:Bool):List (Bool×Bool)->Bool
 |[]=>t
 |(e,k)::r=>if e=true then qD t r else k
def pU(op:CmpOp)(A:Around)(s:Shared):List Value->List Value->List (Bool×Bool)->Prop
 |[],_,[]=>True
 |_,[],[]=>True
 |y::ys,x::xs,(e,k)::r=>EqAt A s y x e/\(e=false->xU op A s y x k)/\(e=true->pU op A s ys xs r)
 |_,_,_=>False
theorem vc(l b:Addr)(items items2:Array Value)(n n2:Nat)(dd dd2:Option Addr)(sl sl2:Array (Option Value))(eks:List (Bool×Bool)) :
  Meets (Builtin.«tuple.__lt__» ⟨[.ref l,.ref b],[]⟩)
   (fun A R s => s.heap.get? l = some { cls := .type "tuple", dict := dd, data := .seq items n, slots := sl } /\ s.heap.get? b = some { cls := .type "tuple", dict := dd2, data := .seq items2 n2, slots := sl2 } /\
    pU .Lt A.in1 s items.toList items2.toList eks/\R (.ok (.ret (.bool (qD (decide (items.size<items2.size)) eks)))) s):=
 .of_wp fun prog w A R s h=>by
  obtain⟨hp,g,d,tk,os⟩:=s;obtain⟨hl,hb,hc,h⟩:=h;have f2:=AutoSeq1.sub_tuple_tuple
  wp_walk using wpAny_loadPart' hl,wpAny_loadPart' hb,QP _ (fun rest b s'=>b.1=none/\s'=⟨hp,g,d,tk,os⟩/\∃(vs ws:List Value)(eks':List (Bool×Bool)),rest=vs.zip ws /\
   pU .Lt A.in1 ⟨hp,g,d,tk,os⟩ vs ws eks'/\R (.ok (.ret (.bool (qD (decide (items.size<items2.size)) eks')))) ⟨hp,g,d,tk,os⟩) _
  case turn=>
   rintro⟨y,x⟩ rest b s' ⟨hb',rfl,vs,ws,eks',hz,hci,hR⟩
   cases vs with
   |nil=>rw[List.zip_nil_left]at hz;cases hz
   |cons a vs=>
    cases ws with
    |nil=>rw[List.zip_nil_right]at hz;cases hz
    |cons c ws=>
     rw[RJ]at hz;injection hz with hyx hrest
     injection hyx with hy hx
     subst hy hx;cases eks' with
     |nil=>simp only[pU]at hci
     |cons ek eks'=>
      obtain⟨e,k⟩:=ek;simp only[pU]at hci;obtain⟨he,hk,hci⟩:=hci;refine Oc (he prog w _ _ ?_);cases e with
      |true=>
       have hR':R (.ok (.ret (.bool (qD (decide (items.size<items2.size)) eks')))) ⟨hp,g,d,tk,os⟩:=hR
       wp_walk
       exact⟨rfl,rfl,_,_,_,hrest,hci rfl,hR'⟩
      |false=>
       have hR':R (.ok (.ret (.bool k))) ⟨hp,g,d,tk,os⟩:=hR;have hri:=hk rfl prog w
       wp_walk using hri
       exact⟨_,rfl,by simpa using hR'⟩
  case fin=>
   rintro⟨b1,b2⟩ s' ⟨hb',rfl,vs,ws,eks',hz,hci,hR⟩
   simp only at hb';subst hb'
   have hv:eks'=[]:=by
    cases vs with
    |nil=>cases eks' with
     |nil=>rfl
     |cons _ _=>simp only[pU]at hci
    |cons a vs=>cases ws with
     |nil=>cases eks' with
      |nil=>rfl
      |cons _ _=>simp only[pU]at hci
     |cons c ws=>rw[RJ]at hz;cases hz
   subst hv;have hR':R (.ok (.ret (.bool (decide (items.size<items2.size))))) ⟨hp,g,d,tk,os⟩:=hR
   wp_walk
   exact⟨_,rfl,by simpa[Builtin.Tuple.tupleCompareSizes] using hR'⟩
  case h=>
   exact⟨rfl,rfl,items.toList,items2.toList,eks,rfl,hc,h⟩
theorem JI{prog:Program}{w:World}{A:Around}{E:Value->Shared->Prop}{s:Shared}{l b:Addr}{items items2:Array Value}{eks:List (Bool×Bool)}{Q:Value->Shared->Prop}(hl:IsTup s.heap l items)(hb:IsTup s.heap b items2)(hc:pU .Lt A.in1 s items.toList items2.toList eks)
  (hu:A.units<cLine) (h:Q (.bool (qD (decide (items.size<items2.size)) eks)) s):wpAny (model prog w) A (richCompare .Lt (.ref l) (.ref b)) Q E s:=by
 obtain⟨⟨cls,dd,data,sl⟩,ho,hc',n,hd⟩:=id hl;obtain⟨⟨cls2,dd2,data2,sl2⟩,ho2,hc2,n2,hd2⟩:=id hb;simp only at hc' hd hc2 hd2;subst hc' hd hc2 hd2
 exact richCompare_meets_room (op:=.Lt) ⟨_,ho,rfl⟩ ⟨_,ho2,rfl⟩ PySem.F.slot_tuple_lt PySem.F.entry_tuple_lt (PySem.F.args_tuple_lt_2 _ _) (vc l b items items2 n n2 dd dd2 sl sl2 eks)
  ⟨ho,ho2,hc,show Value.bool (qD (decide (items.size<items2.size)) eks)≠Value.notImplemented/\Q (.bool (qD (decide (items.size<items2.size)) eks)) s from⟨(fun x=>nomatch x),h⟩⟩ hu
end L2
namespace L2
open PySem PySem.Spec PyProof.Rows RS
def f7:CmpOp->Int->Int->Bool
 |.Lt,i,j=>decide (i<j)
 |.LtE,i,j=>decide (i<=j)
 |.Gt,i,j=>decide (i>j)
 |.GtE,i,j=>decide (i ≥ j)
 |_,_,_=>false
def EF:CmpOp->Bool
 |.Lt=>true
 |_=>false
mutual
def gu(op:CmpOp):PyData->PyData->Option Bool
 |.int i,.int j=>some (f7 op i j)
 |.tuple xs,.tuple ys=>if EF op=true then cmpPs op xs ys else none
 |_,_=>none
def cmpPs(op:CmpOp):List PyData->List PyData->Option Bool
 |[],ys=>some (f7 op 0 ys.length)
 |_::xs,[]=>some (f7 op (xs.length+1) 0)
 |x::xs,y::ys=>if PyData.eqv x y=true then cmpPs op xs ys else gu op x y
end
def vU:CmpOp->Bool
 |.Lt | .LtE | .Gt | .GtE=>true
 |_=>false
theorem Lr:∀{op:CmpOp}(ho:vU op=true){A:Around}{s:Shared}(a:Int)(t:Tok)(c:Int)(u:Tok),xU op A s (.int a t) (.int c u) (f7 op a c)
 |.Lt,_,A,s,a,t,c,u=>fun prog w E Q h=>(PyProof.Rows.lt_int h:wpAny (model prog w) A (compareOp .Lt (.int a t) (.int c u)) Q E s)
 |.LtE,_,A,s,a,t,c,u=>fun prog w E Q h=>(PyProof.Rows.le_int h:wpAny (model prog w) A (compareOp .LtE (.int a t) (.int c u)) Q E s)
 |.Gt,_,A,s,a,t,c,u=>fun prog w E Q h=>(PyProof.Rows.gt_int h:wpAny (model prog w) A (compareOp .Gt (.int a t) (.int c u)) Q E s)
 |.GtE,_,A,s,a,t,c,u=>fun prog w E Q h=>(PyProof.Rows.ge_int h:wpAny (model prog w) A (compareOp .GtE (.int a t) (.int c u)) Q E s)
theorem yT{op:CmpOp}(i j:Nat):f7 op ((i+1:Nat):Int) ((j+1:Nat):Int)=f7 op (i:Int) (j:Int):=by
 cases op <;> first|rfl|(unfold f7;simp)
theorem Lq:∀{op:CmpOp}(ho:EF op=true){A:Around}{s:Shared}{l b:Addr}{items items2:Array Value}{eks:List (Bool×Bool)}(hl:IsTup s.heap l items)(hb:IsTup s.heap b items2)(hc:pU op A.in1 s items.toList items2.toList eks)
  (hu:A.units<cLine),xU op A s (.ref l) (.ref b) (qD (f7 op items.size items2.size) eks)
 |.Lt,_,A,s,l,b,items,items2,eks,hl,hb,hc,hu=>fun prog w E Q h=>JI hl hb hc hu (by
   have e:decide (items.size<items2.size)=f7 .Lt items.size items2.size:=by (unfold f7;simp)
   rw[e];exact h)
mutual
theorem rh{op:CmpOp}(ho:vU op=true):∀(da db:PyData)(A:Around)(s:Shared)(a b:Value)(as bs:List Addr)(k:Bool),Reads s.heap a da as->Reads s.heap b db bs->da.canLay0=true->db.canLay0=true ->
  A.units+min da.depth db.depth<cLine->gu op da db=some k->xU op A s a b k
 |.int i,.int j,A,s,_,_,_,_,k,ra,rb,_,_,hu,hk=>by
  cases ra;cases rb;simp only[gu]at hk;cases hk;exact Lr ho _ _ _ _
 |.tuple xs,.tuple ys,A,s,_,_,_,_,k,ra,rb,ha,hb,hu,hk=>by
  simp only[gu]at hk
  have hlt:EF op=true:=by
   cases z:EF op with
   |true=>rfl
   |false=>rw[z,NM Ou]at hk;cases hk
  rw[NL hlt]at hk;cases ra with
  | @tuple l o vs n _ as₁ h1 h2 h3 h4=>
   cases rb with
   | @tuple l' o' vs' n' _ bs₁ k1 k2 k3 k4=>
    have n1:vs.size=xs.length:=by simpa using SeqAt.ReadsAll.length _ _ _ h4
    have n2:vs'.size=ys.length:=by simpa using SeqAt.ReadsAll.length _ _ _ k4
    obtain⟨eks,e1,e2⟩:=rc_readsAll ho xs ys A.in1 s vs.toList vs'.toList _ _ k h4 k4 (by simpa[PyData.canLay0] using ha) (by simpa[PyData.canLay0] using hb) (SeqAt.room_in hu) hk;have:=Lq hlt (A:=A) (s:=s) (l:=l) (b:=l') (items:=vs) (items2:=vs') (eks:=eks) ⟨_,h1,h2,_,h3⟩ ⟨_,k1,k2,_,k3⟩ e1 (SeqAt.room_here hu);rw[n1,n2,e2]at this;exact this
 |.none,_,_,_,_,_,_,_,_,_,_,_,_,_,hk=>by simp only[gu]at hk;cases hk
 |.bool _,_,_,_,_,_,_,_,_,_,_,_,_,_,hk=>by simp only[gu]at hk;cases hk
 |.str _,_,_,_,_,_,_,_,_,_,_,_,_,_,hk=>by simp only[gu]at hk;cases hk
 |.list _,_,_,_,_,_,_,_,_,_,_,_,_,_,hk=>by simp only[gu]at hk;cases hk
 |.dict _,_,_,_,_,_,_,_,_,_,_,_,_,_,hk=>by simp only[gu]at hk;cases hk
 |.int _,.none,_,_,_,_,_,_,_,_,_,_,_,_,hk=>by simp only[gu]at hk;cases hk
 |.int _,.bool _,_,_,_,_,_,_,_,_,_,_,_,_,hk=>by simp only[gu]at hk;cases hk
 |.int _,.str _,_,_,_,_,_,_,_,_,_,_,_,_,hk=>by simp only[gu]at hk;cases hk
 |.int _,.list _,_,_,_,_,_,_,_,_,_,_,_,_,hk=>by simp only[gu]at hk;cases hk
 |.int _,.tuple _,_,_,_,_,_,_,_,_,_,_,_,_,hk=>by simp only[gu]at hk;cases hk
 |.int _,.dict _,_,_,_,_,_,_,_,_,_,_,_,_,hk=>by simp only[gu]at hk;cases hk
 |.tuple _,.none,_,_,_,_,_,_,_,_,_,_,_,_,hk=>by simp only[gu]at hk;cases hk
 |.tuple _,.bool _,_,_,_,_,_,_,_,_,_,_,_,_,hk=>by simp only[gu]at hk;cases hk
 |.tuple _,.int _,_,_,_,_,_,_,_,_,_,_,_,_,hk=>by simp only[gu]at hk;cases hk
 |.tuple _,.str _,_,_,_,_,_,_,_,_,_,_,_,_,hk=>by simp only[gu]at hk;cases hk
 |.tuple _,.list _,_,_,_,_,_,_,_,_,_,_,_,_,hk=>by simp only[gu]at hk;cases hk
 |.tuple _,.dict _,_,_,_,_,_,_,_,_,_,_,_,_,hk=>by simp only[gu]at hk;cases hk
theorem rc_readsAll{op:CmpOp}(ho:vU op=true):∀(xs ys:List PyData)(A:Around)(s:Shared)(vs ws:List Value)(as bs:List Addr)(k:Bool),ReadsAll s.heap vs xs as->ReadsAll s.heap ws ys bs->PyData.canLayAll0 xs=true->PyData.canLayAll0 ys=true ->
  A.units+min (PyData.depthAll xs) (PyData.depthAll ys)<cLine->cmpPs op xs ys=some k->∃eks,pU op A s vs ws eks/\qD (f7 op (xs.length:Nat) (ys.length:Nat)) eks=k
 |[],ys,A,s,_,_,_,_,k,ra,rb,_,_,_,hk=>by
  cases ra;simp only[cmpPs]at hk;cases hk;exact⟨[],by unfold pU;trivial,rfl⟩
 |x::xs,[],A,s,_,_,_,_,k,ra,rb,_,_,_,hk=>by
  cases rb;simp only[cmpPs]at hk;cases hk;cases ra;refine⟨[],by unfold pU;trivial,?_⟩;simp[qD]
 |x::xs,y::ys,A,s,_,_,_,_,k,ra,rb,ha,hb,hu,hk=>by
  have ha':x.canLay0=true/\PyData.canLayAll0 xs=true:=by simpa[PyData.canLayAll0] using ha
  have hb':y.canLay0=true/\PyData.canLayAll0 ys=true:=by simpa[PyData.canLayAll0] using hb
  cases ra with
  |cons r rs=>
   cases rb with
   |cons r' rs'=>
    have he:=SeqAt.eqAt_reads x y A s _ _ _ _ r r' ha'.1 hb'.1 (SeqAt.room_head hu);simp only[cmpPs]at hk;cases e:PyData.eqv x y with
    |true=>
     rw[NL e]at hk;rw[e]at he;obtain⟨eks,e1,e2⟩:=rc_readsAll ho xs ys A s _ _ _ _ k rs rs' ha'.2 hb'.2 (SeqAt.room_tail hu) hk;refine⟨(true,false)::eks,⟨he,fun z=>(by cases z),fun _=>e1⟩,?_⟩;show qD (f7 op ((xs.length+1:Nat):Int) ((ys.length+1:Nat):Int)) eks=k;rw[yT];exact e2
    |false=>
     rw[NM (by rw[e];exact Ou)]at hk;rw[e]at he;refine⟨[(false,k)],⟨he,fun _=>rh ho x y A s _ _ _ _ k r r' ha'.1 hb'.1 (SeqAt.room_head hu) hk,fun z=>(by cases z)⟩,rfl⟩
end
def B0(K:W.Frag)(op:CmpOp):R2:=fun x y H Q=>∃a b k,og K H a x/\og K H b y/\eG a=true/\eG b=true/\gu op a b=some k/\Q (.bl k) H
theorem F4{X:Cx}(hu:X.A.units+64<cLine):∀{op:CmpOp},vU op=true->j8 X (compareOp op) (B0 X.K op):=by
 intro op ho pins s σ H x y v u Q I rx ry h;obtain⟨a,b,k,h1,h2,h3,h4,h5,q⟩:=h;obtain⟨as,r1⟩:=dB I a x v h1 rx;obtain⟨bs,r2⟩:=dB I b y u h2 ry;have:=rh ho a b X.A s v u as bs k r1 r2 (bU h3) (bU h4) (oR h3 hu) h5 X.prog X.w X.xe (EP X pins σ Q) ⟨.bl k,H,I,rfl,q⟩
 cases op <;> first
  |exact absurd ho (by decide)
  |exact this
def j9(op:CmpOp)(a b:D)(μ:aw):ai D:=match mI μ a,mI μ b with
 |some p,some q=>if eG p=true/\eG q=true then (match gu op p q with|some k=>.ok (.bl k) μ|none=>.bad) else .bad
 |_,_=>.bad
theorem JD{p:Pa}{op:CmpOp}:uu p (j9 op) (B0 p.K op):=by
 intro a b v y H α μ Q S ra rb P;unfold j9 at P;split at P
 ·rename_i x z hx hz;split at P
  ·rename_i hf;split at P
   ·rename_i k hk;exact⟨x,z,k,mM S hx ra,mM S hz rb,hf.1,hf.2,hk,P.now S _ (a8.mpr rfl)⟩
   ·exact P.elim
  ·exact P.elim
 ·exact P.elim
def dI(g:Int->Int->D)(a b:D)(μ:aw):ai D:=match a,b with
 |.int i,.int j=>.ok (g i j) μ
 |_,_=>.bad
open Classical in
def GN(C:Int->Int->Prop)(g:Int->Int->D)(a b:D)(μ:aw):ai D:=match a,b with
 |.int i,.int j=>if C i j then .ok (g i j) μ else .bad
 |_,_=>.bad
section
variable{p:Pa}
theorem MM{g:Int->Int->V}{gd:Int->Int->D}(h:∀i j H α,p.R H α (gd i j) (g i j)):uu p (dI gd) (Kt g):=by
 intro a b v y H α μ Q S ra rb P;unfold dI at P;split at P
 ·rename_i i j;exact⟨i,j,av.mp ra,av.mp rb,P.now S _ (h i j H α)⟩
 ·exact P.elim
theorem B3{C:Int->Int->Prop}{g:Int->Int->V}{gd:Int->Int->D}(h:∀i j H α,p.R H α (gd i j) (g i j)):uu p (GN C gd) (rI C g):=by
 intro a b v y H α μ Q S ra rb P;unfold GN at P;split at P
 ·rename_i i j;split at P
  ·rename_i hc;exact⟨i,j,av.mp ra,av.mp rb,hc,P.now S _ (h i j H α)⟩
  ·exact P.elim
 ·exact P.elim
def vL(a:D)(μ:aw):ai D:=match a with
 |.int i=>.ok (.int (-i)) μ
 |_=>.bad
theorem JF:Nl p vL (rU fun i=>.int (-i)):=by
 intro a v H α μ Q S ra P;unfold vL at P;split at P
 ·rename_i i;exact⟨i,av.mp ra,P.now S _ (av.mpr rfl)⟩
 ·exact P.elim
def G8(K:W.Frag):R2:=fun x y H Q=>∃a b xs ys,x=.ref a/\y=.ref b/\fS K H a xs/\fS K H b ys/\xs.length+ys.length<=sizeLine /\
 (xs=[]->Q (.ref b) H)/\(xs≠[]->ys=[]->Q (.ref a) H)/\(xs≠[]->ys≠[]->∀p,H p=none->Q (.ref p) (cq H p (.tup (xs++ys))))
theorem Eh{prog:Program}{w:World}{A:Around}{E:Value->Shared->Prop}{s:Shared}{t b:Addr}{ws:List Value}{Q:Value->Shared->Prop}(ht:IsTup s.heap t #[])(hb:IsTup s.heap b ws.toArray)(h0:Q (.ref b) s):wpAny (model prog w) A (binaryOp .Add (.ref t) (.ref b)) Q E s:=by
 obtain⟨⟨cls,dd,data,sl⟩,ho,hc,n,hd⟩:=id ht;obtain⟨⟨cls2,dd2,data2,sl2⟩,ho2,hc2,n2,hd2⟩:=id hb;simp only at hc hd hc2 hd2;subst hc hd hc2 hd2
 exact concat_meets ⟨_,ho,rfl⟩ ⟨_,ho2,rfl⟩ OQ seq_tuple_add OR OS (OT _ _)
  (tuple_addW0 t b #[] ws.toArray n n2 dd dd2 sl sl2 (by simp)) ⟨ho,ho2,h0⟩
theorem F6{X:Cx}:j8 X (binaryOp .Add) (G8 X.K):=by
 intro pins s σ H x y v u Q I rx ry h;obtain⟨a,b,xs,ys,rfl,rfl,ha,hb,hz,q0,q1,q2⟩:=h;by_cases hx:xs=[]
 ·cases rx;cases ry;obtain⟨its,r1,p1,_⟩:=I.tuple ha;obtain⟨its2,r2,p2,_⟩:=I.tuple hb;subst hx;cases r1;exact Eh p1 p2 ⟨.ref b,H,I,rfl,q0 rfl⟩
 ·exact F5 pins s σ H (.ref a) (.ref b) v u Q I rx ry ⟨a,b,xs,ys,rfl,rfl,ha,hb,hx,hz,q1 hx,q2 hx⟩
def B1(K:W.Frag):R2:=fun x y H Q=>Kt (fun i j=>.int (i+j)) x y H Q\/G8 K x y H Q\/KM x y H Q\/(∃i j,x=.str i/\y=.str j/\i.length+j.length<=sizeLine/\Q (.str (i++j)) H)
theorem F7{X:Cx}:j8 X (binaryOp .Add) (B1 X.K):=Jv.or (F6.or (Ju.or yD))
def cf(a b:D)(μ:aw):ai D:=match a,b with
 |.int i,.int j=>.ok (.int (i+j)) μ
 |.str x,.str y=>if x.length+y.length<=sizeLine then .ok (.str (x++y)) μ else .bad
 |.tup xs,.tup ys=>if xs.length+ys.length<=sizeLine then .ok (.tup (xs++ys)) μ else .bad
 |.obj m,.obj n=>match μ[m]?,μ[n]? with
  |some (.lst xs),some (.lst ys)=>if xs.length+ys.length<=sizeLine then .ok (.obj μ.length) (μ++[.lst (xs++ys)]) else .bad
  |_,_=>.bad
 |_,_=>.bad
theorem dh{H:Hp}{α:List Addr}{μ:aw}{n:Nat}{v:V}{xs:List D}(S:p.S H α μ)(r:p.R H α (.obj n) v)(hx:μ[n]?=some (.lst xs)):∃a us,v=.ref a/\α[n]?=some a/\H a=some (.lst us)/\p.Rs H α xs us:=by
 obtain⟨a,ea,us,hH,rr⟩:=S.at hx;obtain⟨a',rfl,ea'⟩:=aQ.mp r;rw[ea]at ea';cases ea';exact⟨a,us,rfl,ea,hH,rr⟩
theorem Reps.nil_iff'{K:W.Frag}{H:Hp}{α:List Addr}{xs:List D}{vs:List V}(r:Reps K H α xs vs):vs=[]↔xs=[]:=by
 have:=r.length;constructor
 ·intro h;subst h;simp at this;exact RK this.symm
 ·intro h;subst h;simp at this;exact this
theorem JE:uu p cf (B1 p.K):=by
 intro a b v y H α μ Q S ra rb P;unfold cf at P;split at P
 ·rename_i i j;exact .inl ⟨i,j,av.mp ra,av.mp rb,P.now S _ (av.mpr rfl)⟩
 ·rename_i i j;split at P
  ·rename_i hl;exact .inr (.inr (.inr ⟨i,j,br.mp ra,br.mp rb,hl,P.now S _ (br.mpr rfl)⟩))
  ·exact P.elim
 ·rename_i xs ys;split at P
  ·rename_i hl;obtain⟨a,us,rfl,h1,r1⟩:=aI.mp ra;obtain⟨b,ws,rfl,h2,r2⟩:=aI.mp rb;refine .inr (.inl ⟨a,b,us,ws,rfl,rfl,h1,h2,by rw[r1.length,r2.length];exact hl,fun e=>?_,fun _ e=>?_,fun _ _ q hq=>?_⟩)
   ·have ex:=r1.nil_iff'.mp e;subst ex;exact P.now S _ (by simpa using rb)
   ·have ey:=r2.nil_iff'.mp e;subst ey;exact P.now S _ (by simpa using ra)
   ·exact P _ _ (bK hq) (S.tuple hq) _ (aI.mpr ⟨q,_,rfl,fS.of bN,(r1.append r2).mono (bK hq)⟩)
  ·exact P.elim
 ·rename_i m n;split at P
  ·rename_i xs ys hx hy;split at P
   ·rename_i hl;obtain⟨a,us,rfl,a1,h1,r1⟩:=dh S ra hx;obtain⟨b,ws,rfl,b1,h2,r2⟩:=dh S rb hy;refine .inr (.inr (.inl ⟨a,b,us,ws,rfl,rfl,h1,h2,by rw[r1.length,r2.length];exact hl,fun q hq=>?_⟩));obtain⟨x1,x2,x3⟩:=dC S hq (r1.append r2);exact P _ _ x1 x2 _ x3
   ·exact P.elim
  ·exact P.elim
 ·exact P.elim
def G3:R2:=fun x y H Q=>rI vR (fun i j=>.int (i*j)) x y H Q\/KE x y H Q
theorem F2{X:Cx}:j8 X (binaryOp .Mult) G3:=Jq.or Jn
open Classical in
def sJ(a b:D)(μ:aw):ai D:=match a,b with
 |.int i,.int j=>if vR i j then .ok (.int (i*j)) μ else .bad
 |.obj m,.int k=>match μ[m]? with
  |some (.lst xs)=>if -(2^63)<=k/\k<2^63/\xs.length*k.toNat<=sizeLine then .ok (.obj μ.length) (μ++[.lst (List.replicate k.toNat xs).flatten]) else .bad
  |_=>.bad
 |_,_=>.bad
theorem Reps.rep{K:W.Frag}{H:Hp}{α:List Addr}{xs:List D}{vs:List V}(h:Reps K H α xs vs):∀k:Nat,Reps K H α (List.replicate k xs).flatten (List.replicate k vs).flatten
 |0=>by simpa using Reps.nil
 |k+1=>by
  rw[Pm,Pm,Po,Po];exact h.append (Reps.rep h k)
theorem JC:uu p sJ G3:=by
 intro a b v y H α μ Q S ra rb P;unfold sJ at P;split at P
 ·rename_i i j;split at P
  ·rename_i hc;exact .inl ⟨i,j,av.mp ra,av.mp rb,hc,P.now S _ (av.mpr rfl)⟩
  ·exact P.elim
 ·rename_i m k;split at P
  ·rename_i xs hx;split at P
   ·rename_i hl;obtain⟨a,us,rfl,a1,h1,r1⟩:=dh S ra hx;refine .inr ⟨a,k,us,rfl,av.mp rb,h1,hl.1,hl.2.1,by rw[r1.length];exact hl.2.2,fun q hq=>?_⟩;obtain⟨x1,x2,x3⟩:=dC S hq (r1.rep k.toNat);exact P _ _ x1 x2 _ x3
   ·exact P.elim
  ·exact P.elim
 ·exact P.elim
def gY(a b:D)(μ:aw):ai D:=match a,b with
 |.tup xs,.int i=>match atI xs i with
  |some d=>.ok d μ
  |none=>.bad
 |.frz xs,.int i=>match atI xs i with
  |some d=>.ok d μ
  |none=>.bad
 |.obj n,.int i=>match μ[n]? with
  |some (.lst xs)=>match atI xs i with
   |some d=>.ok d μ
   |none=>.bad
  |_=>.bad
 |_,_=>.bad
theorem Reps.atI{K:W.Frag}{H:Hp}{α:List Addr}{xs:List D}{vs:List V}{i:Int}{d:D}(r:Reps K H α xs vs)(h:L2.atI xs i=some d):∃v,L2.atI vs i=some v/\aP K H α d v:=by
 unfold L2.atI at h⊢;rw[r.length];cases e:y9 xs.length i with
 |none=>rw[e]at h;cases h
 |some j=>rw[e]at h;exact r.get h
theorem LF:uu p gY (Nk p.K):=by
 intro a b v y H α μ Q S ra rb P;unfold gY at P;split at P
 ·rename_i xs i;split at P
  ·rename_i d hd;obtain⟨a,us,rfl,h1,r1⟩:=aI.mp ra;obtain⟨v,hv,rv⟩:=r1.atI hd;exact .inr (.inl ⟨a,us,i,v,rfl,av.mp rb,h1,hv,P.now S _ rv⟩)
  ·exact P.elim
 ·rename_i xs i;split at P
  ·rename_i d hd;obtain⟨a,us,rfl,h1,r1⟩:=bw.mp ra;obtain⟨v,hv,rv⟩:=r1.atI hd;exact .inl ⟨a,us,i,v,rfl,av.mp rb,h1.sq,hv,P.now S _ rv⟩
  ·exact P.elim
 ·rename_i n i;split at P
  ·rename_i xs hx;split at P
   ·rename_i d hd;obtain⟨a,us,rfl,a1,h1,r1⟩:=dh S ra hx;obtain⟨v,hv,rv⟩:=r1.atI hd;exact .inl ⟨a,us,i,v,rfl,av.mp rb,fT.of h1,hv,P.now S _ rv⟩
   ·exact P.elim
  ·exact P.elim
 ·exact P.elim
theorem Lp{X:Cx}{a b:Expr}{fa fb:ME}{pos:Pos}(hK:X.K=p.K)(ha:PE X a (tD p fa))(hb:PE X b (tD p fb))(hs:va b):PE X (.Subscript a b pos) (tD p (aN gY fa fb)):=
 (Hd JU ha hb hs).weak fun σ H Q ⟨α, ρ, μ, S, R, P⟩ => ⟨α, ρ, μ, S, R, (aE.bind P).imp fun x μ1 H1 α1 X1 S1 P1 v rv => ⟨α1, ρ, μ1, S1, R.mono X1, (aE.bind P1).imp fun y μ2 H2 α2 X2 S2 P2 u ru => by
  rw[hK];exact LF x y v u H2 α2 μ2 Q S2 (rv.mono X2) ru P2⟩⟩
theorem mn{prog:Program}{w:World}{A:Around}{E:Value->Shared->Prop}{s:Shared}{t sl:Addr}{items:Array Value}{vl vu:Value}{lo hi:Option Int}{Q:Value->Shared->Prop}(ht:IsTup s.heap t items)(hs:s.heap.IsSliceOf sl vl vu .none)(pl:IsPart vl lo)(pu:IsPart vu hi)
  (hw:HT.sIx items.size 0 lo=0/\HT.sIx items.size items.size hi=items.size) (h:Q (.ref t) s):wpAny (model prog w) A (getItem (.ref t) (.ref sl)) Q E s:=by
 obtain⟨os,hos,hcs,hds⟩:=id hs;have hTs:s.TypeIs (.ref sl) "slice" := ⟨os,hos,hcs⟩;unfold getItem
 try with_reducible refine Od ?_
 first|refine Oc (Og ?_)|skip
 refine Oc (O3 ht.typeIs (by decide) ?_)
 refine Oc (O4 (name:=Str.ofString "__getitem__") ht.typeIs O5
  (O6 O5 ht.typeIs O7 ?_ (O8 _ _)))
 show wpAny _ _ (Builtin.Tuple.tupleItemsOf (.ref t) >>= _) _ _ s;refine Oc (tupleItemsOf_ ht ?_);refine Oc (O9 hTs ?_);rw[NL (by decide)];refine Oc (HT.sliceApplied_gen hs pl pu ?_)
 have hno:(((HT.sIx items.size 0 lo:Nat):Int) == 0&&(1:Int) == 1&&(HT.sIx items.size items.size hi-HT.sIx items.size 0 lo) == items.size)=true:=by
  rw[hw.1,hw.2];simp
 show wpAny _ _ (if (((HT.sIx items.size 0 lo:Nat):Int) == 0&&(1:Int) == 1&&(HT.sIx items.size items.size hi-HT.sIx items.size 0 lo) == items.size)=true then _ else _) _ _ s;rw[NL hno];refine Oc (m:=Builtin.Tuple.tupleIsExact (.ref t)) (Oc (O9 ht.typeIs (Og ?_)));rw[NL (by decide)];exact Oc (PR (Og ⟨_,rfl,Og h⟩))
def i9{β:Type}(xs:List β)(lo hi:Option Int):List β:=(xs.drop (HT.sIx xs.length 0 lo)).take (HT.sIx xs.length xs.length hi-HT.sIx xs.length 0 lo)
theorem yQ{β:Type}(xs:List β)(lo hi:Option Int)(h:HT.sIx xs.length 0 lo=0/\HT.sIx xs.length xs.length hi=xs.length):i9 xs lo hi=xs:=by
 unfold i9;rw[h.1,h.2];simp
def GZ(K:W.Frag):V->Option Int->Option Int->Hp->VK->Prop:=fun x lo hi H Q=>∃a xs,x=.ref a/\fS K H a xs /\
 (HT.sIx xs.length 0 lo=0/\HT.sIx xs.length xs.length hi=xs.length)/\Q (.ref a) H
theorem Fq{X:Cx}:EC X (GZ X.K):=by
 intro pins s σ H x v vl vu lo hi sl Q I rx hs pl pu h;obtain⟨a,xs,rfl,hx,hw,q⟩:=h;cases rx;obtain⟨its,r,ht,hz⟩:=I.tuple hx;have hlen:its.toArray.size=xs.length:=by rw[Ow];exact r.length.symm
 refine⟨"tuple",_,O5.lookup,ht.typeIs,?_⟩;exact mn ht hs pl pu (by rw[hlen];exact hw) ⟨.ref a,H,I,rfl,q⟩
def KD(K:W.Frag):V->Option Int->Option Int->Hp->VK->Prop:=fun x lo hi H Q=>KB K x lo hi H Q\/GZ K x lo hi H Q\/KC K x lo hi H Q
theorem MK{X:Cx}:EC X (KD X.K):=oz.or (Fq.or Ft)
abbrev MO:=Ro->aw->ai (Option Int)
def Ez:MO:=fun _ μ=>.ok none μ
def L9(d:D)(μ:aw):ai (Option Int):=match d with
 |.int i=>.ok (some i) μ
 |_=>.bad
def k6(f:ME):MO:=fun ρ μ=>(f ρ μ).bind L9
def GL(p:Pa)(f:MO):TO:=fun σ H Q=>∃α ρ μ,p.S H α μ/\dy p.K H α ρ σ/\aE p H α (f ρ μ) (fun o _ H' _=>Q o H')
theorem PO.weak{X:Cx}{e:Option Expr}{t t':TO}(h:PO X e t)(k:∀σ H Q,t' σ H Q->t σ H Q):PO X e t':=fun pins s σ H Q I q=>h pins s σ H Q I (k σ H Q q)
theorem Fp{X:Cx}:PO X none (GL p Ez):=FQ.weak fun σ H Q ⟨α,ρ,μ,S,R,P⟩=>P.now S
theorem Fo{X:Cx}{e:Expr}{f:ME}(h:PE X e (tD p f)):PO X (some e) (GL p (k6 f)):=(FP h).weak fun σ H Q ⟨α,ρ,μ,S,R,P⟩=>⟨α,ρ,μ,S,R,(aE.bind P).imp fun d μ1 H1 α1 X1 S1 P1 v rv=>by
 unfold L9 at P1;split at P1
 ·rename_i i;exact⟨i,av.mp rv,P1.now S1⟩
 ·exact P1.elim⟩
def Aa(a:D)(lo hi:Option Int)(μ:aw):ai D:=match a with
 |.tup xs=>.ok (.tup (i9 xs lo hi)) μ
 |.frz xs=>.ok (.obj μ.length) (μ++[.lst (i9 xs lo hi)])
 |.obj n=>match μ[n]? with
  |some (.lst xs)=>.ok (.obj μ.length) (μ++[.lst (i9 xs lo hi)])
  |_=>.bad
 |_=>.bad
def Et(fa:ME)(fl fh:MO):ME:=fun ρ μ=>(fa ρ μ).bind fun a μ1=>(fl ρ μ1).bind fun lo μ2=>(fh ρ μ2).bind fun hi μ3=>Aa a lo hi μ3
theorem Reps.cut'{K:W.Frag}{H:Hp}{α:List Addr}{xs:List D}{vs:List V}(r:Reps K H α xs vs)(lo hi:Option Int):Reps K H α (i9 xs lo hi) (vO vs lo hi):=by
 unfold i9 vO;rw[r.length];exact(r.drop _).take _
theorem Ln{a:D}{v:V}{lo hi:Option Int}{H:Hp}{α:List Addr}{μ:aw}{Q:VK}(S:p.S H α μ)(ra:p.R H α a v)(P:aE p H α (Aa a lo hi μ) (RV p Q)):KD p.K v lo hi H Q:=by
 unfold Aa at P;split at P
 ·rename_i xs;obtain⟨a,us,rfl,h1,r1⟩:=aI.mp ra;by_cases hw:HT.sIx us.length 0 lo=0/\HT.sIx us.length us.length hi=us.length
  ·refine .inr (.inl ⟨a,us,rfl,h1,hw,?_⟩);rw[r1.length]at hw;rw[yQ xs lo hi hw]at P;exact P.now S _ ra
  ·exact .inl ⟨a,us,rfl,h1,hw,fun q hq=>P _ _ (bK hq) (S.tuple hq) _ (aI.mpr ⟨q,_,rfl,fS.of bN,(r1.cut' lo hi).mono (bK hq)⟩)⟩
 ·rename_i xs;obtain⟨a,us,rfl,h1,r1⟩:=bw.mp ra;refine .inr (.inr ⟨a,us,rfl,h1.sq,fun q hq=>?_⟩);obtain⟨x1,x2,x3⟩:=dC S hq (r1.cut' lo hi);exact P _ _ x1 x2 _ x3
 ·rename_i n;split at P
  ·rename_i xs hx;obtain⟨a,us,rfl,a1,h1,r1⟩:=dh S ra hx;refine .inr (.inr ⟨a,us,rfl,fT.of h1,fun q hq=>?_⟩);obtain⟨x1,x2,x3⟩:=dC S hq (r1.cut' lo hi);exact P _ _ x1 x2 _ x3
  ·exact P.elim
 ·exact P.elim
theorem Dq{X:Cx}{e:Expr}{lo hi:Option Expr}{fa:ME}{fl fh:MO}{pos p2:Pos}(hK:X.K=p.K)(he:PE X e (tD p fa))(hl:PO X lo (GL p fl))(hu:PO X hi (GL p fh)):PE X (.Subscript e (.Slice lo hi none p2) pos) (tD p (Et fa fl fh)):=
 (DF MK he hl hu).weak fun σ H Q ⟨α, ρ, μ, S, R, P⟩ => ⟨α, ρ, μ, S, R, (aE.bind P).imp fun a μ1 H1 α1 X1 S1 P1 v rv => ⟨α1, ρ, μ1, S1, R.mono X1, (aE.bind P1).imp fun l μ2 H2 α2 X2 S2 P2 => ⟨α2, ρ, μ2, S2, (R.mono X1).mono X2, (aE.bind P2).imp fun h μ3 H3 α3 X3 S3 P3 => by
  rw[hK];exact Ln S3 ((rv.mono X2).mono X3) P3⟩⟩⟩
theorem lJ{β γ:Type}{f:β->Option γ}{g:β->γ}:∀{l:List β},(∀m∈l,f m=some (g m))->l.filterMap f=l.map g
 |[],_=>rfl
 |x::r,h=>by rw[NW,h x NX,Pe,lJ fun m hm=>h m (NY _ hm)]
theorem wH(xs:Array Value):((List.range xs.size).filterMap fun(m:Nat)=>xs[(((xs.size:Int)-1)+(m:Int)*(-1)).toNat]?).toArray=xs.toList.reverse.toArray:=by
 congr 1;apply Rh;intro i
 have hf:∀m∈List.range xs.size,xs[(((xs.size:Int)-1)+(m:Int)*(-1)).toNat]?=some (xs.toList.reverse.getD m .none):=by
  intro m hm;have hm':m<xs.size:=by simpa using hm
  have e:(((xs.size:Int)-1)+(m:Int)*(-1)).toNat=xs.size-1-m:=by omega
  rw[e,Rg,List.getElem?_reverse (by simpa using hm')];have h2:xs.size-1-m<xs.size:=by omega
  rw[QM h2];simp[N9,h2]
 rw[lJ hf];by_cases hi:i<xs.size
 ·rw[OK,Ri hi];simp only[Option.map_some];rw[Rg,Ry (by simpa using hi)];rfl
 ·rw[Rj (by simpa using hi),Rj (by simpa using hi)]
theorem o8{prog:Program}{w:World}{A:Around}{E:Value->Shared->Prop}{s:Shared}{sl:Addr}{n:Nat}{t:Tok}{Q:Int×Int×Nat->Shared->Prop}(hs:s.heap.IsSliceOf sl .none .none (.int (-1) t))
  (h:Q ((n:Int)-1,-1,n) s):wpAny (model prog w) A (Builtin.Slice.sliceApplied (.ref sl) (pure (n:Int))) Q E s:=by
 obtain⟨os,hos,hcs,hds⟩:=id hs;unfold Builtin.Slice.sliceApplied Builtin.Slice.sliceFields;refine Oc (Oc (OZ hos hds (x:=.none) rfl (Oc (OZ hos hds (x:=.none) rfl (Oc (OZ hos hds (x:=.int (-1) t) rfl (Og ?_)))))));refine Oc (slicePart_int ?_);show wpAny _ _ (if ((-1:Int) == 0)=true then _ else _) _ _ s;rw[NM (by decide)];refine Oc (OY (Oc (OY (Oc (Og ?_)))));show wpAny _ _ (match Builtin.Slice.sliceAdjust none none (-1) (n:Int) with|(lo,hi)=>pure (lo,(-1:Int),Builtin.Slice.slicePlaces lo hi (-1))) _ _ s;have e:Builtin.Slice.sliceAdjust none none (-1) (n:Int)=((n:Int)-1,-1):=by unfold Builtin.Slice.sliceAdjust;simp
 rw[e];show wpAny _ _ (pure ((n:Int)-1,(-1:Int),Builtin.Slice.slicePlaces ((n:Int)-1) (-1) (-1))) _ _ s
 have e2:Builtin.Slice.slicePlaces ((n:Int)-1) (-1) (-1)=n:=by
  unfold Builtin.Slice.slicePlaces;rw[NM (by decide)];split <;> simp <;> omega
 rw[e2];exact Og h
theorem n6{prog:Program}{w:World}{A:Around}{E:Value->Shared->Prop}{s:Shared}{t sl:Addr}{tk:Tok}{items:Array Value}{Q:Value->Shared->Prop}(ht:IsTup s.heap t items)(hs:s.heap.IsSliceOf sl .none .none (.int (-1) tk))
  (h:Q (.ref s.heap.objs.size) {s with heap:=s.heap.push {cls:=.type "tuple",data:=.seq items.toList.reverse.toArray}}) (hsz:items.size<=sizeLine):wpAny (model prog w) A (getItem (.ref t) (.ref sl)) Q E s:=by
 have htake:sizeOk (.seq items.toList.reverse.toArray):=by
  show items.toList.reverse.toArray.size<=sizeLine;simpa using hsz
 obtain⟨os,hos,hcs,hds⟩:=id hs;have hTs:s.TypeIs (.ref sl) "slice" := ⟨os,hos,hcs⟩;unfold getItem
 try with_reducible refine Od ?_
 first|refine Oc (Og ?_)|skip
 refine Oc (O3 ht.typeIs (by decide) ?_)
 refine Oc (O4 (name:=Str.ofString "__getitem__") ht.typeIs O5
  (O6 O5 ht.typeIs O7 ?_ (O8 _ _)))
 show wpAny _ _ (Builtin.Tuple.tupleItemsOf (.ref t) >>= _) _ _ s;refine Oc (tupleItemsOf_ ht ?_);refine Oc (O9 hTs ?_);rw[NL (by decide)];refine Oc (o8 hs ?_);show wpAny _ _ (if (((items.size:Int)-1) == 0&&(-1:Int) == 1&&items.size == items.size)=true then _ else _) _ _ s;rw[NM (by simp),wH]
 first
  |exact Oc (m:=Builtin.Tuple.tupleExact _) (Pc (Og ⟨_,rfl,Og h⟩) htake)
  |exact Oc (m:=Builtin.Tuple.tupleExact _) (Pc (Oc (Og (Og ⟨_,rfl,Og h⟩))) htake)
  |exact Oc (Oc (m:=Builtin.Tuple.tupleExact _) (Pc (Og (Og ⟨_,rfl,Og h⟩)) htake))
  |exact Oc (Oc (m:=Builtin.Tuple.tupleExact _) (Pc (Og ⟨_,rfl,Og h⟩) htake))
end
inductive BA(K:W.Frag)(H:Hp):V->String->Prop where
 |non:BA K H .non "NoneType"
 |bl (x:Bool):BA K H (.bl x) "bool"
 |int (i:Int):BA K H (.int i) "int"
 |str (x:Str):BA K H (.str x) "str"
 |lst {a:Addr}{xs:List V} (e:fT K H a xs):BA K H (.ref a) "list"
 |tup {a:Addr}{xs:List V} (e:fS K H a xs):BA K H (.ref a) "tuple"
 |dic {a:Addr}{kvs:List (sH×V)} (e:H a=some (.dK kvs)):BA K H (.ref a) "dict"
def kX (tn T:String):Bool:=tn == T || (tn == "bool" && T == "int")
def uM:List String:=["NoneType", "bool", "int", "str", "list", "tuple", "dict"]
theorem JN {K:W.Frag}:∀tn∈uM,∀T∈["int", "bool", "tuple", "list", "str", "dict"],W.kitOne K (.type tn) (.type T)=some (kX tn T):=by
 intro tn h1 T h2;simp only[uM,NZ,Qc,Qd]at h1 h2;rcases h1 with rfl|rfl|rfl|rfl|rfl|rfl|rfl <;> rcases h2 with rfl|rfl|rfl|rfl|rfl|rfl <;> rfl
theorem BA.mem{K:W.Frag}{H:Hp}{x:V}{tn:String}(h:BA K H x tn):tn∈uM:=by
 cases h <;> decide
section
variable{X:Cx}
theorem JV{pins:List (Addr×Obj)}{σ:St}{H:Hp}{s:Shared}{A:Around}{E:Value->Shared->Prop}{Q:Value->Shared->Prop}{c:Value}{b:Bool}{x:V}{u:Value}{tn:String}(I:aV X pins σ H s)(rx:bV x u)(ty:BA X.K H x tn)(e:W.kitOne X.K (.type tn) c=some b)(h:∀tk,Q (.bool b) {s with toks:=tk}) :
  wpAny (model X.prog X.w) A (call (.builtin "isinstance") [u,c]) Q E s:=by
 cases ty with
 |non=>cases (show u=Value.none from rx);exact W.kia_one W.kitx_none I.kIn True.intro e (fun z=>nomatch z) h
 |bl y=>cases (show u=Value.bool y from rx);exact W.kia_one W.kitx_bool I.kIn True.intro e (fun z=>nomatch z) h
 |int i=>obtain⟨t,q⟩:=(show ∃t,u=Value.int i t from rx);cases q;exact W.kia_one W.kitx_int I.kIn True.intro e (fun z=>nomatch z) h
 |str y=>obtain⟨t,q⟩:=(show ∃t,u=Value.str y t from rx);cases q;exact W.kia_one W.kitx_str I.kIn True.intro e (fun z=>nomatch z) h
 | @lst a xs ea=>
  cases (show u=Value.ref a from rx);obtain⟨its,_,⟨o,n,h1,h2,_⟩,_⟩:=I.list ea;exact W.kia_one W.kitx_list I.kIn ⟨o,h1,h2⟩ e (fun z=>nomatch z) h
 | @tup a xs ea=>
  cases (show u=Value.ref a from rx);obtain⟨its,_,⟨o,h1,h2,_⟩,_⟩:=I.tuple ea;exact W.kia_one W.kitx_tuple I.kIn ⟨o,h1,h2⟩ e (fun z=>nomatch z) h
 | @dic a kvs ea=>
  cases (show u=Value.ref a from rx);obtain⟨_,_,vs,_,p⟩:=(show eW X.prog X.w H s.heap a (.dK kvs) from I.hok a _ ea);obtain⟨o,es,ep,h1,h2,_⟩:=p;exact W.kia_one W.kitx_dict I.kIn ⟨o,h1,h2.1⟩ e (fun z=>nomatch z) h
def KJ(K:W.Frag):List V->Hp->VK->Prop:=fun xs H Q=>∃x T tn b,xs=[x,.ty T]/\BA K H x tn/\W.kitOne K (.type tn) (.type T)=some b/\Q (.bl b) H
theorem Ej:cZ X (.builtin "isinstance") (KJ X.K):=by
 intro pins s σ H xs us Q I r h;obtain⟨x,T,tn,b,rfl,ty,e,q⟩:=h;obtain⟨u,u2,rfl,ru,ru2⟩:=BR r;cases ru2;exact JV I ru ty e fun tk=>⟨.bl b,H,I.tok _,rfl,q⟩
end
def z6(μ:aw):D->Option String
 |.non=>some "NoneType"
 |.bl _=>some "bool"
 |.int _=>some "int"
 |.str _=>some "str"
 |.tup _=>some "tuple"
 |.frz _=>some "list"
 |.obj n=>match μ[n]? with
  |some (.lst _)=>some "list"
  |some .dic=>some "dict"
  |_=>none
theorem HY{p:Pa}{H:Hp}{α:List Addr}{μ:aw}{d:D}{v:V}{tn:String}(S:p.S H α μ)(r:p.R H α d v)(h:z6 μ d=some tn):BA p.K H v tn:=by
 cases d with
 |non=>cases h;rw[bP.mp r];exact .non
 |bl b=>cases h;rw[a8.mp r];exact .bl b
 |int b=>cases h;rw[av.mp r];exact .int b
 |str b=>cases h;rw[br.mp r];exact .str b
 |tup xs=>cases h;obtain⟨a,vs,rfl,h1,_⟩:=aI.mp r;exact .tup h1
 |frz xs=>cases h;obtain⟨a,vs,rfl,h1,_⟩:=bw.mp r;exact .lst h1.sq
 |obj n=>
  unfold z6 at h;dsimp only at h;split at h
  ·rename_i xs hx;cases h;obtain⟨a,us,rfl,a1,h1,_⟩:=dh S r hx;exact .lst (fT.of h1)
  ·rename_i hx;cases h;obtain⟨a,ea,q⟩:=S.at hx;obtain⟨a',rfl,ea'⟩:=aQ.mp r;rw[ea]at ea';cases ea';exact .dic q
  ·cases h
def gq(T:String)(d:D)(μ:aw):ai D:=match z6 μ d with
 |some tn=>.ok (.bl (kX tn T)) μ
 |none=>.bad
theorem IK {p:Pa}{X:Cx}{a:Expr}{fa:ME}{T:String}{xT:Str}{px pt pos:Pos} (hK:X.K=p.K) (hT:T∈["int", "bool", "tuple", "list", "str", "dict"]) (hg:Gl X "isinstance") (hm:X.mg "isinstance" = none) (hgT:Gl X xT) (hmT:X.mg xT=none) (hbT:bootBuiltins xT=some (.type T)) (ha:PE X a (tD p fa))
  (hnT:xT ≠ "__name__") (hdT:(xT == ("__debug__" : Str))=false) (hs1:starEach [a,.Name xT pt] X.env=(false,eval a X.env)::starEach [.Name xT pt] X.env) :
  PE X (.Call (.Name "isinstance" px) [a,.Name xT pt] [] pos) (tD p (mq (gq T) fa)):=by
 have hb:PE X (.Name xT pt) (tC (.ty T)):=zD hgT hmT hbT rfl hnT hdT;refine(nH Ej hg hm RL (jz ha (jz hb qR rfl) hs1) (by decide) (by decide) hs1 rfl).weak fun σ H Q ⟨α,ρ,μ,S,R,P⟩=>⟨α,ρ,μ,S,R,(aE.bind P).imp fun d μ1 H1 α1 X1 S1 P1 v rv=>?_⟩;show KJ X.K [v,.ty T] H1 Q;unfold gq at P1;split at P1
 ·rename_i tn htn;have ty:=HY S1 rv htn;rw[hK];exact⟨v,T,tn,_,rfl,ty,JN tn ty.mem T hT,P1.now S1 _ (a8.mpr rfl)⟩
 ·exact P1.elim
def mS:List D->Option (List Bool)
 |[]=>some []
 |.bl b::r=>(mS r).map (b::·)
 |_::_=>none
theorem rW:∀{ds:List D}{bs:List Bool},mS ds=some bs->ds=bs.map D.bl
 |[],bs,h=>by cases h;rfl
 |.bl b::r,bs,h=>by
  unfold mS at h;cases e:mS r with
  |none=>rw[e]at h;cases h
  |some cs=>rw[e]at h;cases h;rw[rW e];rfl
 |.non::r,bs,h=>by cases h
 |.int _::r,bs,h=>by cases h
 |.str _::r,bs,h=>by cases h
 |.tup _::r,bs,h=>by cases h
 |.frz _::r,bs,h=>by cases h
 |.obj _::r,bs,h=>by cases h
theorem Bt(bs:List Bool):mS (bs.map D.bl)=some bs:=by
 induction bs with
 |nil=>rfl
 |cons b r ih=>simp only[Pe,mS,ih];rfl
theorem Reps.bools{K:W.Frag}{H:Hp}{α:List Addr}:∀{bs:List Bool}{vs:List V},Reps K H α (bs.map D.bl) vs->vs=bs.map V.bl
 |[],vs,h=>by simp only[Pd,Reps]at h;exact h
 |n::ns,vs,h=>by
  simp only[Pe,Reps]at h;obtain⟨v,r,rfl,h1,h2⟩:=h;rw[a8.mp h1,Reps.bools h2];rfl
theorem yl{bs:List Bool}{us:List Value}(h:ba (bs.map V.bl) us):us=bs.map Value.bool:=by
 induction bs generalizing us with
 |nil=>cases h;rfl
 |cons b r ih=>
  cases h with
  |cons h1 h2=>cases h1;rw[ih h2];rfl
theorem Bw{bs:List Bool}:(List.range bs.length).all (fun i=>bs.getD i false)=bs.all id:=by
 induction bs with
 |nil=>rfl
 |cons b r ih=>
  rw[PD,Qh,Pj,RM,Pj];congr 1
section
variable{X:Cx}
def KN(K:W.Frag):List V->Hp->VK->Prop:=fun xs H Q=>∃(a:Addr)(bs:List Bool),xs=[.ref a]/\fT K H a (bs.map V.bl)/\Q (.bl (bs.all id)) H
theorem aV.fresh_it{pins:List (Addr×Obj)}{σ:St}{H:Hp}{s:Shared}(I:aV X pins σ H s){o:Obj}{h':Heap}{tk:Nat}(hk:∀b ob,b ∉ [s.heap.objs.size]->(s.heap.push o).get? b=some ob->h'.get? b=some ob):aV X pins σ H {s with heap:=h',toks:=tk}:=
 I.kept fun b ob e=>hk b ob (fun hm=>by
  have:b=s.heap.objs.size:=by simpa using hm
  subst this
  exact absurd (NO e) (NQ _)) (Oj _ e)
theorem Bs (hc:X.calm=true):cZ X (.builtin "all") (KN X.K):=by
 intro pins s σ H xs us Q I r h;obtain⟨a,bs,rfl,ha,q⟩:=h;obtain⟨u,rfl,ru⟩:=fD r;cases ru;obtain⟨its,rv,pl,hz⟩:=I.list ha;have hi:its=bs.map Value.bool:=yl rv
 have hne:a≠s.heap.objs.size:=by
  obtain⟨o,n,e,_⟩:=pl;exact NR (NO e)
 refine call_all_walk (Q7 pl.isList ?_);refine⟨s.heap.objs.size,[s.heap.objs.size,a],[s.heap.objs.size],_,_,_,fun i=>bs.getD i false,rfl,Q9 (A:=X.A.in1) (show X.A.in1.handled=none from I.ok.hd hc) _ a hne its.toArray,⟨⟨_,Ol _ rfl,rfl,rfl⟩,pl.isList.at fun o e=>Oj _ e⟩,?_,?_⟩
 ·intro i v s' Q' E' hP hQ;subst hi;have hv:(bs.map Value.bool)[i]?=some v:=by simpa using hP
  rw[OK]at hv;cases e:bs[i]? with
  |none=>rw[e]at hv;cases hv
  |some b=>
   rw[e]at hv;cases hv;have:bs.getD i false=b:=by rw[Rg,e];rfl
   dsimp only at hQ;rw[this]at hQ;exact N8 hQ
 ·intro h' tk hk;have e2:its.toArray.size=bs.length:=by subst hi;simp
  rw[e2,Bw];exact⟨.bl _,H,I.fresh_it hk,rfl,q⟩
end
def ot(ds:List D)(μ:aw):ai D:=match ds with
 |[.obj n]=>match μ[n]? with
  |some (.lst xs)=>match mS xs with
   |some bs=>.ok (.bl (bs.all id)) μ
   |none=>.bad
  |_=>.bad
 |_=>.bad
theorem JA{p:Pa}:vH p ot (KN p.K):=by
 intro ds vs H α μ Q S r P;unfold ot at P;split at P
 ·rename_i n;split at P
  ·rename_i xs hx;split at P
   ·rename_i bs hb;obtain⟨v,rfl,r1⟩:=r.one;obtain⟨a,us,rfl,a1,h1,rr⟩:=dh S r1 hx;rw[rW hb]at rr;exact⟨a,bs,rfl,by rw[<- rr.bools];exact fT.of h1,P.now S _ (a8.mpr rfl)⟩
   ·exact P.elim
  ·exact P.elim
 ·exact P.elim
def zh(ds:List D)(μ:aw):ai D:=match ds with
 |[.tup xs]=>.ok (.int xs.length) μ
 |[.frz xs]=>.ok (.int xs.length) μ
 |[.str x]=>if x.length<=sizeLine then .ok (.int x.length) μ else .bad
 |[.obj n]=>match μ[n]? with
  |some (.lst xs)=>.ok (.int xs.length) μ
  |_=>.bad
 |_=>.bad
theorem zE{p:Pa}:vH p zh (fun xs H Q=>∃x n,xs=[x]/\HN p.K x H n/\Q (.int n) H):=by
 intro ds vs H α μ Q S r P;unfold zh at P;split at P
 ·rename_i xs;obtain⟨v,rfl,r1⟩:=r.one;obtain⟨a,us,rfl,h1,rr⟩:=aI.mp r1;exact⟨_,xs.length,rfl,.inr ⟨us,h1,rr.length.symm⟩,P.now S _ (av.mpr rfl)⟩
 ·rename_i xs;obtain⟨v,rfl,r1⟩:=r.one;obtain⟨a,us,rfl,h1,rr⟩:=bw.mp r1;exact⟨_,xs.length,rfl,.inl ⟨us,h1.sq,rr.length.symm⟩,P.now S _ (av.mpr rfl)⟩
 ·rename_i x;obtain⟨v,rfl,r1⟩:=r.one;split at P
  ·rename_i hl;exact⟨v,x.length,rfl,by rw[br.mp r1];exact⟨hl,rfl⟩,P.now S _ (av.mpr rfl)⟩
  ·exact P.elim
 ·rename_i n;split at P
  ·rename_i xs hx;obtain⟨v,rfl,r1⟩:=r.one;obtain⟨a,us,rfl,a1,h1,rr⟩:=dh S r1 hx;exact⟨_,xs.length,rfl,.inl ⟨us,fT.of h1,rr.length.symm⟩,P.now S _ (av.mpr rfl)⟩
  ·exact P.elim
 ·exact P.elim
def gE(ds:List D)(μ:aw):ai D:=match ds with
 |[.tup xs]=>.ok (.tup xs) μ
 |[.frz xs]=>.ok (.tup xs) μ
 |[.obj n]=>match μ[n]? with
  |some (.lst xs)=>.ok (.tup xs) μ
  |_=>.bad
 |_=>.bad
theorem DL{p:Pa}:vH p gE (fun xs H Q=>∃q ys,xs=[.ref q]/\((fT p.K H q ys/\∀l,H l=none->Q (.ref l) (cq H l (.tup ys)))\/(fS p.K H q ys/\Q (.ref q) H))):=by
 intro ds vs H α μ Q S r P;unfold gE at P;split at P
 ·rename_i xs;obtain⟨v,rfl,r1⟩:=r.one;obtain⟨a,us,rfl,h1,rr⟩:=aI.mp r1;exact⟨a,us,rfl,.inr ⟨h1,P.now S _ r1⟩⟩
 ·rename_i xs;obtain⟨v,rfl,r1⟩:=r.one;obtain⟨a,us,rfl,h1,rr⟩:=bw.mp r1;exact⟨a,us,rfl,.inl ⟨h1.sq,fun q hq=>P _ _ (bK hq) (S.tuple hq) _ (aI.mpr ⟨q,us,rfl,fS.of bN,rr.mono (bK hq)⟩)⟩⟩
 ·rename_i n;split at P
  ·rename_i xs hx;obtain⟨v,rfl,r1⟩:=r.one;obtain⟨a,us,rfl,a1,h1,rr⟩:=dh S r1 hx;exact⟨a,us,rfl,.inl ⟨fT.of h1,fun q hq=>P _ _ (bK hq) (S.tuple hq) _ (aI.mpr ⟨q,us,rfl,fS.of bN,rr.mono (bK hq)⟩)⟩⟩
  ·exact P.elim
 ·exact P.elim
def lb(ds:List D)(μ:aw):ai D:=match ds with
 |[.tup xs]=>.ok (.obj μ.length) (μ++[.lst xs])
 |[.frz xs]=>.ok (.obj μ.length) (μ++[.lst xs])
 |[.obj n]=>match μ[n]? with
  |some (.lst xs)=>.ok (.obj μ.length) (μ++[.lst xs])
  |_=>.bad
 |_=>.bad
theorem Gc{p:Pa}:vH p lb (fun xs H Q=>∃q ys,xs=[.ref q]/\(fT p.K H q ys\/fS p.K H q ys)/\∀l,H l=none->Q (.ref l) (cq H l (.lst ys))):=by
 intro ds vs H α μ Q S r P;unfold lb at P;split at P
 ·rename_i xs;obtain⟨v,rfl,r1⟩:=r.one;obtain⟨a,us,rfl,h1,rr⟩:=aI.mp r1;refine⟨a,us,rfl,.inr h1,fun q hq=>?_⟩;obtain⟨x1,x2,x3⟩:=dC S hq rr;exact P _ _ x1 x2 _ x3
 ·rename_i xs;obtain⟨v,rfl,r1⟩:=r.one;obtain⟨a,us,rfl,h1,rr⟩:=bw.mp r1;refine⟨a,us,rfl,.inl h1.sq,fun q hq=>?_⟩;obtain⟨x1,x2,x3⟩:=dC S hq rr;exact P _ _ x1 x2 _ x3
 ·rename_i n;split at P
  ·rename_i xs hx;obtain⟨v,rfl,r1⟩:=r.one;obtain⟨a,us,rfl,a1,h1,rr⟩:=dh S r1 hx;refine⟨a,us,rfl,.inl (fT.of h1),fun q hq=>?_⟩;obtain⟨x1,x2,x3⟩:=dC S hq rr;exact P _ _ x1 x2 _ x3
  ·exact P.elim
 ·exact P.elim
def v3(ds:List D)(μ:aw):ai D:=match ds with
 |[.int i]=>.ok (.int i) μ
 |[.bl k]=>.ok (.int (if k then 1 else 0)) μ
 |_=>.bad
theorem Jz{p:Pa}:vH p v3 (fun xs H Q=>(∃i,xs=[.int i]/\Q (.int i) H)\/∃k,xs=[.bl k]/\Q (.int (if k then 1 else 0)) H):=by
 intro ds vs H α μ Q S r P;unfold v3 at P;split at P
 ·rename_i i;obtain⟨v,rfl,r1⟩:=r.one;exact .inl ⟨i,by rw[av.mp r1],P.now S _ (av.mpr rfl)⟩
 ·rename_i i;obtain⟨v,rfl,r1⟩:=r.one;exact .inr ⟨i,by rw[a8.mp r1],P.now S _ (av.mpr rfl)⟩
 ·exact P.elim
def Ca(ds:List D)(μ:aw):ai D:=match ds with
 |[.int i,.int j]=>.ok (.int (if j>i then j else i)) μ
 |_=>.bad
def B9(ds:List D)(μ:aw):ai D:=match ds with
 |[.int i,.int j]=>.ok (.int (if j<i then j else i)) μ
 |_=>.bad
theorem Ga{p:Pa}:vH p Ca (fun xs H Q=>∃i j,xs=[.int i,.int j]/\Q (.int (if j>i then j else i)) H):=by
 intro ds vs H α μ Q S r P;unfold Ca at P;split at P
 ·rename_i i j;obtain⟨v,u,rfl,r1,r2⟩:=r.two;exact⟨i,j,by rw[av.mp r1,av.mp r2],P.now S _ (av.mpr rfl)⟩
 ·exact P.elim
theorem F9{p:Pa}:vH p B9 (fun xs H Q=>∃i j,xs=[.int i,.int j]/\Q (.int (if j<i then j else i)) H):=by
 intro ds vs H α μ Q S r P;unfold B9 at P;split at P
 ·rename_i i j;obtain⟨v,u,rfl,r1,r2⟩:=r.two;exact⟨i,j,by rw[av.mp r1,av.mp r2],P.now S _ (av.mpr rfl)⟩
 ·exact P.elim
end L2
namespace L2
open PySem PySem.Spec PyProof.Rows RS
section
variable{prog:Program}{w:World}{A:Around}{E:Value->Shared->Prop}{s:Shared}
theorem xF {T:String} (hT:T = "list" \/ T = "tuple") {l:Addr}{vs:List Value}{Q:List Value->Shared->Prop}{o:Obj}{n:Nat} (ho:s.heap.get? l=some o) (hc:o.cls=.type T) (hd:o.data=.seq vs.toArray n)
  (h:Q vs {s with heap:=(s.heap.push (seqObj "list" #[] 0)).update s.heap.objs.size (Obj.mapSeq (·++vs.toArray))}) (hsz:vs.length<=sizeLine) :
  wpAny (model prog w) A (collect (.ref l)) Q E s:=by
 unfold collect;refine Oc (Q8 (QY entry_proto_collect' ?_));show wpAny _ _ (do again (.builtin "list.__iadd__" ⟨[<- newList [],.ref l],[]⟩)) _ _ s;refine Oc (Rp (Og ⟨Q5 _ (by decide +kernel),QY entry_list_iadd' ?_⟩));show wpAny _ _ (Builtin.List.listExtendWith (.ref s.heap.objs.size) (.ref l) (.ref s.heap.objs.size)) _ _ {s with heap:=s.heap.push (seqObj "list" #[] 0)};unfold Builtin.List.listExtendWith;have ho':(s.heap.push (seqObj "list" #[] 0)).get? l=some o:=Oj _ ho;refine Oc (O9 (T:=T) ⟨o,ho',hc⟩ ?_);have h1:(Value.type "list" == Value.type "list")=true:=by rfl
 have h2:(Value.type "tuple" == Value.type "tuple")=true:=by rfl
 rw[NL (by rcases hT with rfl|rfl <;> simp[h1,h2])];refine Oc (listItems_at ho' hd ?_);refine Oc (listItems_at (xs:=#[]) (n:=0) (Ol _ rfl) rfl ?_);rw[NM (by simp)];refine Oc (Rm (xs:=#[]) (n:=0) (Ol _ rfl) rfl ?_ (PV _) (by show (#[]++vs.toArray).size<=sizeLine+1;simp only[Array.size_append,Ow,Ql];omega));refine Og ?_
 show wpAny (model prog w) A (do
   let o <- load s.heap.objs.size
   match o.data with
   |.seq xs _=>pure xs.toList
   |_=>unsupported "internal:collect") Q E {s with heap:=(s.heap.push (seqObj "list" #[] 0)).update s.heap.objs.size (Obj.mapSeq (·++vs.toArray))}
 refine Oc (Oh (Rn (Ol _ rfl) _) ?_);show wpAny _ _ (pure ((#[]:Array Value)++vs.toArray).toList) Q E _;rw[show ((#[]:Array Value)++vs.toArray).toList=vs by simp];exact Og h
theorem vd {T:String} (hT:T = "list" \/ T = "tuple") {l:Addr}{vs:List Value}{ns:List Int}{Q:Value->Shared->Prop}{o:Obj}{n:Nat} (ho:s.heap.get? l=some o) (hc:o.cls=.type T) (hd:o.data=.seq vs.toArray n) (hI:IntsAre vs ns) (h64:vs.length<64)
  (h:∀(out:Array Value)(ns':List Int),IntsAre out.toList ns'->ns'.Perm ns->ns'.Pairwise (·<=·)->Q (.ref (s.heap.objs.size+1)) {s with heap:=sortedAll s.heap vs out}) :
  wpAny (model prog w) A (call (.builtin "sorted") [.ref l]) Q E s:=by
 have hsz0:vs.length<=sizeLine:=NU (NV h64) (by decide);refine RB kind_sorted plain_sorted entry_sorted (args_sorted1 _) ?_;unfold Builtin.«sorted»;refine Oc (m:=checkCount "sorted" 1 1 _) (Og ?_);refine Oc (xF hT ho hc hd ?_ hsz0);refine Oc (Rp ?_ hsz0)
 have hsz:((s.heap.push (seqObj "list" #[] 0)).update s.heap.objs.size (Obj.mapSeq (·++vs.toArray))).objs.size=s.heap.objs.size+1:=by
  rw[Rt,Rq]
 have hoL:(((s.heap.push (seqObj "list" #[] 0)).update s.heap.objs.size (Obj.mapSeq (·++vs.toArray))).push (seqObj "list" vs.toArray 0)).get? (s.heap.objs.size+1)=some (seqObj "list" vs.toArray 0):=by
  rw[<- hsz];exact Ol _ rfl
 show wpAny _ _ _ _ _ {s with heap:=((s.heap.push (seqObj "list" #[] 0)).update s.heap.objs.size (Obj.mapSeq (·++vs.toArray))).push (seqObj "list" vs.toArray 0)};rw[hsz];refine Oc (Od (O6 slot_list_sort ⟨_,hoL,rfl⟩ RC (list_sort_tree hoL hI h64 fun out ns' a1 a2 a3=>⟨_,rfl,?_⟩) (args_list_sort _)));exact Og ⟨_,rfl,h out ns' a1 a2 a3⟩
end
theorem sN{h:Heap}{vs:List Value}{out:Array Value}{b:Addr}{u:Obj}(e:h.get? b=some u):(sortedAll h vs out).get? b=some u:=by
 have hb:=NO e;have n1:b≠h.objs.size:=NR hb;have n2:b≠h.objs.size+1:=NR (PH hb);unfold sortedAll sortedHeap;rw[Ru _ _ _ _ n2];refine Oj _ (Oj _ ?_);rw[Ru _ _ _ _ n2];refine Oj _ ?_;rw[Ru _ _ _ _ n1];exact Oj _ e
theorem sO {h:Heap}{vs:List Value}{out:Array Value}:∃n,(sortedAll h vs out).get? (h.objs.size+1)=some (seqObj "list" out n):=by
 unfold sortedAll sortedHeap
 have hsz:((h.push (seqObj "list" #[] 0)).update h.objs.size (Obj.mapSeq (·++vs.toArray))).objs.size=h.objs.size+1:=by
  rw[Rt,Rq]
 have hoL:(((h.push (seqObj "list" #[] 0)).update h.objs.size (Obj.mapSeq (·++vs.toArray))).push (seqObj "list" vs.toArray 0)).get? (h.objs.size+1)=some (seqObj "list" vs.toArray 0):=by
  rw[<- hsz];exact Ol _ rfl
 have g1:=Rn hoL (fun _=>#[]);have g2:=Oj (seqObj "list" #[] 0) (Oj (seqObj "tuple" vs.toArray 0) g1);exact⟨_,Rn g2 (fun _=>out)⟩
theorem nM{us:List Value}{ns:List Int}(h:IntsAre us ns):ba (ns.map V.int) us:=by
 induction h with
 |nil=>exact .nil
 |cons n t _ ih=>exact .cons ⟨t,rfl⟩ ih
section
variable{X:Cx}
def Cz(K:W.Frag):List V->Hp->VK->Prop:=fun xs H Q=>∃(a:Addr)(ns:List Int),xs=[.ref a]/\(fT K H a (ns.map V.int)\/fS K H a (ns.map V.int))/\ns.length<64 /\
 ∀ns':List Int,ns'.Perm ns->ns'.Pairwise (·<=·)->∀l,H l=none->Q (.ref l) (cq H l (.lst (ns'.map V.int)))
theorem yY:cZ X (.builtin "sorted") (Cz X.K):=by
 intro pins s σ H xs us Q I r h;obtain⟨a,ns,rfl,ha,hl,q⟩:=h;obtain⟨u,rfl,ru⟩:=fD r;cases ru
 have core:∀(T:String),T = "list" \/ T = "tuple" -> ∀(its:List Value) (o:Obj) (n:Nat),s.heap.get? a=some o->o.cls=.type T->o.data=.seq its.toArray n->ba (ns.map V.int) its->wpAny (model X.prog X.w) X.A (call (.builtin "sorted") [.ref a]) (EP X pins σ Q) X.xe s:=by
  intro T hT its o n e1 e2 e3 rv;have hI:IntsAre its ns:=gk rv;refine vd hT e1 e2 e3 hI (by rw[hI.length];exact hl) fun out ns' h1 h2 h3=>?_;refine⟨.ref (s.heap.objs.size+1),cq H (s.heap.objs.size+1) (.lst (ns'.map V.int)),I.laid (t':=s.toks) (fun b ob e=>sN e) (Qg _) ?_,rfl,q ns' h2 h3 _ (I.hok.fresh (Qg _))⟩;obtain⟨m,e⟩:=sO (h:=s.heap) (vs:=its) (out:=out);refine⟨?_,out.toList,m,nM h1,by simpa using e⟩;rw[OO,h2.length_eq];exact NU (NV hl) (by decide)
 rcases ha with ha|ha
 ·obtain⟨its,rv,⟨o,n,e1,e2,_,e3⟩,hz⟩:=I.list ha;exact core "list" (.inl rfl) its o n e1 e2 e3 rv
 ·obtain⟨its,rv,⟨o,e1,e2,n,e3⟩,hz⟩:=I.tuple ha;exact core "tuple" (.inr rfl) its o n e1 e2 e3 rv
theorem tf{pins:List (Addr×Obj)}{σ:St}{H:Hp}{s:Shared}{r:Addr}{k:List Int}(I:aV X pins σ H s)(h:fS X.K H r (k.map V.int)):Tk X.prog X.w s.heap k r:=by
 obtain⟨its,rv,⟨o,e1,e2,n,e3⟩,_⟩:=I.tuple h;refine⟨o,its.toArray,n,e1,e2,e3,?_⟩
 have core:∀(k:List Int)(its:List Value),ba (k.map V.int) its->PySem.ItemsAre (intKind X.prog X.w) k its:=by
  intro k
  induction k with
  |nil=>intro its h;cases h;exact .nil
  |cons i r ih=>
   intro its h;cases h with
   |cons h1 h2=>
    obtain⟨t,rfl⟩:=h1;exact .cons (by simp[intKind,Value.isInt]) (ih _ h2)
 simpa using core k its rv
def kZ(qs:List KP):List V:=qs.map fun p=>V.ref p.2
theorem oI:∀{qs:List KP}{its:List Value},ba (kZ qs) its->its=qs.map fun p=>Value.ref p.2
 |[],its,h=>by cases h;rfl
 |q::qs,its,h=>by
  cases h with
  |cons h1 h2=>cases h1;rw[oI h2];rfl
theorem pF:∀(qs:List KP),ba (kZ qs) (aY qs)
 |[]=>.nil
 |q::qs=>.cons rfl (pF qs)
def BX(K:W.Frag)(w:World):List V->Hp->VK->Prop:=fun xs H Q=>∃(a:Addr)(qs:List KP),xs=[.ref a]/\(fT K H a (kZ qs)\/fS K H a (kZ qs))/\(∀p∈qs,p.1∈prs/\fS K H p.2 (p.1.map V.int)) /\
 ∀l,H l=none->Q (.ref l) (cq H l (.ext fun h=>bY w h l (gh qs)))
theorem Bk (hc:X.calm=true) (hu:X.A.units+64<cLine):cZ X (.type "set") (BX X.K X.w):=by
 intro pins s σ H xs us Q I r h;obtain⟨a,qs,rfl,ha,hq,q⟩:=h;obtain⟨u,rfl,ru⟩:=fD r;cases ru
 have fin:∀(h':Heap)(tk:Nat),bY X.w h' s.heap.objs.size (gh qs)->(∀b o,b<s.heap.objs.size->s.heap.get? b=some o->h'.get? b=some o)->EP X pins σ Q (.ref s.heap.objs.size) {s with heap:=h',toks:=tk}:=by
  intro h' tk hS hk;refine⟨.ref s.heap.objs.size,cq H s.heap.objs.size (.ext fun h=>bY X.w h s.heap.objs.size (gh qs)),I.laid (t':=tk) (fun b ob e=>hk b ob (NO e) e) (Om _) ?_,rfl,q _ (I.hok.fresh (Om _))⟩;refine⟨hS,?_,fun h1 h2 g k=>g.keeps k⟩;obtain⟨o,es,ep,t,Z,S0,_⟩:=hS;exact⟨o,S0.ho⟩
 rcases ha with ha|ha
 ·obtain⟨its,rv,pl,hz⟩:=I.list ha;exact xo (I.ok.hd hc) pl.isList (by simpa using oI rv) (fun p hp=>(hq p hp).1) (fun p hp=>tf I (hq p hp).2) (by omega) fin
 ·obtain⟨its,rv,pl,hz⟩:=I.tuple ha;exact vf (I.ok.hd hc) pl (by simpa using oI rv) (fun p hp=>(hq p hp).1) (fun p hp=>tf I (hq p hp).2) (by omega) fin
def Cy(K:W.Frag)(w:World):List V->Hp->VK->Prop:=fun xs H Q=>∃(a:Addr)(ps:List KP),xs=[.ref a]/\H a=some (.ext fun h=>bY w h a ps)/\(∀p∈ps,fS K H p.2 (p.1.map V.int)) /\
 ∀out:List KP,out.Perm ps->jg out->∀l,H l=none->Q (.ref l) (cq H l (.lst (kZ out)))
theorem yX (hc:X.calm=true):cZ X (.builtin "sorted") (Cy X.K X.w):=by
 intro pins s σ H xs us Q I r h;obtain⟨a,ps,rfl,ha,hT,q⟩:=h;obtain⟨u,rfl,ru⟩:=fD r;cases ru;obtain⟨hS,_⟩:=(show eW X.prog X.w H s.heap a (.ext fun h=>bY X.w h a ps) from I.hok a _ ha);refine yv (I.ok.hd hc) hS (fun p hp=>tf I (hT p hp)) fun out hp hr h' D hD hk hn=>?_;refine⟨.ref D,cq H D (.lst (kZ out)),I.laid (t':=s.toks) (fun b ob e=>hk b ob e) hD ?_,rfl,q out hp hr _ (I.hok.fresh hD)⟩;obtain⟨n,e⟩:=hn;refine⟨?_,aY out,n,pF out,e⟩
 have hl:out.length<=15:=by
  rw[hp.length_eq];obtain⟨o,es,ep,t,Z,S0,hk,hn⟩:=hS;exact lW hk hn
 unfold kZ;rw[OO];exact NU hl (by decide)
end
end L2
namespace L2
open PySem PySem.Spec PyProof.Rows RS
def iX(qs:List KI):List KI:=qs.foldl (fun ps p=>vP ps p.1 p.2) []
theorem vB(qs:List KI)(p:KI):iX (qs++[p])=vP (iX qs) p.1 p.2:=by unfold iX;rw[List.foldl_append];rfl
def di(ns:List Int):List Int:=ns.foldl (fun acc k=>if k∈acc then acc else acc++[k]) []
theorem nU:∀(qs ps:List KI),(qs.foldl (fun ps p=>vP ps p.1 p.2) ps).map (·.1)=(qs.map (·.1)).foldl (fun acc k=>if k∈acc then acc else acc++[k]) (ps.map (·.1))
 |[],ps=>rfl
 |q::qs,ps=>by
  rw[Pq,nU qs,Pe,Pq];congr 1;unfold vP;split
  ·rfl
  ·rw[Qy];rfl
theorem xI(qs:List KI):(iX qs).map (·.1)=di (qs.map (·.1)):=nU qs []
theorem nO {w:World}{h:Heap}{a:Addr} (e:h.get? a=some {cls:=.type "set",dict:=none,data:=.set #[] 0 (.fresh 0 0 (mw w))}):dA w h a []:=
 ⟨_,_,_,_,[],⟨e,⟨rfl,rfl,rfl⟩,rfl,⟨rfl,rfl,List.Pairwise.nil,fun z hz=>by simp at hz,rfl,fun z hz=>by simp at hz⟩,rfl,rfl,.inl ⟨rfl,by decide⟩,List.Perm.nil⟩,fun p hp=>by simp at hp,QH⟩
def oo(p:KI):Value:=Value.int p.1 p.2
section
variable{prog:Program}{w:World}{A:Around}{E:Value->Shared->Prop}{s:Shared}
theorem ui{qs:List KI}{S:Addr}{u:Nat}(hk:∀p∈qs,p.1∈ins):BP prog w u S (qs.map oo) (fun i h=>dA w h S (iX (qs.take i))):=by
 refine⟨fun i h h' hk' j1=>j1.keeps fun o e=>hk' S o (Om _) e,fun A i v s E Q hA hv j1 hQ=>?_⟩;rw[OK]at hv;cases e:qs[i]? with
 |none=>rw[e]at hv;cases hv
 |some p=>
  rw[e]at hv;cases hv;have hpm:p∈qs:=OM e;unfold setAdd oo;refine Od ?_;refine Oc (wpAny_pyHash_int ?_);refine GK (s:={s with toks:=s.toks+1}) j1 (hk p hpm) fun b h' hsb hS2=>?_;have etk:qs.take (i+1)=qs.take i++[p]:=by rw[Rb,e];rfl
  refine hQ b h' _ (Nat.le_add_right _ _) hsb (by rw[etk,vB];exact hS2)
theorem tU:∀(qs:List KI),IntsAre (qs.map oo) (qs.map (·.1))
 |[]=>.nil
 |p::qs=>.cons p.1 p.2 (tU qs)
theorem w4{vs:List Value}{ns:List Int}(h:IntsAre vs ns):∃qs:List KI,vs=qs.map oo/\qs.map (·.1)=ns:=by
 induction h with
 |nil=>exact⟨[],rfl,rfl⟩
 |cons n t _ ih=>
  obtain⟨qs,e1,e2⟩:=ih;exact⟨(n,t)::qs,by rw[e1];rfl,by rw[<- e2];rfl⟩
theorem xn{a:Addr}{ps:List KI}{Q:Value->Shared->Prop}(hh:A.handled=none)(S:dA w s.heap a ps)
  (h:∀(out:List Value) (ns':List Int),IntsAre out ns'->ns'.Perm (ps.map (·.1))->ns'.Pairwise (·<=·)->∀h' D,s.heap.objs.size<=D->(∀b u,s.heap.get? b=some u->h'.get? b=some u)->(∃n,h'.get? D=some (seqObj "list" out.toArray n))->Q (.ref D) {s with heap:=h'}) :
  wpAny (model prog w) A (call (.builtin "sorted") [.ref a]) Q E s:=by
 obtain⟨o,es,ep,t,Z,S,hk,hn⟩:=S;have h6:=lu hk hn;refine RB kind_sorted plain_sorted entry_sorted (args_sorted1 _) ?_;unfold Builtin.«sorted»;refine Oc (m:=checkCount "sorted" 1 1 _) (Og ?_);refine Oc (pK (by simpa using hh) S (by rw[S.len,OO];omega) fun qs hqs h1 k1 hsz=>?_);obtain⟨rs,q1,q2⟩:=nR hqs ps rfl;have q3:qs.map (·.2)=rs.map oo:=by rw[q2,Qi];rfl
 rw[q3];have hvl:(rs.map oo).length<=6:=by rw[OO,q1.length_eq];exact h6
 refine Oc (Rp ?_ (NU hvl (by decide)));have hoL:(h1.push (seqObj "list" (rs.map oo).toArray 0)).get? h1.objs.size=some (seqObj "list" (rs.map oo).toArray 0):=Ol _ rfl;have hnn:∀b u,h1.get? b=some u->b≠h1.objs.size:=fun b u q=>NR (NO q);refine Oc (Od (O6 slot_list_sort (s:={s with heap:=h1.push (seqObj "list" (rs.map oo).toArray 0)}) ⟨_,hoL,rfl⟩ RC ?body (args_list_sort _)))
 case body=>
  refine list_sort_tree (s:={s with heap:=h1.push (seqObj "list" (rs.map oo).toArray 0)}) hoL (tU rs) (by omega) fun out ns' a1 a2 a3=>⟨_,rfl,?_⟩;refine Og ⟨_,rfl,h out.toList ns' a1 (a2.trans (q1.map _)) a3 _ h1.objs.size hsz (fun b u q=>?_) ?_⟩
  ·have hb:=hnn b u (k1 b u q);unfold sortedHeap;rw[Ru _ _ _ _ hb];refine Oj _ (Oj _ ?_);rw[Ru _ _ _ _ hb];exact Oj _ (k1 b u q)
  ·unfold sortedHeap;have g1:=Rn hoL (fun _=>#[]);have g2:=Oj (seqObj "list" #[] 0) (Oj (seqObj "tuple" (rs.map oo).toArray 0) g1);exact⟨_,Rn g2 (fun _=>out)⟩
end
section
variable{X:Cx}
def BY(K:W.Frag)(w:World):List V->Hp->VK->Prop:=fun xs H Q=>∃(a:Addr)(ns:List Int),xs=[.ref a]/\(fT K H a (ns.map V.int)\/fS K H a (ns.map V.int))/\(∀n∈ns,n∈ins) /\
 ∀l,H l=none->∀ps:List KI,ps.map (·.1)=di ns->(∀p∈ps,p.1∈ins)->(ps.map (·.1)).Nodup->Q (.ref l) (cq H l (.ext fun h=>dA w h l ps))
theorem Bl (hc:X.calm=true) (hu:X.A.units+64<cLine):cZ X (.type "set") (BY X.K X.w):=by
 intro pins s σ H xs us Q I r h;obtain⟨a,ns,rfl,ha,hq,q⟩:=h;obtain⟨u,rfl,ru⟩:=fD r;cases ru
 have fin:∀(qs:List KI),qs.map (·.1)=ns->∀(h':Heap)(tk:Nat),dA X.w h' s.heap.objs.size (iX qs)->(∀b o,b<s.heap.objs.size->s.heap.get? b=some o->h'.get? b=some o)->EP X pins σ Q (.ref s.heap.objs.size) {s with heap:=h',toks:=tk}:=by
  intro qs eq h' tk hS hk;obtain⟨o,es,ep,t,Z,S0,k1,k2⟩:=id hS;refine⟨.ref s.heap.objs.size,cq H s.heap.objs.size (.ext fun h=>dA X.w h s.heap.objs.size (iX qs)),I.laid (t':=tk) (fun b ob e=>hk b ob (NO e) e) (Om _) ?_,rfl,q _ (I.hok.fresh (Om _)) _ (by rw[xI,eq]) k1 k2⟩;exact⟨hS,⟨o,S0.ho⟩,fun h1 h2 g k=>g.keeps k⟩
 rcases ha with ha|ha
 ·obtain ⟨its, rv, pl, hz⟩ := I.list ha;obtain⟨qs,e1,e2⟩:=w4 (gk rv);subst e1;have hsz:(qs.map oo).toArray.size=qs.length:=by rw[Ow,OO]
  refine nN (I.ok.hd hc) pl.isList (J:=fun i h=>dA X.w h s.heap.objs.size (iX (qs.take i))) ?_ (fun h' k e=>nO e) fun h' tk j1=>fin qs e2 h' tk ?_
  ·exact ui fun p hp=>hq _ (by rw[<- e2];exact Qv hp)
  ·rw[hsz,Rc]at j1;exact j1
 ·obtain ⟨its, rv, pl, hz⟩ := I.tuple ha;obtain⟨qs,e1,e2⟩:=w4 (gk rv);subst e1;have hsz:(qs.map oo).toArray.size=qs.length:=by rw[Ow,OO]
  refine mz (I.ok.hd hc) pl (J:=fun i h=>dA X.w h s.heap.objs.size (iX (qs.take i))) ?_ (fun h' k e=>nO e) fun h' tk j1=>fin qs e2 h' tk ?_
  ·exact ui fun p hp=>hq _ (by rw[<- e2];exact Qv hp)
  ·rw[hsz,Rc]at j1;exact j1
def Cw(w:World):List V->Hp->VK->Prop:=fun xs H Q=>∃(a:Addr)(ps:List KI),xs=[.ref a]/\H a=some (.ext fun h=>dA w h a ps) /\
 ∀ns':List Int,ns'.Perm (ps.map (·.1))->ns'.Pairwise (·<=·)->∀l,H l=none->Q (.ref l) (cq H l (.lst (ns'.map V.int)))
theorem yW (hc:X.calm=true):cZ X (.builtin "sorted") (Cw X.w):=by
 intro pins s σ H xs us Q I r h;obtain⟨a,ps,rfl,ha,q⟩:=h;obtain⟨u,rfl,ru⟩:=fD r;cases ru;obtain⟨hS,_⟩:=(show eW X.prog X.w H s.heap a (.ext fun h=>dA X.w h a ps) from I.hok a _ ha);obtain⟨o,es,ep,t,Z,S0,k1,k2⟩:=id hS;have h6:=lu k1 k2;refine xn (I.ok.hd hc) hS fun out ns' a1 a2 a3 h' D hD hk hn=>?_;refine⟨.ref D,cq H D (.lst (ns'.map V.int)),I.laid (t':=s.toks) (fun b ob e=>hk b ob e) hD ?_,rfl,q ns' a2 a3 _ (I.hok.fresh hD)⟩;obtain⟨n,e⟩:=hn;refine⟨?_,out,n,nM a1,e⟩;rw[OO,a2.length_eq,OO];exact NU h6 (by decide)
def G6(w:World):List V->Hp->VK->Prop:=fun xs H Q=>∃(a:Addr)(ps:List KI),xs=[.ref a]/\H a=some (.ext fun h=>dA w h a ps)/\Q (.int ps.length) H
theorem Bp:cZ X (.builtin "len") (G6 X.w):=by
 intro pins s σ H xs us Q I r h;obtain⟨a,ps,rfl,ha,q⟩:=h;obtain⟨u,rfl,ru⟩:=fD r;cases ru;obtain⟨hS,_⟩:=(show eW X.prog X.w H s.heap a (.ext fun h=>dA X.w h a ps) from I.hok a _ ha);obtain⟨o,es,ep,t,Z,S0,k1,k2⟩:=id hS;have h6:=lu k1 k2;have hsz:es.size=ps.length:=by rw[S0.tab.size.2,S0.len,OO]
 refine PySem.call_len_set S0.ho S0.ex S0.hd S0.fits (by rw[hsz];omega) ⟨.int ps.length,H,?_,⟨_,by rw[hsz]⟩,q⟩;exact I.tok _
def G7(w:World):List V->Hp->VK->Prop:=fun xs H Q=>∃(a:Addr)(ps:List KP),xs=[.ref a]/\H a=some (.ext fun h=>bY w h a ps)/\Q (.int ps.length) H
theorem Bq:cZ X (.builtin "len") (G7 X.w):=by
 intro pins s σ H xs us Q I r h;obtain⟨a,ps,rfl,ha,q⟩:=h;obtain⟨u,rfl,ru⟩:=fD r;cases ru;obtain⟨hS,_⟩:=(show eW X.prog X.w H s.heap a (.ext fun h=>bY X.w h a ps) from I.hok a _ ha);obtain⟨o,es,ep,t,Z,S0,k1,k2⟩:=id hS;have h6:=lW k1 k2;have hsz:es.size=ps.length:=by rw[S0.tab.size.2,S0.len,OO]
 refine PySem.call_len_set S0.ho S0.ex S0.hd S0.fits (by rw[hsz];omega) ⟨.int ps.length,H,?_,⟨_,by rw[hsz]⟩,q⟩;exact I.tok _
end
end L2
namespace L2
open PySem PySem.Spec PyProof.Rows RS
def bf(k:List Int):D:=.tup (k.map D.int)
def Ai:D->Option (List Int)
 |.tup [.int a,.int b]=>if 0<=a/\a<b/\b<6 then some [a,b] else none
 |_=>none
def pC:List D->Option (List (List Int))
 |[]=>some []
 |d::r=>match Ai d,pC r with
  |some k,some ks=>some (k::ks)
  |_,_=>none
theorem Gr{d:D}{k:List Int}(h:Ai d=some k):d=bf k/\k∈prs:=by
 unfold Ai at h;split at h
 ·split at h
  ·rename_i hc;cases h;exact⟨rfl,uT hc.1 hc.2.1 hc.2.2⟩
  ·cases h
 ·cases h
theorem A6{a b:Int}(h:0<=a/\a<b/\b<6):Ai (.tup [.int a,.int b])=some [a,b]:=by
 simp only[Ai,NL h]
theorem wW:∀{ds:List D}{ks:List (List Int)},pC ds=some ks->ds=ks.map bf/\∀k∈ks,k∈prs
 |[],ks,h=>by cases h;exact⟨rfl,fun k hk=>by simp at hk⟩
 |d::r,ks,h=>by
  unfold pC at h;split at h
  ·rename_i k ks' h1 h2;cases h;obtain⟨e1,e2⟩:=Gr h1;obtain⟨f1,f2⟩:=wW h2;refine⟨by rw[e1,f1];rfl,fun k' hk=>?_⟩;rcases NZ.mp hk with z|z
   ·rw[z];exact e2
   ·exact f2 k' z
  ·cases h
theorem wX:∀{ks:List (List Int)},(∀k∈ks,k∈prs)->pC (ks.map bf)=some ks
 |[],_=>rfl
 |k::ks,h=>by
  obtain⟨a,b,rfl,h1,h2,h3⟩:=gn (h k NX);simp only[Pe,pC,wX fun k' hk=>h k' (NY _ hk)];have:Ai (bf [a,b])=some [a,b]:=A6 ⟨h1,h2,h3⟩;rw[this]
def mL(ks:List (List Int))(k:List Int):List (List Int):=if k∈ks then ks else ks++[k]
def gD(ks:List (List Int)):List (List Int):=ks.foldl mL []
def bJ(ks:List (List Int)):List (List Int):=prs.filter fun k=>decide (k∈ks)
theorem rZ:∀(qs ps:List KP),(qs.foldl (fun ps p=>ja ps p.1 p.2) ps).map (·.1)=(qs.map (·.1)).foldl mL (ps.map (·.1))
 |[],ps=>rfl
 |q::qs,ps=>by
  rw[Pq,Pe,Pq,rZ qs];congr 1;unfold ja mL;split <;> simp
theorem Bj(qs:List KP):(gh qs).map (·.1)=gD (qs.map (·.1)):=rZ qs []
theorem Bi{ks:List (List Int)}{k:List Int}:k∈gD ks↔k∈ks:=by
 have core:∀(ks acc:List (List Int)),k∈ks.foldl mL acc↔k∈acc\/k∈ks:=by
  intro ks
  induction ks with
  |nil=>intro acc;simp
  |cons x r ih=>
   intro acc;rw[Pq,ih];unfold mL;split
   ·rename_i hx;constructor
    ·rintro (h | h)
     ·exact .inl h
     ·exact .inr (NY _ h)
    ·rintro (h | h)
     ·exact .inl h
     ·rcases NZ.mp h with z | z
      ·exact .inl (by rw[z];exact hx)
      ·exact .inr z
   ·simp[or_assoc]
 unfold gD;rw[core];simp
theorem mV:prs.Pairwise fun a b=>sE a<sE b:=by decide +kernel
theorem Ef{l m:List (List Int)}(hl:l.Pairwise fun a b=>sE a<sE b)(hm:m.Pairwise fun a b=>sE a<sE b)(h:∀k,k∈l↔k∈m):l=m:=by
 have nl:l.Nodup:=hl.imp fun h e=>by subst e;omega
 have nm:m.Nodup:=hm.imp fun h e=>by subst e;omega
 have hp:l.Perm m:=(QL nl nm).mpr h;refine hp.eq_of_pairwise (le:=fun a b=>sE a<sE b) (fun a b _ _ h1 h2=>by omega) hl hm
theorem Dj{out:List KP}{ps:List KP}(hk:∀p∈ps,p.1∈prs)(hp:out.Perm ps)(hr:jg out):out.map (·.1)=bJ (ps.map (·.1)):=by
 refine Ef ?_ (mV.filter _) fun k=>?_
 ·unfold jg at hr;rw[Rk];exact hr
 ·have h1 : k ∈ out.map (·.1) ↔ k ∈ ps.map (·.1) := (hp.map _).mem_iff;rw[h1];unfold bJ;rw[NS,RI];constructor
  ·intro h;refine⟨?_,h⟩;obtain⟨p,hp',rfl⟩:=Qr.mp h;exact hk p hp'
  ·exact fun h=>h.2
theorem pH(ks:List (List Int)):bJ (gD ks)=bJ ks:=by
 unfold bJ;apply List.filter_congr;intro k _;simp only[Bi]
theorem Reps.keys{K:W.Frag}{H:Hp}{α:List Addr}:∀{ks:List (List Int)}{vs:List V},Reps K H α (ks.map bf) vs->∃qs:List KP,qs.map (·.1)=ks/\vs=kZ qs/\∀p∈qs,fS K H p.2 (p.1.map V.int)
 |[],vs,h=>by simp only[Pd,Reps]at h;exact⟨[],rfl,h,fun p hp=>by simp at hp⟩
 |k::ks,vs,h=>by
  simp only[Pe,Reps]at h;obtain⟨v,r,rfl,h1,h2⟩:=h;obtain⟨a,us,rfl,h3,h4⟩:=aI.mp h1;obtain⟨qs,e1,e2,e3⟩:=Reps.keys h2;refine⟨(k,a)::qs,by rw[Pe,e1],by rw[e2];rfl,fun p hp=>?_⟩;rcases NZ.mp hp with z|z
  ·subst z;rw[<- h4.ints];exact h3
  ·exact e3 p z
theorem pN{K:W.Frag}{H:Hp}{α:List Addr}:∀{qs:List KP},(∀p∈qs,fS K H p.2 (p.1.map V.int))->Reps K H α ((qs.map (·.1)).map bf) (kZ qs)
 |[],_=>Reps.nil
 |q::qs,h=>by
  refine Reps.cons (aI.mpr ⟨q.2,_,rfl,h q NX,lD _⟩) (pN fun p hp=>h p (NY _ hp))
def kL:List D->Option (List Int)
 |[]=>some []
 |.int i::r=>(kL r).map (i::·)
 |_::_=>none
theorem hV:∀{ds:List D}{ns:List Int},kL ds=some ns->ds=ns.map D.int
 |[],bs,h=>by cases h;rfl
 |.int b::r,bs,h=>by
  unfold kL at h;cases e:kL r with
  |none=>rw[e]at h;cases h
  |some cs=>rw[e]at h;cases h;rw[hV e];rfl
 |.non::r,bs,h=>by cases h
 |.bl _::r,bs,h=>by cases h
 |.str _::r,bs,h=>by cases h
 |.tup _::r,bs,h=>by cases h
 |.frz _::r,bs,h=>by cases h
 |.obj _::r,bs,h=>by cases h
theorem yP{ns:List Int}(h:∀n∈ns,n∈ins):(di ns).length<=6:=by
 have core:∀(l acc:List Int),(∀n∈l,n∈ins)->(∀n∈acc,n∈ins)->acc.Nodup->(l.foldl (fun acc k=>if k∈acc then acc else acc++[k]) acc).length<=6:=by
  intro l
  induction l with
  |nil=>
   intro acc _ h2 h3;have:=jO h3 (l2:=ins) h2;exact this
  |cons x l ih=>
   intro acc h1 h2 h3;rw[Pq];have hx:=h1 x NX;split
   ·exact ih acc (fun n hn=>h1 n (NY _ hn)) h2 h3
   ·rename_i hxa;refine ih (acc++[x]) (fun n hn=>h1 n (NY _ hn)) (fun n hn=>?_) ?_
    ·rcases N1.mp hn with z | z
     ·exact h2 n z
     ·rw[PX.mp z];exact hx
    ·refine QU.mpr ⟨h3,by simp,fun u hu v hv e=>?_⟩;rw[PX.mp hv]at e;exact hxa (e ▸ hu)
 exact core ns [] h (fun n hn=>by simp at hn) QH
def BL(xs:List D):Option (List Int):=match kL xs with
 |some ns=>if ns.all (fun n=>decide (0<=n/\n<6))=true then some ns else none
 |none=>none
theorem Gw{xs:List D}{ns:List Int}(h:BL xs=some ns):xs=ns.map D.int/\∀n∈ns,n∈ins:=by
 unfold BL at h;split at h
 ·rename_i ms hm;split at h
  ·rename_i ha;cases h;refine⟨hV hm,fun n hn=>Gv.mpr ?_⟩;simpa using QN.mp ha n hn
  ·cases h
 ·cases h
def qI(xs:List D)(μ:aw):ai D:=match pC xs with
 |some ks=>.ok (.obj μ.length) (μ++[.set (gD ks)])
 |none=>match BL xs with
  |some ns=>.ok (.obj μ.length) (μ++[.iset (di ns)])
  |none=>.bad
def nt(ds:List D)(μ:aw):ai D:=match ds with
 |[.tup xs]=>qI xs μ
 |[.obj n]=>match μ[n]? with
  |some (.lst xs)=>qI xs μ
  |_=>.bad
 |_=>.bad
section
variable{p:Pa}
theorem Ge{H:Hp}{α:List Addr}{μ:aw}{ks:List (List Int)}{vs:List V}{Q:VK}(S:p.S H α μ)(hk:∀k∈ks,k∈prs)(r:p.Rs H α (ks.map bf) vs)(P:aE p H α (.ok (.obj μ.length) (μ++[.set (gD ks)])) (RV p Q)) :
  ∃qs:List KP,vs=kZ qs/\(∀q∈qs,q.1∈prs/\fS p.K H q.2 (q.1.map V.int))/\∀l,H l=none->Q (.ref l) (cq H l (.ext fun h=>bY p.w h l (gh qs))):=by
 obtain⟨qs,e1,e2,e3⟩:=r.keys;refine⟨qs,e2,fun q hq=>⟨hk _ (by rw[<- e1];exact Qv hq),e3 q hq⟩,fun l hl=>?_⟩;have x1:p.X H (cq H l (.ext fun h=>bY p.w h l (gh qs))) α (α++[l]):=(bK hl).trans (ji [l]);refine P _ _ x1 (S.more hl ⟨gh qs,by rw[Bj,e1],bN,fun q hq=>?_,vA,fun q hq=>?_⟩) _ (aQ.mpr ⟨l,rfl,by rw[<- S.len];simp⟩)
 ·exact hk _ (by rw[<- e1];exact Qv (mZ hq))
 ·exact x1.tup _ _ (e3 q (mZ hq))
theorem DP{H:Hp}{α:List Addr}{μ:aw}{ns:List Int}{Q:VK}(S:p.S H α μ)(hk:∀n∈ns,n∈ins)(P:aE p H α (.ok (.obj μ.length) (μ++[.iset (di ns)])) (RV p Q)) :
  ∀l,H l=none->∀ps:List KI,ps.map (·.1)=di ns->(∀p∈ps,p.1∈ins)->(ps.map (·.1)).Nodup->Q (.ref l) (cq H l (.ext fun h=>dA p.w h l ps)):=fun l hl ps e _ _=>by
 have x1:p.X H (cq H l (.ext fun h=>dA p.w h l ps)) α (α++[l]):=(bK hl).trans (ji [l]);exact P _ _ x1 (S.more hl ⟨ps,e,bN,yP hk⟩) _ (aQ.mpr ⟨l,rfl,by rw[<- S.len];simp⟩)
theorem Cr{H:Hp}{α:List Addr}{μ:aw}{xs:List D}{us:List V}{a:Addr}{Q:VK}(S:p.S H α μ)(h1:fT p.K H a us\/fS p.K H a us)(rr:p.Rs H α xs us)(P:aE p H α (qI xs μ) (RV p Q)):BX p.K p.w [.ref a] H Q\/BY p.K p.w [.ref a] H Q:=by
 unfold qI at P;split at P
 ·rename_i ks hks;obtain⟨f1,f2⟩:=wW hks;rw[f1]at rr;obtain⟨qs,e1,e2,e3⟩:=Ge S f2 rr P;exact .inl ⟨a,qs,rfl,by rw[<- e1];exact h1,e2,e3⟩
 ·split at P
  ·rename_i ns hns;obtain⟨f1,f2⟩:=Gw hns;rw[f1]at rr;exact .inr ⟨a,ns,rfl,by rw[<- rr.ints];exact h1,f2,DP S f2 P⟩
  ·exact P.elim
theorem Jw:vH p nt (fun xs H Q=>BX p.K p.w xs H Q\/BY p.K p.w xs H Q):=by
 intro ds vs H α μ Q S r P;unfold nt at P;split at P
 ·rename_i xs;obtain⟨v,rfl,r1⟩:=r.one;obtain⟨a,us,rfl,h1,rr⟩:=aI.mp r1;exact Cr S (.inr h1) rr P
 ·rename_i n;split at P
  ·rename_i xs hx;obtain⟨v,rfl,r1⟩:=r.one;obtain⟨a,us,rfl,a1,h1,rr⟩:=dh S r1 hx;exact Cr S (.inl (fT.of h1)) rr P
  ·exact P.elim
 ·exact P.elim
def gA(ns:List Int):List Int:=ns.mergeSort fun a b=>decide (a<=b)
theorem nF{ns ns':List Int}(hp:ns'.Perm ns)(hs:ns'.Pairwise (·<=·)):ns'=gA ns:=by
 have h1:(gA ns).Perm ns:=List.mergeSort_perm ns _
 have h2:(gA ns).Pairwise (·<=·):=by
  have:=List.pairwise_mergeSort (le:=fun(a b:Int)=>decide (a<=b)) (fun a b c h1 h2=>by simp at *;omega) (fun a b=>by simp;omega) ns;exact this.imp fun h=>by simpa using h
 exact(hp.trans h1.symm).eq_of_pairwise (fun a b _ _ h1 h2=>RN h1 h2) hs h2
def ck(ds:List D)(μ:aw):ai D:=match ds with
 |[.tup xs]=>match kL xs with
  |some ns=>if ns.length<64 then .ok (.obj μ.length) (μ++[.lst ((gA ns).map D.int)]) else .bad
  |none=>.bad
 |[.obj n]=>match μ[n]? with
  |some (.lst xs)=>match kL xs with
   |some ns=>if ns.length<64 then .ok (.obj μ.length) (μ++[.lst ((gA ns).map D.int)]) else .bad
   |none=>.bad
  |some (.set ks)=>.ok (.obj μ.length) (μ++[.lst ((bJ ks).map bf)])
  |some (.iset ks)=>.ok (.obj μ.length) (μ++[.lst ((gA ks).map D.int)])
  |_=>.bad
 |_=>.bad
theorem AU:vH p ck (fun xs H Q=>(Cz p.K xs H Q\/Cy p.K p.w xs H Q)\/Cw p.w xs H Q):=by
 intro ds vs H α μ Q S r P
 have fin:∀{ns:List Int},aE p H α (.ok (.obj μ.length) (μ++[.lst ((gA ns).map D.int)])) (RV p Q)->∀ns':List Int,ns'.Perm ns->ns'.Pairwise (·<=·)->∀l,H l=none->Q (.ref l) (cq H l (.lst (ns'.map V.int))):=by
  intro ns P ns' h1 h2 l hl;rw[<- nF h1 h2]at P;obtain⟨x1,x2,x3⟩:=dC S hl (lD ns');exact P _ _ x1 x2 _ x3
 unfold ck at P;split at P
 ·rename_i xs;split at P
  ·rename_i ns hns;split at P
   ·rename_i hl;obtain⟨v,rfl,r1⟩:=r.one;obtain⟨a,us,rfl,h1,rr⟩:=aI.mp r1;rw[hV hns]at rr;exact .inl (.inl ⟨a,ns,rfl,.inr (by rw[<- rr.ints];exact h1),hl,fin P⟩)
   ·exact P.elim
  ·exact P.elim
 ·rename_i n;split at P
  ·rename_i xs hx;split at P
   ·rename_i ns hns;split at P
    ·rename_i hl;obtain⟨v,rfl,r1⟩:=r.one;obtain⟨a,us,rfl,a1,h1,rr⟩:=dh S r1 hx;rw[hV hns]at rr;exact .inl (.inl ⟨a,ns,rfl,.inl (by rw[<- rr.ints];exact fT.of h1),hl,fin P⟩)
    ·exact P.elim
   ·exact P.elim
  ·rename_i ks hx;obtain⟨v,rfl,r1⟩:=r.one;obtain⟨a,ea,ps,e1,e2,e3,e4,e5⟩:=S.at hx;obtain⟨a',rfl,ea'⟩:=aQ.mp r1;rw[ea]at ea';cases ea';refine .inl (.inr ⟨a,ps,rfl,e2,e5,fun out hp hr l hl=>?_⟩);have rr:p.Rs H α ((out.map (·.1)).map bf) (kZ out):=pN fun q hq=>e5 q (hp.mem_iff.mp hq);rw[Dj e3 hp hr,e1]at rr;obtain⟨x1,x2,x3⟩:=dC S hl rr;exact P _ _ x1 x2 _ x3
  ·rename_i ks hx;obtain⟨v,rfl,r1⟩:=r.one;obtain⟨a,ea,ps,e1,e2,e3⟩:=S.at hx;obtain⟨a',rfl,ea'⟩:=aQ.mp r1;rw[ea]at ea';cases ea';exact .inr ⟨a,ps,rfl,e2,by rw[e1];exact fin P⟩
  ·exact P.elim
 ·exact P.elim
def jw(ds:List D)(μ:aw):ai D:=match ds with
 |[.obj n]=>match μ[n]? with
  |some (.iset ks)=>.ok (.int ks.length) μ
  |some (.set ks)=>.ok (.int ks.length) μ
  |_=>zh [.obj n] μ
 |_=>zh ds μ
theorem Jy:vH p jw (fun xs H Q=>((∃x n,xs=[x]/\HN p.K x H n/\Q (.int n) H)\/G6 p.w xs H Q)\/G7 p.w xs H Q):=by
 intro ds vs H α μ Q S r P;unfold jw at P;split at P
 ·rename_i n;split at P
  ·rename_i ks hx;obtain⟨v,rfl,r1⟩:=r.one;obtain⟨a,ea,ps,e1,e2,e3⟩:=S.at hx;obtain⟨a',rfl,ea'⟩:=aQ.mp r1;rw[ea]at ea';cases ea';refine .inl (.inr ⟨a,ps,rfl,e2,P.now S _ (av.mpr ?_)⟩);rw[<- e1,OO]
  ·rename_i ks hx;obtain⟨v,rfl,r1⟩:=r.one;obtain⟨a,ea,ps,e1,e2,e3⟩:=S.at hx;obtain⟨a',rfl,ea'⟩:=aQ.mp r1;rw[ea]at ea';cases ea';refine .inr ⟨a,ps,rfl,e2,P.now S _ (av.mpr ?_)⟩;rw[<- e1,OO]
  ·exact .inl (.inl (zE _ vs H α μ Q S r P))
 ·exact .inl (.inl (zE _ vs H α μ Q S r P))
end
section
variable{X:Cx}
def BZ(K:W.Frag):List V->Hp->VK->Prop:=fun xs H Q=>∃(a:Addr)(ns:List Int),xs=[.ref a]/\(fT K H a (ns.map V.int)\/fS K H a (ns.map V.int))/\ns≠[]/\∀m∈ns,(∀j∈ns,m<=j)->Q (.int m) H
def G5(K:W.Frag):List V->Hp->VK->Prop:=fun xs H Q=>∃(a:Addr)(ns:List Int),xs=[.ref a]/\(fT K H a (ns.map V.int)\/fS K H a (ns.map V.int))/\ns≠[]/\∀m∈ns,(∀j∈ns,j<=m)->Q (.int m) H
theorem lX{its:List Value}{ns:List Int}(h:IntsAre its ns){i:Nat}{v:Value}(e:its.toArray[i]?=some v):∃t,v=.int (ns.getD i 0) t/\i<ns.length:=by
 have e':its[i]?=some v:=by simpa using e
 obtain⟨n,t,rfl,hn⟩:=h.at i v e';have hi:=(N3.mp hn).1;exact⟨t,by rw[Rg,hn];rfl,hi⟩
theorem cO{ns:List Int}{i:Nat}(h:i<ns.length):ns.getD i 0∈ns:=by
 rw[Rg,Ry h];exact Rw h
theorem wU{ns:List Int}{j:Int}(h:j∈ns):∃i,i<ns.length/\ns.getD i 0=j:=by
 obtain⟨i,hi,e⟩:=List.getElem_of_mem h;exact⟨i,hi,by rw[Rg,Ry hi];exact e⟩
theorem uf (hc:X.calm=true):cZ X (.builtin "min") (BZ X.K):=by
 intro pins s σ H xs us Q I r h;obtain⟨a,ns,rfl,ha,hne,q⟩:=h;obtain⟨u,rfl,ru⟩:=fD r;cases ru;have hpos:0<ns.length:=RO.mpr hne
 have core:∀(its:List Value)(o:Obj),IntsAre its ns->∀v s',its.toArray[argBest (fun i j=>decide (ns.getD i 0<ns.getD j 0)) (its.toArray.size-1)]?=some v->Moved [s.heap.objs.size] (fun a b=>b=a) {s with heap:=s.heap.push o} s'->EP X pins σ Q v s':=by
  intro its o hI v s' hv hm;obtain⟨t,rfl,hi⟩:=lX hI hv;have hsz:its.toArray.size-1=ns.length-1:=by rw[Ow,hI.length]
  rw[hsz]at hi⊢;obtain⟨b1,b2⟩:=argBest_lt (fun i=>ns.getD i 0) (ns.length-1);obtain⟨hh,g,d,tk,os⟩:=s';have e1:g=s.gens:=hm.gens;have e2:d=s.drawn:=hm.drawn;have e3:os=s.os:=hm.os;subst e1 e2 e3;refine⟨.int _,H,I.fresh_it (o:=o) (h':=hh) (tk:=tk) fun b ob hb e=>hm.heap b ob hb e,⟨t,rfl⟩,q _ (cO hi) fun j hj=>?_⟩;obtain⟨i,hi',rfl⟩:=wU hj;exact b2 i (by omega)
 have cmp:∀(its:List Value),IntsAre its ns->CmpOf X.prog X.w X.A.in1 .Lt (fun i v=>its.toArray[i]?=some v) (fun i j=>decide (ns.getD i 0<ns.getD j 0)):=by
  intro its hI i j vi vj s' Q' E' h1 h2 hQ;obtain⟨t1,rfl,_⟩:=lX hI h1;obtain⟨t2,rfl,_⟩:=lX hI h2;exact(PyProof.Rows.lt_int hQ:wpAny _ _ (compareOp .Lt _ _) _ _ _)
 rcases ha with ha|ha
 ·obtain ⟨its, rv, pl, hz⟩ := I.list ha;have hI:IntsAre its ns:=gk rv
  have hne:a≠s.heap.objs.size:=by
   obtain⟨o,n,e,_⟩:=pl;exact NR (NO e)
  refine call_min_walkS (Q7 pl.isList ?_);refine⟨s.heap.objs.size,[s.heap.objs.size,a],[s.heap.objs.size],_,_,_,_,_,rfl,(Q9 (A:=X.A.in1) (show X.A.in1.handled=none from I.ok.hd hc) _ a hne its.toArray).toS,⟨⟨_,Ol _ rfl,rfl,rfl⟩,pl.isList.at fun o e=>Oj _ e⟩,fun b hb=>?_,by simp[hI.length,hpos],cmp its hI,fun v s' hv hm=>core its _ hI v s' hv hm⟩;obtain⟨o,n,e,_⟩:=pl;have:=NO e;simp only[NZ,Qc,Qd]at hb;show b<(s.heap.push _).objs.size;rw[Rq];rcases hb with rfl|rfl
  ·exact PF _
  ·exact PH this
 ·obtain ⟨its, rv, pl, hz⟩ := I.tuple ha;have hI:IntsAre its ns:=gk rv
  have hne:a≠s.heap.objs.size:=by
   obtain⟨o,e,_⟩:=pl;exact NR (NO e)
  refine call_min_walkS (Qb (show s.heap.IsTuple a its.toArray from pl) ?_);refine⟨s.heap.objs.size,[s.heap.objs.size,a],[s.heap.objs.size],_,_,_,_,_,rfl,(Ra (A:=X.A.in1) (show X.A.in1.handled=none from I.ok.hd hc) _ a hne its.toArray).toS,⟨⟨_,Ol _ rfl,rfl,rfl⟩,(show s.heap.IsTuple a its.toArray from pl).at fun o e=>Oj _ e⟩,fun b hb=>?_,by simp[hI.length,hpos],cmp its hI,fun v s' hv hm=>core its _ hI v s' hv hm⟩;obtain⟨o,e,_⟩:=pl;have:=NO e;simp only[NZ,Qc,Qd]at hb;show b<(s.heap.push _).objs.size;rw[Rq];rcases hb with rfl|rfl
  ·exact PF _
  ·exact PH this
theorem Bo (hc:X.calm=true):cZ X (.builtin "max") (G5 X.K):=by
 intro pins s σ H xs us Q I r h;obtain⟨a,ns,rfl,ha,hne,q⟩:=h;obtain⟨u,rfl,ru⟩:=fD r;cases ru;have hpos:0<ns.length:=RO.mpr hne
 have core:∀(its:List Value)(o:Obj),IntsAre its ns->∀v s',its.toArray[argBest (fun i j=>decide (ns.getD i 0>ns.getD j 0)) (its.toArray.size-1)]?=some v->Moved [s.heap.objs.size] (fun a b=>b=a) {s with heap:=s.heap.push o} s'->EP X pins σ Q v s':=by
  intro its o hI v s' hv hm;obtain⟨t,rfl,hi⟩:=lX hI hv;have hsz:its.toArray.size-1=ns.length-1:=by rw[Ow,hI.length]
  rw[hsz]at hi⊢;obtain⟨b1,b2⟩:=argBest_gt (fun i=>ns.getD i 0) (ns.length-1);obtain⟨hh,g,d,tk,os⟩:=s';have e1:g=s.gens:=hm.gens;have e2:d=s.drawn:=hm.drawn;have e3:os=s.os:=hm.os;subst e1 e2 e3;refine⟨.int _,H,I.fresh_it (o:=o) (h':=hh) (tk:=tk) fun b ob hb e=>hm.heap b ob hb e,⟨t,rfl⟩,q _ (cO hi) fun j hj=>?_⟩;obtain⟨i,hi',rfl⟩:=wU hj;exact b2 i (by omega)
 have cmp:∀(its:List Value),IntsAre its ns->CmpOf X.prog X.w X.A.in1 .Gt (fun i v=>its.toArray[i]?=some v) (fun i j=>decide (ns.getD i 0>ns.getD j 0)):=by
  intro its hI i j vi vj s' Q' E' h1 h2 hQ;obtain⟨t1,rfl,_⟩:=lX hI h1;obtain⟨t2,rfl,_⟩:=lX hI h2;exact(PyProof.Rows.gt_int hQ:wpAny _ _ (compareOp .Gt _ _) _ _ _)
 rcases ha with ha|ha
 ·obtain ⟨its, rv, pl, hz⟩ := I.list ha;have hI:IntsAre its ns:=gk rv
  have hne:a≠s.heap.objs.size:=by
   obtain⟨o,n,e,_⟩:=pl;exact NR (NO e)
  refine call_max_walkS (Q7 pl.isList ?_);refine⟨s.heap.objs.size,[s.heap.objs.size,a],[s.heap.objs.size],_,_,_,_,_,rfl,(Q9 (A:=X.A.in1) (show X.A.in1.handled=none from I.ok.hd hc) _ a hne its.toArray).toS,⟨⟨_,Ol _ rfl,rfl,rfl⟩,pl.isList.at fun o e=>Oj _ e⟩,fun b hb=>?_,by simp[hI.length,hpos],cmp its hI,fun v s' hv hm=>core its _ hI v s' hv hm⟩;obtain⟨o,n,e,_⟩:=pl;have:=NO e;simp only[NZ,Qc,Qd]at hb;show b<(s.heap.push _).objs.size;rw[Rq];rcases hb with rfl|rfl
  ·exact PF _
  ·exact PH this
 ·obtain ⟨its, rv, pl, hz⟩ := I.tuple ha;have hI:IntsAre its ns:=gk rv
  have hne:a≠s.heap.objs.size:=by
   obtain⟨o,e,_⟩:=pl;exact NR (NO e)
  refine call_max_walkS (Qb (show s.heap.IsTuple a its.toArray from pl) ?_);refine⟨s.heap.objs.size,[s.heap.objs.size,a],[s.heap.objs.size],_,_,_,_,_,rfl,(Ra (A:=X.A.in1) (show X.A.in1.handled=none from I.ok.hd hc) _ a hne its.toArray).toS,⟨⟨_,Ol _ rfl,rfl,rfl⟩,(show s.heap.IsTuple a its.toArray from pl).at fun o e=>Oj _ e⟩,fun b hb=>?_,by simp[hI.length,hpos],cmp its hI,fun v s' hv hm=>core its _ hI v s' hv hm⟩;obtain⟨o,e,_⟩:=pl;have:=NO e;simp only[NZ,Qc,Qd]at hb;show b<(s.heap.push _).objs.size;rw[Rq];rcases hb with rfl|rfl
  ·exact PF _
  ·exact PH this
end
def KS:List Int->Int
 |[]=>0
 |x::r=>r.foldl min x
def KU:List Int->Int
 |[]=>0
 |x::r=>r.foldl max x
theorem Bd(r:List Int):∀x:Int,(r.foldl min x=x\/r.foldl min x∈r)/\r.foldl min x<=x/\∀j∈r,r.foldl min x<=j:=by
 induction r with
 |nil=>intro x;exact⟨.inl rfl,Int.le_refl _,fun j hj=>by simp at hj⟩
 |cons y r ih=>
  intro x;obtain⟨h1,h2,h3⟩:=ih (min x y);rw[Pq];have m1:min x y<=x:=Int.min_le_left _ _;have m2:min x y<=y:=Int.min_le_right _ _;refine⟨?_,by omega,fun j hj=>?_⟩
  ·rcases h1 with h | h
   ·rcases (by omega : min x y = x \/ min x y = y) with e | e
    ·exact .inl (by omega)
    ·exact .inr (by rw[h,e];exact NX)
   ·exact .inr (NY _ h)
  ·rcases NZ.mp hj with e | e
   ·rw[e];omega
   ·exact h3 j e
theorem Be(r:List Int):∀x:Int,(r.foldl max x=x\/r.foldl max x∈r)/\x<=r.foldl max x/\∀j∈r,j<=r.foldl max x:=by
 induction r with
 |nil=>intro x;exact⟨.inl rfl,Int.le_refl _,fun j hj=>by simp at hj⟩
 |cons y r ih=>
  intro x;obtain⟨h1,h2,h3⟩:=ih (max x y);rw[Pq];have m1:x<=max x y:=Int.le_max_left _ _;have m2:y<=max x y:=Int.le_max_right _ _;refine⟨?_,by omega,fun j hj=>?_⟩
  ·rcases h1 with h | h
   ·rcases (by omega : max x y = x \/ max x y = y) with e | e
    ·exact .inl (by omega)
    ·exact .inr (by rw[h,e];exact NX)
   ·exact .inr (NY _ h)
  ·rcases NZ.mp hj with e | e
   ·rw[e];omega
   ·exact h3 j e
theorem Gj{ns:List Int}{m:Int}(h:m∈ns)(hm:∀j∈ns,m<=j):m=KS ns:=by
 cases ns with
 |nil=>simp at h
 |cons x r=>
  obtain⟨h1,h2,h3⟩:=Bd r x
  have a1:m<=r.foldl min x:=by
   rcases h1 with e|e
   ·rw[e];exact hm x NX
   ·exact hm _ (NY _ e)
  have a2:r.foldl min x<=m:=by
   rcases NZ.mp h with e|e
   ·rw[e];exact h2
   ·exact h3 m e
  exact RN a1 a2
theorem Gk{ns:List Int}{m:Int}(h:m∈ns)(hm:∀j∈ns,j<=m):m=KU ns:=by
 cases ns with
 |nil=>simp at h
 |cons x r=>
  obtain⟨h1,h2,h3⟩:=Be r x
  have a1:r.foldl max x<=m:=by
   rcases h1 with e|e
   ·rw[e];exact hm x NX
   ·exact hm _ (NY _ e)
  have a2:m<=r.foldl max x:=by
   rcases NZ.mp h with e|e
   ·rw[e];exact h2
   ·exact h3 m e
  exact RN a2 a1
def BG(d:D)(μ:aw):Option (List Int):=match d with
 |.tup xs=>kL xs
 |.frz xs=>kL xs
 |.obj n=>match μ[n]? with
  |some (.lst xs)=>kL xs
  |_=>none
 |_=>none
theorem zz{p:Pa}{H:Hp}{α:List Addr}{μ:aw}{d:D}{v:V}{ns:List Int}(S:p.S H α μ)(r:p.R H α d v)(h:BG d μ=some ns):∃a,v=.ref a/\(fT p.K H a (ns.map V.int)\/fS p.K H a (ns.map V.int)):=by
 unfold BG at h;split at h
 ·obtain⟨a,us,rfl,h1,rr⟩:=aI.mp r;rw[hV h]at rr;exact⟨a,rfl,.inr (by rw[<- rr.ints];exact h1)⟩
 ·obtain⟨a,us,rfl,h1,rr⟩:=bw.mp r;rw[hV h]at rr;exact⟨a,rfl,.inl (by rw[<- rr.ints];exact h1.sq)⟩
 ·split at h
  ·rename_i xs hx;obtain⟨a,us,rfl,a1,h1,rr⟩:=dh S r hx;rw[hV h]at rr;exact⟨a,rfl,.inl (by rw[<- rr.ints];exact fT.of h1)⟩
  ·cases h
 ·cases h
def vN(ds:List D)(μ:aw):ai D:=match ds with
 |[d]=>match BG d μ with
  |some (n::ns)=>.ok (.int (KS (n::ns))) μ
  |_=>.bad
 |ds=>B9 ds μ
def uC(ds:List D)(μ:aw):ai D:=match ds with
 |[d]=>match BG d μ with
  |some (n::ns)=>.ok (.int (KU (n::ns))) μ
  |_=>.bad
 |ds=>Ca ds μ
theorem x5{p:Pa}:vH p vN (fun xs H Q=>BZ p.K xs H Q\/∃i j,xs=[.int i,.int j]/\Q (.int (if j<i then j else i)) H):=by
 intro ds vs H α μ Q S r P;unfold vN at P;split at P
 ·rename_i d;split at P
  ·rename_i n ns hns;obtain⟨v,rfl,r1⟩:=r.one;obtain⟨a,rfl,h1⟩:=zz S r1 hns;refine .inl ⟨a,n::ns,rfl,h1,by simp,fun m hm hj=>?_⟩;rw[Gj hm hj];exact P.now S _ (av.mpr rfl)
  ·exact P.elim
 ·exact .inr (F9 ds vs H α μ Q S r P)
theorem Jx{p:Pa}:vH p uC (fun xs H Q=>G5 p.K xs H Q\/∃i j,xs=[.int i,.int j]/\Q (.int (if j>i then j else i)) H):=by
 intro ds vs H α μ Q S r P;unfold uC at P;split at P
 ·rename_i d;split at P
  ·rename_i n ns hns;obtain⟨v,rfl,r1⟩:=r.one;obtain⟨a,rfl,h1⟩:=zz S r1 hns;refine .inl ⟨a,n::ns,rfl,h1,by simp,fun m hm hj=>?_⟩;rw[Gk hm hj];exact P.now S _ (av.mpr rfl)
  ·exact P.elim
 ·exact .inr (Ga ds vs H α μ Q S r P)
section
variable{X:Cx}
end
def ke(o1 o2:D->D->aw->ai D)(fa fb fc:ME):ME:=fun ρ μ=>(fa ρ μ).bind fun a μ1=>(fb ρ μ1).bind fun b μ2=>(o1 a b μ2).bind fun z μ3=>(Eu z μ3).bind fun k μ4=>
 if k=true then (fc ρ μ4).bind fun c μ5=>o2 b c μ5 else .ok (.bl false) μ4
section
variable{X:Cx}{p:Pa}{a b c d:Expr}{ta tb tc td:TE}{fa fb fc fd:ME}{pos:Pos}{op op' op'':CmpOp}{r r' r'':R2}{o1 o2 o3:D->D->aw->ai D}
theorem rV(hd1:uu p o1 r)(hd2:uu p o2 r'){σ:St}{H:Hp}{Q:VK}(h:tD p (ke o1 o2 fa fb fc) σ H Q):xY r r' (tD p fa) (tD p fb) (tD p fc) σ H Q:=by
 obtain⟨α,ρ,μ,S,R,P⟩:=h;refine⟨α,ρ,μ,S,R,(aE.bind P).imp fun x μ1 H1 α1 X1 S1 P1 v rv=>⟨α1,ρ,μ1,S1,R.mono X1,(aE.bind P1).imp fun y μ2 H2 α2 X2 S2 P2 u ru=>?_⟩⟩;refine hd1 x y v u H2 α2 μ2 _ S2 (rv.mono X2) ru ((aE.bind P2).imp fun z μ3 H3 α3 X3 S3 P3 w rw'=>?_);obtain⟨k,_,e,q⟩:=qU (aE.bind P3) rw' S3;refine⟨k,e,?_⟩;cases k with
 |true=>
  rw[NL rfl]at q⊢;exact⟨α3,ρ,μ3,S3,((R.mono X1).mono X2).mono X3,(aE.bind q).imp fun c μ5 H5 α5 X5 S5 P5 t rt=>hd2 y c u t H5 α5 μ5 Q S5 ((ru.mono X3).mono X5) rt P5⟩
 |false=>rw[NM Ou]at q⊢;exact q.now S3 _ (a8.mpr rfl)
theorem Ds(ho:j8 X (compareOp op) r)(ho':j8 X (compareOp op') r')(hd1:uu p o1 r)(hd2:uu p o2 r')(ha:PE X a (tD p fa))(hb:PE X b (tD p fb))(hc:PE X c (tD p fc))
  (hm:lastMarks [op,op'] [b,c]=false):PE X (.Compare a [op,op'] [b,c] pos) (tD p (ke o1 o2 fa fb fc)):=(DH ho ho' ha hb hc hm).weak fun σ H Q h=>rV hd1 hd2 h
theorem Av{t:TE}{f:ME}(hk:∀σ H Q,tD p f σ H Q->t σ H Q){σ:St}{H:Hp}{Q:Bool->Hp->Prop}(h:iD p (lT f) σ H Q):BU t σ H Q:=by
 obtain⟨α,ρ,μ,S,R,P⟩:=h;refine hk σ H _ ⟨α,ρ,μ,S,R,(aE.bind P).imp fun d μ1 H1 α1 X1 S1 P1 v rv=>?_⟩;obtain⟨k,_,e,q⟩:=qU P1 rv S1;exact⟨k,e,q⟩
theorem Da(ho:j8 X (compareOp op) r)(ho':j8 X (compareOp op') r')(hd1:uu p o1 r)(hd2:uu p o2 r')(ha:PE X a (tD p fa))(hb:PE X b (tD p fb))(hc:PE X c (tD p fc))
  (hm:lastMarks [op,op'] [b,c]=false):PT X (.Compare a [op,op'] [b,c] pos) (iD p (lT (ke o1 o2 fa fb fc))):=(Dy ho ho' ha hb hc hm).weak fun σ H Q h=>Av (fun σ H Q h=>rV hd1 hd2 h) h
def BE(d:D)(μ:aw):ai Bool:=match d with
 |.non=>.ok false μ
 |.bl b=>.ok b μ
 |.int i=>.ok (i != 0) μ
 |.str x=>if x.length<=sizeLine then .ok ((x.length:Int) != 0) μ else .bad
 |.tup xs=>.ok (!xs.isEmpty) μ
 |.frz xs=>.ok (!xs.isEmpty) μ
 |.obj n=>match μ[n]? with
  |some (.lst xs)=>.ok (!xs.isEmpty) μ
  |_=>.bad
def jx(f:ME):MT:=fun ρ μ=>(f ρ μ).bind BE
theorem Reps.isEmpty{K:W.Frag}{H:Hp}{α:List Addr}{xs:List D}{vs:List V}(r:Reps K H α xs vs):vs.isEmpty=xs.isEmpty:=by
 have:=r.length;cases xs with
 |nil=>have h:vs=[]:=RK (by simpa using this);rw[h];rfl
 |cons x r=>cases vs with
  |nil=>simp at this
  |cons _ _=>rfl
theorem E3{d:D}{μ:aw}{H:Hp}{α:List Addr}{v:V}{R:Bool->aw->Hp->List Addr->Prop}(S:p.S H α μ)(r:p.R H α d v)(P:aE p H α (BE d μ) R):∃k,HL p.K v H k/\R k μ H α:=by
 unfold BE at P;split at P
 ·rw[bP.mp r];exact⟨false,rfl,P.now S⟩
 ·rename_i b;rw[a8.mp r];exact⟨b,rfl,P.now S⟩
 ·rename_i i;rw[av.mp r];exact⟨_,rfl,P.now S⟩
 ·rename_i x;split at P
  ·rename_i hl;rw[br.mp r];exact⟨_,⟨hl,rfl⟩,P.now S⟩
  ·exact P.elim
 ·obtain⟨a,vs,rfl,h1,h2⟩:=aI.mp r;exact⟨_,.inr (.inl ⟨vs,h1,by rw[h2.isEmpty]⟩),P.now S⟩
 ·obtain⟨a,vs,rfl,h1,h2⟩:=bw.mp r;exact⟨_,.inl ⟨vs,h1.sq,by rw[h2.isEmpty]⟩,P.now S⟩
 ·split at P
  ·rename_i xs hx;obtain⟨a,us,rfl,a1,h1,rr⟩:=dh S r hx;exact⟨_,.inl ⟨us,fT.of h1,by rw[rr.isEmpty]⟩,P.now S⟩
  ·exact P.elim
theorem C9{e:Expr}{f:ME}(hK:X.K=p.K)(h:PE X e (tD p f))(he:∀whole,isTrue e X.env whole=(do let v <- whole;standAt e.pos;holding [v] (truthy v))):PT X e (iD p (jx f)):=
 (Dx h he).weak fun σ H Q ⟨α, ρ, μ, S, R, P⟩ => ⟨α, ρ, μ, S, R, (aE.bind P).imp fun d μ1 H1 α1 X1 S1 P1 v rv => by
  rw[hK];exact E3 S1 rv P1⟩
def Lh:TE:=fun _ H Q=>∀q,H q=none->Q (.ref q) (cq H q (.dK []))
theorem FX:PE X (.Dict [] [] pos) Lh:=fun pins s σ H Q I h=>by
 have hb:sysModules<s.heap.objs.size:=Nat.lt_trans (by decide) (I.mod.glob.keeps I.bk).lt;refine wpAny_Dict_empty ⟨.ref s.heap.objs.size,_,I.laid (a:=s.heap.objs.size) (o:=.dK []) (t':=s.toks) (fun _ _ q=>Oj _ q) (Om _) ?_,rfl,h _ (I.hok.fresh (Om _))⟩;exact⟨PV _,NJ.mpr (N0 (NR hb)),[],.nil,Heap.DictOf.new s.heap⟩
def BN:ME:=fun _ μ=>.ok (.obj μ.length) (μ++[.dic])
theorem IL:PE X (.Dict [] [] pos) (tD p BN):=FX.weak fun σ H Q ⟨α,ρ,μ,S,R,P⟩ q hq=>by
 have x1:p.X H (cq H q (.dK [])) α (α++[q]):=(bK hq).trans (ji [q]);exact P _ _ x1 (S.more hq bN) _ (aQ.mpr ⟨q,rfl,by rw[<- S.len];simp⟩)
def Kx(p:Pa)(f:D->List D->aw->ai D)(r:V->List V->Hp->VK->Prop):Prop:=∀d ds v vs H α μ Q,p.S H α μ->p.R H α d v->p.Rs H α ds vs->aE p H α (f d ds μ) (RV p Q)->r v vs H Q
def z9(d:D)(μ:aw):Bool:=match d with
 |.obj n=>match μ[n]? with
  |some (.lst _)=>true
  |_=>false
 |_=>false
def zb(f:D->List D->aw->ai D)(fo:ME)(fr:MA):ME:=fun ρ μ=>(fo ρ μ).bind fun o μ1=>if z9 o μ1=true then (fr ρ μ1).bind fun ds μ2=>f o ds μ2 else .bad
theorem JW {d:D}{μ:aw}{H:Hp}{α:List Addr}{v:V} (S:p.S H α μ) (r:p.R H α d v) (h:z9 d μ=true):Mn p.K "list" v H:=by
 unfold z9 at h;split at h
 ·split at h
  ·rename_i xs hx;obtain⟨a,us,rfl,a1,h1,rr⟩:=dh S r hx;exact .inl ⟨rfl,us,fT.of h1⟩
  ·cases h
 ·cases h
theorem ze {o e:Expr}{es:List Expr}{fo:ME}{fr:MA}{name:Str}{apos cpos:Pos}{id:String}{rr:V->List V->Hp->VK->Prop}{f:D->List D->aw->ai D} (hK:X.K=p.K) (slot:Slot "list" name id) (hty:typeOf (.builtin id)=pure (.type "method_descriptor")) (hm:Np X id rr) (hf:Kx p f rr)
  (ho:PE X o (tD p fo)) (ha:PA X (e::es) (nr p fr)) (hbase:attributeBase o name X.env (eval o X.env)=eval o X.env)
  (hfew : ((backTo cpos (starEach (e :: es) X.env)).all (fun x => !x.1) && (backToKw cpos (keywordEach [] X.env)).all (fun x => x.1.isSome)
   && decide ((e::es).length+([]:List Keyword).length+(if ([]:List Keyword).isEmpty then 0 else 1)<30))=true)
  (hline:(apos.endLine == cpos.line)=true) (hs:starEach (e::es) X.env=(false,eval e X.env)::starEach es X.env) (hplain:(backTo cpos (starEach es X.env)).any (·.1)=false) :
  PE X (.Call (.Attribute o name apos) (e::es) [] cpos) (tD p (zb f fo fr)):=
 (LB PySem.F.plainAttrs_list slot hty hm ho ha hbase hfew hline hs hplain).weak fun σ H Q ⟨α, ρ, μ, S, R, P⟩ => ⟨α, ρ, μ, S, R, (aE.bind P).imp fun d μ1 H1 α1 X1 S1 P1 v rv => by
  by_cases hl:z9 d μ1=true
  ·rw[NL hl]at P1;rw[hK];exact⟨JW S1 rv hl,α1,ρ,μ1,S1,R.mono X1,(aE.bind P1).imp fun ds μ2 H2 α2 X2 S2 P2 vs rs=>hf d ds v vs H2 α2 μ2 Q S2 (rv.mono X2) rs P2⟩
  ·rw[NM hl]at P1;exact P1.elim⟩
def iV(d:D)(ds:List D)(μ:aw):ai D:=match d,ds with
 |.obj n,[y]=>match μ[n]? with
  |some (.lst xs)=>if xs.length<sizeLine then .ok .non (μ.set n (.lst (xs++[y]))) else .bad
  |_=>.bad
 |_,_=>.bad
theorem Gh:Kx p iV zB:=by
 intro d ds v vs H α μ Q S rd rs P;unfold iV at P;split at P
 ·rename_i n y;split at P
  ·rename_i xs hx;split at P
   ·rename_i hb;obtain⟨a,us,rfl,a1,h1,rr⟩:=dh S rd hx;obtain⟨w,rfl,rw'⟩:=rs.one;have q:=rr.snoc rw';exact⟨a,us,w,rfl,rfl,h1,by rw[rr.length];exact hb,P _ _ (kg h1) (S.put hx a1 h1 q) _ (bP.mpr rfl)⟩
   ·exact P.elim
  ·exact P.elim
 ·exact P.elim
end
abbrev df(K:W.Frag)(w:World):Pa:=⟨K,w,fun _ _ _ _=>False⟩
abbrev pT:D->D->aw->ai D:=dI fun i j=>.int (i-j)
noncomputable abbrev v5:D->D->aw->ai D:=GN EL fun i j=>.int (i / j)
noncomputable abbrev vM:D->D->aw->ai D:=GN (fun _ j=>0<j) fun i j=>.int (i%j)
noncomputable abbrev Ak:D->D->aw->ai D:=GN BO fun i j=>.int (i^j.toNat)
def uH(N:List Str)(sc scope:Scope)(Nc:List Str)(cap:List (Option Nat)):Bool:=
 (scope.kind == .function)&&scope.names.all (fun y=>scope.names.lookup y.1 == some y.2) &&
 scope.names.all (fun y=>y.2 != .free || sc.names.lookup y.1 == some .cell || sc.names.lookup y.1 == some .free)&&g9 N {scope:=sc,globals:=0,builtins:=0,locals:=0,cells:=[],qual:="",func:=none,code:=.none,frame:=none} scope Nc cap
theorem oX{N:List Str}{e1 e2:Env}{scope:Scope}:∀{Nc:List Str}{cap:List (Option Nat)},g9 N e1 scope Nc cap=g9 N e2 scope Nc cap
 |[],[]=>rfl
 |_::_,[]=>rfl
 |[],_::_=>rfl
 |_::Nc,none::cap=>by unfold g9;exact oX
 |x::Nc,some j::cap=>by unfold g9;rw[oX (Nc:=Nc) (cap:=cap) (e1:=e1) (e2:=e2)]
theorem ud{X:Cx}{N:List Str}{sc scope:Scope}{Nc:List Str}{cap:List (Option Nat)}(hN:X.N=N)(hk:∀x,(sc.names.lookup x=some .cell\/sc.names.lookup x=some .free)->X.env.kindOf x=some .cell\/X.env.kindOf x=some .free)(h:uH N sc scope Nc cap=true):bF X.N X.env scope Nc cap:=by
 unfold uH at h;simp only[Pb]at h;obtain⟨⟨⟨h1,h3⟩,h4⟩,h5⟩:=h;refine⟨eq_of_beq h1,fun y hy=>?_,fun y hy hf=>?_,?_⟩
 ·exact eq_of_beq (QN.mp h3 y hy)
 ·have := QN.mp h4 y hy;simp only[RP,hf]at this;refine hk _ ?_;rcases this with (z|z)|z
  ·exact absurd z (by decide)
  ·exact .inl (eq_of_beq z)
  ·exact .inr (eq_of_beq z)
 ·rw[hN,oX];exact h5
theorem bE{X:Cx}{N:List Str}{sc scope:Scope}{Nc:List Str}{cap:List (Option Nat)}(hN:X.N=N)(hs:X.env.scope=sc)(h:uH N sc scope Nc cap=true):bF X.N X.env scope Nc cap:=
 ud hN (fun x hx=>by subst hs;exact hx) h
theorem GH{X:Cx}{env:Env}{N:List Str}{sc scope:Scope}{Nc:List Str}{cap:List (Option Nat)}(hN:X.N=N)(hs:X.env.scope=relabel sc env)(h:uH N sc scope Nc cap=true):bF X.N X.env scope Nc cap:=
 ud hN (fun x hx=>by
  have e:X.env.kindOf x=(sc.names.lookup x).map fun k=>if (k == NameKind.free&&env.scope.kind == .function&&env.kindOf x == some .cell) then NameKind.cell else k:=by
   have:X.env.kindOf x=(relabel sc env).names.lookup x:=by rw[<- hs];rfl
   rw[this];exact jq
  rw[e];rcases hx with z|z
  ·rw[z];exact .inl rfl
  ·rw [z];show some (if _ then _ else _)=_\/some (if _ then _ else _)=_;split
   ·exact .inl rfl
   ·exact .inr rfl) h
structure Bx(P:Prop):Prop where
 h:P
section
variable{X:Cx}{p:Pa}{a b c d e:Expr}{es:List Expr}{fa fb fc fd f:ME}{fr:MA}{pos:Pos}{ft gt:MT}
theorem aG (i:Nat) {x:Str} (hN:X.N[i]?=some x:=by rfl) (hv:Ma X.env.scope x:=by first|exact Or.inl rfl|exact Or.inr (Or.inl rfl)|exact Or.inr (Or.inr rfl)) (hd:(x == ("__debug__" : Str))=false:=by decide) (hcd:(x == ("__classdict__" : Str))=false:=by decide):Bx (PE X (.Name x pos) (tD p (ak i))):=⟨IG (CD hN hv hd hcd)⟩
theorem cJ{i j}:Bx (PE X (.Constant (.int i) j pos) (tD p (cC (.int i)))):=⟨BH Jj fun _ _=>av.mpr rfl⟩
theorem vD{i j}:Bx (PE X (.Constant (.bool i) j pos) (tD p (cC (.bl i)))):=⟨BH LC fun _ _=>a8.mpr rfl⟩
theorem L4{j}:Bx (PE X (.Constant .none j pos) (tD p (cC .non))):=⟨BH Ji fun _ _=>bP.mpr rfl⟩
theorem Bz{x j}:Bx (PE X (.Constant (.str x) j pos) (tD p (cC (.str x)))):=⟨BH Jf fun _ _=>br.mpr rfl⟩
theorem Mv {x:Str}{i:Int} (h:∃t,X.mg x=some (.int i t)) (hg:Gl X x:=by rfl) (hd:(x == ("__debug__" : Str))=false:=by decide):Bx (PE X (.Name x pos) (tD p (cC (.int i)))):=Bx.mk (by
 obtain⟨t,ht⟩:=h
 exact BH (uU (v:=.int i) hg ht ⟨t,rfl⟩ hd) fun _ _=>av.mpr rfl)
theorem d0(ha:Bx (PE X a (tD p fa)))(hb:Bx (PE X b (tD p fb)))(hK:X.K=p.K:=by rfl):Bx (PE X (.BinOp a .Add b pos) (tD p (aN cf fa fb))):=⟨oA (r:=B1 p.K) (hK ▸ F7) JE ha.h hb.h⟩
theorem qH(ha:Bx (PE X a (tD p fa)))(hb:Bx (PE X b (tD p fb))):Bx (PE X (.BinOp a .Sub b pos) (tD p (aN pT fa fb))):=⟨oA Jm (MM fun _ _ _ _=>av.mpr rfl) ha.h hb.h⟩
theorem BQ(ha:Bx (PE X a (tD p fa)))(hb:Bx (PE X b (tD p fb))):Bx (PE X (.BinOp a .Mult b pos) (tD p (aN sJ fa fb))):=⟨oA F2 JC ha.h hb.h⟩
theorem Cf(ha:Bx (PE X a (tD p fa)))(hb:Bx (PE X b (tD p fb))):Bx (PE X (.BinOp a .FloorDiv b pos) (tD p (aN v5 fa fb))):=⟨oA F3 (B3 fun _ _ _ _=>av.mpr rfl) ha.h hb.h⟩
theorem vS(ha:Bx (PE X a (tD p fa)))(hb:Bx (PE X b (tD p fb))):Bx (PE X (.BinOp a .Mod b pos) (tD p (aN vM fa fb))):=⟨oA Jr (B3 fun _ _ _ _=>av.mpr rfl) ha.h hb.h⟩
theorem GR(ha:Bx (PE X a (tD p fa)))(hb:Bx (PE X b (tD p fb))):Bx (PE X (.BinOp a .Pow b pos) (tD p (aN Ak fa fb))):=⟨oA Jo (B3 fun _ _ _ _=>av.mpr rfl) ha.h hb.h⟩
theorem zc(ha:Bx (PE X a (tD p fa))):Bx (PE X (.UnaryOp .USub a pos) (tD p (mq vL fa))):=⟨Lo HW JF ha.h⟩
structure pV(X:Cx)(p:Pa)(op:CmpOp)(o:D->D->aw->ai D):Prop where
 ex:∃r,j8 X (compareOp op) r/\uu p o r
theorem xR(hu:X.A.units+64<cLine)(hK:X.K=p.K:=by rfl):pV X p .Eq (kW false):=⟨BK p.K false,hK ▸ Jt hu,Hh⟩
theorem sI(hu:X.A.units+64<cLine)(hK:X.K=p.K:=by rfl):pV X p .NotEq (kW true):=⟨BK p.K true,hK ▸ Jp hu,Hh⟩
theorem Aj(hu:X.A.units+64<cLine)(hK:X.K=p.K:=by rfl):pV X p .In (qy false):=⟨BJ p.K false,hK ▸ Js hu,Hg⟩
theorem B5(hu:X.A.units+64<cLine)(hK:X.K=p.K:=by rfl):pV X p .NotIn (qy true):=⟨BJ p.K true,hK ▸ AS hu,Hg⟩
theorem jc{op:CmpOp}(hu:X.A.units+64<cLine)(ho:vU op=true:=by rfl)(hK:X.K=p.K:=by rfl):pV X p op (j9 op):=⟨B0 p.K op,hK ▸ F4 hu ho,JD⟩
variable{op op' op'':CmpOp}{o o' o'':D->D->aw->ai D}
theorem mv(k:pV X p op o)(ha:Bx (PE X a (tD p fa)))(hb:Bx (PE X b (tD p fb)))(hm:behindInMarks op b=false:=by rfl):Bx (PE X (.Compare a [op] [b] pos) (tD p (aN o fa fb))):=Bx.mk (let ⟨_,h1,h2⟩:=k.ex;IM h1 h2 ha.h hb.h hm)
theorem dH(k:pV X p op o)(ha:Bx (PE X a (tD p fa)))(hb:Bx (PE X b (tD p fb)))(hm:behindInMarks op b=false:=by rfl):Bx (PT X (.Compare a [op] [b] pos) (iD p (lT (aN o fa fb)))):=Bx.mk (let ⟨_,h1,h2⟩:=k.ex;Im h1 h2 ha.h hb.h hm)
theorem GS(k:pV X p op o)(k':pV X p op' o')(ha:Bx (PE X a (tD p fa)))(hb:Bx (PE X b (tD p fb)))(hc:Bx (PE X c (tD p fc)))(hm:lastMarks [op,op'] [b,c]=false:=by rfl):Bx (PE X (.Compare a [op,op'] [b,c] pos) (tD p (ke o o' fa fb fc))):=Bx.mk (let ⟨_,h1,h2⟩:=k.ex;let ⟨_,h3,h4⟩:=k'.ex;Ds h1 h3 h2 h4 ha.h hb.h hc.h hm)
theorem K9(k:pV X p op o)(k':pV X p op' o')(ha:Bx (PE X a (tD p fa)))(hb:Bx (PE X b (tD p fb)))(hc:Bx (PE X c (tD p fc)))(hm:lastMarks [op,op'] [b,c]=false:=by rfl):Bx (PT X (.Compare a [op,op'] [b,c] pos) (iD p (lT (ke o o' fa fb fc)))):=Bx.mk (let ⟨_,h1,h2⟩:=k.ex;let ⟨_,h3,h4⟩:=k'.ex;Da h1 h3 h2 h4 ha.h hb.h hc.h hm)
theorem uq(h:Bx (PE X e (tD p f)))(he:∀whole,isTrue e X.env whole=(do let v <- whole;standAt e.pos;holding [v] (truthy v)):=by intro _;rfl)(hK:X.K=p.K:=by rfl):Bx (PT X e (iD p (jx f))):=⟨C9 hK h.h he⟩
theorem La{rest:List Expr}(ha:Bx (PT X a (iD p ft)))(hb:Bx (PW X (.BoolOp .And (b::rest) pos) (iD p gt))):Bx (PW X (.BoolOp .And (a::b::rest) pos) (iD p (zj ft gt))):=⟨Ii ha.h hb.h⟩
theorem qC{rest:List Expr}(ha:Bx (PT X a (iD p ft)))(hb:Bx (PW X (.BoolOp .Or (b::rest) pos) (iD p gt))):Bx (PW X (.BoolOp .Or (a::b::rest) pos) (iD p (nu ft gt))):=⟨Lk ha.h hb.h⟩
theorem Ig(ha:Bx (PT X a (iD p ft))):Bx (PW X (.BoolOp .And [a] pos) (iD p ft)):=⟨FH ha.h⟩
theorem pB(ha:Bx (PT X a (iD p ft))):Bx (PW X (.BoolOp .Or [a] pos) (iD p ft)):=⟨IU ha.h⟩
theorem mr{op}(ha:Bx (PE X a (tD p fa))):Bx (PE X (.BoolOp op [a] pos) (tD p fa)):=⟨Jg ha.h⟩
def CG:Expr->Bool
 |.Starred _ _=>false
 |_=>true
theorem Aw{a:Expr}{es:List Expr}{env:Env}(h:CG a=true):starEach (a::es) env=(false,eval a env)::starEach es env:=by
 cases a <;> first|rfl|cases h
theorem aJ(ha:Bx (PE X a (tD p fa)))(hr:Bx (PA X es (nr p fr)))(hs:CG a=true:=by rfl):Bx (PA X (a::es) (nr p (ag fa fr))):=⟨FE ha.h hr.h (Aw hs)⟩
theorem aX  : Bx (PA X [] (nr p aB)):=⟨IR⟩
theorem aT {k n:Nat}{x:Str}{F:List D->aw->ai D}{px:Pos} (h:dg X.prog X.w X.K X.mg X.base p k x n F) (hr:gv k X.A) (ha:Bx (PA X (a::es) (nr p fr))) (hg:Gl X x:=by rfl) (hdb:(x == ("__debug__" : Str))=false:=by decide) (he:starEach (a::es) X.env=(false,eval a X.env)::starEach es X.env:=by rfl) (hpl:(backTo pos (starEach es X.env)).any (·.1)=false:=by rfl):Bx (PE X (.Call (.Name x px) (a::es) [] pos) (tD p (aC F fr))):=⟨FC h hr hg ha.h hdb he hpl⟩
structure pW(X:Cx)(p:Pa)(x:Str)(F:List D->aw->ai D):Prop where
 ex:∃(u:Value) (r:List V->Hp->VK->Prop),((∃id,u=.builtin id)\/∃T,u=.type T)/\bootBuiltins x=some u/\cZ X u r/\vH p F r/\x ≠ "__name__" /\ (x == ("__debug__" : Str))=false
theorem bh{x:Str}{F:List D->aw->ai D}{px:Pos}(k:pW X p x F)(hm:X.mg x=none)(ha:Bx (PA X (a::es) (nr p fr)))(hg:Gl X x:=by rfl)(he:starEach (a::es) X.env=(false,eval a X.env)::starEach es X.env:=by rfl)(hpl:(backTo pos (starEach es X.env)).any (·.1)=false:=by rfl):Bx (PE X (.Call (.Name x px) (a::es) [] pos) (tD p (aC F fr))):=Bx.mk (by
 obtain⟨u,r,hu,h1,h2,h3,h4,h5⟩:=k.ex;rcases hu with⟨id,rfl⟩|⟨T,rfl⟩
 ·exact Dt h2 h3 hg hm h1 ha.h h4 h5 he hpl
 ·exact AF h2 h3 hg hm h1 ha.h h4 h5 he hpl)
theorem ir (hK:X.K=p.K:=by rfl) (hw:X.w=p.w:=by rfl):pW X p "len" jw:=⟨_,_,.inl ⟨_,rfl⟩,PySem.boot_len,(Ei.or Bp).or Bq,by rw[hK,hw];exact Jy,by decide,by decide⟩
theorem pE (hc:X.calm=true:=by rfl) (hK:X.K=p.K:=by rfl):pW X p "all" ot:=⟨_,_,.inl ⟨_,rfl⟩,by decide +kernel,Bs hc,hK ▸ JA,by decide,by decide⟩
theorem iW (hK:X.K=p.K:=by rfl):pW X p "tuple" gE:=⟨_,_,.inr ⟨_,rfl⟩,by decide +kernel,sW,hK ▸ DL,by decide,by decide⟩
theorem uJ (hK:X.K=p.K:=by rfl):pW X p "list" lb:=⟨_,_,.inr ⟨_,rfl⟩,by decide +kernel,vz,hK ▸ Gc,by decide,by decide⟩
theorem LW:pW X p "int" v3:=⟨_,_,.inr ⟨_,rfl⟩,by decide +kernel,Br,Jz,by decide,by decide⟩
theorem LV (hc:X.calm=true:=by rfl) (hK:X.K=p.K:=by rfl):pW X p "min" vN:=⟨_,_,.inl ⟨_,rfl⟩,by decide +kernel,(uf hc).or (ue hc),hK ▸ x5,by decide,by decide⟩
theorem Cb (hc:X.calm=true:=by rfl) (hK:X.K=p.K:=by rfl):pW X p "max" uC:=⟨_,_,.inl ⟨_,rfl⟩,by decide +kernel,(Bo hc).or (Bn hc),hK ▸ Jx,by decide,by decide⟩
theorem zk (hu:X.A.units+64<cLine) (hc:X.calm=true:=by rfl) (hK:X.K=p.K:=by rfl) (hw:X.w=p.w:=by rfl):pW X p "set" nt:=⟨_,_,.inr ⟨_,rfl⟩,by decide +kernel,(Bk hc hu).or (Bl hc hu),by rw[hK,hw];exact Jw,by decide,by decide⟩
theorem jQ (hc:X.calm=true:=by rfl) (hK:X.K=p.K:=by rfl) (hw:X.w=p.w:=by rfl):pW X p "sorted" ck:=⟨_,_,.inl ⟨_,rfl⟩,by decide +kernel,(yY.or (yX hc)).or (yW hc),by rw[hK,hw];exact AU,by decide,by decide⟩
theorem kH {T:String}{xT:Str}{px pt:Pos} (hT:T∈["int", "bool", "tuple", "list", "str", "dict"]) (hbT:bootBuiltins xT=some (.type T)) (hnT:xT ≠ "__name__") (hdT:(xT == ("__debug__" : Str))=false) (hm:X.mg "isinstance" = none) (hmT:X.mg xT=none) (ha:Bx (PE X a (tD p fa))) (hg:Gl X "isinstance" := by rfl) (hgT:Gl X xT:=by rfl) (hs1:starEach [a,.Name xT pt] X.env=(false,eval a X.env)::starEach [.Name xT pt] X.env:=by rfl) (hK:X.K=p.K:=by rfl):Bx (PE X (.Call (.Name "isinstance" px) [a,.Name xT pt] [] pos) (tD p (mq (gq T) fa))):=⟨IK hK hT hg hm hgT hmT hbT ha.h hnT hdT hs1⟩
theorem C5:bootBuiltins "int" = some (.type "int"):=by decide +kernel
theorem u6:bootBuiltins "bool" = some (.type "bool"):=by decide +kernel
theorem jj:bootBuiltins "tuple" = some (.type "tuple"):=by decide +kernel
theorem dM(ha:Bx (PE X a (tD p fa)))(hb:Bx (PE X b (tD p fb)))(hs:va b:=by exact fun _ _=>rfl)(hK:X.K=p.K:=by rfl):Bx (PE X (.Subscript a b pos) (tD p (aN gY fa fb))):=⟨Lp hK ha.h hb.h hs⟩
theorem xP{lo hi:Option Expr}{fl fh:MO}{p2:Pos}(he:Bx (PE X e (tD p fa)))(hl:Bx (PO X lo (GL p fl)))(hu:Bx (PO X hi (GL p fh)))(hK:X.K=p.K:=by rfl):Bx (PE X (.Subscript e (.Slice lo hi none p2) pos) (tD p (Et fa fl fh))):=⟨Dq hK he.h hl.h hu.h⟩
theorem GU {fo:ME}{ob:Expr}{apos:Pos} (ho:Bx (PE X ob (tD p fo))) (ha:Bx (PA X [e] (nr p fr))) (hbase:attributeBase ob "append" X.env (eval ob X.env)=eval ob X.env:=by rfl) (hfew:((backTo pos (starEach [e] X.env)).all (fun x=>!x.1)&&(backToKw pos (keywordEach [] X.env)).all (fun x=>x.1.isSome)
   && decide ([e].length+([]:List Keyword).length+(if ([]:List Keyword).isEmpty then 0 else 1)<30))=true:=by rfl) (hline:(apos.endLine == pos.line)=true:=by rfl) (hs:starEach [e] X.env=(false,eval e X.env)::starEach [] X.env:=by rfl) (hpl:(backTo pos (starEach [] X.env)).any (·.1)=false:=by rfl) (hK:X.K=p.K:=by rfl):Bx (PE X (.Call (.Attribute ob "append" apos) [e] [] pos) (tD p (zb iV fo fr))):=⟨ze hK PySem.F.slot_list_append PySem.F.type_list_append tS Gh ho.h ha.h hbase hfew hline hs hpl⟩
variable{tg iter elt:Expr}{fi:MI}{g:MG}{u:Hv}
theorem pS(hl:Bx (PE X e (tD p f)))(hK:X.K=p.K:=by rfl):Bx (PI X tg e (qx p (fE f))):=⟨ID hK hl.h⟩
theorem oq {px:Pos} (hm:X.mg "range" = none) (ha:Bx (PA X [a] (nr p fr))) (hg:Gl X "range" := by rfl) (hs:starEach [a] X.env=[(false,eval a X.env)]:=by rfl):Bx (PI X tg (.Call (.Name "range" px) [a] [] pos) (qx p (iE i8 fr))):=⟨AE hg hm ha.h hs⟩
theorem MR {px:Pos} (hm:X.mg "range" = none) (ha:Bx (PA X [a,b] (nr p fr))) (hg:Gl X "range" := by rfl) (hs:starEach [a,b] X.env=[(false,eval a X.env),(false,eval b X.env)]:=by rfl) (hs2:starEach [b] X.env=[(false,eval b X.env)]:=by rfl):Bx (PI X tg (.Call (.Name "range" px) [a,b] [] pos) (qx p (iE Ah fr))):=⟨AD hg hm ha.h hs hs2⟩
theorem HC {px tpos:Pos}{elts:List Expr}{k1:Nat} (hm:X.mg "enumerate" = none) (ha:Bx (PA X [a] (nr p fr))) (hg:Gl X "enumerate" := by rfl) (hs:starEach [a] X.env=[(false,eval a X.env)]:=by rfl) (hK:X.K=p.K:=by rfl):Bx (PI X (.Tuple elts k1 tpos) (.Call (.Name "enumerate" px) [a] [] pos) (qx p (iE k9 fr))):=⟨Fu hK hg hm ha.h hs⟩
theorem iQ(i:Nat){x:Str}(hN:X.N.Nodup)(hi:X.N[i]?=some x:=by rfl)(hx:Ex X.env.scope x:=by first|exact Or.inl rfl|exact Or.inr rfl)(hf:X.fn x=true\/X.env.scope.names.lookup x=some .local:=by first|exact .inl rfl|exact .inr rfl):Bx (PG X (.Name x pos) (oa p (ao i))):=⟨Fw hN hi hx hf⟩
theorem qL  : Bx (xN X [] (vJ p g8)):=⟨Fv⟩
theorem gC(h1:Bx (PG X e (oa p g)))(h2:Bx (xN X es (vJ p u)))(hs:(assignEach (e::es) X.env).map (·.2)=assign e X.env::(assignEach es X.env).map (·.2):=by rfl):Bx (xN X (e::es) (vJ p (bC g u))):=⟨Dl h1.h h2.h hs⟩
theorem qK{k n:Nat}(h:Bx (xN X es (vJ p u)))(hc:X.calm=true:=by rfl)(hn:(assignEach es X.env).length=n:=by rfl)(hst:(assignEach es X.env).findIdx? (·.1)=none:=by rfl)(hK:X.K=p.K:=by rfl):Bx (PG X (.Tuple es k pos) (oa p (g7 n u))):=⟨IE hK hc h.h hn hst⟩
theorem Hl{fo fi:ME}(ho:Bx (PE X a (tD p fo)))(hi:Bx (PE X b (tD p fi)))(ha:∀v,assign (.Subscript a b pos) X.env v=(do
   let ov <- holding [v] (eval a X.env)
   let iv <- holding [v,ov] (eval b X.env)
   standAt pos
   holding [v,ov,iv] (setItem ov iv v)
   release [v,ov,iv] []):=by intro _;rfl):Bx (PG X (.Subscript a b pos) (oa p (vV fo fi))):=⟨IF ho.h hi.h ha⟩
variable{ifs:List Expr}{scope:Scope}{Nc:List Str}{cap:List (Option Nat)}{tt:MT}{te:ME}
theorem cX(S:bF X.N X.env scope Nc cap)(hi:Bx (PI X tg iter (qx p fi)))(hg:∀cl C s H fp,Bx (PG (i6 X Nc scope cl C s H fp) tg (oa p.nx g)))(ht:∀cl C s H fp,Bx (qA (i6 X Nc scope cl C s H fp) ifs (iD p.nx tt)))(he:∀cl C s H fp,Bx (PE (i6 X Nc scope cl C s H fp) elt (tD p.nx te)))(hc:X.calm=true:=by rfl)(hs:∀x,foldedSetIterable iter X.env x=pure x:=by intro _;rfl):Bx (PE X (.ListComp elt [⟨tg,iter,ifs,0⟩] scope pos) (tD p (cW fi cap g tt te))):=⟨FA hc S hi.h (fun cl C s H fp=>(hg cl C s H fp).h) (fun cl C s H fp=>(ht cl C s H fp).h) (fun cl C s H fp=>(he cl C s H fp).h) hs⟩
def qu(gs:List Comprehension):Bool:=gs.all fun g=>g.is_async == 0
theorem uO{gs:List Comprehension}(h:qu gs=true):∀g∈gs,g.is_async=0:=fun g hg=>eq_of_beq (QN.mp h g hg)
variable{mb:MB}{cl0:Comprehension}{rest:List Comprehension}{d:Nat}{acc:Addr}
theorem K1{gens:List Comprehension}(hg:gens[d]?=none)(hel:Bx (PE X elt (tD p.nx te)))(hxe:X.xe=uw:=by rfl):Bx (ur X (.ListComp elt gens scope pos) d acc (vG p.nx (la te) acc)):=⟨FD hg hxe hel.h⟩
theorem HI{gens:List Comprehension}(hg:gens[d]?=some ⟨tg,iter,ifs,0⟩)(hi:Bx (PI X tg iter (qx p.nx fi)))(hgc:Bx (PG X tg (oa p.nx g)))(htc:Bx (qA X ifs (iD p.nx tt)))(hb:Bx (ur X (.ListComp elt gens scope pos) (d+1) acc (vG p.nx mb acc)))
  (hz:qu gens=true:=by rfl) (hxe:X.xe=uw:=by rfl) (hc:X.calm=true:=by rfl) (hs:∀x,foldedSetIterable iter X.env x=pure x:=by intro _;rfl):Bx (ur X (.ListComp elt gens scope pos) d acc (vG p.nx (jI fi g tt mb) acc)):=
 ⟨Du (e:=.ListComp elt gens scope pos) (cl:=⟨tg,iter,ifs,0⟩) rfl (uO hz) hg hxe hc hi.h hgc.h htc.h hb.h hs⟩
theorem zm(S:bF X.N X.env scope Nc cap)(hi:Bx (PI X tg iter (qx p fi)))(hg:∀cl C s H fp,Bx (PG (i6 X Nc scope cl C s H fp) tg (oa p.nx g)))(ht:∀cl C s H fp,Bx (qA (i6 X Nc scope cl C s H fp) ifs (iD p.nx tt)))(hb:∀cl C s H fp acc,Bx (ur (i6 X Nc scope cl C s H fp) (.ListComp elt (⟨tg,iter,ifs,0⟩::rest) scope pos) 1 acc (vG p.nx mb acc)))(hz:qu (⟨tg,iter,ifs,0⟩::rest)=true:=by rfl)(hc:X.calm=true:=by rfl)(hs:∀x,foldedSetIterable iter X.env x=pure x:=by intro _;rfl):Bx (PE X (.ListComp elt (⟨tg,iter,ifs,0⟩::rest) scope pos) (tD p (kd fi cap g tt mb))):=
 ⟨Dr (cl0:=⟨tg,iter,ifs,0⟩) hc (uO hz) S hi.h (fun cl C s H fp=>(hg cl C s H fp).h) (fun cl C s H fp=>(ht cl C s H fp).h) (fun cl C s H fp acc=>(hb cl C s H fp acc).h) hs⟩
variable{fs gs:MS}{st:Stmt}{sts A B body:List Stmt}
theorem cb(i:Nat){x:Str}{pos':Pos}(hN:X.N.Nodup)(he:Bx (PE X e (tD p f)))(hi:X.N[i]?=some x:=by rfl)(hx:Ex X.env.scope x:=by first|exact Or.inl rfl|exact Or.inr rfl)(hs:swapsWith e (some (.Name x pos')) pos.line X.env=pure false:=by rfl)(hf:X.fn x=true\/X.env.scope.names.lookup x=some .local:=by first|exact .inl rfl|exact .inr rfl):Bx (PS X (.Assign [.Name x pos'] e pos) (i5 p (cK f (ao i)))):=⟨Io hN hi hx he.h hs hf⟩
theorem Cs(i:Nat){x:Str}{pos1 pos2:Pos}(hN:X.N.Nodup)(S:bF X.N X.env scope Nc cap)(hi:Bx (PI X tg iter (qx p fi)))(hg:∀cl C s H fp,Bx (PG (i6 X Nc scope cl C s H fp) tg (oa p.nx g)))(ht:∀cl C s H fp,Bx (qA (i6 X Nc scope cl C s H fp) ifs (iD p.nx tt)))(he:∀cl C s H fp,Bx (PE (i6 X Nc scope cl C s H fp) elt (tD p.nx te)))(hix:X.N[i]?=some x:=by rfl)(hx:X.env.scope.names.lookup x=some .local:=by rfl)(hc:X.calm=true:=by rfl)(hsw:swapsWith (.ListComp elt [⟨tg,iter,ifs,0⟩] scope pos) (some (.Name x pos1)) pos2.line X.env=pure true:=by rfl)(hs:∀x,foldedSetIterable iter X.env x=pure x:=by intro _;rfl):Bx (PS X (.Assign [.Name x pos1] (.ListComp elt [⟨tg,iter,ifs,0⟩] scope pos) pos2) (i5 p (cK (cW fi cap g tt te) (ao i)))):=⟨Fb hc hN hix hx S hi.h (fun cl C s H fp=>(hg cl C s H fp).h) (fun cl C s H fp=>(ht cl C s H fp).h) (fun cl C s H fp=>(he cl C s H fp).h) hsw hs⟩
theorem GX(he:Bx (PE X e (tD p f)))(hg:Bx (PG X tg (oa p g)))(hs:swapsWithSole [tg] e pos.line X.env=pure false:=by rfl)(hw:swappedStores [tg] e X.env=pure none:=by rfl)(h1:(assignEach [tg] X.env).map (·.2)=[assign tg X.env]:=by rfl):Bx (PS X (.Assign [tg] e pos) (i5 p (cK f g))):=⟨Iv he.h hg.h hs hw h1⟩
theorem ka(he:Bx (PE X e (tD p f)))(hs:swapsWith e none pos.line X.env=pure false:=by rfl):Bx (PS X (.Expr e pos) (i5 p (kK f))):=⟨Fc he.h hs⟩
theorem kI(hp:PassesOwn (model X.prog X.w) X.A X.env X.xe)(hi:Bx (PI X tg iter (qx p fi)))(hg:Bx (PG X tg (oa p g)))(hb:Bx (j7 X body (i5 p fs)))(hc:X.calm=true:=by rfl)(hs:∀x,foldedSetIterable iter X.env x=pure x:=by intro _;rfl):Bx (PS X (.For tg iter body [] pos) (i5 p (mJ fi g fs))):=⟨Iu hp hc hi.h hg.h hb.h hs⟩
end
section
variable{X:Cx}{p:Pa}{a b c e:Expr}{es rest:List Expr}{fa fb f:ME}{fr:MA}{ft gt:MT}{pos:Pos}{fs gs:MS}{st:Stmt}{sts A B:List Stmt}
theorem GP(ha:Bx (PE X a (tD p fa))):Bx (PE X (.UnaryOp .Not a pos) (tD p (v7 fa))):=⟨II ha.h⟩
theorem kG(ha:Bx (PE X a (tD p fa)))(hb:Bx (PE X (.BoolOp .And (b::rest) pos) (tD p fb))):Bx (PE X (.BoolOp .And (a::b::rest) pos) (tD p (jf fa fb))):=⟨IP ha.h hb.h⟩
theorem bI{k:Nat}(h:Bx (PA X es (nr p fr))):Bx (PE X (.Tuple es k pos) (tD p (dj fr))):=⟨IH h.h⟩
theorem fC(h:Bx (PA X es (nr p fr))):Bx (PE X (.List es pos) (tD p (iF fr))):=⟨IJ h.h⟩
theorem GQ:Bx (PE X (.Dict [] [] pos) (tD p BN)):=⟨IL⟩
theorem lU:Bx (PO X none (GL p Ez)):=⟨Fp⟩
theorem jy(h:Bx (PE X e (tD p f))):Bx (PO X (some e) (GL p (k6 f))):=⟨Fo h.h⟩
theorem gm(ha:Bx (PT X a (iD p ft))):Bx (PT X (.UnaryOp .Not a pos) (iD p (eU ft))):=⟨Ik ha.h⟩
theorem ux(h:Bx (PW X e (iD p ft))):Bx (PT X e (iD p ft)):=⟨h.h.pt⟩
theorem gx:Bx (qA X [] (iD p bA)):=⟨E8⟩
theorem kY(h:Bx (PT X c (iD p ft))):Bx (qA X [c] (iD p ft)):=⟨E7 h.h⟩
theorem eS:Bx (j7 X [] (i5 p dJ)):=⟨Ir⟩
theorem aO(h1:Bx (PS X st (i5 p fs)))(h2:Bx (j7 X sts (i5 p gs))):Bx (j7 X (st::sts) (i5 p (bB fs gs))):=⟨Fd h1.h h2.h⟩
theorem aW(h1:Bx (PS X st (i5 p fs))):Bx (j7 X [st] (i5 p fs)):=⟨Iq h1.h⟩
theorem bo(h:Bx (PE X e (tD p f))):Bx (PS X (.Return (some e) pos) (i5 p (bR f))):=⟨Ip h.h⟩
theorem uK:Bx (PS X st (i5 p BI)):=⟨Dc⟩
theorem i7(hc:Bx (PT X c (iD p ft)))(ha:Bx (j7 X A (i5 p fs)))(hb:Bx (j7 X B (i5 p gs))):Bx (PS X (.If c A B pos) (i5 p (pj ft fs gs))):=⟨Ll hc.h ha.h hb.h⟩
end
theorem cw{P:Program}{w:World}{K:W.Frag}{mg:Str->Option Value}{base:Heap}{p:Pa}{k n:Nat}{x qual:Str}{st:Stmt}{f:Addr}{fd:FuncData}{N ps:List Str}{fb:MS}
  (F:gZ K x qual st f fd) (S:aR N ps (ar st)) (hn:ps.length=n) (hm:mg x=some (.ref f)) (hb:iu K fd ps [])
  (body : ∀ (cdv : Value) (A : Around) (outer : List Env) (s : Shared) (H : Hp) (E : XK), gv k (A.deeper (envOfC qual (ar st) s.heap.objs.size f cdv)) ->
   Bx (j7 (qE xO P w K mg base N qual (ar st) f cdv A outer s H E).nox (cj st) (i5 p fb))):dg P w K mg base p (k+1) x n (ip n N.length fb):=
 Ke F S hn hm hb fun cdv A outer s H E hr=>(body cdv A outer s H E hr).h
end L2
namespace L2
open PySem RS
section
variable{ρ:Ro}{μ:aw}{fa fb fc fd f:ME}{fr:MA}{ft gt:MT}{op o1 o2 o3:D->D->aw->ai D}{fs gs:MS}{g:MG}
@[simp] theorem ah {d:D}{r:Ro}:ak 0 (some d::r) μ=.ok d μ:=RE (RF _)
@[simp] theorem aj {i:Nat}{x:Option D}{r:Ro}:ak (i+1) (x::r) μ=ak i r μ:=RE (RF _)
@[simp] theorem bt {d:D}:cC d ρ μ=.ok d μ:=RE (RF _)
@[simp] theorem aK:aN op fa fb ρ μ=(fa ρ μ).bind fun a μ1=>(fb ρ μ1).bind fun b μ2=>op a b μ2:=RE (RF _)
@[simp] theorem iO {o:D->aw->ai D}:mq o fa ρ μ=(fa ρ μ).bind fun a μ1=>o a μ1:=RE (RF _)
@[simp] theorem au:aB ρ μ=.ok [] μ:=RE (RF _)
@[simp] theorem aq:ag fa fr ρ μ=(fa ρ μ).bind fun a μ1=>(fr ρ μ1).bind fun r μ2=>.ok (a::r) μ2:=RE (RF _)
@[simp] theorem az {F:List D->aw->ai D}:aC F fr ρ μ=(fr ρ μ).bind F:=RE (RF _)
@[simp] theorem dO:dj fr ρ μ=(fr ρ μ).bind fun ds μ=>if ds.length<=sizeLine then .ok (.tup ds) μ else .bad:=RE (RF _)
@[simp] theorem dP:iF fr ρ μ=(fr ρ μ).bind fun ds μ=>if ds.length<=sizeLine then .ok (.obj μ.length) (μ++[.lst ds]) else .bad:=RE (RF _)
@[simp] theorem aZ {b:Bool}:Eu (.bl b) μ=.ok b μ:=RE (RF _)
@[simp] theorem dz:lT f ρ μ=(f ρ μ).bind Eu:=RE (RF _)
@[simp] theorem zU:zj ft gt ρ μ=(ft ρ μ).bind fun b μ1=>if b=true then gt ρ μ1 else .ok false μ1:=RE (RF _)
@[simp] theorem ll:nu ft gt ρ μ=(ft ρ μ).bind fun b μ1=>if b=true then .ok true μ1 else gt ρ μ1:=RE (RF _)
@[simp] theorem dk:eU ft ρ μ=(ft ρ μ).bind fun b μ1=>.ok (!b) μ1:=RE (RF _)
@[simp] theorem gG:jf fa fb ρ μ=(fa ρ μ).bind fun a μ1=>(Eu a μ1).bind fun b μ2=>if b=true then fb ρ μ2 else .ok (.bl false) μ2:=RE (RF _)
@[simp] theorem zR:v7 f ρ μ=(f ρ μ).bind fun a μ1=>(Eu a μ1).bind fun b μ2=>.ok (.bl (!b)) μ2:=RE (RF _)
@[simp] theorem nK:ke o1 o2 fa fb fc ρ μ=(fa ρ μ).bind fun a μ1=>(fb ρ μ1).bind fun b μ2=>(o1 a b μ2).bind fun z μ3=>(Eu z μ3).bind fun k μ4=>
 if k=true then (fc ρ μ4).bind fun c μ5=>o2 b c μ5 else .ok (.bl false) μ4:=RE (RF _)
@[simp] theorem fG:jx f ρ μ=(f ρ μ).bind BE:=RE (RF _)
@[simp] theorem cD {b:Bool}:BE (.bl b) μ=.ok b μ:=RE (RF _)
@[simp] theorem B8 {fl fh:MO}:Et fa fl fh ρ μ=(fa ρ μ).bind fun a μ1=>(fl ρ μ1).bind fun lo μ2=>(fh ρ μ2).bind fun hi μ3=>Aa a lo hi μ3:=RE (RF _)
@[simp] theorem CY:Ez ρ μ=.ok none μ:=RE (RF _)
@[simp] theorem rB:k6 f ρ μ=(f ρ μ).bind L9:=RE (RF _)
@[simp] theorem ye {i:Int}:L9 (.int i) μ=.ok (some i) μ:=RE (RF _)
@[simp] theorem CZ:BN ρ μ=.ok (.obj μ.length) (μ++[.dic]):=RE (RF _)
@[simp] theorem pD {F:D->List D->aw->ai D}{fo:ME}:zb F fo fr ρ μ=(fo ρ μ).bind fun o μ1=>if z9 o μ1=true then (fr ρ μ1).bind fun ds μ2=>F o ds μ2 else .bad:=RE (RF _)
@[simp] theorem aU:bR f ρ μ=(f ρ μ).bindS fun d μ'=>.ret d μ':=RE (RF _)
@[simp] theorem bH:dJ ρ μ=.next ρ μ:=RE (RF _)
@[simp] theorem aH:bB fs gs ρ μ=(fs ρ μ).bind gs:=RE (RF _)
@[simp] theorem bS:pj ft fs gs ρ μ=(ft ρ μ).bindS fun b μ1=>if b=true then fs ρ μ1 else gs ρ μ1:=RE (RF _)
@[simp] theorem bc:cK f g ρ μ=(f ρ μ).bindS fun d μ1=>(g d ρ μ1).bindS fun ρ' μ2=>.next ρ' μ2:=RE (RF _)
@[simp] theorem gF:kK f ρ μ=(f ρ μ).bindS fun _ μ1=>.next ρ μ1:=RE (RF _)
@[simp] theorem aD {g:MS}:(SO.next ρ μ).bind g=g ρ μ:=RE (RF _)
@[simp] theorem f9 {d:D}{g:MS}:(SO.ret d μ).bind g=.ret d μ:=RE (RF _)
@[simp] theorem zJ {g:MS}:(SO.next ρ μ).loop g=g ρ μ:=RE (RF _)
@[simp] theorem JK {d:D}{g:MS}:(SO.ret d μ).loop g=.ret d μ:=RE (RF _)
@[simp] theorem aM {d:D}:(SO.ret d μ).out=.ok d μ:=RE (RF _)
@[simp] theorem wL:(SO.next ρ μ).out=.ok .non μ:=RE (RF _)
@[simp] theorem bD {i:Nat}{d:D}:ao i d ρ μ=.ok (ρ.set i (some d)) μ:=RE (RF _)
@[simp] theorem zT {fo fi:ME}{d:D}:vV fo fi d ρ μ=(fo ρ μ).bind fun o μ1=>(fi ρ μ1).bind fun i μ2=>(Ad o i d μ2).bind fun _ μ3=>.ok ρ μ3:=RE (RF _)
@[simp] theorem iI {fi:MI}:mJ fi g fs ρ μ=(fi ρ μ).bindS fun src μ1=>gr src g fs src.items ρ μ1:=RE (RF _)
@[simp] theorem bL:fE f ρ μ=(f ρ μ).bind uy:=RE (RF _)
@[simp] theorem dq {F:List D->aw->ai oj}:iE F fr ρ μ=(fr ρ μ).bind F:=RE (RF _)
@[simp] theorem iT {xs:List D}:uy (.tup xs) μ=.ok (.fix xs) μ:=RE (RF _)
@[simp] theorem bT {fi:MI}{cap:List (Option Nat)}:cW fi cap g ft f ρ μ=(fi ρ μ).bind fun src μ1=>compLoop src μ1.length g ft f src.items (eR cap ρ) (μ1++[.lst []]):=RE (RF _)
@[simp] theorem aS {xs:List D}:(oj.fix xs).items=xs:=RE (RF _)
@[simp] theorem hU {n:Nat}{xs:List D}:(oj.own n xs).items=xs:=RE (RF _)
@[simp] theorem u5:eR [] ρ=[]:=RE (RF _)
@[simp] theorem rE {r:List (Option Nat)}:eR (none::r) ρ=none::eR r ρ:=RE (RF _)
@[simp] theorem L3 {r:List (Option Nat)}{j:Nat}:eR (some j::r) ρ=(ρ[j]?).join::eR r ρ:=RE (RF _)
theorem cN{N:Nat}{a:D}:ip 1 N fs [a] μ=qh μ (fs (some a::List.replicate (N-1) none) μ).out:=NL rfl
theorem cn{N:Nat}{a b:D}:ip 2 N fs [a,b] μ=qh μ (fs (some a::some b::List.replicate (N-2) none) μ).out:=NL rfl
theorem yd{N:Nat}{a b c:D}:ip 3 N fs [a,b,c] μ=qh μ (fs (some a::some b::some c::List.replicate (N-3) none) μ).out:=NL rfl
@[simp] theorem dQ {op:CmpOp}{i j:Int}:j9 op (.int i) (.int j) μ=.ok (.bl (f7 op i j)) μ:=RE (RF _)
@[simp] theorem ki {i j:Int}:cf (.int i) (.int j) μ=.ok (.int (i+j)) μ:=RE (RF _)
@[simp] theorem Hn {gg:Int->Int->D}{i j:Int}:dI gg (.int i) (.int j) μ=.ok (gg i j) μ:=RE (RF _)
@[simp] theorem oH {C:Int->Int->Prop}{gg:Int->Int->D}{i j:Int} (h:C i j):GN C gg (.int i) (.int j) μ=.ok (gg i j) μ:=by unfold GN;simp[h]
@[simp] theorem Mm {i j:Int} (h:vR i j):sJ (.int i) (.int j) μ=.ok (.int (i*j)) μ:=by unfold sJ;simp[h]
@[simp] theorem yb {i:Int}:vL (.int i) μ=.ok (.int (-i)) μ:=RE (RF _)
@[simp] theorem jJ {neg:Bool}{i j:Int}:kW neg (.int i) (.int j) μ=.ok (.bl (if neg then !(i == j) else i == j)) μ:=RE (RF _)
@[simp] theorem dm {xs:List D}:jw [.tup xs] μ=.ok (.int xs.length) μ:=RE (RF _)
@[simp] theorem zS {xs:List D}:jw [.frz xs] μ=.ok (.int xs.length) μ:=RE (RF _)
theorem iS{n:Nat}{xs:List D}(h:μ[n]?=some (.lst xs)):gE [.obj n] μ=.ok (.tup xs) μ:=by unfold gE;simp[h]
theorem iU{n:Nat}{bs:List Bool}(h:μ[n]?=some (.lst (bs.map D.bl))):ot [.obj n] μ=.ok (.bl (bs.all id)) μ:=by unfold ot;simp[h,Bt]
theorem oG{xs:List D}{i:Int}{d:D}(h:atI xs i=some d):gY (.tup xs) (.int i) μ=.ok d μ:=by unfold gY;simp[h]
theorem J7{xs:List D}{i:Int}{d:D}(h:atI xs i=some d):gY (.frz xs) (.int i) μ=.ok d μ:=by unfold gY;simp[h]
theorem iH{n:Nat}{xs:List D}{i:Int}{d:D}(hm:μ[n]?=some (.lst xs))(h:atI xs i=some d):gY (.obj n) (.int i) μ=.ok d μ:=by unfold gY;simp[hm,h]
theorem zQ{n j:Nat}{xs:List D}{i:Int}{d:D}(hm:μ[n]?=some (.lst xs))(h:y9 xs.length i=some j):Ad (.obj n) (.int i) d μ=.ok () (μ.set n (.lst (xs.set j d))):=by unfold Ad;simp[hm,h]
theorem kh{n:Nat}{xs:List D}(hm:μ[n]?=some (.lst xs)):uy (.obj n) μ=.ok (.own n xs) μ:=by unfold uy;simp[hm]
theorem fm{j:Int}(h0:0<=j)(h:j<1000):i8 [.int j] μ=.ok (.fix (cu 0 j.toNat)) μ:=by
 unfold i8;dsimp only;rw[NL];omega
theorem GA{i j:Int}(h0:0<=i)(h1:i<1000)(h2:-1000<=j)(h:j<1000):Ah [.int i,.int j] μ=.ok (.fix (cu i (j-i).toNat)) μ:=by
 unfold Ah;dsimp only;rw[NL];omega
theorem v8{α:Type}{x:α}{r:List α}:atI (x::r) 0=some x:=by unfold atI y9;simp
theorem zl{α:Type}{x y:α}{r:List α}:atI (x::y::r) 1=some y:=kj (j:=1) rfl
theorem Hr{α:Type}{x y z:α}{r:List α}:atI (x::y::z::r) 2=some z:=kj (j:=2) rfl
@[simp] theorem fU {x:D}{r:List D}:gY (.tup (x::r)) (.int 0) μ=.ok x μ:=oG v8
@[simp] theorem lZ {x y:D}{r:List D}:gY (.tup (x::y::r)) (.int 1) μ=.ok y μ:=oG zl
theorem Kk{α:Type}{xs:List α}{i:Int}{x:α}(h0:0<=i)(h:xs[i.toNat]?=some x):atI xs i=some x:=by
 have:=kj h
 rwa [show ((i.toNat:Nat):Int)=i by omega]at this
theorem CM{n:Nat}{i:Int}(h0:0<=i)(h:i<n):y9 n i=some i.toNat:=by unfold y9;simp[h0,h]
end
section
variable{μ g:aw}{d:D}
@[simp] theorem Gn {n:Nat}{i:Int}:(D.int i).low n=True:=by simp[D.low]
@[simp] theorem Ng {n:Nat}{i:Bool}:(D.bl i).low n=True:=by simp[D.low]
@[simp] theorem Ml {n:Nat}:D.non.low n=True:=by simp[D.low]
@[simp] theorem Mj {n:Nat}{x:Str}:(D.str x).low n=True:=by simp[D.low]
@[simp] theorem nA {n:Nat}{xs:List D}:(D.tup xs).low n=D.lows n xs:=by simp[D.low]
@[simp] theorem ql {n m:Nat}:(D.obj m).low n=(m<n):=by simp[D.low]
@[simp] theorem LZ {n:Nat}:D.lows n []=True:=by simp[D.lows]
@[simp] theorem Kr {n:Nat}{x:D}{xs:List D}:D.lows n (x::xs)=(x.low n/\D.lows n xs):=by simp[D.lows]
theorem iy{n:Nat}:∀{xs:List D},D.lows n xs↔∀x∈xs,x.low n
 |[]=>by simp
 |x::xs=>by simp[iy (xs:=xs)]
theorem cA(hd:d.low μ.length):qh μ (.ok d (μ++g))=.ok d μ:=by
 unfold qh;dsimp only;rw[NL]
 ·simp
 ·refine⟨hd,by simp,fun i o hi h=>.inl ?_⟩;rw[OJ hi]at h;exact h
theorem bx(hd:d.low μ.length):qh μ (.ok d μ)=.ok d μ:=by
 have:=cA (μ:=μ) (g:=[]) hd;simpa using this
theorem CQ{i:Nat}{o:O}(hd:d.low μ.length)(ho:o.low μ.length):qh μ (.ok d (μ.set i o++g))=.ok d (μ.set i o):=by
 unfold qh;dsimp only;rw[NL]
 ·congr 1;rw[RQ (by simp)];exact Qq (by simp)
 ·refine ⟨hd, by simp, fun j o' hj h => ?_⟩;rw[OJ (by simpa using hj)]at h;by_cases hij:i=j
  ·subst hij;rw[N5 hj]at h;cases h;exact .inr ho
  ·rw[N6 hij]at h;exact .inl h
theorem zO{i:Nat}{o:O}(hd:d.low μ.length)(ho:o.low μ.length):qh μ (.ok d (μ.set i o))=.ok d (μ.set i o):=by
 have:=CQ (μ:=μ) (g:=[]) (i:=i) hd ho;simpa using this
theorem B7{μ':aw}(h:¬ d.low μ.length):qh μ (.ok d μ')=.ok d μ':=by
 unfold qh;dsimp only;rw[NM fun z=>h z.1]
theorem CS{μ':aw}:qh μ (.ok d μ')=.ok d μ'\/(qh μ (.ok d μ')=.ok d (μ'.take μ.length)/\d.low μ.length):=by
 unfold qh;dsimp only;by_cases h:HD μ μ' d
 ·rw[NL h];exact .inr ⟨rfl,h.1⟩
 ·rw[NM h];exact .inl rfl
end
theorem nG{μ1 g:aw}{a b:O}:(μ1++a::g).set μ1.length b=μ1++b::g:=by
 rw[List.set_append_right _ _ (Om _),QI];rfl
theorem aA{μ1 g:aw}{a:O}:(μ1++a::g)[μ1.length]?=some a:=by
 rw[OH (Om _),QI];rfl
theorem l7{μ1 g:aw}{ys:List D}{y:D}(h:ys.length<sizeLine):tm μ1.length y (μ1++.lst ys::g)=.ok () (μ1++.lst (ys++[y])::g):=by
 unfold tm;rw[aA];dsimp only;rw[NL h,nG]
theorem jW{src:oj}{g:MG}{t:MT}{e:ME}{μ1:aw}{q:D->Bool}{h:D->D}(R:Ro->Prop)(ho:∀a,cF src (μ1++[.lst a])) :
  ∀{xs acc:List D}{ρ:Ro},R ρ->acc.length+xs.length<=sizeLine->(∀x∈xs,∀a ρ,R ρ->∃ρ1,R ρ1/\g x ρ (μ1++[.lst a])=.ok ρ1 (μ1++[.lst a])/\t ρ1 (μ1++[.lst a])=.ok (q x) (μ1++[.lst a])/\(q x=true->e ρ1 (μ1++[.lst a])=.ok (h x) (μ1++[.lst a]))) ->
   compLoop src μ1.length g t e xs ρ (μ1++[.lst acc])=.ok (.obj μ1.length) (μ1++[.lst (acc++(xs.filter q).map h)])
 |[],acc,ρ,hr,hl,he=>by
  unfold compLoop;rw[NL (ho acc)];simp
 |x::xs,acc,ρ,hr,hl,he=>by
  obtain⟨ρ1,r1,e1,e2,e3⟩:=he x NX acc ρ hr;unfold compLoop;rw[NL (ho acc),e1];simp only[ae,aa];rw[e2];simp only[ae,aa];have he':=fun y hy=>he y (NY _ hy);simp only[PD]at hl;cases hq:q x with
  |false=>
   rw[NM Ou,jW R ho r1 (by omega) he',RR,hq];rfl
  |true=>
   rw[NL rfl,e3 hq];simp only[ae,aa];rw[l7 (by omega)];simp only[aa];rw[jW R ho r1 (by simp;omega) he',RR,hq];simp
theorem jP{src:oj}{g:MG}{t:MT}{e:ME}{n:Nat}(J:List D->List D->Ro->aw->aw->Prop)
  (fin:∀ys ρ μ1 s,J [] ys ρ μ1 s->μ1.length=n/\cF src (μ1++.lst ys::s))
  (step : ∀ x r ys ρ μ1 s, J (x :: r) ys ρ μ1 s -> μ1.length = n /\ cF src (μ1 ++ .lst ys :: s) /\ ∃ ρ1 μa sa b μb sb, g x ρ (μ1 ++ .lst ys :: s) = .ok ρ1 (μa ++ .lst ys :: sa) /\ t ρ1 (μa ++ .lst ys :: sa) = .ok b (μb ++ .lst ys :: sb) /\
   (b=true->∃y μc sc,e ρ1 (μb++.lst ys::sb)=.ok y (μc++.lst ys::sc)/\ys.length<sizeLine/\μc.length=n/\J r (ys++[y]) ρ1 μc sc)/\(b=false->J r ys ρ1 μb sb)) :
  ∀{xs ys:List D}{ρ:Ro}{μ1 s:aw},J xs ys ρ μ1 s->∃ys' ρ' μ1' s',J [] ys' ρ' μ1' s'/\compLoop src n g t e xs ρ (μ1++.lst ys::s)=.ok (.obj n) (μ1'++.lst ys'::s')
 |[],ys,ρ,μ1,s,hJ=>by
  refine⟨ys,ρ,μ1,s,hJ,?_⟩;unfold compLoop;rw[NL (fin ys ρ μ1 s hJ).2]
 |x::xs,ys,ρ,μ1,s,hJ=>by
  obtain⟨hn,ho,ρ1,μa,sa,b,μb,sb,e1,e2,e3,e4⟩:=step x xs ys ρ μ1 s hJ;unfold compLoop;rw[NL ho,e1];simp only[ae,aa];rw[e2];simp only[ae,aa];cases b with
  |false=>
   rw[NM Ou];exact jP J fin step (e4 rfl)
  |true=>
   obtain⟨y,μc,sc,f1,f2,f3,f4⟩:=e3 rfl;rw[NL rfl,f1];simp only[ae,aa];subst f3;rw[l7 f2];simp only[aa];exact jP J fin step f4
theorem qp{src:oj}{g:MG}{fb:MS}(J:List D->Ro->aw->Prop)(fin:∀ρ μ,J [] ρ μ->cF src μ)
  (step:∀x r ρ μ,J (x::r) ρ μ->cF src μ/\∃ρ1 μ1 ρ2 μ2,g x ρ μ=.ok ρ1 μ1/\fb ρ1 μ1=.next ρ2 μ2/\J r ρ2 μ2) :
  ∀{xs:List D}{ρ:Ro}{μ:aw},J xs ρ μ->∃ρ' μ',J [] ρ' μ'/\gr src g fb xs ρ μ=.next ρ' μ'
 |[],ρ,μ,h=>⟨ρ,μ,h,by unfold gr;rw[NL (fin ρ μ h)]⟩
 |x::xs,ρ,μ,h=>by
  obtain⟨ho,ρ1,μ1,ρ2,μ2,e1,e2,h2⟩:=step x xs ρ μ h;obtain⟨ρ',μ',h3,e3⟩:=qp J fin step h2;refine⟨ρ',μ',h3,?_⟩;unfold gr;rw[NL ho,e1];simp only[af];rw[e2];exact e3
end L2
namespace L2
open PySem PySem.Spec PyProof.Rows RS
theorem LR{P:Program}{w:World}{K:W.Frag}{mg:Str->Option Value}{base:Heap}{p:Pa}{k n:Nat}{x qual:Str}{st:Stmt}{f:Addr}{fd:FuncData}{N ps:List Str}{fb:MS}
  (F:gZ K x qual st f fd) (S:aR N ps (ar st)) (hn:ps.length=n)
  (body : ∀ (cdv : Value) (A : Around) (outer : List Env) (s : Shared) (H : Hp) (E : XK), gv k (A.deeper (envOfC qual (ar st) s.heap.objs.size f cdv)) ->
   Bx (j7 (qE xO P w K mg base N qual (ar st) f cdv A outer s H E).nox (cj st) (i5 p fb))):qG P w K mg base xO (k+1) f fd ps (En p n (ip n N.length fb)):=by
 refine F.ok S (fun vs H Q E h=>h.1.trans hn.symm) fun cdv A outer s H vs Q E hr h=>?_;refine⟨_,(body cdv A outer s H E hr).h,?_⟩;obtain⟨hl,α,ds,μ,S1,R1,P1⟩:=h;unfold ip at P1;have hd:ds.length=n:=by rw[<- R1.length];exact hl
 rw[NL hd]at P1;have P2:=qo S1 P1;unfold start;rw[hl];refine⟨α,_,μ,S1,kz R1 _,?_⟩;cases e:fb (ds.map some++List.replicate (N.length-n) none) μ with
 |ret d μ'=>rw[e]at P2;exact fun H' α' v x s r=>P2 H' α' x s v r
 |next ρ μ'=>rw[e]at P2;exact fun H' α' σ' x s r=>P2 H' α' x s .non (bP.mpr rfl)
 |exc x μ'=>rw[e]at P2;exact P2
 |brk ρ μ'=>rw[e]at P2;exact P2.elim
 |cnt ρ μ'=>rw[e]at P2;exact P2.elim
 |bad=>rw[e]at P2;exact P2.elim
theorem tN{K:W.Frag}{H:Hp}{α:List Addr}:∀ns:List Int,Reps K H α (ns.map D.int) (ns.map V.int)
 |[]=>by simp only[Pd,Reps]
 |n::ns=>by
  simp only[Pe,Reps];exact⟨_,_,rfl,av.mpr rfl,tN ns⟩
theorem D0{K:W.Frag}{w:World}{F:List D->aw->ai D}{H:Hp}{a:Addr}{ns:List Int}{E:XK}(hF:∃μ',F [.frz (ns.map D.int)] []=.ok (.bl true) μ')(hO:EI H)(hS:fT K H a (ns.map V.int)) :
  En (df K w) 1 F [.ref a] H (fun v _=>v=.bl true) E:=by
 obtain⟨μ',e⟩:=hF
 have fz:GO K H a (ns.map V.int):=by
  rcases hS with (h|h)|h
  ·rcases hO a with z | ⟨o, xs, z⟩
   ·rw[h]at z;cases z
   ·rw[h]at z;cases z
  ·exact .inl h
  ·exact .inr h
 refine⟨rfl,[],[.frz (ns.map D.int)],[],⟨rfl,QH,fun n o a h=>by simp at h⟩,?_,?_⟩
 ·simp only[Reps];exact⟨_,_,rfl,bw.mpr ⟨a,_,rfl,fz,tN ns⟩,rfl⟩
 ·rw[e];exact fun H' α' x s v r=>a8.mp r
end L2
namespace L2
open PySem PySem.Spec PyProof.Rows RS
section
variable{X:Cx}{p:Pa}
def qS:D->Bool
 |.tup _=>true
 |.frz _=>true
 |.obj _=>true
 |_=>false
theorem yK{K:W.Frag}{H:Hp}{α:List Addr}{d:D}{v:V}(h:qS d=true)(r:aP K H α d v):∃a,v=.ref a:=by
 cases d with
 |tup xs=>obtain⟨a,us,rfl,_⟩:=aI.mp r;exact⟨a,rfl⟩
 |frz xs=>obtain⟨a,us,rfl,_⟩:=bw.mp r;exact⟨a,rfl⟩
 |obj n=>obtain⟨a,rfl,_⟩:=aQ.mp r;exact⟨a,rfl⟩
 |_=>cases h
def fV(d:D)(ds:List D)(μ:aw):ai D:=match d,ds with
 |.obj m,[.obj n]=>match μ[m]?,μ[n]? with
  |some (.lst xs),some (.lst ys)=>if xs.length+ys.length<=sizeLine then .ok .non (μ.set m (.lst (xs++ys))) else .bad
  |_,_=>.bad
 |_,_=>.bad
theorem Gg:Kx p fV zA:=by
 intro d ds v vs H α μ Q S rd rs P;unfold fV at P;split at P
 ·rename_i m n;split at P
  ·rename_i xs ys hx hy;split at P
   ·rename_i hb;obtain⟨a,us,rfl,a1,h1,rr⟩:=dh S rd hx;obtain⟨w,rfl,rw'⟩:=rs.one;obtain⟨a',us',rfl,a1',h1',rr'⟩:=dh S rw' hy;have q:=rr.append rr';exact⟨a,a',us,us',rfl,rfl,h1,h1',by rw[rr.length,rr'.length];exact hb,P _ _ (kg h1) (S.put hx a1 h1 q) _ (bP.mpr rfl)⟩
   ·exact P.elim
  ·exact P.elim
 ·exact P.elim
def Al(neg:Bool)(a b:D)(μ:aw):ai D:=match a,b with
 |.str x,.str y=>.ok (.bl (if neg then !decide (x=y) else decide (x=y))) μ
 |_,_=>.bad
theorem E9{x y:Str}:decide (V.str x=V.str y)=decide (x=y):=by
 by_cases e:x=y
 ·subst e;simp
 ·rw[NI e,NI];intro z;cases z;exact e rfl
theorem JB:uu p (Al true) Mp:=by
 intro a b v y H α μ Q S ra rb P;unfold Al at P;split at P
 ·rename_i x z;obtain rfl:=br.mp ra;obtain rfl:=br.mp rb;exact⟨rfl,by rw[E9];exact P.now S _ (a8.mpr rfl)⟩
 ·exact P.elim
theorem LK:pV X p .NotEq (Al true):=⟨Mp,LD,JB⟩
end
end L2
namespace L2
open PySem PySem.W PyProof.Rows RS
section
variable{prog:Program}{w:World}{A:Around}{E:Value->Shared->Prop}
theorem J3{id:String}{b:Builtin}{us:List Value}{kw:List (Str×Value)}{Q:Value->Shared->Prop}{s:Shared}(h1:builtinKind id=none)(h2:plainId id=true)(h3:entryFor table id=some b)(h4:argsOk id ⟨us,kw⟩)
  (go : wpAny (model prog w) A.in1 (b ⟨us, kw⟩) (fun fin s' => match fin with
   |.done f=>(match (Except.ok f:Result) with | .ok (.ret v)=>Q v s' | .ok _=>False | .error e=>E e s')
   |.again c=>c.quiet=true/\codeAny (model prog w) A c (fun r s'=>match r with | .ok (.ret v)=>Q v s' | .ok _=>False | .error e=>E e s') s') E s):wpAny (model prog w) A (call (.builtin id) us kw) Q E s:=by
 refine Oy (Q6 h2 h3 ?_);simp only[checkBuiltinCall,h1];cases z:Manifest.signature? id with
 |none=>exact Og go
 |some sg=>
  have z2:Bind.checkArgs id sg ⟨us,kw⟩=pure ():=by simpa only[argsOk,z] using h4
  simp only[z2];exact Og go
def KZ (vs:Array Value) (c:Nat):Obj:={cls:=.type "list",dict:=none,data:=.seq vs c,slots:=#[]}
abbrev Kp(s0:Shared)(h:Heap):Prop:=∀b ob,s0.heap.get? b=some ob->h.get? b=some ob
end
section
variable{X:Cx}
theorem qj{h:Heap}{a:Addr}(k:h.objs.size<=a):h.get? a=none:=by
 cases e:h.get? a with
 |none=>rfl
 |some o=>exact absurd (NO e) (Nat.not_lt.mpr k)
end
theorem Nr{α:Type}{P:List α->Prop}(h:∀a,P [a]):∀us:List α,us.length=1->P us
 |[a],_=>h a
theorem us2{α:Type}{P:List α->Prop}(h:∀a b,P [a,b]):∀us:List α,us.length=2->P us
 |[a,b],_=>h a b
theorem Nq{α:Type}{P:List α->Prop}(h:∀a b c,P [a,b,c]):∀us:List α,us.length=3->P us
 |[a,b,c],_=>h a b c
theorem gZ.b1{K:W.Frag}{x qual:Str}{st:Stmt}{f:Addr}{fd:FuncData}{ps:List Str}(F:gZ K x qual st f fd)(hl:ps.length=1)(h:∀(kV doc pm:Value)(an:Option Addr)(cdv ct a:Value),bindArgs (W.fnOf x qual (fq st) (cj st) (ar st) .none kV doc pm an cdv ct) ⟨[a],[]⟩=pure (ps.zip [a])):iu K fd ps []:=
 F.binds fun kV doc pm an cdv ct us e=>Nr (P:=fun us=>bindArgs (W.fnOf x qual (fq st) (cj st) (ar st) .none kV doc pm an cdv ct) ⟨us,[]⟩=pure (ps.zip us)) (fun a=>h kV doc pm an cdv ct a) us (e.trans hl)
theorem gZ.b2{K:W.Frag}{x qual:Str}{st:Stmt}{f:Addr}{fd:FuncData}{ps:List Str}(F:gZ K x qual st f fd)(hl:ps.length=2)(h:∀(kV doc pm:Value)(an:Option Addr)(cdv ct a b:Value),bindArgs (W.fnOf x qual (fq st) (cj st) (ar st) .none kV doc pm an cdv ct) ⟨[a,b],[]⟩=pure (ps.zip [a,b])):iu K fd ps []:=
 F.binds fun kV doc pm an cdv ct us e=>us2 (P:=fun us=>bindArgs (W.fnOf x qual (fq st) (cj st) (ar st) .none kV doc pm an cdv ct) ⟨us,[]⟩=pure (ps.zip us)) (fun a b=>h kV doc pm an cdv ct a b) us (e.trans hl)
theorem gZ.b3{K:W.Frag}{x qual:Str}{st:Stmt}{f:Addr}{fd:FuncData}{ps:List Str}(F:gZ K x qual st f fd)(hl:ps.length=3)(h:∀(kV doc pm:Value)(an:Option Addr)(cdv ct a b c:Value),bindArgs (W.fnOf x qual (fq st) (cj st) (ar st) .none kV doc pm an cdv ct) ⟨[a,b,c],[]⟩=pure (ps.zip [a,b,c])):iu K fd ps []:=
 F.binds fun kV doc pm an cdv ct us e=>Nq (P:=fun us=>bindArgs (W.fnOf x qual (fq st) (cj st) (ar st) .none kV doc pm an cdv ct) ⟨us,[]⟩=pure (ps.zip us)) (fun a b c=>h kV doc pm an cdv ct a b c) us (e.trans hl)
end L2
namespace L2
open PySem PySem.Spec PyProof.Rows RS
section
variable{X:Cx}{d:Nat}{acc:Addr}
theorem Gi {X:Cx}:Mr X (newSet (.type "set")) (fun a=>.ext fun h=>bY X.w h a []):=fun pins s σ H Q I h=>by
 unfold newSet setsByText;simp only[bind_assoc,pure_bind];refine Oc (PQ ?_)
 try dsimp only
 simp only[newObj];refine Oc (wpAny_alloc (Og ?_));have hS:bY X.w (s.heap.push {cls:=.type "set",dict:=none,data:=.set #[] 0 (.fresh 0 0 (mw X.w))}) s.heap.objs.size []:=lz (Ol _ rfl);refine h _ (I.laid (t':=s.toks) (fun b o e=>Oj _ e) (Om _) ⟨hS,⟨_,Ol _ rfl⟩,fun h1 h2 g k=>g.keeps k⟩) (fun b o e=>Oj _ e) ?_;show s.heap.objs.size<(s.heap.push _).objs.size;rw[PJ];exact PF _
def Cm(K:W.Frag)(w:World)(te:TE)(acc:Addr):BC:=fun σ H N=>te σ H fun y H4=>∃(r:Addr)(k:List Int)(ps:List KP),y=.ref r/\H4 acc=some (.ext fun h=>bY w h acc ps)/\k∈prs/\fS K H4 r (k.map V.int)/\(∀p∈ps,fS K H4 p.2 (p.1.map V.int)) /\
 N σ (cq H4 acc (.ext fun h=>bY w h acc (ja ps k r)))
theorem AQ{te:TE}{elt:Expr}{gens:List Comprehension}{scope:Scope}{pos:Pos}(hg:gens[d]?=none)(hxe:X.xe=uw)(hu:X.A.units+64<cLine)(hel:PE X elt te):ur X (.SetComp elt gens scope pos) d acc (Cm X.K X.w te acc):=by
 intro pins s σ H N I h;unfold my;show (match gens[d]? with|some g=>_|none=>_:Prop);rw[hg];show wpAny _ _ (do let v <- eval elt X.env;standAt elt.pos;let _ <- call (.builtin "set.add") [.ref acc,v]) _ _ _;have z:=hel pins s σ H _ I h;rw[hxe]at z;refine Oc (eF z fun v10 s10 ⟨y,H10,I10,r10,r,k,ps,ey,hacc,hk,hr,hps,nn⟩=>?_);subst ey;cases r10;refine Oc (Oe (Oc ?_));obtain⟨hS,_⟩:=(show eW X.prog X.w H10 s10.heap acc (.ext fun h=>bY X.w h acc ps) from I10.hok acc _ hacc);obtain⟨o,es,ep,t,Z,S0,k1,k2⟩:=id hS
 have hin:X.A.in1.units<cLine:=by
  have:X.A.in1.units<=X.A.units+1:=by first|exact Px rfl|exact Px (units_in1 _)|exact Nat.le_succ_of_le (Px (units_in1 _))
  omega
 have tps:∀q∈ps,Tk X.prog X.w s10.heap q.1 q.2:=fun q hq=>tf I10 (hps q hq);have tr:Tk X.prog X.w s10.heap k r:=tf I10 hr;refine O6 F.slot_set_add ⟨o,S0.ho,S0.ex.1⟩ F.entry_set_add ?_ (F.args_set_add_2 _ _);unfold Builtin.«set.add» Builtin.Frozenset.oneOther;simp only[List.isEmpty_nil,bind_assoc];unfold Builtin.Frozenset.addrOf setAdd;refine Oc (Og ?_)
 try dsimp only
 refine Oc (Og ?_)
 try dsimp only
 refine Oc (Od ?_);refine Oc (wpAny_pyHash_tuple hin (tf I10 hr) ?_);rw[CP];refine Cd (s:={s10 with toks:=s10.toks+(k.length+1)}) hS hk tr tps hin fun b h' hsb hS2=>?_;show wpAny _ _ (ret Value.none) _ _ _;refine Og ⟨_,rfl,Og ⟨_,_,?_,nn⟩⟩;refine I10.write (x:=acc) (e:=acc) (by rw[hacc];exact trivial) (.inl rfl) (fun b' u hb hu=>(hsb.2 b' hb).trans hu) ?_ ⟨hS2,?_,fun h1 h2 g k=>g.keeps k⟩
 ·obtain⟨o',_,_,_,_,S',_⟩:=hS2;exact⟨o',S'.ho⟩
 ·obtain⟨o',_,_,_,_,S',_⟩:=hS2;exact⟨o',S'.ho⟩
variable{e:Expr}{cl0:Comprehension}{rest:List Comprehension}{scope:Scope}{Nc:List Str}{cap:List (Option Nat)}{wi:TI}{g:TG}{tt:TT}{tb:Addr->BC}{elt:Expr}{pos:Pos}
theorem DG(hc:X.calm=true)(hz:∀g∈cl0::rest,g.is_async=0)(S:bF X.N X.env scope Nc cap)(hi:PI X cl0.target cl0.iter wi)
  (hg:∀cl C s H fp,PG (i6 X Nc scope cl C s H fp) cl0.target g) (ht:∀cl C s H fp,qA (i6 X Nc scope cl C s H fp) cl0.ifs tt) (hb:∀cl C s H fp acc,ur (i6 X Nc scope cl C s H fp) (.SetComp elt (cl0::rest) scope pos) 1 acc (tb acc))
  (hs:∀x,foldedSetIterable cl0.iter X.env x=pure x):PE X (.SetComp elt (cl0::rest) scope pos) (mO (fun a=>.ext fun h=>bY X.w h a []) wi cap g tt tb):=by
 intro pins s σ H Q I h;have h0:=hz cl0 NX;obtain⟨tg0,it0,if0,as0⟩:=cl0;have h0':as0=0:=h0;subst h0';rw[arm_eval_SetComp];refine oU (e:=.SetComp elt (_::rest) scope pos) (Q:=Q) rfl hz rfl Gi hc S hi hg ht hb I h (fun C acc s' H' I' hf hn q=>?_) hs;obtain⟨m,hn⟩:=hn;refine⟨m,hn,fun h' sb=>⟨.ref acc,H',?_,rfl,q⟩⟩;exact I'.turned (t':=s'.toks) (it:=C) (fun b o hb e=>(sb.2 b hb).trans e) hf.1 hf.2.1 hf.2.2.2.1 hf.2.2.2.2.1 hf.2.2.2.2.2
end
section
variable{K:W.Frag}{w:World}{H:Hp}{α:List Addr}{μ:aw}
theorem xa{p:Addr}{φ:Heap->Prop}{o:HO}(h:H p=some (.ext φ)):me K H (cq H p o) α α:=by
 refine⟨fun a xs q=>?_,fun a xs q=>?_,fun _ _ z=>z⟩
 ·rcases q with (q | ⟨x, q⟩) | q
  ·exact .inl (.inl (by rw[bq (tx q h (by intro z;cases z))];exact q))
  ·exact .inl (.inr ⟨x,by rw[bq (tx q h (by intro z;cases z))];exact q⟩)
  ·exact .inr q
 ·rcases q with ⟨x, q⟩ | q
  ·exact .inl ⟨x,by rw[bq (tx q h (by intro z;cases z))];exact q⟩
  ·exact .inr q
theorem uj(S:fF K w H α μ){n:Nat}{a:Addr}{ks ks':List (List Int)}{φ:Heap->Prop}{ho:HO}(h1:μ[n]?=some (.set ks))(h2:α[n]?=some a)(h3:H a=some (.ext φ))(q:sL K w (cq H a ho) α (.set ks') a):fF K w (cq H a ho) α (μ.set n (.set ks')):=by
 have e:=xa (K:=K) (α:=α) (o:=ho) h3;refine⟨by simp[S.len],S.nd,fun m o b g1 g2=>?_⟩;have hn:n<μ.length:=(N3.mp h1).1;by_cases hm:m=n
 ·subst hm;rw[N5 hn]at g1;cases g1;rw[h2]at g2;cases g2;exact q
 ·rw[N6 (fun z=>hm z.symm)]at g1;refine(S.ob m o b g1 g2).mono e (bq fun z=>hm ?_);subst z;obtain⟨l1,e1⟩:=N3.mp g2;obtain⟨l2,e2⟩:=N3.mp h2;exact(N4 S.nd).mp (e1.trans e2.symm)
end
def EH(n:Nat)(y:D)(μ:aw):ai Unit:=match μ[n]?,y with
 |some (.set ks),.tup [.int a,.int b]=>if [a,b]∈prs then .ok () (μ.set n (.set (mL ks [a,b]))) else .bad
 |_,_=>.bad
theorem Em{ps:List KP}{k:List Int}{r:Addr}:(ja ps k r).map (·.1)=mL (ps.map (·.1)) k:=by
 unfold ja mL;split <;> simp
theorem GJ{p:Pa}{n:Nat}{y:D}{μ:aw}{H:Hp}{α:List Addr}{R:Unit->aw->Hp->List Addr->Prop}{v:V}{acc:Addr}(S:p.S H α μ)(ha:α[n]?=some acc)(rv:p.R H α y v)(P:aE p H α (EH n y μ) R) :
  ∃(r:Addr)(k:List Int)(ps:List KP),v=.ref r/\H acc=some (.ext fun h=>bY p.w h acc ps)/\k∈prs/\fS p.K H r (k.map V.int)/\(∀q∈ps,fS p.K H q.2 (q.1.map V.int)) /\
   ∃μ',p.X H (cq H acc (.ext fun h=>bY p.w h acc (ja ps k r))) α α/\p.S (cq H acc (.ext fun h=>bY p.w h acc (ja ps k r))) α μ'/\R () μ' (cq H acc (.ext fun h=>bY p.w h acc (ja ps k r))) α:=by
 unfold EH at P;split at P
 ·rename_i ks a b hx;split at P
  ·rename_i hk;obtain⟨acc',ea,ps,e1,e2,e3,e4,e5⟩:=S.at hx;rw[ha]at ea;cases ea;obtain⟨r,vs,rfl,h1,rr⟩:=aI.mp rv;have hvs:vs=[a,b].map V.int:=Reps.ints (ns:=[a,b]) rr;subst hvs;have x1:p.X H (cq H acc (.ext fun h=>bY p.w h acc (ja ps [a,b] r))) α α:=xa e2
   have q:sL p.K p.w (cq H acc (.ext fun h=>bY p.w h acc (ja ps [a,b] r))) α (.set (mL ks [a,b])) acc:=by
    refine⟨ja ps [a,b] r,by rw[Em,e1],bN,fun q hq=>?_,rY e4,fun q hq=>?_⟩
    ·rcases rJ hq with z | z
     ·exact e3 q z
     ·subst z;exact hk
    ·rcases rJ hq with z | z
     ·exact x1.tup _ _ (e5 q z)
     ·subst z;exact x1.tup _ _ h1
   exact⟨r,[a,b],ps,rfl,e2,hk,h1,e5,_,x1,uj S hx ha e2 q,P _ _ x1 (uj S hx ha e2 q)⟩
  ·exact P.elim
 ·exact P.elim
def zg(e:ME):MB:=fun n ρ μ=>(e ρ μ).nox.bind fun y μ1=>(EH n y μ1).bind fun _ μ2=>.ok ρ μ2
def uI(fi:MI)(cap:List (Option Nat))(g:MG)(t:MT)(fb:MB):ME:=fun ρ μ=>(fi ρ μ).bind fun src μ1=>(iq src μ1.length g t fb src.items (eR cap ρ) (μ1++[.set []])).bind fun _ μ2=>.ok (.obj μ1.length) μ2
section
variable{p:Pa}
theorem yO{e:ME}{acc:Addr}{σ:St}{H:Hp}{N:St->Hp->Prop}(h:vG p (zg e) acc σ H N):Cm p.K p.w (tD p.nx e) acc σ H N:=by
 obtain⟨α,ρ,μ,n,S,R,a,P⟩:=h;refine⟨α,ρ,μ,S,R,(dR P).imp fun y μ6 H6 α6 X6 S6 P6 v rv=>?_⟩;obtain⟨r,k,ps,e1,e2,e3,e4,e5,μ7,x7,s7,q7⟩:=GJ (p:=p) S6 (X6.pre _ _ a) rv (aE.bind P6);exact⟨r,k,ps,e1,e2,e3,e4,e5,q7.now s7 σ ((R.mono X6).mono x7)⟩
theorem yR{fi:MI}{cap:List (Option Nat)}{g:MG}{t:MT}{fb:MB}{σ:St}{H:Hp}{Q:VK}(h:tD p (uI fi cap g t fb) σ H Q):mO (fun a=>.ext fun h=>bY p.w h a []) (qx p fi) cap (oa p.nx g) (iD p.nx t) (fun acc=>vG p.nx fb acc) σ H Q:=by
 obtain⟨α,ρ,μ,S,R,P⟩:=h;refine⟨α,ρ,μ,S,R,(aE.bind P).imp fun src μ1 H1 α1 X1 S1 P1 J hok hJ acc hacc=>?_⟩;have x1:p.X H1 (cq H1 acc (.ext fun h=>bY p.w h acc [])) α1 (α1++[acc]):=(bK hacc).trans (ji [acc]);have s1:p.S (cq H1 acc (.ext fun h=>bY p.w h acc [])) (α1++[acc]) (μ1++[.set []]):=S1.more hacc ⟨[],rfl,bN,nofun,QH,nofun⟩;have hn:(α1++[acc])[μ1.length]?=some acc:=by rw[<- S1.len];simp
 refine mW (p:=p) x1 s1 (((R.mono X1).cap cap).mono x1) hn hJ ((aE.from x1 (aE.bind P1)).imp fun ρ' μ' H' α' X' S' P' σ' r'=>?_);exact P'.now S' _ (aQ.mpr ⟨acc,rfl,X'.pre _ _ hn⟩)
variable{X:Cx}{elt tg iter:Expr}{ifs:List Expr}{rest:List Comprehension}{scope:Scope}{Nc:List Str}{cap:List (Option Nat)}{fi:MI}{g:MG}{tt:MT}{te:ME}{mb:MB}{pos:Pos}{d:Nat}{acc:Addr}
theorem LX{gens:List Comprehension}(hg:gens[d]?=none)(hu:X.A.units+64<cLine)(hel:Bx (PE X elt (tD p.nx te)))(hxe:X.xe=uw:=by rfl)(hK:X.K=p.K:=by rfl)(hw:X.w=p.w:=by rfl):Bx (ur X (.SetComp elt gens scope pos) d acc (vG p.nx (zg te) acc)):=
 ⟨fun pins s σ H N I h=>AQ hg hxe hu hel.h pins s σ H N I (by rw[hK,hw];exact yO (p:=p.nx) h)⟩
theorem EX(S:bF X.N X.env scope Nc cap)(hi:Bx (PI X tg iter (qx p fi)))(hg:∀cl C s H fp,Bx (PG (i6 X Nc scope cl C s H fp) tg (oa p.nx g)))(ht:∀cl C s H fp,Bx (qA (i6 X Nc scope cl C s H fp) ifs (iD p.nx tt)))(hb:∀cl C s H fp acc,Bx (ur (i6 X Nc scope cl C s H fp) (.SetComp elt (⟨tg,iter,ifs,0⟩::rest) scope pos) 1 acc (vG p.nx mb acc)))(hz:qu (⟨tg,iter,ifs,0⟩::rest)=true:=by rfl)(hc:X.calm=true:=by rfl)(hs:∀x,foldedSetIterable iter X.env x=pure x:=by intro _;rfl)(hw:X.w=p.w:=by rfl):Bx (PE X (.SetComp elt (⟨tg,iter,ifs,0⟩::rest) scope pos) (tD p (uI fi cap g tt mb))):=
 ⟨(DG (cl0:=⟨tg,iter,ifs,0⟩) hc (uO hz) S hi.h (fun cl C s H fp=>(hg cl C s H fp).h) (fun cl C s H fp=>(ht cl C s H fp).h) (fun cl C s H fp acc=>(hb cl C s H fp acc).h) hs).weak fun σ H Q h=>by rw[hw];exact yR h⟩
end
theorem AK(its:List Value):slicePick its.toArray none none (some (-1))=its.reverse.toArray:=by
 unfold slicePick
 have hb:sliceBounds none none (some (-1)) its.toArray.size=((its.toArray.size:Int)-1,-1,-1):=by
  simp[sliceBounds]
 rw[hb];dsimp only
 have hr:sliceRange ((its.toArray.size:Int)-1) (-1) (-1)=(List.range its.toArray.size).map fun m:Nat=>(((its.toArray.size:Int)-1)+(m:Int)*(-1)).toNat:=by
  unfold sliceRange
  have hc:(if (-1:Int)>0 then if (its.toArray.size:Int)-1 < -1 then (-1-((its.toArray.size:Int)-1)+-1-1) / -1 else 0 else if (its.toArray.size:Int)-1 > -1 then ((its.toArray.size:Int)-1 - -1 - -1-1) / - -1 else 0)=(its.toArray.size:Int):=by
   rw[NM (by decide)];split
   ·rw[show-(-1:Int)=1 from rfl,Int.ediv_one];omega
   ·omega
  simp only[hc,OU];apply Qj;intro m _;congr 1;omega
 rw[hr,O0];exact wH its.toArray
def Lc(K:W.Frag)(te ts:TE):TE:=fun σ H Q=>te σ H fun x H1=>ts σ H1 fun y H2=>y=.int (-1)/\∃a xs,x=.ref a /\
 ((fS K H2 a xs/\∀p,H2 p=none->Q (.ref p) (cq H2 p (.tup xs.reverse)))\/(fT K H2 a xs/\∀p,H2 p=none->Q (.ref p) (cq H2 p (.lst xs.reverse))))
theorem FW{X:Cx}{e st:Expr}{te ts:TE}{pos p2:Pos}(he:PE X e te)(hs:PE X st ts):PE X (.Subscript e (.Slice none none (some st) p2) pos) (Lc X.K te ts):=by
 intro pins s σ H Q I h;refine Subscript_ (eF (he pins s σ H _ I h) fun v s1 ⟨x,H1,I1,r1,q1⟩=>?_);refine wpAny_Slice ?_;rw[evalPart_none];refine Og (Og ?_);rw[evalPart_some];refine eF (hs pins s1 σ H1 _ I1 q1) fun vs s3 ⟨y,H3,I3,r3,q3⟩=>?_;obtain⟨rfl,a,xs,rfl,hq⟩:=q3;obtain⟨tk,rfl⟩:=r3;cases r1;have I4:aV X pins σ H3 {s3 with heap:=s3.heap.push {cls:=.type "slice",data:=.fields #[.none,.none,.int (-1) tk]}}:=I3.kept (t':=s3.toks) fun b ob q=>Oj _ q;show wpAny (model X.prog X.w) X.A (subscriptTail e (.Slice none none (some st) p2) (.ref a) (.ref s3.heap.objs.size)) (EP X pins σ Q) X.xe {s3 with heap:=s3.heap.push {cls:=.type "slice",data:=.fields #[.none,.none,.int (-1) tk]}};have hsl:=Pf s3.heap .none .none (.int (-1) tk);rcases hq with⟨hx,q⟩|⟨hx,q⟩
 ·obtain⟨its,r,ht,hz⟩:=I4.tuple hx;refine tail_any (ops:=[.ref a,.ref s3.heap.objs.size]) ht.typeIs O5.lookup ?_ (by with_unfolding_all rfl);refine n6 ht (Pf ..) ?_ (by rw[Ow,<- r.length];exact hz);generalize {s3 with heap:=s3.heap.push {cls:=.type "slice",data:=.fields #[.none,.none,.int (-1) tk]}}=s5 at I4 ht;refine⟨.ref s5.heap.objs.size,_,I4.laid (t':=s5.toks) (o:=.tup xs.reverse) (fun b ob q=>Oj _ q) (Om _) ?_,rfl,q _ (I4.hok.fresh (Om _))⟩;exact⟨by rw[RT];exact hz,its.reverse,r.reverse,IsTup.new _ _⟩
 ·obtain⟨its,r,ht,hz⟩:=I4.list hx;refine tail_any (ops:=[.ref a,.ref s3.heap.objs.size]) ht.isList.typeIs Pg.lookup ?_ (by with_unfolding_all rfl);refine wpAny_getItem_list_slice ht.isList (Pf ..) .none .none (.int (-1) tk) (by simp) ?_ (by rw[Ow,<- r.length];exact hz);rw[AK];generalize {s3 with heap:=s3.heap.push {cls:=.type "slice",data:=.fields #[.none,.none,.int (-1) tk]}}=s5 at I4 ht;refine⟨.ref s5.heap.objs.size,_,I4.laid (t':=s5.toks) (o:=.lst xs.reverse) (fun b ob q=>Oj _ q) (Om _) ?_,rfl,q _ (I4.hok.fresh (Om _))⟩;exact⟨by rw[RT];exact hz,its.reverse,0,r.reverse,Ol _ rfl⟩
def qM(a b:D)(μ:aw):ai D:=match a,b with
 |.tup xs,.int i=>if i=-1 then .ok (.tup xs.reverse) μ else .bad
 |.obj n,.int i=>match μ[n]? with
  |some (.lst xs)=>if i=-1 then .ok (.obj μ.length) (μ++[.lst xs.reverse]) else .bad
  |_=>.bad
 |_,_=>.bad
theorem Ce{p:Pa}{X:Cx}{e st:Expr}{fa fs:ME}{pos p2:Pos}(he:Bx (PE X e (tD p fa)))(hs:Bx (PE X st (tD p fs)))(hK:X.K=p.K:=by rfl):Bx (PE X (.Subscript e (.Slice none none (some st) p2) pos) (tD p (aN qM fa fs))):=
 ⟨(FW he.h hs.h).weak fun σ H Q ⟨α, ρ, μ, S, R, P⟩ => ⟨α, ρ, μ, S, R, (aE.bind P).imp fun x μ1 H1 α1 X1 S1 P1 v rv => ⟨α1, ρ, μ1, S1, R.mono X1, (aE.bind P1).imp fun y μ2 H2 α2 X2 S2 P2 u ru => by
   rw[hK];unfold qM at P2;split at P2
   ·rename_i xs i;split at P2
    ·rename_i hi;subst hi;obtain⟨a,us,rfl,h1,r1⟩:=aI.mp (rv.mono X2);exact⟨av.mp ru,a,us,rfl,.inl ⟨h1,fun q hq=>P2 _ _ (bK hq) (S2.tuple hq) _ (aI.mpr ⟨q,_,rfl,fS.of bN,r1.reverse.mono (bK hq)⟩)⟩⟩
    ·exact P2.elim
   ·rename_i n i;split at P2
    ·rename_i xs hx;split at P2
     ·rename_i hi;subst hi;obtain⟨a,rfl,h1⟩:=aQ.mp (rv.mono X2);obtain⟨a',ea,vs,hH,rr⟩:=S2.at hx;have eaa:a=a':=NN (h1.symm.trans ea);subst eaa;refine⟨av.mp ru,a,vs,rfl,.inr ⟨.inl (.inl hH),fun q hq=>?_⟩⟩;obtain⟨x1,s1,r1⟩:=dC S2 hq rr.reverse;exact P2 _ _ x1 s1 _ r1
     ·exact P2.elim
    ·exact P2.elim
   ·exact P2.elim⟩⟩⟩
section
variable{p:Pa}{X:Cx}{e:Expr}{fr:MA}{pos:Pos}
theorem zd {fo:ME}{ob:Expr}{apos:Pos} (ho:Bx (PE X ob (tD p fo))) (ha:Bx (PA X [e] (nr p fr))) (hbase:attributeBase ob "extend" X.env (eval ob X.env)=eval ob X.env:=by rfl) (hfew:((backTo pos (starEach [e] X.env)).all (fun x=>!x.1)&&(backToKw pos (keywordEach [] X.env)).all (fun x=>x.1.isSome)
   && decide ([e].length+([]:List Keyword).length+(if ([]:List Keyword).isEmpty then 0 else 1)<30))=true:=by rfl) (hline:(apos.endLine == pos.line)=true:=by rfl) (hs:starEach [e] X.env=(false,eval e X.env)::starEach [] X.env:=by rfl) (hpl:(backTo pos (starEach [] X.env)).any (·.1)=false:=by rfl) (hK:X.K=p.K:=by rfl):Bx (PE X (.Call (.Attribute ob "extend" apos) [e] [] pos) (tD p (zb fV fo fr))):=⟨ze hK PySem.F.slot_list_extend PySem.F.type_list_extend A2 Gg ho.h ha.h hbase hfew hline hs hpl⟩
end
end L2
namespace L2
open PySem PySem.Spec PyProof.Rows RS
abbrev GM(K:W.Frag)(w:World)(E:XK):Pa:=⟨K,w,fun x _ H _=>∃C,W.nsIn K mainGlobals x.cls=some (some (.ref C))/\∀ea,H ea=none->E (.ref C) (some ea) H⟩
def Mo(K:W.Frag)(w:World)(n:Nat)(F:List D->aw->ai D):Sp:=fun vs H Q E=>vs.length=n/\∃α ds μ,fF K w H α μ/\Reps K H α ds vs/\aE (GM K w E) H α (F ds μ) (RV (GM K w E) Q)
structure sM(P:Program)(w:World)(K:W.Frag)(mg:Str->Option Value)(base:Heap)(k:Nat)(x:Str)(n:Nat)(F:List D->aw->ai D):Prop where
 len:∀ds μ,ds.length≠n->F ds μ=.bad
 fn:∃f fd ps,mg x=some (.ref f)/\W.keepIn K (.ref f)=true/\iu K fd ps []/\qG P w K mg base (Kq P w) k f fd ps (Mo K w n F)
theorem xW{P:Program}{w:World}{K:W.Frag}{mg:Str->Option Value}{base:Heap}{k n:Nat}{x qual:Str}{st:Stmt}{f:Addr}{fd:FuncData}{N ps:List Str}{fb:MS}
  (F:gZ K x qual st f fd) (S:aR N ps (ar st)) (hn:ps.length=n) (hm:mg x=some (.ref f)) (hb:iu K fd ps [])
  (body : ∀ (cdv : Value) (A : Around) (outer : List Env) (s : Shared) (H : Hp) (E : XK), gv k (A.deeper (envOfC qual (ar st) s.heap.objs.size f cdv)) ->
   Bx (j7 (Es P w K mg base N qual (ar st) f cdv A outer s H E) (cj st) (i5 (GM K w E) fb))):sM P w K mg base (k+1) x n (ip n N.length fb):=by
 refine⟨fun ds μ h=>by unfold ip;rw[NM h],f,fd,ps,hm,F.kp,hb,?_⟩;obtain⟨oc,od,kV,doc,pm,an,cdv,ct,osl,rfl,lk,hcd⟩:=F.ex;refine Hm lk hcd S (fun vs H Q E h=>h.1.trans hn.symm) fun A outer s H vs Q E hr h=>?_;refine⟨_,(body cdv A outer s H E hr).h,?_⟩;obtain⟨hl,α,ds,μ,S1,R1,P1⟩:=h;unfold ip at P1;have hd:ds.length=n:=by rw[<- R1.length];exact hl
 rw[NL hd]at P1;have P2:=qo S1 P1;unfold start;rw[hl];refine⟨α,_,μ,S1,kz R1 _,?_⟩;cases e:fb (ds.map some++List.replicate (N.length-n) none) μ with
 |ret d μ'=>rw[e]at P2;exact fun H' α' v x s r=>P2 H' α' x s v r
 |next ρ μ'=>rw[e]at P2;exact fun H' α' σ' x s r=>P2 H' α' x s .non (bP.mpr rfl)
 |exc x μ'=>rw[e]at P2;exact P2
 |brk ρ μ'=>rw[e]at P2;exact P2.elim
 |cnt ρ μ'=>rw[e]at P2;exact P2.elim
 |bad=>rw[e]at P2;exact P2.elim
section
variable{X:Cx}{E:XK}{k n:Nat}{x:Str}{F:List D->aw->ai D}{a:Expr}{es:List Expr}{fr:MA}{pos px:Pos}
theorem zo (h:sM X.prog X.w X.K X.mg X.base k x n F) (hp:kf (Kq X.prog X.w) X E) (hr:gv k X.A) (ha:Bx (PA X (a::es) (nr (GM X.K X.w E) fr))) (hg:Gl X x:=by rfl) (hdb:(x == ("__debug__" : Str))=false:=by decide)
  (he:starEach (a::es) X.env=(false,eval a X.env)::starEach es X.env:=by rfl) (hpl:(backTo pos (starEach es X.env)).any (·.1)=false:=by rfl):Bx (PE X (.Call (.Name x px) (a::es) [] pos) (tD (GM X.K X.w E) (aC F fr))):=Bx.mk (by
 obtain⟨f,fd,ps,h1,h2,h3,h4⟩:=h.fn;refine(uV (dvs:=[]) (E:=E) h4 hr hg h1 h2 h3 .nil hp ha.h hdb he hpl).weak fun σ H Q ⟨α,ρ,μ,S,R,P⟩=>⟨α,ρ,μ,S,R,(aE.bind P).imp fun ds μ1 H1 α1 X1 S1 P1 vs rv=>?_⟩;show Mo X.K X.w n F (vs++[]) H1 Q E;rw[Ox];refine⟨?_,α1,ds,μ1,S1,rv,P1⟩;by_cases hl:ds.length=n
 ·rw[rv.length];exact hl
 ·rw[h.len ds μ1 hl]at P1;exact P1.elim)
theorem uL {p:Pa} (h:dg X.prog X.w X.K X.mg X.base p.nx k x n F) (hr:gv k X.A) (ha:Bx (PA X (a::es) (nr p fr))) (hg:Gl X x:=by rfl) (hdb:(x == ("__debug__" : Str))=false:=by decide)
  (he:starEach (a::es) X.env=(false,eval a X.env)::starEach es X.env:=by rfl) (hpl:(backTo pos (starEach es X.env)).any (·.1)=false:=by rfl):Bx (PE X (.Call (.Name x px) (a::es) [] pos) (tD p (aC (fun ds μ=>(F ds μ).nox) fr))):=Bx.mk (by
 obtain⟨f,fd,ps,h1,h2,h3,h4⟩:=h.fn;refine(uV (dvs:=[]) (E:=E0) h4 hr hg h1 h2 h3 .nil B2 ha.h hdb he hpl).weak fun σ H Q ⟨α,ρ,μ,S,R,P⟩=>⟨α,ρ,μ,S,R,(aE.bind P).imp fun ds μ1 H1 α1 X1 S1 P1 vs rv=>?_⟩;show En p.nx n F (vs++[]) H1 Q E0;rw[Ox]
 have P2:aE p.nx H1 α1 (F ds μ1) (RV p.nx Q):=by
  cases e:F ds μ1 with
  |ok d μ'=>rw[e]at P1;exact P1
  |exc y μ'=>rw[e]at P1;exact False.elim P1
  |bad=>rw[e]at P1;exact P1
 refine⟨?_,α1,ds,μ1,S1,rv,P2⟩;by_cases hl:ds.length=n
 ·rw[rv.length];exact hl
 ·rw[h.len ds μ1 hl]at P2;exact P2.elim)
end
def xZ(c:Str):MS:=fun _ μ=>.exc ⟨c,[]⟩ μ
section
variable{P:Program}{w:World}{K:W.Frag}{mg:Str->Option Value}{base:Heap}{N:List Str}{qual:Str}{scope:Scope}{f:Addr}{cdv:Value}{A:Around}{outer:List Env}{s0:Shared}{H0:Hp}{E:XK}
theorem EM {c:Str}{C:Addr}{np cpos pos:Pos} (hc:W.nsIn K mainGlobals c=some (some (.ref C))) (O:An mg base c C) (hg:Gl (Es P w K mg base N qual scope f cdv A outer s0 H0 E) c:=by rfl) (hd:(c == ("__debug__" : Str))=false:=by decide) :
  Bx (PS (Es P w K mg base N qual scope f cdv A outer s0 H0 E) (.Raise (some (.Call (.Name c np) [] [] cpos)) none pos) (i5 (GM K w E) (xZ c))):=Bx.mk (by
 refine(AI O hg hd).weak fun D σ H ⟨α,ρ,μ,S,R,P⟩=>?_;obtain⟨C',h1,h2⟩:=P H α me.refl S;rw[hc]at h1;cases h1
 exact h2)
end
def SO.ro(o:SO):SO:=match o with
 |.ret d μ=>.ret d μ
 |_=>.bad
def Ae(known:List Str)(i N:Nat)(fb fh:MS):MS:=fun ρ μ=>match fb ρ μ with
 |.exc x μ'=>if known.contains x.cls=true then (fh ((List.replicate N none).set i (some (.obj μ'.length))) (μ'++[.exc x.cls])).ro else .bad
 |o=>o
def v9(K:W.Frag)(r:Str)(R:Addr)(known:List Str):Prop:=∀c∈known,∃C,W.nsIn K mainGlobals c=some (some (.ref C))/\W.exmOne K (.ref C) (.ref R)=some true
theorem fL.ro{p:Pa}{H:Hp}{α:List Addr}{o:SO}{D:oy}(h:fL p H α o.ro D):fL p H α o {nx:=fun _ _=>False,rt:=D.rt}:=by
 cases o with
 |ret d μ=>exact h
 |next ρ μ=>exact False.elim h
 |brk ρ μ=>exact False.elim h
 |cnt ρ μ=>exact False.elim h
 |exc x μ=>exact False.elim h
 |bad=>exact False.elim h
theorem K4{X:Cx}{xw:DX->aw->Hp->List Addr->Prop}{r n:Str}{R:Addr}{known:List Str}{i m:Nat}{np hpos pos:Pos}{body suite:List Stmt}{b0:Stmt}{fb fh:MS}
  (F:X.Fn) (hN:X.N.Nodup) (hk:v9 X.K r R known) (hm:X.mg r=some (.ref R)) (hb:∀pins E,Bx (j7 (X.tri pins E) body (i5 (GM X.K X.w E) fb))) (hs:∀ea,Bx (j7 (X.hnd ea) (b0::suite) (i5 ⟨X.K,X.w,xw⟩ fh)))
  (hl:X.N.length=m:=by rfl) (hi:X.N[i]?=some n:=by rfl) (hx:Ex X.env.scope n:=by exact Or.inl rfl) (hlo:X.env.kindOf n=some .local:=by rfl) (hg:Gl X r:=by rfl) (hd:(r == ("__debug__" : Str))=false:=by decide) :
  Bx (PS X (.Try body [.ExceptHandler (some (.Name r np)) (some n) (b0::suite) hpos] [] [] pos) (i5 ⟨X.K,X.w,xw⟩ (Ae known i m fb fh))):=Bx.mk (by
 refine(IX F hN hi hx hlo hg hm hd (fun pins E=>(hb pins E).h) fun ea=>(hs ea).h).weak fun D σ H ⟨α,ρ,μ,S,Rl,P⟩=>?_
 refine⟨fun cls ea' H'=>∃C ea,cls=.ref C/\ea'=some ea/\(W.exmOne X.K (.ref C) (.ref R)=some true/\∀σ':St,σ'.length=X.N.length->i5 ⟨X.K,X.w,xw⟩ fh {nx:=fun _ _=>False,rt:=D.rt} (σ'.set i (some (.ref ea))) (cq H' ea (vQ ea C))),
  fun C ea H' h _=>?_,α,ρ,μ,S,Rl,?_⟩
 ·obtain⟨C',ea',h1,h2,h3⟩:=h;cases h1;cases h2;exact h3
 ·unfold Ae at P;cases e:fb ρ μ with
  |ret d μ'=>rw[e]at P;exact P
  |next ρ' μ'=>rw[e]at P;exact P
  |brk ρ' μ'=>rw[e]at P;exact P
  |cnt ρ' μ'=>rw[e]at P;exact P
  |bad=>rw[e]at P;exact P
  |exc x μ'=>
   rw[e]at P;dsimp only at P;by_cases hc:known.contains x.cls=true
   ·rw [NL hc] at P;obtain⟨C,c1,c2⟩:=hk x.cls (List.contains_iff_mem.mp hc);intro H' α' X' S';refine⟨C,c1,fun ea hea=>⟨C,ea,rfl,rfl,c2,fun σ' hσ=>?_⟩⟩;have X3:me X.K H H' α α':=X';have X2:me X.K H' (cq H' ea (vQ ea C)) α' (α'++[ea]):=(bK hea).trans (ji [ea]);have S2:fF X.K X.w (cq H' ea (vQ ea C)) (α'++[ea]) (μ'++[.exc x.cls]):=fF.more S' hea ⟨C,c1,bN⟩;refine⟨α'++[ea],_,_,S2,⟨by simp[hσ,hl],fun j d hj=>?_⟩,(fL.from (p:=⟨X.K,X.w,xw⟩) (X3.trans X2) P).ro⟩;by_cases hji:j=i
    ·subst hji
     have hlt:j<(List.replicate m (none:Option L2.D)).length:=by
      have:=(N3.mp hi).1;simp;omega
     rw[N5 hlt]at hj;cases hj;refine⟨.ref ea,by rw[N5 (by rw[hσ];simpa[hl] using hlt)],aQ.mpr ⟨ea,rfl,?_⟩⟩;have hla:α'.length=μ'.length:=S'.len;rw[<- hla,OH (Om _)];simp
    ·rw[N6 (N0 hji),OI]at hj;split at hj <;> cases hj
   ·rw [NM hc] at P
    exact False.elim P)
theorem ya{CX:vE}{P:Program}{w:World}{K:W.Frag}{mg:Str->Option Value}{base:Heap}{N:List Str}{qual:Str}{scope:Scope}{f:Addr}{cdv:Value}{A:Around}{outer:List Env}{s:Shared}{H:Hp}{E:XK}:(qE CX P w K mg base N qual scope f cdv A outer s H E).nox.Fn:=⟨rfl,rfl,rfl⟩
theorem ub{x:V}:∀{xs:List V}{us:List Value},ba xs us->xs.all k8=true->us.countP (Ht x)=xs.countP fun y=>za y x
 |_,_,.nil,_=>rfl
 |y::xs,u::us,.cons r t,f=>by
  rw[Pj,Pb]at f;rw[List.countP_cons,List.countP_cons,yf r f.1,ub t f.2]
def CC:V->List V->Hp->VK->Prop:=fun x vs H Q=>∃l xs y,x=.ref l/\vs=[y]/\H l=some (.lst xs)/\k8 y=true/\xs.all k8=true/\Q (.int (xs.countP fun z=>za z y:Nat)) H
def CB:V->List V->Hp->VK->Prop:=fun x vs H Q=>∃l xs y j,x=.ref l/\vs=[y]/\H l=some (.lst xs)/\k8 y=true/\xs.all k8=true/\(∃z,xs[j]?=some z/\za z y=true)/\(∀m z,m<j->xs[m]?=some z->za z y=false)/\xs.length<1000/\Q (.int (j:Nat)) H
section
variable{X:Cx}
theorem DU:Mg X "list.count" CC:=by
 intro pins s σ H x vs v us Q I rx rv h;obtain⟨l,xs,y,rfl,rfl,hH,fy,fs,q⟩:=h;cases rx;obtain⟨u,rfl,ru⟩:=rv.one;obtain⟨z,its,n,r,hl,e⟩:=I.lstM hH;refine Pr F.slot_list_count ⟨_,e,rfl⟩ F.entry_list_count (F.args_list_count_2 _ _) (SeqAt.list_countAt l its.toArray n none #[] u (Ht y)) ⟨e,fun w hw=>rp ru fy r fs w (by simpa using hw),?_⟩;refine⟨.int (xs.countP fun z=>za z y:Nat),H,I.tok _,⟨s.toks,?_⟩,q⟩;rw[<- ub r fs]
theorem DT:Mg X "list.index" CB:=by
 intro pins s σ H x vs v us Q I rx rv h;obtain⟨l,xs,y,j,rfl,rfl,hH,fy,fs,⟨z0,hz,ht⟩,hno,hsz,q⟩:=h;cases rx;obtain⟨u,rfl,ru⟩:=rv.one;obtain⟨z,its,n,r,hl,e⟩:=I.lstM hH;have hlt:j<xs.length:=(N3.mp hz).1
 have hb:∀m w,its[m]?=some w->∃z,xs[m]?=some z/\Ht y w=za z y:=fun m w hw=>by
  have hm:m<its.length:=(N3.mp hw).1;have hm':m<xs.length:=by rw[r.length];exact hm
  obtain⟨u',hu',ru'⟩:=r.get (Ry hm');rw[hw]at hu';cases hu';exact⟨_,Ry hm',yf ru' (QN.mp fs _ (Rw hm'))⟩
 have hlen:=r.length;refine Pr F.slot_list_index ⟨_,e,rfl⟩ F.entry_list_index (F.args_list_index_2 _ _) (SeqAt.list_indexAt l its.toArray n none #[] u (Ht y) j (by rw[Ow];omega) (by omega) ?_ ?_) ⟨e,fun w hw=>rp ru fy r fs w (by simpa using hw),?_⟩
 ·have hw:its[j]?=some its[j]:=Ry (by omega);obtain⟨z1,a1,a2⟩:=hb j _ hw;rw[hz]at a1;cases a1;show Ht y its.toArray[j]=true;rw[List.getElem_toArray,a2];exact ht
 ·intro m hm hmj;have hm':m<its.length:=by rw[Ow]at hm;exact hm
  obtain⟨z1,a1,a2⟩:=hb m _ (Ry hm');rw[List.getElem_toArray,a2];exact hno m z1 hmj a1
 ·exact⟨.int (j:Nat),H,I.tok _,⟨s.toks,rfl⟩,q⟩
end
def k7:List D->Bool
 |[]=>true
 |.bl _::r=>k7 r
 |_::_=>false
def ou:D->Bool
 |.bl b=>b
 |_=>false
theorem xj{K:W.Frag}{H:Hp}{α:List Addr}{xs:List D}:∀{vs:List V},Reps K H α xs vs->k7 xs=true->vs=xs.map fun d=>V.bl (ou d):=by
 induction xs with
 |nil=>intro vs h _;simp only[Reps]at h;exact h
 |cons d r ih=>
  intro vs h q;simp only[Reps]at h;obtain⟨v,r',rfl,h1,h2⟩:=h;cases d with
  |bl b=>rw[a8.mp h1,ih h2 (by simpa only[k7] using q)];rfl
  |non=>simp only[k7]at q;cases q
  |int i=>simp only[k7]at q;cases q
  |str i=>simp only[k7]at q;cases q
  |tup i=>simp only[k7]at q;cases q
  |frz i=>simp only[k7]at q;cases q
  |obj i=>simp only[k7]at q;cases q
theorem rG:∀xs:List D,(xs.map fun d=>V.bl (ou d)).all k8=true
 |[]=>rfl
 |_::xs=>by rw[Pe,Pj,rG xs];rfl
def l5(d:D)(ds:List D)(μ:aw):ai D:=match d,ds with
 |.obj n,[.bl true]=>match μ[n]? with
  |some (.lst xs)=>if k7 xs=true then .ok (.int (xs.countP ou:Nat)) μ else .bad
  |_=>.bad
 |_,_=>.bad
def l0(d:D)(ds:List D)(μ:aw):ai D:=match d,ds with
 |.obj n,[.bl true]=>match μ[n]? with
  |some (.lst xs)=>if k7 xs=true/\xs.length<1000/\xs.any ou=true then .ok (.int (xs.findIdx ou:Nat)) μ else .bad
  |_=>.bad
 |_,_=>.bad
section
variable{p:Pa}
theorem A3:Kx p l5 CC:=by
 intro d ds v vs H α μ Q S rd rs P;unfold l5 at P;split at P
 ·split at P
  ·rename_i n xs hx;split at P
   ·rename_i hb;obtain⟨a,us,rfl,a1,h1,rr⟩:=dh S rd hx;have hv:=xj rr hb;simp only[Reps]at rs;obtain⟨y,r',rfl,h3,rfl⟩:=rs;rw[a8.mp h3];refine⟨a,us,.bl true,rfl,rfl,h1,rfl,by rw[hv];exact rG xs,?_⟩;have z:=P.now S (.int (xs.countP ou:Nat)) (av.mpr rfl)
    have e:(us.countP fun z=>za z (.bl true))=xs.countP ou:=by
     rw[hv,List.countP_map];congr 1;funext d;cases h:ou d <;> simp[za,h]
    rw[e];exact z
   ·exact P.elim
  ·exact P.elim
 ·exact P.elim
theorem A1:Kx p l0 CB:=by
 intro d ds v vs H α μ Q S rd rs P;unfold l0 at P;split at P
 ·split at P
  ·rename_i n xs hx;split at P
   ·rename_i hb;obtain⟨hb,hlen,hany⟩:=hb;obtain⟨a,us,rfl,a1,h1,rr⟩:=dh S rd hx;have hv:=xj rr hb;simp only[Reps]at rs;obtain⟨y,r',rfl,h3,rfl⟩:=rs;rw[a8.mp h3];have hlt:xs.findIdx ou<xs.length:=List.findIdx_lt_length_of_exists (by simpa using hany);refine⟨a,us,.bl true,xs.findIdx ou,rfl,rfl,h1,rfl,by rw[hv];exact rG xs,⟨.bl true,?_,rfl⟩,fun m z hm hz=>?_,by rw[hv,OO];exact hlen,P.now S (.int (xs.findIdx ou:Nat)) (av.mpr rfl)⟩
    ·rw[hv,OK,Ry hlt];have:=List.findIdx_getElem (w:=hlt);simp[this]
    ·rw [hv, OK, Ry (by omega : m < xs.length)] at hz;cases hz;have hf:=List.not_of_lt_findIdx hm;show (ou _ == true)=false;rw[beq_true];cases z:ou xs[m] with
     |false=>rfl
     |true=>rw[z]at hf;exact absurd hf (by decide)
   ·exact P.elim
  ·exact P.elim
 ·exact P.elim
end
def mK(subs known:List Str)(d:D)(μ:aw):ai D:=match d with
 |.obj n=>match μ[n]? with
  |some (.exc c)=>if known.contains c=true then .ok (.bl (subs.contains c)) μ else .bad
  |_=>.bad
 |_=>.bad
def bM(K:W.Frag)(u:Value)(subs known:List Str):Prop:=∀c∈known,∃C,W.nsIn K mainGlobals c=some (some (.ref C))/\W.excCls K C=true/\W.kitOne K (.ref C) u=some (subs.contains c)
theorem CO{p:Pa}{K:W.Frag}{u:Value}{v x:V}{subs known:List Str}{d:D}{H:Hp}{α:List Addr}{μ:aw}{Q:VK}(hK:K=p.K)(hk:bM K u subs known)(ru:bV v u)(S:p.S H α μ)(r:p.R H α d x)(P:aE p H α (mK subs known d μ) (RV p Q)):KL K u [x,v] H Q:=by
 subst hK;unfold mK at P;split at P
 ·split at P
  ·rename_i n c hx;split at P
   ·rename_i hc;obtain⟨a,ea,C,h1,h2⟩:=S.at hx;obtain⟨a',rfl,ea'⟩:=aQ.mp r;rw[ea]at ea';cases ea';obtain⟨C',k1,k2,k3⟩:=hk c (List.contains_iff_mem.mp hc);rw[h1]at k1;cases k1;exact⟨a,C,_,v,rfl,ru,h2,k2,k3,P.now S _ (a8.mpr rfl)⟩
   ·exact P.elim
  ·exact P.elim
 ·exact P.elim
section
variable{X:Cx}{p:Pa}{a e ob:Expr}{fa fo:ME}{fr:MA}{pos px pt apos:Pos}{xT:Str}{subs known:List Str}
theorem pq {C:Addr} (hk:bM X.K (.ref C) subs known) (hm:X.mg "isinstance" = none) (hmT:X.mg xT=some (.ref C)) (ha:Bx (PE X a (tD p fa))) (hg:Gl X "isinstance" := by rfl) (hgT:Gl X xT:=by rfl) (hdT:(xT == ("__debug__" : Str))=false:=by decide)
  (hs1:starEach [a,.Name xT pt] X.env=(false,eval a X.env)::starEach [.Name xT pt] X.env:=by rfl) (hK:X.K=p.K:=by rfl):Bx (PE X (.Call (.Name "isinstance" px) [a,.Name xT pt] [] pos) (tD p (mq (mK subs known) fa))):=Bx.mk (by
 have hb:PE X (.Name xT pt) (tC (.ref C)):=uU hgT hmT rfl hdT;refine(nH (xi (u:=.ref C) fun v w h1 h2=>?_) hg hm RL (jz ha.h (jz hb qR rfl) hs1) (by decide) (by decide) hs1 rfl).weak fun σ H Q ⟨α,ρ,μ,S,R,P⟩=>⟨α,ρ,μ,S,R,(aE.bind P).imp fun d μ1 H1 α1 X1 S1 P1 v rv=>?_⟩
 ·cases v with
  |ref b=>cases (show Value.ref C=Value.ref b from h1);exact h2
  |non=>cases (show Value.ref C=Value.none from h1)
  |bl b=>cases (show Value.ref C=Value.bool b from h1)
  |int b=>obtain⟨t,z⟩:=(show ∃t,Value.ref C=Value.int b t from h1);cases z
  |str b=>obtain⟨t,z⟩:=(show ∃t,Value.ref C=Value.str b t from h1);cases z
  |byt b=>obtain⟨t,z⟩:=(show ∃t,Value.ref C=Value.bytes b t from h1);cases z
  |flt b=>obtain⟨t,z⟩:=(show ∃t,Value.ref C=Value.float b t from h1);cases z
  |ty b=>cases (show Value.ref C=Value.type b from h1)
 ·exact CO hK hk rfl S1 rv P1)
theorem HV {T:String} (hk:bM X.K (.type T) subs known) (hm:X.mg "isinstance" = none) (hmT:X.mg xT=none) (hbT:bootBuiltins xT=some (.type T)) (ha:Bx (PE X a (tD p fa))) (hg:Gl X "isinstance" := by rfl) (hgT:Gl X xT:=by rfl) (hnT:xT ≠ "__name__" := by decide) (hdT:(xT == ("__debug__" : Str))=false:=by decide)
  (hs1:starEach [a,.Name xT pt] X.env=(false,eval a X.env)::starEach [.Name xT pt] X.env:=by rfl) (hK:X.K=p.K:=by rfl):Bx (PE X (.Call (.Name "isinstance" px) [a,.Name xT pt] [] pos) (tD p (mq (mK subs known) fa))):=Bx.mk (by
 have hb:PE X (.Name xT pt) (tC (.ty T)):=zD hgT hmT hbT rfl hnT hdT;refine(nH (xi (u:=.type T) fun v w h1 h2=>?_) hg hm RL (jz ha.h (jz hb qR rfl) hs1) (by decide) (by decide) hs1 rfl).weak fun σ H Q ⟨α,ρ,μ,S,R,P⟩=>⟨α,ρ,μ,S,R,(aE.bind P).imp fun d μ1 H1 α1 X1 S1 P1 v rv=>?_⟩
 ·cases v with
  |ty b=>cases (show Value.type T=Value.type b from h1);exact h2
  |non=>cases (show Value.type T=Value.none from h1)
  |bl b=>cases (show Value.type T=Value.bool b from h1)
  |int b=>obtain⟨t,z⟩:=(show ∃t,Value.type T=Value.int b t from h1);cases z
  |str b=>obtain⟨t,z⟩:=(show ∃t,Value.type T=Value.str b t from h1);cases z
  |byt b=>obtain⟨t,z⟩:=(show ∃t,Value.type T=Value.bytes b t from h1);cases z
  |flt b=>obtain⟨t,z⟩:=(show ∃t,Value.type T=Value.float b t from h1);cases z
  |ref b=>cases (show Value.type T=Value.ref b from h1)
 ·exact CO hK hk rfl S1 rv P1)
theorem K7 (ho:Bx (PE X ob (tD p fo))) (ha:Bx (PA X [e] (nr p fr))) (hbase:attributeBase ob "count" X.env (eval ob X.env)=eval ob X.env:=by rfl) (hfew:((backTo pos (starEach [e] X.env)).all (fun x=>!x.1)&&(backToKw pos (keywordEach [] X.env)).all (fun x=>x.1.isSome)
   && decide ([e].length+([]:List Keyword).length+(if ([]:List Keyword).isEmpty then 0 else 1)<30))=true:=by rfl) (hline:(apos.endLine == pos.line)=true:=by rfl) (hs:starEach [e] X.env=(false,eval e X.env)::starEach [] X.env:=by rfl) (hpl:(backTo pos (starEach [] X.env)).any (·.1)=false:=by rfl) (hK:X.K=p.K:=by rfl):Bx (PE X (.Call (.Attribute ob "count" apos) [e] [] pos) (tD p (zb l5 fo fr))):=
 ⟨ze hK PySem.F.slot_list_count PySem.F.type_list_count DU A3 ho.h ha.h hbase hfew hline hs hpl⟩
theorem K6 (ho:Bx (PE X ob (tD p fo))) (ha:Bx (PA X [e] (nr p fr))) (hbase:attributeBase ob "index" X.env (eval ob X.env)=eval ob X.env:=by rfl) (hfew:((backTo pos (starEach [e] X.env)).all (fun x=>!x.1)&&(backToKw pos (keywordEach [] X.env)).all (fun x=>x.1.isSome)
   && decide ([e].length+([]:List Keyword).length+(if ([]:List Keyword).isEmpty then 0 else 1)<30))=true:=by rfl) (hline:(apos.endLine == pos.line)=true:=by rfl) (hs:starEach [e] X.env=(false,eval e X.env)::starEach [] X.env:=by rfl) (hpl:(backTo pos (starEach [] X.env)).any (·.1)=false:=by rfl) (hK:X.K=p.K:=by rfl):Bx (PE X (.Call (.Attribute ob "index" apos) [e] [] pos) (tD p (zb l0 fo fr))):=
 ⟨ze hK PySem.F.slot_list_index PySem.F.type_list_index DT A1 ho.h ha.h hbase hfew hline hs hpl⟩
end
structure EK(P:Program)(w:World)(K:W.Frag)(mg:Str->Option Value)(base:Heap)(p:Pa)(k:Nat)(x:Str)(n:Nat)(F:List D->aw->ai D):Prop where
 len:∀ds μ,ds.length≠n->F ds μ=.bad
 fn:∃f fd ps,mg x=some (.ref f)/\W.keepIn K (.ref f)=true/\iu K fd ps []/\wb P w K mg base xO k f fd ps (En p n F)
theorem HR{P:Program}{w:World}{K:W.Frag}{mg:Str->Option Value}{base:Heap}{p:Pa}{k n:Nat}{x qual:Str}{st:Stmt}{f:Addr}{fd:FuncData}{N ps:List Str}{fb:MS}
  (F:gZ K x qual st f fd) (S:aR N ps (ar st)) (hn:ps.length=n) (hm:mg x=some (.ref f)) (hb:iu K fd ps [])
  (body : ∀ (cdv : Value) (A : Around) (outer : List Env) (s : Shared) (H : Hp) (E : XK), fK k (A.deeper (envOfC qual (ar st) s.heap.objs.size f cdv)) ->
   Bx (j7 (qN xO P w K mg base N qual (ar st) f cdv A outer s H E).nox (cj st) (i5 p fb))):EK P w K mg base p (k+1) x n (ip n N.length fb):=by
 refine⟨fun ds μ h=>by unfold ip;rw[NM h],f,fd,ps,hm,F.kp,hb,?_⟩;refine F.okH S (fun vs H Q E h=>h.1.trans hn.symm) fun cdv A outer s H vs Q E hr h=>?_;refine⟨_,(body cdv A outer s H E hr).h,?_⟩;obtain⟨hl,α,ds,μ,S1,R1,P1⟩:=h;unfold ip at P1;have hd:ds.length=n:=by rw[<- R1.length];exact hl
 rw[NL hd]at P1;have P2:=qo S1 P1;unfold start;rw[hl];refine⟨α,_,μ,S1,kz R1 _,?_⟩;cases e:fb (ds.map some++List.replicate (N.length-n) none) μ with
 |ret d μ'=>rw[e]at P2;exact fun H' α' v x s r=>P2 H' α' x s v r
 |next ρ μ'=>rw[e]at P2;exact fun H' α' σ' x s r=>P2 H' α' x s .non (bP.mpr rfl)
 |exc x μ'=>rw[e]at P2;exact P2
 |brk ρ μ'=>rw[e]at P2;exact P2.elim
 |cnt ρ μ'=>rw[e]at P2;exact P2.elim
 |bad=>rw[e]at P2;exact P2.elim
theorem EY {X:Cx}{p:Pa}{k n:Nat}{x:Str}{F:List D->aw->ai D}{a:Expr}{es:List Expr}{fr:MA}{pos px:Pos} (h:EK X.prog X.w X.K X.mg X.base p k x n F) (hr:fK k X.A) (ha:Bx (PA X (a::es) (nr p fr))) (hg:Gl X x:=by rfl) (hdb:(x == ("__debug__" : Str))=false:=by decide)
  (he:starEach (a::es) X.env=(false,eval a X.env)::starEach es X.env:=by rfl) (hpl:(backTo pos (starEach es X.env)).any (·.1)=false:=by rfl):Bx (PE X (.Call (.Name x px) (a::es) [] pos) (tD p (aC F fr))):=Bx.mk (by
 obtain⟨f,fd,ps,h1,h2,h3,h4⟩:=h.fn;refine(DI (dvs:=[]) (E:=E0) h4 hr hg h1 h2 h3 .nil B2 ha.h hdb he hpl).weak fun σ H Q ⟨α,ρ,μ,S,R,P⟩=>⟨α,ρ,μ,S,R,(aE.bind P).imp fun ds μ1 H1 α1 X1 S1 P1 vs rv=>?_⟩;show En p n F (vs++[]) H1 Q E0;rw[Ox];refine⟨?_,α1,ds,μ1,S1,rv,P1⟩;by_cases hl:ds.length=n
 ·rw[rv.length];exact hl
 ·rw[h.len ds μ1 hl]at P1;exact P1.elim)
theorem sX:bootBuiltins "ValueError" = some (.type "ValueError"):=PyProof.Rows.Boot.«ValueError»
def D2(K:W.Frag)(u:Value)(subs known:List Str):Bool:=known.all fun c=>match W.nsIn K mainGlobals c with
 |some (some (.ref C))=>W.excCls K C&&W.kitOne K (.ref C) u == some (subs.contains c)
 |_=>false
theorem bM.of{K:W.Frag}{u:Value}{subs known:List Str}(h:D2 K u subs known=true):bM K u subs known:=fun c hc=>by
 have q:=QN.mp h c hc;split at q
 ·rename_i C e;rw[Pb]at q;exact⟨C,e,q.1,RD.mp q.2⟩
 ·cases q
def JM(K:W.Frag)(R:Addr)(known:List Str):Bool:=known.all fun c=>match W.nsIn K mainGlobals c with
 |some (some (.ref C))=>W.exmOne K (.ref C) (.ref R) == some true
 |_=>false
theorem v9.of{K:W.Frag}{r:Str}{R:Addr}{known:List Str}(h:JM K R known=true):v9 K r R known:=fun c hc=>by
 have q:=QN.mp h c hc;split at q
 ·rename_i C e;exact⟨C,e,RD.mp q⟩
 ·cases q
theorem An.of{K:W.Frag}{base:Heap}{mg:Str->Option Value}{x nm q:Str}{C N:Addr}{bs bm:List Value}{hd:Bool}{sn:List Str}{sub:List Value}{ab:Bool}{col:Option Bool}{dd:Option Addr}{k0 k1 k2 k3 k5:Option Value}(X:K.In base)(G:base.Ns mainGlobals mg)(e:W.nsIn K mainGlobals x=some (some (.ref C)))
  (l:K.lookup C=some (excClassObj nm q C N bs bm hd sn sub ab col dd k0 k1 k2 k3 k5 "ValueError.__new__")) (h1:W.nsOkIn K N=true) (h2:W.nsIn K N "__init__" = some none) (h3:W.tailIn K [.type "ValueError",.type "Exception",.type "BaseException",.type "object"] bm=true):An mg base x C:=
 ⟨_,_,_,_,⟨W.mg_of X G e,bm,N,nm,q,bs,hd,sn,sub,ab,col,dd,k0,k1,k2,k3,k5,_,X _ _ l,.of_isNs (W.isNs_of_in X h1),W.nsMap_none_of_in X h1 h2,W.tail_of_in X h3⟩,PySem.F.excBase_ValueError⟩
end L2
namespace L2
open PySem PySem.Spec PyProof.Rows RS
section
variable{X:Cx}{k n:Nat}{x:Str}{F:List D->aw->ai D}{a b c d:Expr}{es:List Expr}{fr:MA}{pos px:Pos}
variable{p:Pa}{ta tb tc td:TE}{fa fb fc fd:ME}{op op' op'':CmpOp}{r r' r'':R2}{o1 o2 o3:D->D->aw->ai D}
end
section
variable{X:Cx}
end
section
variable{p:Pa}
end
section
variable{X:Cx}{p:Pa}{e ob:Expr}{fo:ME}{fr:MA}{pos apos:Pos}
end
end L2
namespace L2
open PySem PySem.Spec PyProof.Rows RS
section
variable{X:Cx}{p:Pa}{a b:Expr}{fa fb:ME}{pos:Pos}
end
section
variable(K:W.Frag)(H:Hp)
mutual
def sG:PyData->V->Prop
 |.none,v=>v=.non
 |.bool b,v=>v=.bl b
 |.int i,v=>v=.int i
 |.str x,v=>v=.str x
 |.tuple xs,v=>∃a vs,v=.ref a/\fS K H a vs/\RdGs xs vs
 |.list xs,v=>∃a vs,v=.ref a/\fT K H a vs/\RdGs xs vs
 |.dict kvs,v=>kvs=[]/\∃a,v=.ref a/\H a=some (.dK [])
def RdGs:List PyData->List V->Prop
 |[],vs=>vs=[]
 |x::xs,vs=>∃v r,vs=v::r/\sG x v/\RdGs xs r
end
end
mutual
def Ep:PyData->Bool
 |.list _=>false
 |.tuple xs=>noLs xs
 |_=>true
def noLs:List PyData->Bool
 |[]=>true
 |x::xs=>Ep x&&noLs xs
end
section
variable{X:Cx}{pins:List (Addr×Obj)}{σ:St}{H:Hp}{s:Shared}
theorem JG{a:Addr}(h:(a == sysModules)=false):a≠sysModules:=by simpa using h
mutual
theorem tO(I:aV X pins σ H s):∀(d:PyData)(x:V)(v:Value),sG X.K H d x->bV x v->∃as,Reads s.heap v d as/\(Ep d=true->sysModules∉as)
 |.none,_,_,h,r=>by simp only[sG]at h;subst h;cases r;exact⟨_,.none,fun _ z=>by cases z⟩
 |.bool b,_,_,h,r=>by simp only[sG]at h;subst h;cases r;exact⟨_,.bool b,fun _ z=>by cases z⟩
 |.int b,_,_,h,r=>by simp only[sG]at h;subst h;obtain⟨t,rfl⟩:=r;exact⟨_,.int b t,fun _ z=>by cases z⟩
 |.str b,_,_,h,r=>by simp only[sG]at h;subst h;obtain⟨t,rfl⟩:=r;exact⟨_,.str b t,fun _ z=>by cases z⟩
 |.tuple xs,_,_,h,r=>by
  simp only[sG]at h;obtain⟨a,vs,rfl,h1,h2⟩:=h;cases r;obtain⟨its,rv,⟨o,e1,e2,n,e3⟩,_⟩:=I.tuple h1;obtain⟨as,q,hn⟩:=readsAllG_of I xs vs its h2 rv;exact⟨_,.tuple e1 e2 e3 (by simpa using q),fun z=>hn (by simpa only[Ep] using z)⟩
 |.list xs,_,_,h,r=>by
  simp only[sG]at h;obtain⟨a,vs,rfl,h1,h2⟩:=h;cases r;obtain⟨its,rv,⟨o,n,e1,e2,_,e3⟩,_⟩:=I.list h1;obtain⟨as,q,_⟩:=readsAllG_of I xs vs its h2 rv;exact⟨_,.list e1 e2 e3 (by simpa using q),fun z=>by simp only[Ep]at z;cases z⟩
 |.dict kvs,_,_,h,r=>by
  simp only[sG]at h;obtain⟨rfl,a,rfl,h1⟩:=h;cases r;obtain⟨_,hS,vs,rv,o,es,n,e1,e2,e3,_,e4,_⟩:([]:List (sH×V)).length<=sizeLine/\(a == sysModules)=false/\∃vs,KV ([]:List (sH×V)) vs/\s.heap.DictOf (qk X.prog X.w) a vs:=I.hok a _ h1;cases rv
  have hes:es.toList=[]:=by
   generalize es.toList=l at e4;cases e4;rfl
  refine⟨[a]++[],Reads.dict (as:=[]) (bs:=[]) e1 e2.1 e3 ?_ ?_,fun _ z=>?_⟩
  ·rw[hes];exact .nil
  ·rw[hes];exact .nil
  ·simp at z;exact JG hS z.symm
theorem readsAllG_of(I:aV X pins σ H s):∀(ds:List PyData)(xs:List V)(vs:List Value),RdGs X.K H ds xs->ba xs vs->∃as,ReadsAll s.heap vs ds as/\(noLs ds=true->sysModules∉as)
 |[],_,_,h,r=>by simp only[RdGs]at h;subst h;cases r;exact⟨_,.nil,fun _ z=>by cases z⟩
 |d::ds,_,_,h,r=>by
  simp only[RdGs]at h;obtain⟨v,q,rfl,h1,h2⟩:=h;cases r with
  |cons r rr=>
   obtain⟨as,g1,n1⟩:=tO I d _ _ h1 r;obtain⟨bs,g2,n2⟩:=readsAllG_of I ds _ _ h2 rr;refine⟨_,.cons g1 g2,fun z=>?_⟩;simp only[noLs,Pb]at z;intro y;rcases N1.mp y with y|y
   ·exact n1 z.1 y
   ·exact n2 z.2 y
end
end
def CA(K:W.Frag):List V->Hp->VK->Prop:=fun xs H Q=>(∃a d,xs=[.ref a]/\sG K H d (.ref a)/\d.showable=true/\(d.hasDict=true->Ep d=true)/\d.depth<=60/\d.shown.length<=sizeLine/\Q (.str d.shown) H) \/
 (xs=[.non]/\Q (.str "None") H)\/(∃a:Int,xs=[.int a]/\a.natAbs.log2<1920/\Q (.str (toString a)) H)\/(∃b:Bool,xs=[.bl b]/\Q (.str (if b then "True" else "False")) H)\/∃x:Str,xs=[.str x]/\(reprText x).length<=sizeLine/\Q (.str (reprText x)) H
theorem yZ {X:Cx} (hu:X.A.units+64<cLine) (hg:X.A.guards=some []):cZ X (.builtin "repr") (CA X.K):=by
 intro pins s σ H xs us Q I r h;rcases h with⟨a,d,rfl,h1,hs,hd,hdp,hz,q⟩|⟨rfl,q⟩|⟨a,rfl,ha,q⟩|⟨b,rfl,q⟩|⟨x,rfl,hx,q⟩
 ·obtain⟨u,rfl,ru⟩:=fD r;cases ru;obtain⟨as,r1,hn⟩:=tO I d (.ref a) (.ref a) h1 rfl;exact PySem.repr_of_reads' (h₀:=s.heap) r1 hs (fun z=>hn (hd z)) hg (by omega) (fun _ _ e=>e) (fun h' u tk hk=>⟨.str _,H,I.kept hk,⟨u,rfl⟩,q⟩) hz
 ·obtain⟨u,rfl,ru⟩:=fD r;cases ru;exact PySem.P.repr_of_none ⟨.str _,H,I.kept (fun _ _ e=>e),⟨_,rfl⟩,q⟩
 ·obtain⟨u,rfl,t,rfl⟩:=fD r;exact PySem.P.repr_of_int ha ⟨.str _,H,I.kept (fun _ _ e=>e),⟨_,rfl⟩,q⟩
 ·obtain⟨u,rfl,ru⟩:=fD r;cases ru;refine PySem.P.repr_of_bool ⟨.str _,H,I.kept (fun _ _ e=>e),⟨_,rfl⟩,?_⟩;cases b <;> exact q
 ·obtain⟨u,rfl,t,rfl⟩:=fD r;exact PySem.P.repr_of_str ⟨.str _,H,I.kept (fun _ _ e=>e),⟨_,rfl⟩,q⟩ hx
def vY:D->Option PyData
 |.non=>some .none
 |.bl b=>some (.bool b)
 |.int i=>some (.int i)
 |.str x=>some (.str x)
 |_=>none
def jM(f:D->Option PyData):List D->Option (List PyData)
 |[]=>some []
 |x::xs=>(f x).bind fun a=>(jM f xs).map fun r=>a::r
def oh(μ:aw):Nat->D->Option PyData
 |0,d=>vY d
 |n+1,d=>match d with
  |.tup xs=>(jM (oh μ n) xs).map .tuple
  |.frz xs=>(jM (oh μ n) xs).map .list
  |.obj k=>match μ[k]? with
   |some (.lst xs)=>(jM (oh μ n) xs).map .list
   |some .dic=>some (.dict [])
   |_=>none
  |d=>vY d
section
variable{K:W.Frag}{w:World}{H:Hp}{α:List Addr}{μ:aw}
theorem w9{d:D}{q:PyData}{v:V}(h:vY d=some q)(r:aP K H α d v):sG K H q v:=by
 cases d with
 |non=>cases h;simp only[sG];exact bP.mp r
 |bl b=>cases h;simp only[sG];exact a8.mp r
 |int b=>cases h;simp only[sG];exact av.mp r
 |str b=>cases h;simp only[sG];exact br.mp r
 |tup _=>cases h
 |frz _=>cases h
 |obj _=>cases h
theorem uW{f:D->Option PyData}(hf:∀d q v,f d=some q->aP K H α d v->sG K H q v):∀{ds:List D}{qs:List PyData}{vs:List V},jM f ds=some qs->Reps K H α ds vs->RdGs K H qs vs:=by
 intro ds
 induction ds with
 |nil=>intro qs vs h r;cases h;simp only[Reps]at r;simp only[RdGs];exact r
 |cons d ds ih=>
  intro qs vs h r;simp only[jM]at h;cases e1:f d with
  |none=>rw[e1]at h;cases h
  |some a=>
   rw[e1]at h;cases e2:jM f ds with
   |none=>rw[e2]at h;cases h
   |some t=>
    rw[e2]at h;cases h;simp only[Reps]at r;obtain⟨v,r',rfl,h1,h2⟩:=r;simp only[RdGs];exact⟨v,r',rfl,hf d a v e1 h1,ih e2 h2⟩
theorem Ie(S:fF K w H α μ):∀(n:Nat)(d:D)(q:PyData)(v:V),oh μ n d=some q->aP K H α d v->sG K H q v:=by
 intro n
 induction n with
 |zero=>intro d q v h r;exact w9 h r
 |succ n ih=>
  intro d q v h r;unfold oh at h;split at h
  ·rename_i xs;cases e:jM (oh μ n) xs with
   |none=>rw[e]at h;cases h
   |some qs=>
    rw[e]at h;cases h;obtain⟨a,us,rfl,h1,h2⟩:=aI.mp r;simp only[sG];exact⟨a,us,rfl,h1,uW ih e h2⟩
  ·rename_i xs;cases e:jM (oh μ n) xs with
   |none=>rw[e]at h;cases h
   |some qs=>
    rw[e]at h;cases h;obtain⟨a,us,rfl,h1,h2⟩:=bw.mp r;simp only[sG];exact⟨a,us,rfl,h1.sq,uW ih e h2⟩
  ·rename_i k;split at h
   ·rename_i xs hx;cases e:jM (oh μ n) xs with
    |none=>rw[e]at h;cases h
    |some qs=>
     rw[e]at h;cases h;obtain⟨a,ea,us,h1,h2⟩:=S.at hx;obtain⟨a',rfl,ea'⟩:=aQ.mp r;rw[ea]at ea';cases ea';simp only[sG];exact⟨a,us,rfl,.inl (.inl h1),uW ih e h2⟩
   ·rename_i hx;cases h;obtain⟨a,ea,h1⟩:=S.at hx;obtain⟨a',rfl,ea'⟩:=aQ.mp r;rw[ea]at ea';cases ea';simp only[sG];exact⟨trivial,a,rfl,h1⟩
   ·cases h
  ·exact w9 h r
end
def qi(q:PyData):Bool:=q.showable&&(!q.hasDict || Ep q)&&decide (q.depth<=60)&&decide (q.shown.length<=sizeLine)
def hG(ds:List D)(μ:aw):ai D:=match ds with
 |[.non]=>.ok (.str "None") μ
 |[.int a]=>if a.natAbs.log2<1920 then .ok (.str (toString a)) μ else .bad
 |[.bl b]=>.ok (.str (if b then "True" else "False")) μ
 |[.str x]=>if (reprText x).length<=sizeLine then .ok (.str (reprText x)) μ else .bad
 |[d]=>match oh μ 5 d with
  |some q=>if qS d=true/\qi q=true then .ok (.str q.shown) μ else .bad
  |none=>.bad
 |_=>.bad
theorem DM{p:Pa}:vH p hG (CA p.K):=by
 intro ds vs H α μ Q S r P;unfold hG at P;split at P
 ·obtain⟨v,rfl,r1⟩:=r.one;rw[bP.mp r1];exact .inr (.inl ⟨rfl,P.now S _ (br.mpr rfl)⟩)
 ·obtain ⟨v, rfl, r1⟩ := r.one;rw[av.mp r1];split at P
  ·rename_i ha;exact .inr (.inr (.inl ⟨_,rfl,ha,P.now S _ (br.mpr rfl)⟩))
  ·exact P.elim
 ·obtain⟨v,rfl,r1⟩:=r.one;rw[a8.mp r1];exact .inr (.inr (.inr (.inl ⟨_,rfl,P.now S _ (br.mpr rfl)⟩)))
 ·obtain ⟨v, rfl, r1⟩ := r.one;rw[br.mp r1];split at P
  ·rename_i ha;exact .inr (.inr (.inr (.inr ⟨_,rfl,ha,P.now S _ (br.mpr rfl)⟩)))
  ·exact P.elim
 ·rename_i d _ _ _ _;split at P
  ·rename_i q hq;split at P
   ·rename_i hf;obtain⟨v,rfl,r1⟩:=r.one;obtain⟨a,rfl⟩:=yK hf.1 r1;have h2:=hf.2;unfold qi at h2;simp only[Pb,RI]at h2;refine .inl ⟨a,q,rfl,Ie S 5 d q _ hq r1,h2.1.1.1,fun z=>?_,h2.1.2,h2.2,P.now S _ (br.mpr rfl)⟩;have h3:=h2.1.1.2;rw[z]at h3;simpa using h3
   ·exact P.elim
  ·exact P.elim
 ·exact P.elim
theorem zY {X:Cx}{p:Pa}{k:Nat} (hr:gv k X.A) (hK:X.K=p.K:=by rfl):pW X p "repr" hG:=⟨_,_,.inl ⟨_,rfl⟩,by decide +kernel,yZ hr.units hr.gd,hK ▸ DM,by decide,by decide⟩
end L2
namespace L2
open PySem PySem.Spec PyProof.Rows RS
def Pk(X:Cx)(p:Pa)(f:Addr)(F:List D->aw->ai D):Prop:=W.keepIn X.K (.ref f)=true /\
 ∀(pins:List (Addr×Obj))(σ:St)(H:Hp)(s:Shared)(Q:VK)(us:List Value)(vs:List V)(α:List Addr)(ds:List D)(μ:aw),aV X pins σ H s->ba vs us->fF X.K X.w H α μ->Reps X.K H α ds vs->aE p H α (F ds μ) (RV p Q) ->
  wpAny (model X.prog X.w) X.A (call (.ref f) us) (EP X pins σ Q) X.xe s
inductive Ab(X:Cx)(p:Pa):List Expr->List (List D->aw->ai D)->List Addr->Prop where
 |nil:Ab X p [] [] []
 |cons {x:Str}{q:Pos}{f:Addr}{F:List D->aw->ai D}{es:List Expr}{Fs:List (List D->aw->ai D)}{fs:List Addr} (hg:Gl X x) (hm:X.mg x=some (.ref f)) (hdb:(x == ("__debug__" : Str))=false) (h:Pk X p f F) (r:Ab X p es Fs fs) :
   Ab X p (.Name x q::es) (F::Fs) (f::fs)
def Ni(vs:List V):TA:=fun _ H Q=>Q vs H
section
variable{X:Cx}{p:Pa}{es:List Expr}{Fs:List (List D->aw->ai D)}{fs:List Addr}
theorem Ab.pa(h:Ab X p es Fs fs):PA X es (Ni (fs.map V.ref)):=by
 induction h with
 |nil=>exact qR
 | @cons x q f F es Fs fs hg hm hdb h r ih=>exact jz (uU (v:=.ref f) hg hm rfl hdb) ih
theorem Ab.len(h:Ab X p es Fs fs):fs.length=Fs.length:=by
 induction h with
 |nil=>rfl
 |cons hg hm hdb h r ih=>simp only[PD,ih]
theorem Ab.get(h:Ab X p es Fs fs):∀(i:Nat)(F:List D->aw->ai D),Fs[i]?=some F->∃f,fs[i]?=some f/\Pk X p f F:=by
 induction h with
 |nil=>intro i F e;cases e
 |cons hg hm hdb h r ih=>
  intro i F e;cases i with
  |zero=>cases e;exact⟨_,rfl,h⟩
  |succ i=>exact ih i F e
end
def qP(Fs:List (List D->aw->ai D))(i:Nat)(fr:MA):ME:=fun ρ μ=>match ρ[i]? with
 |some (some (.int j))=>if 0<=j then (match Fs[j.toNat]? with
   |some F=>(fr ρ μ).bind F
   |none=>.bad) else .bad
 |_=>.bad
section
variable{X:Cx}{p:Pa}{es:List Expr}{Fs:List (List D->aw->ai D)}{i:Nat}{x:Str}{a:Expr}{as:List Expr}{fr:MA}{pos ps pl pn:Pos}
theorem n9(o b:Expr)(sp:Pos)(args:List Expr)(keywords:List Keyword)(pos:Pos)(env:Env):eval (.Call (.Subscript o b sp) args keywords pos) env=(do
  callWith pos (<- eval (.Subscript o b sp) env) [] (backTo pos (starEach args env)) (backToKw pos (keywordEach keywords env))):=rfl
theorem HU (hs:∃fs,Ab X p es Fs fs) (ha:Bx (PA X (a::as) (nr p fr))) (hn:Fs.length<=8:=by decide) (hN:X.N[i]?=some x:=by rfl) (hv:Ma X.env.scope x:=by first|exact Or.inl rfl|exact Or.inr (Or.inl rfl)|exact Or.inr (Or.inr rfl)) (hd:(x == ("__debug__" : Str))=false:=by decide) (hcd:(x == ("__classdict__" : Str))=false:=by decide)
  (hK:X.K=p.K:=by rfl) (hw:X.w=p.w:=by rfl) (he:starEach (a::as) X.env=(false,eval a X.env)::starEach as X.env:=by rfl) (hpl:(backTo pos (starEach as X.env)).any (·.1)=false:=by rfl) :
  Bx (PE X (.Call (.Subscript (.List es pl) (.Name x pn) ps) (a::as) [] pos) (tD p (qP Fs i fr))):=Bx.mk (by
 obtain⟨fs,hs⟩:=hs;intro pins s σ H Q I ⟨α,ρ,μ,S,R,P⟩;unfold qP at P
 obtain⟨j,F,e1,h0,e2,P⟩:∃(j:Int)(F:List D->aw->ai D),ρ[i]?=some (some (.int j))/\0<=j/\Fs[j.toNat]?=some F/\aE p H α ((fr ρ μ).bind F) (RV p Q):=by
  split at P
  ·rename_i j e;split at P
   ·rename_i h0;split at P
    ·rename_i F e2;exact⟨j,F,e,h0,e2,P⟩
    ·exact P.elim
   ·exact P.elim
  ·exact P.elim
 obtain⟨f,e3,k1,k2⟩:=hs.get _ _ e2;obtain⟨v,g1,g2⟩:=R.at' i _ e1;have g3:=av.mp g2;subst g3;have hlen:(fs.map V.ref).length=Fs.length:=by rw[OO,hs.len]
 have hj:j.toNat<Fs.length:=(N3.mp e2).1
 have hat:atI (fs.map V.ref) j=some (.ref f):=by
  unfold atI y9;rw[NL h0,NL (by omega)];show (fs.map V.ref)[j.toNat]?=_;rw[OK,e3];rfl
 have E1:PE X (.Subscript (.List es pl) (.Name x pn) ps) (Ks (HB X.K) (KA (Ni (fs.map V.ref))) (Hy i)):=Hd zK (CF hs.pa) (CD hN hv hd hcd) (fun _ _=>rfl);rw[n9];refine Oc (eF (E1 pins s σ H (fun v H1=>v=.ref f/\∃q,H q=none/\H1=cq H q (.lst (fs.map V.ref))) I ?_) fun u s1 ⟨v,H1,I1,r1,hv1,q,hq,hH1⟩=>?_)
 ·refine⟨by rw[hlen];exact NU hn (by decide),fun q hq=>⟨_,g1,q,fs.map V.ref,j,.ref f,rfl,rfl,fT.of bN,hat,rfl,q,hq,rfl⟩⟩
 ·subst hv1 hH1;cases r1;have X1:p.X H (cq H q (.lst (fs.map V.ref))) α α:=bK hq;have S1:p.S (cq H q (.lst (fs.map V.ref))) α μ:=S.same X1 fun a ha=>bq fun z=>ha (by rw[z];exact hq);refine W.callWith_K (h₀:=X.base) I1.ok.mod.kin k1 (eF (ha.h pos pins s1 σ _ (fun vs H2=>∃α2 ds μ2,fF X.K X.w H2 α2 μ2/\Reps X.K H2 α2 ds vs/\aE p H2 α2 (F ds μ2) (RV p Q)) I1 ?_) fun us s2 ⟨vs,H2,I2,r2,α2,ds,μ2,S2,R2,P2⟩=>⟨I2.kIn,?_⟩) he hpl
  ·refine ⟨α, ρ, μ, S1, R.mono X1, (aE.bind (aE.from X1 P)).imp fun ds μ1 H2 α2 X2 S2 P2 vs rv => ⟨α2, ds, μ1, ?_, ?_, P2⟩⟩
   ·rw[hK,hw];exact S2
   ·rw[hK];exact rv
  ·exact k2 pins σ H2 s2 Q us vs α2 ds μ2 I2 r2 S2 R2 P2)
end
section
variable{X:Cx}{E:XK}{k n:Nat}{x:Str}{F:List D->aw->ai D}
theorem KO(h:sM X.prog X.w X.K X.mg X.base k x n F)(hp:kf (Kq X.prog X.w) X E)(hr:gv k X.A):∃f,X.mg x=some (.ref f)/\Pk X (GM X.K X.w E) f F:=by
 obtain⟨f,fd,ps,h1,h2,h3,h4⟩:=h.fn;refine⟨f,h1,h2,fun pins σ H s Q us vs α ds μ I r S R P=>?_⟩;refine Cv (dvs:=[]) (ds:=[]) (E:=E) h4 hr h3 .nil hp I r ?_;show Mo X.K X.w n F (vs++[]) H Q E;rw[Ox];refine⟨?_,α,ds,μ,S,R,P⟩;by_cases hl:ds.length=n
 ·rw[R.length];exact hl
 ·rw[h.len ds μ hl]at P;exact P.elim
theorem FR{p:Pa}:∃fs,Ab X p [] [] fs:=⟨[],.nil⟩
theorem wG {p:Pa}{q:Pos}{es:List Expr}{Fs:List (List D->aw->ai D)} (h:∃f,X.mg x=some (.ref f)/\Pk X p f F) (r:∃fs,Ab X p es Fs fs) (hg:Gl X x:=by rfl) (hdb:(x == ("__debug__" : Str))=false:=by decide):∃fs,Ab X p (.Name x q::es) (F::Fs) fs:=
 let ⟨f,h1,h2⟩:=h;let ⟨fs,r⟩:=r;⟨f::fs,.cons hg h1 hdb h2 r⟩
end
end L2
namespace L2
open PySem PySem.W PyProof.Rows RS
section
variable{prog:Program}{w:World}{A:Around}{E:Value->Shared->Prop}
theorem K8{s0:Shared}{its:List Value}{J S:Addr}{fp:List Addr}{St:Nat->Heap->Prop}(Wk:Walks prog w A.in1 J fp [J] its.length (fun i v=>its[i]?=some v) St)(n1:J≠S)(nS:S∉fp)
  (n4:s0.heap.get? J=none) (n5:s0.heap.get? S=none) {lt:Nat->Nat->Bool}{R:Result->Shared->Prop}
  (hc:∀(i b:Nat) v v0,its[i]?=some v->its[b]?=some v0->∀h tk,Kp s0 h->xU .Lt A.in1 {s0 with heap:=h,toks:=tk} v v0 (lt i b))
  (hR:∀v h tk,its[argBest lt (its.length-1)]?=some v->Kp s0 h->R (.ok (.ret v)) {s0 with heap:=h,toks:=tk}) :
  ∀(k j:Nat)(h:Heap)(tk c:Nat)(v0:Value),its.length-(j+1)=k->j+1<=its.length->Kp s0 h->St (j+1) h->its[argBest lt j]?=some v0->h.get? S=some (KZ #[v0,v0] c) ->
   codeAny (model prog w) A (.builtin "min.loop" ⟨[.ref J,.none,.ref S],[]⟩) R {s0 with heap:=h,toks:=tk}:=by
 have nm:(toString "min" ++ toString ".loop" : String) = "min.loop" := by decide
 have kJ:∀{h h':Heap},Kp s0 h->(∀b o,b ∉ [J]->h.get? b=some o->h'.get? b=some o)->Kp s0 h':=fun k1 k2 b ob e=>k2 b ob (fun z=>by
  simp only[NZ,Qc,Qd]at z
  subst z;rw[n4]at e;cases e) (k1 b ob e)
 have kS:∀{h:Heap}{o:Obj->Obj},Kp s0 h->Kp s0 (h.update S o):=fun k1 b ob e=>by
  have:S≠b:=fun z=>by subst z;rw[n5]at e;cases e
  exact(Pi _ _ this).trans (k1 b ob e)
 intro k
 induction k with
 |zero=>
  intro j h tk c v0 hk hj kp hi hb hS;have je:j+1=its.length:=by omega
  rw[je]at hi;have je':j=its.length-1:=by omega
  subst je';refine QY RU ?_;rw[QZ RW _];refine Oc (P8 (a:=S) hS rfl ?_);refine Oc (RX (Wk.done _ _ _ hi fun h' tk' hm=>?_));have hS':=hm S _ (by simpa using n1.symm) hS;refine Oc (m:=updateSeq S fun _=>#[]) ?_;exact RY hS' rfl (Oc (RZ (Og (hR _ _ _ hb (kS (kJ kp hm))))))
 |succ k ih=>
  intro j h tk c v0 hk hj kp hi hb hS;have jl:j+1<its.length:=by omega
  refine QY RU ?_;rw[QZ RW _];refine Oc (P8 (a:=S) hS rfl ?_);refine Oc (RX (Wk.item (j+1) _ _ _ jl hi fun v h' tk' hP hst hm=>?_));have hS':=hm S _ (by simpa using n1.symm) hS;have kp':=kJ kp hm;refine Oc (m:=tryCatch (holding [v,v] (richCompare .Lt v v0 >>= _)) _) (RX (Od (Oc (hc (j+1) _ v v0 hP hb h' tk' kp' prog w _ _ ?_))));refine Oc (Od (N8 (Oc (RZ (Og ?_)))));cases e:lt (j+1) (argBest lt j) with
  |false=>
   simp only[PB,OW];refine Oc (RZ ?_);rw[nm];refine Og ⟨Q2 RW _,ih (j+1) h' tk' c v0 (by omega) jl kp' hst ?_ hS'⟩;show its[if lt (j+1) (argBest lt j)=true then j+1 else argBest lt j]?=_;rw[e];exact hb
  |true=>
   simp only[OX];refine Oc ?_;refine RY hS' rfl (Oc (RZ ?_));rw[nm];refine Og ⟨Q2 RW _,ih (j+1) _ tk' _ v (by omega) jl (kS kp') (Wk.frame _ _ _ hst fun b hb o e=>?_) ?_ (Ph _ hS' rfl)⟩
   ·exact(Pi _ _ (show S≠b from fun z=>nS (by rw[z];exact hb))).trans e
   ·show its[if lt (j+1) (argBest lt j)=true then j+1 else argBest lt j]?=_;rw[e];exact hP
theorem C7{s0:Shared}{its:List Value}{J S:Addr}{fp:List Addr}{St:Nat->Heap->Prop}(Wk:Walks prog w A.in1 J fp [J] its.length (fun i v=>its[i]?=some v) St)(n1:J≠S)(nS:S∉fp)
  (n4:s0.heap.get? J=none) (n5:s0.heap.get? S=none) {lt:Nat->Nat->Bool}{R:Result->Shared->Prop} (hn:its≠[])
  (hc:∀(i b:Nat) v v0,its[i]?=some v->its[b]?=some v0->∀h tk,Kp s0 h->xU .Lt A.in1 {s0 with heap:=h,toks:=tk} v v0 (lt i b))
  (hR:∀v h tk,its[argBest lt (its.length-1)]?=some v->Kp s0 h->R (.ok (.ret v)) {s0 with heap:=h,toks:=tk}) {h:Heap}{tk c:Nat} (kp:Kp s0 h) (hi:St 0 h) (hS:h.get? S=some (KZ #[] c)) :
  codeAny (model prog w) A (.builtin "min.loop" ⟨[.ref J,.none,.ref S],[]⟩) R {s0 with heap:=h,toks:=tk}:=by
 have nm:(toString "min" ++ toString ".loop" : String) = "min.loop" := by decide
 have kJ:∀{h h':Heap},Kp s0 h->(∀b o,b ∉ [J]->h.get? b=some o->h'.get? b=some o)->Kp s0 h':=fun k1 k2 b ob e=>k2 b ob (fun z=>by
  simp only[NZ,Qc,Qd]at z
  subst z;rw[n4]at e;cases e) (k1 b ob e)
 have kS:∀{h:Heap}{o:Obj->Obj},Kp s0 h->Kp s0 (h.update S o):=fun k1 b ob e=>by
  have:S≠b:=fun z=>by subst z;rw[n5]at e;cases e
  exact(Pi _ _ this).trans (k1 b ob e)
 have hl:0<its.length:=RO.mpr hn;refine QY RU ?_;rw[QZ RW _];refine Oc (P8 (a:=S) hS rfl ?_);refine Oc (RX (Wk.item 0 _ _ _ hl hi fun v h' tk' hP hst hm=>?_));have hS':=hm S _ (by simpa using n1.symm) hS;refine Oc (m:=updateSeq S fun _=>#[v,v]) ?_;refine RY hS' rfl ?_;rw[nm];refine Og ⟨Q2 RW _,K8 Wk n1 nS n4 n5 hc hR (its.length-1) 0 _ tk' _ v rfl hl (kS (kJ kp hm)) (Wk.frame _ _ _ hst fun b hb o e=>?_) hP (Ph _ hS' rfl)⟩;exact(Pi _ _ (show S≠b from fun z=>nS (by rw[z];exact hb))).trans e
end
section
variable{X:Cx}
abbrev xM(ps:List PyData)(i j:Nat):Bool:=match ps[i]?,ps[j]? with
 |some p,some q=>decide (gu .Lt p q=some true)
 |_,_=>false
def G4(K:W.Frag):List V->Hp->VK->Prop:=fun xs H Q=>∃(a:Addr)(vs:List V)(ps:List PyData),xs=[.ref a]/\(fT K H a vs\/fS K H a vs)/\vs≠[]/\ps.length=vs.length /\
 (∀(i:Nat) v p,vs[i]?=some v->ps[i]?=some p->og K H p v/\eG p=true)/\(∀p∈ps,∀q∈ps,(gu .Lt p q).isSome=true)/\∀v,vs[argBest (xM ps) (vs.length-1)]?=some v->Q v H
theorem wj{its:List Value}:(fun(i:Nat) v=>its.toArray[i]?=some v)=(fun i v=>its[i]?=some v):=by funext i v;simp
theorem Bv (x:Value):argsOk "min" ⟨[x],[]⟩:=by unfold argsOk;kernel_rfl
theorem Bm (hc:X.calm=true) (hu:X.A.units+64<cLine):cZ X (.builtin "min") (G4 X.K):=by
 intro pins s σ H xs us Q I r h;obtain⟨a,vs,ps,rfl,ha,hne,hlen,hrd,hcm,q⟩:=h;obtain⟨u,rfl,ru⟩:=fD r;cases ru;have nm:(toString "min" ++ toString ".loop" : String) = "min.loop" := by decide
 have cmp:∀(its:List Value),ba vs its->∀(i b:Nat) v v0,its[i]?=some v->its[b]?=some v0->∀h tk,Kp s h->xU .Lt X.A.in1 {s with heap:=h,toks:=tk} v v0 (xM ps i b):=by
  intro its rv i b v v0 ev e0 h tk kp pr wo E' Q' hQ
  have i1:i<vs.length:=by
   have:=(N3.mp ev).1;rw[rv.length];exact this
  have i0:b<vs.length:=by
   have:=(N3.mp e0).1;rw[rv.length];exact this
  obtain⟨u0,e0',r0⟩:=rv.get (Ry i0);obtain⟨u1,e1',r1⟩:=rv.get (Ry i1);rw[e0]at e0';cases e0';rw[ev]at e1';cases e1';have p1:ps[i]?=some ps[i]:=Ry (by omega);have p0:ps[b]?=some ps[b]:=Ry (by omega);obtain⟨h1,h3⟩:=hrd i _ _ (Ry i1) p1;obtain⟨h2,h4⟩:=hrd b _ _ (Ry i0) p0;have I':aV X pins σ H {s with heap:=h,toks:=tk}:=I.kept kp;obtain⟨as,k1⟩:=dB I' ps[i] _ _ h1 r1;obtain⟨bs,k2⟩:=dB I' ps[b] _ _ h2 r0;have h5:=hcm _ (Rw (by omega:i<ps.length)) _ (Rw (by omega:b<ps.length))
  have h6:gu .Lt ps[i] ps[b]=some (xM ps i b):=by
   unfold xM;rw[p1,p0];show _=some (decide (gu .Lt ps[i] ps[b]=some true));cases e:gu .Lt ps[i] ps[b] with
   |none=>rw[e]at h5;cases h5
   |some k=>cases k <;> rfl
  refine rh rfl ps[i] ps[b] X.A.in1 _ _ _ as bs _ k1 k2 (bU h3) (bU h4) ?_ h6 pr wo E' Q' hQ;unfold eG at h3;simp only[Pb,RI]at h3;have:=Nat.min_le_left ps[i].depth ps[b].depth;show X.A.units+1+_<_;omega
 have fin:∀(its:List Value),ba vs its->∀v h tk,its[argBest (xM ps) (its.length-1)]?=some v->Kp s h->EP X pins σ Q v {s with heap:=h,toks:=tk}:=by
  intro its rv v h tk e kp;have hl:=rv.length;rw[<- hl]at e
  have i1:argBest (xM ps) (vs.length-1)<vs.length:=by
   have:=(N3.mp e).1;omega
  obtain⟨u1,e1',r1⟩:=rv.get (Ry i1);rw[e]at e1';cases e1';exact⟨_,H,I.kept kp,r1,q _ (Ry i1)⟩
 refine J3 F.kind_min F.plain_min F.entry_min (Bv _) ?_;refine Oc (m:=Builtin.Builtins.bindParams "min" ["key", "default"] 0 ⟨[],[]⟩) (PU (a:=[none,none]) rfl ?_);refine Oc (Og ?_);rcases ha with ha|ha
 ·obtain ⟨its, rv, pl, hz⟩ := I.list ha;have alt:a<s.heap.objs.size:=by obtain⟨o,n,e,_⟩:=pl;exact NO e
  have W0:=Q9 (prog:=X.prog) (w:=X.w) (A:=X.A.in1) (show X.A.in1.handled=none from I.ok.hd hc) s.heap.objs.size a (NR alt) its.toArray;rw[Ow,wj]at W0;refine Oc (Q7 pl.isList ?_);refine Oc (Pc ?_);rw[nm];refine Og ⟨Q2 RW _,C7 (s0:=s) (A:=X.A) (its:=its) (J:=s.heap.objs.size) (lt:=xM ps) W0 ?_ ?_ ?_ ?_ ?_ (cmp its rv) (fin its rv) ?_ ?_ (Ol _ rfl)⟩
  ·rw[Rq];exact NR (PF _)
  ·rw[Rq];simp only[NZ,Qc,Qd];rintro (z|z);exact absurd z (Of (PF _));exact absurd z (Of (PH alt))
  ·exact qj (Om _)
  ·rw[Rq];exact qj (Qg _)
  ·intro z;subst z;exact hne (Rx.mp rv.length)
  ·exact fun b ob e=>Oj _ (Oj _ e)
  ·exact⟨⟨_,Oj _ (Ol _ rfl),rfl,rfl⟩,pl.isList.at fun o e=>Oj _ (Oj _ e)⟩
 ·obtain ⟨its, rv, pl, hz⟩ := I.tuple ha;have alt:a<s.heap.objs.size:=by obtain⟨o,e,_⟩:=pl;exact NO e
  have pl':s.heap.IsTuple a its.toArray:=pl;have W0:=Ra (prog:=X.prog) (w:=X.w) (A:=X.A.in1) (show X.A.in1.handled=none from I.ok.hd hc) s.heap.objs.size a (NR alt) its.toArray;rw[Ow,wj]at W0;refine Oc (Qb pl' ?_);refine Oc (Pc ?_);rw[nm];refine Og ⟨Q2 RW _,C7 (s0:=s) (A:=X.A) (its:=its) (J:=s.heap.objs.size) (lt:=xM ps) W0 ?_ ?_ ?_ ?_ ?_ (cmp its rv) (fin its rv) ?_ ?_ (Ol _ rfl)⟩
  ·rw[Rq];exact NR (PF _)
  ·rw[Rq];simp only[NZ,Qc,Qd];rintro (z|z);exact absurd z (Of (PF _));exact absurd z (Of (PH alt))
  ·exact qj (Om _)
  ·rw[Rq];exact qj (Qg _)
  ·intro z;subst z;exact hne (Rx.mp rv.length)
  ·exact fun b ob e=>Oj _ (Oj _ e)
  ·exact⟨⟨_,Oj _ (Ol _ rfl),rfl,rfl⟩,pl'.at fun o e=>Oj _ (Oj _ e)⟩
def HA(μ:aw)(d:D):Option (List D):=match d with
 |.tup xs=>some xs
 |.obj n=>match μ[n]? with
  |some (.lst xs)=>some xs
  |_=>none
 |_=>none
def xQ(μ:aw):List D->Option (List PyData)
 |[]=>some []
 |d::ds=>match mI μ d,xQ μ ds with
  |some p,some ps=>some (p::ps)
  |_,_=>none
def Kh(ps:List PyData):Bool:=ps.all fun p=>eG p&&ps.all fun q=>(gu .Lt p q).isSome
def vZ(ds:List D)(μ:aw):ai D:=match ds with
 |[d]=>match BG d μ with
  |some _=>vN ds μ
  |none=>match HA μ d with
   |some xs=>match xQ μ xs with
    |some ps=>if Kh ps=true then (match xs[argBest (xM ps) (xs.length-1)]? with
      |some x=>.ok x μ
      |none=>.bad) else .bad
    |none=>.bad
   |none=>.bad
 |ds=>vN ds μ
theorem we{μ:aw}:∀{xs:List D}{ps:List PyData},xQ μ xs=some ps->ps.length=xs.length
 |[],ps,h=>by simp only[xQ,QK]at h;subst h;rfl
 |d::ds,ps,h=>by
  unfold xQ at h;split at h
  ·rename_i p ps' e1 e2;simp only[QK]at h;subst h;simp[we e2]
  ·cases h
theorem wg{μ:aw}:∀{xs:List D}{ps:List PyData},xQ μ xs=some ps->∀(i:Nat) d p,xs[i]?=some d->ps[i]?=some p->mI μ d=some p
 |[],ps,h,i,d,p,h1,h2=>by cases h1
 |x::ds,ps,h,i,d,p,h1,h2=>by
  unfold xQ at h;split at h
  ·rename_i p' ps' e1 e2;simp only[QK]at h;subst h;cases i with
   |zero=>cases h1;cases h2;exact e1
   |succ i=>exact wg e2 i d p h1 h2
  ·cases h
theorem F8{p:Pa}:vH p vZ (fun xs H Q=>G4 p.K xs H Q\/(BZ p.K xs H Q\/∃i j,xs=[.int i,.int j]/\Q (.int (if j<i then j else i)) H)):=by
 intro ds vs H α μ Q S r P;unfold vZ at P;split at P
 ·rename_i d;split at P
  ·exact .inr (x5 _ vs H α μ Q S r P)
  ·split at P
   ·rename_i xs hx;split at P
    ·rename_i ps hp;split at P
     ·rename_i hall;split at P
      ·rename_i x hxx;obtain⟨v,rfl,r1⟩:=r.one
       have key:∃(a:Addr)(us:List V),v=.ref a/\(fT p.K H a us\/fS p.K H a us)/\p.Rs H α xs us:=by
        cases d with
        |tup ys=>
         simp only[HA,QK]at hx;subst hx;obtain⟨a,us,rfl,h1,h2⟩:=aI.mp r1;exact⟨a,us,rfl,.inr h1,h2⟩
        |obj n=>
         simp only[HA]at hx;split at hx
         ·rename_i ys e;simp only[QK]at hx;subst hx;obtain⟨a,us,rfl,a1,h1,rr⟩:=dh S r1 e;exact⟨a,us,rfl,.inl (fT.of h1),rr⟩
         ·cases hx
        |non=>cases hx
        |bl b=>cases hx
        |int i=>cases hx
        |str x=>cases hx
        |frz xs=>cases hx
       obtain⟨a,us,rfl,hs,rr⟩:=key;have hl:=rr.length;have hpl:=we hp;refine .inl ⟨a,us,ps,rfl,hs,?_,by omega,fun i v q h1 h2=>?_,fun q hq q' hq'=>?_,fun v hv=>?_⟩
       ·intro z;rw[z]at hl;have:xs=[]:=Rx.mp hl.symm;rw[this]at hxx;cases hxx
       ·obtain⟨y,hy,ry⟩:=rr.getV h1;refine⟨mM S (wg hp i y q hy h2) ry,?_⟩;have:=QN.mp hall q (OM h2);exact(R6.mp this).1
       ·have:=QN.mp hall q hq;exact QN.mp (R6.mp this).2 q' hq'
       ·rw[hl]at hv;obtain⟨y,hy,ry⟩:=rr.getV hv;rw[hxx]at hy;cases hy;exact P.now S _ ry
      ·exact P.elim
     ·exact P.elim
    ·exact P.elim
   ·exact P.elim
 ·exact .inr (x5 _ vs H α μ Q S r P)
theorem Kj {p:Pa} (hu:X.A.units+64<cLine) (hc:X.calm=true:=by rfl) (hK:X.K=p.K:=by rfl):pW X p "min" vZ:=⟨_,_,.inl ⟨_,rfl⟩,by decide +kernel,(Bm hc hu).or ((uf hc).or (ue hc)),hK ▸ F8,by decide,by decide⟩
end
end L2
namespace Lw
open PySem L2
section
variable{P:Program}{w:World}{K:W.Frag}{mg:Str->Option Value}{base:Heap}
structure Nm(mg:Str->Option Value):Prop where
 ValueError:mg "ValueError" = none
 all:mg "all" = none
 bool:mg "bool" = none
 enumerate:mg "enumerate" = none
 int:mg "int" = none
 isinstance:mg "isinstance" = none
 len:mg "len" = none
 list:mg "list" = none
 max:mg "max" = none
 min:mg "min" = none
 range:mg "range" = none
 repr:mg "repr" = none
 set:mg "set" = none
 sorted:mg "sorted" = none
 tuple:mg "tuple" = none
theorem xq:aR ["thing"] ["thing"] (ar jA):=⟨rfl,rfl,rfl,by decide +kernel,rfl,by decide +kernel,by decide +kernel⟩
def kE:MS:=bR (jf (mq (gq "int") (ak 0)) (v7 (mq (gq "bool") (ak 0))))
def dS:List D->aw->ai D:=ip 1 1 kE
theorem o9:aR ["thing", "least", "most"] ["thing", "least", "most"] (ar fv):=⟨rfl,rfl,rfl,by decide +kernel,rfl,by decide +kernel,by decide +kernel⟩
def f6:MS:=bR (jf (aC dS (ag (ak 0) (aB))) (ke (j9 .LtE) (j9 .LtE) (ak 1) (ak 0) (ak 2)))
def bu:List D->aw->ai D:=ip 3 3 f6
theorem xr:aR ["many", "thing"] ["many", "thing"] (ar jB):=⟨rfl,rfl,rfl,by decide +kernel,rfl,by decide +kernel,by decide +kernel⟩
def nc:MS:=bR (aC bu (ag (ak 1) (ag (cC (.int 0)) (ag (aN pT (ak 0) (cC (.int 1))) (aB)))))
def dU:List D->aw->ai D:=ip 2 2 nc
theorem vk:aR ["many", "thing"] ["many", "thing"] (ar gK):=⟨rfl,rfl,rfl,by decide +kernel,rfl,by decide +kernel,by decide +kernel⟩
theorem sD:(["place", "many"]:List Str).Nodup:=by decide +kernel
def il:ME:=aC dU (ag (ak 1) (ag (ak 0) (aB)))
def lG:MS:=bR (jf (mq (gq "tuple") (ak 1)) (aC ot (ag (cW (fE (ak 1)) [none,some 0] (ao 0) (bA) (il)) (aB))))
def cG:List D->aw->ai D:=ip 2 2 lG
theorem vh:aR ["things"] ["things"] (ar gJ):=⟨rfl,rfl,rfl,by decide +kernel,rfl,by decide +kernel,by decide +kernel⟩
theorem sC:(["at", "things"]:List Str).Nodup:=by decide +kernel
def ik:ME:=aN (j9 .Lt) (aN gY (ak 1) (aN pT (ak 0) (cC (.int 1)))) (aN gY (ak 1) (ak 0))
def pP:MS:=bR (aC ot (ag (cW (iE Ah (ag (cC (.int 1)) (ag (aC jw (ag (ak 0) (aB))) (aB)))) [none,some 0] (ao 0) (bA) (ik)) (aB)))
def iB:List D->aw->ai D:=ip 1 1 pP
theorem mf:aR ["many", "thing"] ["many", "thing"] (ar dr):=⟨rfl,rfl,rfl,by decide +kernel,rfl,by decide +kernel,by decide +kernel⟩
def ju:MS:=bR (jf (aC cG (ag (ak 0) (ag (ak 1) (aB)))) (jf (aN (j9 .Gt) (aC jw (ag (ak 1) (aB))) (cC (.int 0))) (aC iB (ag (ak 1) (aB)))))
def cU:List D->aw->ai D:=ip 2 2 ju
theorem yA:aR ["thing"] ["thing"] (ar kr):=⟨rfl,rfl,rfl,by decide +kernel,rfl,by decide +kernel,by decide +kernel⟩
def o7:MS:=bR (aC bu (ag (ak 0) (ag (cC (.int 1)) (ag (cC (.int 6)) (aB)))))
def eB:List D->aw->ai D:=ip 1 1 o7
theorem yz:aR ["many", "thing"] ["many", "thing"] (ar kq):=⟨rfl,rfl,rfl,by decide +kernel,rfl,by decide +kernel,by decide +kernel⟩
def um:MS:=bR (jf (aC cG (ag (ak 0) (ag (ak 1) (aB)))) (jf (aN (kW false) (aC jw (ag (ak 1) (aB))) (cC (.int 2))) (aN (kW true) (aN gY (ak 1) (cC (.int 0))) (aN gY (ak 1) (cC (.int 1))))))
def i4:List D->aw->ai D:=ip 2 2 um
theorem oK:aR ["many", "things", "at", "thing"] ["many", "things"] (ar jS):=⟨rfl,rfl,rfl,by decide +kernel,rfl,by decide +kernel,by decide +kernel⟩
theorem xy:(["pair"]:List Str).Nodup:=by decide +kernel
def m7:MS:=pj (eU (jx (aC i4 (ag (ak 0) (ag (ak 3) (aB)))))) (BI) (dJ)
def r8:ME:=dj (ag (aC vZ (ag (ak 0) (aB))) (ag (aC uC (ag (ak 0) (aB))) (aB)))
def kC:MB:=zg (r8)
def xm:MS:=bB (pj (eU (jx (aC eB (ag (ak 0) (aB))))) (BI) (dJ))
 (bB (mJ (iE k9 (ag (ak 1) (aB))) (g7 2 (bC (ao 2) (bC (ao 3) (g8)))) m7)
 (bR (dj (ag (ak 0) (ag (aC gE (ag (aC ck (ag (uI (fE (ak 1)) [none] (ao 0) (bA) (kC)) (aB))) (aB))) (aB))))))
def jk:List D->aw->ai D:=ip 2 4 xm
theorem si:aR ["web", "thing"] ["web", "thing"] (ar gM):=⟨rfl,rfl,rfl,by decide +kernel,rfl,by decide +kernel,by decide +kernel⟩
def mE:MS:=pj (eU (jx (aC dU (ag (aN gY (ak 0) (cC (.int 0))) (ag (ak 1) (aB)))))) (BI) (dJ)
def fP:List D->aw->ai D:=ip 2 2 mE
theorem se:aR ["ties", "front"] ["ties", "front"] (ar dD):=⟨rfl,rfl,rfl,by decide +kernel,rfl,by decide +kernel,by decide +kernel⟩
theorem j4:(["a", "b", "front"]:List Str).Nodup:=by decide +kernel
theorem j3:(["a", "b", "front"]:List Str).Nodup:=by decide +kernel
def kP:ME:=ak 1
def iL:MT:=lT (aN (qy false) (ak 0) (ak 2))
def kO:ME:=ak 0
def iK:MT:=lT (aN (qy false) (ak 1) (ak 2))
def mD:MS:=bR (aN cf (cW (fE (ak 0)) [none,none,some 1] (g7 2 (bC (ao 0) (bC (ao 1) (g8)))) (iL) (kP)) (cW (fE (ak 0)) [none,none,some 1] (g7 2 (bC (ao 0) (bC (ao 1) (g8)))) (iK) (kO)))
def fO:List D->aw->ai D:=ip 2 2 mD
theorem yy:aR ["web", "place"] ["web", "place"] (ar ko):=⟨rfl,rfl,rfl,by decide +kernel,rfl,by decide +kernel,by decide +kernel⟩
def uk:MS:=bB (kK (aC fP (ag (ak 0) (ag (ak 1) (aB)))))
 (bR (aC gE (ag (aC ck (ag (aC nt (ag (aN cf (iF (ag (ak 1) (aB))) (aC fO (ag (aN gY (ak 0) (cC (.int 1))) (ag (iF (ag (ak 1) (aB))) (aB))))) (aB))) (aB))) (aB))))
def jY:List D->aw->ai D:=ip 2 2 uk
theorem rP:aR ["stars", "place", "star"] ["stars", "place"] (ar jn):=⟨rfl,rfl,rfl,by decide +kernel,rfl,by decide +kernel,by decide +kernel⟩
theorem vy:(["other", "star", "place", "stars"]:List Str).Nodup:=by decide +kernel
def lE:ME:=aN (kW false) (aN (qy false) (ak 0) (ak 1)) (aN (qy false) (ak 2) (aN gY (ak 3) (ak 0)))
def uo:MS:=bB (cK (aN gY (ak 0) (ak 1)) (ao 2))
 (bR (jf (aN (qy false) (ak 1) (ak 2)) (aC ot (ag (cW (iE i8 (ag (aC jw (ag (ak 0) (aB))) (aB))) [none,some 2,some 1,some 0] (ao 0) (bA) (lE)) (aB)))))
def jZ:List D->aw->ai D:=ip 2 3 uo
theorem mB:aR ["thing", "many"] ["thing"] (ar eC):=⟨rfl,rfl,rfl,by decide +kernel,rfl,by decide +kernel,by decide +kernel⟩
theorem qd:(["star", "many"]:List Str).Nodup:=by decide +kernel
theorem qc:(["place", "thing"]:List Str).Nodup:=by decide +kernel
def lL:ME:=aC cU (ag (ak 1) (ag (ak 0) (aB)))
def js:ME:=aC jZ (ag (ak 1) (ag (ak 0) (aB)))
def nV:MS:=bB (pj (nu (eU (jx (mq (gq "tuple") (ak 0)))) (eU (jx (aC eB (ag (aC jw (ag (ak 0) (aB))) (aB)))))) (bR (cC (.bl false))) (dJ))
 (bB (cK (aC jw (ag (ak 0) (aB))) (ao 1))
 (bB (pj (eU (jx (aC ot (ag (cW (fE (ak 0)) [none,some 1] (ao 0) (bA) (lL)) (aB))))) (bR (cC (.bl false))) (dJ))
 (bR (aC ot (ag (cW (iE i8 (ag (ak 1) (aB))) [none,some 0] (ao 0) (bA) (js)) (aB))))))
def dW:List D->aw->ai D:=ip 1 2 nV
theorem sf:aR ["thing"] ["thing"] (ar gL):=⟨rfl,rfl,rfl,by decide +kernel,rfl,by decide +kernel,by decide +kernel⟩
def jL:MS:=pj (eU (jx (aC (fun ds μ=>(dW ds μ).nox) (ag (ak 0) (aB))))) (xZ "NoRoot") (dJ)
def b8:List D->aw->ai D:=ip 1 1 jL
theorem xp:aR ["web"] ["web"] (ar iA):=⟨rfl,rfl,rfl,by decide +kernel,rfl,by decide +kernel,by decide +kernel⟩
theorem sU:(["place", "web"]:List Str).Nodup:=by decide +kernel
def kF:ME:=aC jY (ag (ak 1) (ag (ak 0) (aB)))
def r9:MS:=bR (aC gE (ag (cW (iE i8 (ag (aN gY (ak 0) (cC (.int 0))) (aB))) [none,some 0] (ao 0) (bA) (kF)) (aB)))
def jo:List D->aw->ai D:=ip 1 1 r9
theorem AH:aR ["stars"] ["stars"] (ar jT):=⟨rfl,rfl,rfl,by decide +kernel,rfl,by decide +kernel,by decide +kernel⟩
theorem lA:(["a", "star", "b"]:List Str).Nodup:=by decide +kernel
def m8:ME:=dj (ag (ak 0) (ag (ak 2) (aB)))
def m5:MT:=lT (aN (j9 .Lt) (ak 0) (ak 2))
def kD:MB:=jI (fE (ak 1)) (ao 2) (m5) (la (m8))
def rK:MS:=bB (kK (aC b8 (ag (ak 0) (aB))))
 (bR (aC (fun ds μ=>(jk ds μ).nox) (ag (aC jw (ag (ak 0) (aB))) (ag (kd (iE k9 (ag (ak 0) (aB))) [none,none,none] (g7 2 (bC (ao 0) (bC (ao 1) (g8)))) (bA) (kD)) (aB)))))
def jm:List D->aw->ai D:=ip 1 1 rK
theorem vg:aR ["stars"] ["stars"] (ar gI):=⟨rfl,rfl,rfl,by decide +kernel,rfl,by decide +kernel,by decide +kernel⟩
theorem jr:(["star", "a", "b"]:List Str).Nodup:=by decide +kernel
def fR:ME:=dj (ag (ak 1) (ag (ak 2) (aB)))
def fN:MT:=lT (aN (j9 .Lt) (ak 1) (ak 2))
def jK:MB:=jI (fE (ak 0)) (ao 1) (bA) (jI (fE (ak 0)) (ao 2) (fN) (la (fR)))
def lF:MS:=bB (kK (aC b8 (ag (ak 0) (aB))))
 (bR (aC (fun ds μ=>(jk ds μ).nox) (ag (aC jw (ag (ak 0) (aB))) (ag (kd (fE (ak 0)) [none,none,none] (ao 0) (bA) (jK)) (aB)))))
def eY:List D->aw->ai D:=ip 1 1 lF
theorem pY:aR ["_law_script", "_law_k"] ["_law_script", "_law_k"] (ar fY):=⟨rfl,rfl,rfl,by decide +kernel,rfl,by decide +kernel,by decide +kernel⟩
def jt:MS:=bB (pj (lT (aN (j9 .Lt) (ak 1) (aC jw (ag (ak 0) (aB))))) (bR (aN gY (ak 0) (ak 1))) (dJ))
 (bR (cC (.int 0)))
def ff:List D->aw->ai D:=ip 2 2 jt
theorem nP:aR ["_law_seed"] ["_law_seed"] (ar iY):=⟨rfl,rfl,rfl,by decide +kernel,rfl,by decide +kernel,by decide +kernel⟩
def pQ:MS:=bB (cK (aN vM (aN cf (ak 0) (cC (.int 7919))) (cC (.int 2147483647))) (ao 0))
 (bR (aN vM (aN cf (aN cf (aN sJ (ak 0) (ak 0)) (aN sJ (cC (.int 48271)) (ak 0))) (cC (.int 12345))) (cC (.int 2147483629))))
def gp:List D->aw->ai D:=ip 1 1 pQ
theorem lI:aR ["_law_cell", "_law_left"] ["_law_cell"] (ar gP):=⟨rfl,rfl,rfl,by decide +kernel,rfl,by decide +kernel,by decide +kernel⟩
def mH:MS:=bB (cK (aC uC (ag (ak 0) (ag (aN pT (cC (.int 0)) (ak 0)) (aB)))) (ao 1))
 (bR (iF (ag (ak 1) (ag (aC v3 (ag (aN (j9 .GtE) (ak 1) (aN Ak (cC (.int 10)) (cC (.int 18)))) (aB))) (ag (aN vM (ak 1) (cC (.int 1000003))) (aB))))))
def fQ:List D->aw->ai D:=ip 1 2 mH
theorem nQ:aR ["_law_pen", "_law_many", "_law_found"] ["_law_pen", "_law_many"] (ar iZ):=⟨rfl,rfl,rfl,by decide +kernel,rfl,by decide +kernel,by decide +kernel⟩
def lH:MS:=bB (pj (lT (aN (kW false) (aN gY (ak 0) (cC (.int 1))) (cC (.int 1)))) (bB (cK (aN vM (aN gY (ak 0) (cC (.int 0))) (ak 1)) (ao 2))
 (bB (cK (aN v5 (aN gY (ak 0) (cC (.int 0))) (ak 1)) (vV (ak 0) (cC (.int 0))))
 (bR (ak 2)))) (dJ))
 (bB (cK (aC gp (ag (aN cf (aC gp (ag (aN gY (ak 0) (cC (.int 2))) (aB))) (cC (.int 7))) (aB))) (vV (ak 0) (cC (.int 2))))
 (bR (aN vM (aN v5 (aN gY (ak 0) (cC (.int 2))) (cC (.int 64))) (ak 1))))
def aL:List D->aw->ai D:=ip 2 3 lH
theorem sQ:aR ["_law_found"] ["_law_found"] (ar ij):=⟨rfl,rfl,rfl,by decide +kernel,rfl,by decide +kernel,by decide +kernel⟩
def vC:MS:=bR (jf (mq (gq "int") (ak 0)) (v7 (mq (gq "bool") (ak 0))))
def bZ:List D->aw->ai D:=ip 1 1 vC
theorem iJ:aR ["_law_e", "_law_marks"] ["_law_e"] (ar fX):=⟨rfl,rfl,rfl,by decide +kernel,rfl,by decide +kernel,by decide +kernel⟩
def lO:MS:=bB (cK (iF (ag (mq (mK ["NoPlace"] ["NoPlace", "NoRoot"]) (ak 0)) (ag (mq (mK [] ["NoPlace", "NoRoot"]) (ak 0)) (ag (mq (mK [] ["NoPlace", "NoRoot"]) (ak 0)) (ag (mq (mK ["NoRoot"] ["NoPlace", "NoRoot"]) (ak 0)) (aB)))))) (ao 1))
 (bB (cK (aN cf (ak 1) (iF (ag (mq (mK [] ["NoPlace", "NoRoot"]) (ak 0)) (ag (mq (mK [] ["NoPlace", "NoRoot"]) (ak 0)) (ag (mq (mK [] ["NoPlace", "NoRoot"]) (ak 0)) (ag (mq (mK [] ["NoPlace", "NoRoot"]) (ak 0)) (aB))))))) (ao 1))
 (bB (pj (nu (eU (jx (mq (mK ["NoPlace", "NoRoot"] ["NoPlace", "NoRoot"]) (ak 0)))) (lT (aN (kW true) (zb l5 (ak 1) (ag (cC (.bl true)) (aB))) (cC (.int 1))))) (bR (cC (.str "other"))) (dJ))
 (bR (aN gY (iF (ag (cC (.str "place")) (ag (cC (.str "number")) (ag (cC (.str "line")) (ag (cC (.str "root")) (ag (cC (.str "tree")) (ag (cC (.str "web")) (ag (cC (.str "text")) (ag (cC (.str "great")) (aB)))))))))) (zb l0 (ak 1) (ag (cC (.bl true)) (aB)))))))
def fe:List D->aw->ai D:=ip 1 2 lO
theorem sj:aR ["_law_many", "_law_ties"] ["_law_many", "_law_ties"] (ar eZ):=⟨rfl,rfl,rfl,by decide +kernel,rfl,by decide +kernel,by decide +kernel⟩
theorem j5:(["_law_a", "_law_b"]:List Str).Nodup:=by decide +kernel
def iM:ME:=dj (ag (aC vN (ag (ak 0) (ag (ak 1) (aB)))) (ag (aC uC (ag (ak 0) (ag (ak 1) (aB)))) (aB)))
def mF:MS:=bR (dj (ag (ak 0) (ag (aC gE (ag (aC ck (ag (aC nt (ag (cW (fE (ak 1)) [none,none] (g7 2 (bC (ao 0) (bC (ao 1) (g8)))) (bA) (iM)) (aB))) (aB))) (aB))) (aB))))
def bg:List D->aw->ai D:=ip 2 2 mF
theorem dc:aR ["_law_pen", "_law_most", "_law_many", "_law_share", "_law_ties", "_law_one"] ["_law_pen", "_law_most"] (ar c8):=⟨rfl,rfl,rfl,by decide +kernel,rfl,by decide +kernel,by decide +kernel⟩
theorem ml:(["_law_other", "_law_one", "_law_pen", "_law_share"]:List Str).Nodup:=by decide +kernel
def dZ:ME:=dj (ag (ak 0) (ag (ak 1) (aB)))
def dY:MT:=lT (aN (kW false) (aC aL (ag (ak 2) (ag (ak 3) (aB)))) (cC (.int 0)))
def cT:MS:=kK (zb fV (ak 4) (ag (cW (iE i8 (ag (ak 5) (aB))) [none,some 5,some 0,some 3] (ao 0) (dY) (dZ)) (aB)))
def j6:MS:=bB (cK (aN cf (cC (.int 1)) (aC aL (ag (ak 0) (ag (ak 1) (aB))))) (ao 2))
 (bB (cK (aN cf (cC (.int 2)) (aC aL (ag (ak 0) (ag (cC (.int 3)) (aB))))) (ao 3))
 (bB (cK (iF (aB)) (ao 4))
 (bB (mJ (iE i8 (ag (ak 2) (aB))) (ao 5) cT)
 (bR (aC bg (ag (ak 2) (ag (ak 4) (aB))))))))
def cI:List D->aw->ai D:=ip 2 6 j6
theorem pX:aR ["_law_web", "_law_place"] ["_law_web", "_law_place"] (ar d5):=⟨rfl,rfl,rfl,by decide +kernel,rfl,by decide +kernel,by decide +kernel⟩
theorem jC:(["_law_a", "_law_b", "_law_place"]:List Str).Nodup:=by decide +kernel
def ig:ME:=aN pT (aN cf (ak 0) (ak 1)) (ak 2)
def ic:MT:=lT (aN (qy false) (ak 2) (dj (ag (ak 0) (ag (ak 1) (aB)))))
def lN:MS:=bR (cW (fE (aN gY (ak 0) (cC (.int 1)))) [none,none,some 1] (g7 2 (bC (ao 0) (bC (ao 1) (g8)))) (ic) (ig))
def cQ:List D->aw->ai D:=ip 2 2 lN
theorem dG:aR ["_law_web", "_law_ties", "_law_place", "_law_near", "_law_one"] ["_law_web"] (ar dE):=⟨rfl,rfl,rfl,by decide +kernel,rfl,by decide +kernel,by decide +kernel⟩
theorem nk:(["_law_other", "_law_one"]:List Str).Nodup:=by decide +kernel
def eQ:ME:=dj (ag (ak 1) (ag (ak 0) (aB)))
def eJ:MT:=lT (aN (j9 .Lt) (ak 1) (ak 0))
def eP:MS:=kK (zb fV (ak 1) (ag (cW (fE (ak 3)) [none,some 4] (ao 0) (eJ) (eQ)) (aB)))
def eK:MS:=bB (cK (aC cQ (ag (ak 0) (ag (ak 2) (aB)))) (ao 3))
 (mJ (fE (ak 3)) (ao 4) eP)
def kQ:MS:=bB (cK (aC lb (ag (aN gY (ak 0) (cC (.int 1))) (aB))) (ao 1))
 (bB (mJ (iE i8 (ag (aN gY (ak 0) (cC (.int 0))) (aB))) (ao 2) eK)
 (bR (aC bg (ag (aN gY (ak 0) (cC (.int 0))) (ag (ak 1) (aB))))))
def d7:List D->aw->ai D:=ip 1 5 kQ
theorem bQ:aR ["_law_pen", "_law_most", "_law_web", "_law_way", "_law_one", "_law_pair", "_law_some"] ["_law_pen", "_law_most"] (ar d6):=⟨rfl,rfl,rfl,by decide +kernel,rfl,by decide +kernel,by decide +kernel⟩
theorem nZ:(["_law_tie", "_law_pair"]:List Str).Nodup:=by decide +kernel
def fB:ME:=ak 0
def fA:MT:=lT (aN (kW true) (ak 0) (ak 1))
def gT:MS:=bB (cK (aC cI (ag (ak 0) (ag (ak 1) (aB)))) (ao 2))
 (bB (cK (aC aL (ag (ak 0) (ag (cC (.int 4)) (aB)))) (ao 3))
 (bB (pj (lT (aN (kW false) (ak 3) (cC (.int 0)))) (bR (ak 2)) (dJ))
 (bB (cK (aC d7 (ag (ak 2) (aB))) (ao 2))
 (bB (pj (zj (lT (aN (kW false) (ak 3) (cC (.int 3)))) (lT (aN (j9 .Gt) (aN gY (ak 2) (cC (.int 0))) (cC (.int 1))))) (bB (cK (aC aL (ag (ak 0) (ag (aN pT (aN gY (ak 2) (cC (.int 0))) (cC (.int 1))) (aB)))) (ao 4))
 (bB (cK (dj (ag (ak 4) (ag (aN cf (aN cf (ak 4) (cC (.int 1))) (aC aL (ag (ak 0) (ag (aN pT (aN pT (aN gY (ak 2) (cC (.int 0))) (cC (.int 1))) (ak 4)) (aB))))) (aB)))) (ao 5))
 (bB (cK (cW (fE (aN gY (ak 2) (cC (.int 1)))) [none,some 5] (ao 0) (fA) (fB)) (ao 6))
 (bB (pj (lT (aN (qy true) (ak 5) (aN gY (ak 2) (cC (.int 1))))) (kK (zb iV (ak 6) (ag (ak 5) (aB)))) (dJ))
 (cK (aC bg (ag (aN gY (ak 2) (cC (.int 0))) (ag (ak 6) (aB)))) (ao 2)))))) (dJ))
 (bR (ak 2))))))
def cR:List D->aw->ai D:=ip 2 7 gT
theorem ng:aR ["_law_found", "_law_due"] ["_law_found", "_law_due"] (ar cS):=⟨rfl,rfl,rfl,by decide +kernel,rfl,by decide +kernel,by decide +kernel⟩
theorem lQ:(["_law_one"]:List Str).Nodup:=by decide +kernel
theorem lP:(["_law_number"]:List Str).Nodup:=by decide +kernel
def dw:ME:=aC bZ (ag (ak 0) (aB))
def fI:ME:=jf (mq (gq "tuple") (ak 0)) (aC ot (ag (cW (fE (ak 0)) [none] (ao 0) (bA) (dw)) (aB)))
def jF:MS:=bB (pj (nu (eU (jx (mq (gq "tuple") (ak 0)))) (lT (aN (kW true) (ak 0) (ak 1)))) (bR (cC (.bl false))) (dJ))
 (bR (aC ot (ag (cW (fE (ak 0)) [none] (ao 0) (bA) (fI)) (aB))))
def bp:List D->aw->ai D:=ip 2 2 jF
theorem sk:aR ["_law_found", "_law_due"] ["_law_found", "_law_due"] (ar gN):=⟨rfl,rfl,rfl,by decide +kernel,rfl,by decide +kernel,by decide +kernel⟩
def mG:MS:=bB (pj (nu (eU (jx (mq (gq "tuple") (ak 0)))) (nu (lT (aN (kW true) (aC jw (ag (ak 0) (aB))) (cC (.int 2)))) (nu (eU (jx (aC bZ (ag (aN gY (ak 0) (cC (.int 0))) (aB))))) (lT (aN (kW true) (ak 0) (ak 1)))))) (bR (cC (.bl false))) (dJ))
 (bR (aC bp (ag (aN gY (ak 0) (cC (.int 1))) (ag (aN gY (ak 1) (cC (.int 1))) (aB)))))
def eE:List D->aw->ai D:=ip 2 2 mG
theorem c6:aR ["_law_pen", "_law_stars", "_law_many", "_law_spot", "_law_lot", "_law_odd", "_law_wrong", "_law_other", "_law_some"] ["_law_pen", "_law_stars"] (ar i3):=⟨rfl,rfl,rfl,by decide +kernel,rfl,by decide +kernel,by decide +kernel⟩
def pR:MS:=bB (cK (aC jw (ag (ak 1) (aB))) (ao 2))
 (bB (cK (aC aL (ag (ak 0) (ag (ak 2) (aB)))) (ao 3))
 (bB (cK (aN gY (ak 1) (ak 3)) (ao 4))
 (bB (cK (aN gY (iF (ag (ak 2) (ag (mq vL (cC (.int 1))) (ag (cC (.bl true)) (ag (cC .non) (ag (cC (.str "0")) (ag (dj (ag (cC (.int 0)) (aB))) (ag (aN Ak (cC (.int 10)) (cC (.int 30))) (ag (aC aL (ag (ak 0) (ag (ak 2) (aB)))) (aB)))))))))) (aC aL (ag (ak 0) (ag (cC (.int 8)) (aB))))) (ao 5))
 (bB (cK (iF (ag (Et (ak 4) (k6 (cC (.int 1))) (Ez)) (ag (Et (ak 4) (Ez) (k6 (mq vL (cC (.int 1))))) (ag (aN cf (ak 4) (dj (ag (ak 5) (aB)))) (ag (aN qM (ak 4) (mq vL (cC (.int 1)))) (ag (aN cf (ak 4) (Et (ak 4) (Ez) (k6 (cC (.int 1))))) (ag (aC lb (ag (ak 4) (aB))) (ag (cC .non) (ag (dj (aB)) (ag (dj (ag (ak 5) (aB))) (ag (BN) (ag (dj (ag (ak 3) (aB))) (aB))))))))))))) (ao 6))
 (bB (kK (zb iV (ak 6) (ag (aC gE (ag (aC ck (ag (aC nt (ag (aN cf (ak 4) (dj (ag (aC aL (ag (ak 0) (ag (ak 2) (aB)))) (aB)))) (aB))) (aB))) (aB))) (aB))))
 (bB (cK (aN gY (ak 6) (aC aL (ag (ak 0) (ag (cC (.int 12)) (aB))))) (ao 7))
 (bB (cK (aN cf (aN sJ (iF (ag (aN cf (aN cf (Et (ak 1) (Ez) (k6 (ak 3))) (dj (ag (ak 7) (aB)))) (Et (ak 1) (k6 (aN cf (ak 3) (cC (.int 1)))) (Ez))) (aB))) (cC (.int 6))) (iF (ag (Et (ak 1) (k6 (cC (.int 1))) (Ez)) (ag (aN cf (ak 1) (dj (ag (dj (ag (ak 2) (aB))) (aB)))) (ag (aC lb (ag (ak 1) (aB))) (ag (dj (ag (ak 1) (aB))) (ag (dj (aB)) (aB)))))))) (ao 8))
 (bR (aN gY (aN cf (ak 8) (iF (ag (cC .non) (ag (BN) (ag (aN qM (ak 1) (mq vL (cC (.int 1)))) (aB)))))) (aC aL (ag (ak 0) (ag (cC (.int 14)) (aB)))))))))))))
def iC:List D->aw->ai D:=ip 2 9 pR
theorem dX:aR ["_law_thing", "_law_place", "_law_lot"] ["_law_thing"] (ar bX):=⟨rfl,rfl,rfl,by decide +kernel,rfl,by decide +kernel,by decide +kernel⟩
theorem lS:(["_law_one", "_law_thing"]:List Str).Nodup:=by decide +kernel
theorem lR:(["_law_other", "_law_place", "_law_thing"]:List Str).Nodup:=by decide +kernel
def fJ:ME:=jf (aC bZ (ag (ak 0) (aB))) (ke (j9 .LtE) (j9 .Lt) (cC (.int 0)) (ak 0) (aC jw (ag (ak 1) (aB))))
def dv:MS:=bB (cK (aN gY (ak 0) (ak 1)) (ao 2))
 (bB (pj (nu (eU (jx (mq (gq "tuple") (ak 2)))) (eU (jx (aC ot (ag (cW (fE (ak 2)) [none,some 0] (ao 0) (bA) (fJ)) (aB)))))) (bR (cC (.bl false))) (dJ))
 (pj (nu (lT (aN (kW true) (aC lb (ag (ak 2) (aB))) (aC ck (ag (aC nt (ag (ak 2) (aB))) (aB))))) (lT (aN (qy true) (ak 1) (ak 2)))) (bR (cC (.bl false))) (dJ)))
def iP:ME:=ak 0
def fH:MT:=lT (aN (qy true) (ak 1) (aN gY (ak 2) (ak 0)))
def du:MS:=pj (lT (aN (kW true) (cW (fE (aN gY (ak 0) (ak 1))) [none,some 1,some 0] (ao 0) (fH) (iP)) (iF (aB)))) (bR (cC (.bl false))) (dJ)
def jG:MS:=bB (pj (nu (eU (jx (mq (gq "tuple") (ak 0)))) (eU (lT (ke (j9 .Lt) (j9 .Lt) (cC (.int 0)) (aC jw (ag (ak 0) (aB))) (cC (.int 7)))))) (bR (cC (.bl false))) (dJ))
 (bB (mJ (iE i8 (ag (aC jw (ag (ak 0) (aB))) (aB))) (ao 1) dv)
 (bB (mJ (iE i8 (ag (aC jw (ag (ak 0) (aB))) (aB))) (ao 1) du)
 (bR (cC (.bl true)))))
def de:List D->aw->ai D:=ip 1 3 jG
theorem mh:aR ["_law_web"] ["_law_web"] (ar cy):=⟨rfl,rfl,rfl,by decide +kernel,rfl,by decide +kernel,by decide +kernel⟩
theorem kU:(["_law_place", "_law_web"]:List Str).Nodup:=by decide +kernel
def fg:ME:=aC gE (ag (aC ck (ag (aN cf (aC cQ (ag (ak 1) (ag (ak 0) (aB)))) (iF (ag (ak 0) (aB)))) (aB))) (aB))
def jv:MS:=bR (aC gE (ag (cW (iE i8 (ag (aN gY (ak 0) (cC (.int 0))) (aB))) [none,some 0] (ao 0) (bA) (fg)) (aB)))
def cV:List D->aw->ai D:=ip 1 1 jv
theorem fw:aR ["_law_stars", "_law_ties", "_law_lot", "_law_one"] ["_law_stars"] (ar dF):=⟨rfl,rfl,rfl,by decide +kernel,rfl,by decide +kernel,by decide +kernel⟩
theorem nq:(["_law_other", "_law_one"]:List Str).Nodup:=by decide +kernel
def jE:ME:=dj (ag (ak 1) (ag (ak 0) (aB)))
def jD:MT:=lT (aN (j9 .Lt) (ak 1) (ak 0))
def gX:MS:=kK (zb fV (ak 1) (ag (cW (fE (ak 2)) [none,some 3] (ao 0) (jD) (jE)) (aB)))
def gW:MS:=mJ (fE (ak 2)) (ao 3) gX
def kT:MS:=bB (cK (iF (aB)) (ao 1))
 (bB (mJ (fE (ak 0)) (ao 2) gW)
 (bR (aC bg (ag (aC jw (ag (ak 0) (aB))) (ag (ak 1) (aB))))))
def d8:List D->aw->ai D:=ip 1 4 kT
theorem kM:aR ["_law_way", "_law_thing", "_law_e"] ["_law_way", "_law_thing"] (ar fW):=⟨rfl,rfl,rfl,by decide +kernel,rfl,by decide +kernel,by decide +kernel⟩
def bG:MS:=bR (qP [jm,eY] 0 (ag (ak 1) (aB)))
def ie:MS:=bR (aC fe (ag (ak 2) (aB)))
def gS:MS:=Ae ["NoPlace", "NoRoot"] 2 3 bG ie
def bj:List D->aw->ai D:=ip 2 3 gS
theorem cH:aR ["_law_thing", "_law_held", "_law_found", "_law_due", "_law_told", "_law_ties", "_law_place", "_law_lot"] ["_law_thing"] (ar eD):=⟨rfl,rfl,rfl,by decide +kernel,rfl,by decide +kernel,by decide +kernel⟩
theorem qf:(["_law_way", "_law_thing"]:List Str).Nodup:=by decide +kernel
theorem qe:(["_law_other", "_law_place"]:List Str).Nodup:=by decide +kernel
def gR:ME:=aC bj (ag (ak 0) (ag (ak 1) (aB)))
def lM:ME:=dj (ag (ak 1) (ag (ak 0) (aB)))
def lK:MT:=lT (aN (kW true) (ak 0) (ak 1))
def gQ:MS:=kK (zb fV (ak 5) (ag (cW (fE (ak 7)) [none,some 6] (ao 0) (lK) (lM)) (aB)))
def nX:MS:=bB (cK (aC hG (ag (ak 0) (aB))) (ao 1))
 (bB (cK (aC dW (ag (ak 0) (aB))) (ao 2))
 (bB (cK (aC de (ag (ak 0) (aB))) (ao 3))
 (bB (cK (cW (iE i8 (ag (cC (.int 2)) (aB))) [none,some 0] (ao 0) (bA) (gR)) (ao 4))
 (bB (pj (nu (eU (jx (mq (gq "bool") (ak 2)))) (nu (lT (aN (kW true) (ak 2) (ak 3))) (lT (aN (Al true) (aC hG (ag (ak 0) (aB))) (ak 1))))) (bR (cC (.bl false))) (dJ))
 (bB (pj (eU (jx (ak 3))) (bR (aN (kW false) (ak 4) (iF (ag (cC (.str "root")) (ag (cC (.str "root")) (aB)))))) (dJ))
 (bB (cK (iF (aB)) (ao 5))
 (bB (mJ (iE k9 (ag (ak 0) (aB))) (g7 2 (bC (ao 6) (bC (ao 7) (g8)))) gQ)
 (bR (jf (aC eE (ag (aN gY (ak 4) (cC (.int 0))) (ag (aC bg (ag (aC jw (ag (ak 0) (aB))) (ag (ak 5) (aB)))) (aB)))) (aC eE (ag (aN gY (ak 4) (cC (.int 1))) (ag (aC d8 (ag (ak 0) (aB))) (aB)))))))))))))
def fu:List D->aw->ai D:=ip 1 8 nX
theorem lh:aR ["_law_script", "_law_some", "_law_thing", "_law_cell", "_law_pen", "_law_web", "_law_stars"] ["_law_script"] (ar jH):=⟨rfl,rfl,rfl,by decide +kernel,rfl,by decide +kernel,by decide +kernel⟩
theorem DS:(["_law_k"]:List Str).Nodup:=by decide +kernel
theorem DR:(["_law_k"]:List Str).Nodup:=by decide +kernel
theorem DQ:(["_law_turn", "_law_pen", "_law_stars"]:List Str).Nodup:=by decide +kernel
def z5:ME:=dj (ag (ak 0) (aB))
def zZ:ME:=dj (ag (ak 0) (aB))
def vb:MS:=pj (eU (jx (aC fu (ag (ak 2) (aB))))) (bR (cC (.bl false))) (dJ)
def nE:ME:=aC iC (ag (ak 1) (ag (ak 2) (aB)))
def qw:MS:=pj (eU (jx (aC fu (ag (ak 2) (aB))))) (bR (cC (.bl false))) (dJ)
def qv:MS:=bB (cK (aC fQ (ag (ak 3) (aB))) (ao 4))
 (bB (cK (aC cR (ag (ak 4) (ag (cC (.int 6)) (aB)))) (ao 5))
 (bB (cK (aC cV (ag (ak 5) (aB))) (ao 6))
 (bB (pj (eU (jx (aC bp (ag (aC jo (ag (ak 5) (aB))) (ag (ak 6) (aB)))))) (bR (cC (.bl false))) (dJ))
 (mJ (fE (aN cf (iF (ag (ak 6) (aB))) (cW (iE i8 (ag (cC (.int 6)) (aB))) [none,some 4,some 6] (ao 0) (bA) (nE)))) (ao 2) qw))))
def Hs:MS:=bB (cK (iF (ag (dj (ag (dj (ag (cC (.int 0)) (aB))) (aB))) (ag (dj (ag (dj (ag (cC (.int 0)) (ag (cC (.int 1)) (aB)))) (ag (dj (ag (cC (.int 0)) (ag (cC (.int 1)) (aB)))) (aB)))) (ag (dj (ag (dj (ag (cC (.int 0)) (ag (cC (.int 1)) (aB)))) (ag (dj (ag (cC (.int 1)) (aB))) (aB)))) (ag (dj (aB)) (ag (dj (ag (dj (aB)) (aB))) (ag (cC .non) (ag (iF (ag (dj (ag (cC (.int 0)) (aB))) (aB))) (ag (dj (ag (dj (ag (cC (.bl true)) (aB))) (aB))) (aB)))))))))) (ao 1))
 (bB (mJ (fE (aN cf (ak 1) (iF (ag (aC gE (ag (cW (iE i8 (ag (cC (.int 7)) (aB))) [none] (ao 0) (bA) (z5)) (aB))) (ag (aC gE (ag (cW (iE i8 (ag (cC (.int 6)) (aB))) [none] (ao 0) (bA) (zZ)) (aB))) (aB)))))) (ao 2) vb)
 (bB (mJ (fE (aN cf (iF (ag (aC ff (ag (ak 0) (ag (cC (.int 0)) (aB)))) (aB))) (Et (ak 0) (k6 (cC (.int 1))) (k6 (cC (.int 8)))))) (ao 3) qv)
 (bR (cC (.bl true)))))
def wc:List D->aw->ai D:=ip 1 7 Hs
theorem xu (nm:Nm mg) {f:Addr}{fd:FuncData} (F:gZ K "is_whole" "is_whole" jA f fd) (hm:mg "is_whole" = some (.ref f)):dg P w K mg base (df K w) 1 "is_whole" 1 dS:=
 cw F xq rfl hm (F.b1 (by rfl) fun _ _ _ _ _ _ _=>by rfl) fun cdv A outer s H E hr=>
 aW (bo (kG (kH (T:="int") (by decide) C5 (by decide) (by decide) nm.isinstance nm.int (aG 0)) (mr (GP (kH (T:="bool") (by decide) u6 (by decide) (by decide) nm.isinstance nm.bool (aG 0))))))
theorem pb (nm:Nm mg) {f:Addr}{fd:FuncData} (F:gZ K "is_whole_from" "is_whole_from" fv f fd) (hm:mg "is_whole_from" = some (.ref f)) (d_is_whole:dg P w K mg base (df K w) 1 "is_whole" 1 dS):dg P w K mg base (df K w) 2 "is_whole_from" 3 bu:=
 cw F o9 rfl hm (F.b3 (by rfl) fun _ _ _ _ _ _ _ _ _=>by rfl) fun cdv A outer s H E hr=>
 aW (bo (kG (aT d_is_whole (hr.mono (by decide)) (aJ (aG 0) (aX))) (mr (GS (jc (op:=.LtE) hr.units) (jc (op:=.LtE) hr.units) (aG 1) (aG 0) (aG 2)))))
theorem xv (nm:Nm mg) {f:Addr}{fd:FuncData} (F:gZ K "is_place" "is_place" jB f fd) (hm:mg "is_place" = some (.ref f)) (d_is_whole_from:dg P w K mg base (df K w) 2 "is_whole_from" 3 bu):dg P w K mg base (df K w) 3 "is_place" 2 dU:=
 cw F xr rfl hm (F.b2 (by rfl) fun _ _ _ _ _ _ _ _=>by rfl) fun cdv A outer s H E hr=>
 aW (bo (aT d_is_whole_from (hr.mono (by decide)) (aJ (aG 1) (aJ (cJ) (aJ (qH (aG 0) (cJ)) (aX))))))
theorem vq (nm:Nm mg) {f:Addr}{fd:FuncData} (F:gZ K "is_places" "is_places" gK f fd) (hm:mg "is_places" = some (.ref f)) (d_is_place:dg P w K mg base (df K w) 3 "is_place" 2 dU):dg P w K mg base (df K w) 4 "is_places" 2 cG:=
 cw F vk rfl hm (F.b2 (by rfl) fun _ _ _ _ _ _ _ _=>by rfl) fun cdv A outer s H E hr=>
 aW (bo (kG (kH (T:="tuple") (by decide) jj (by decide) (by decide) nm.isinstance nm.tuple (aG 1)) (mr (bh pE nm.all (aJ (cX (bE (N:=["many", "thing"]) (sc:=ar gK) (Nc:=["place", "many"]) (cap:=[none,some 0]) rfl rfl (by decide +kernel)) (pS (aG 1)) (fun _ _ _ _ _=>iQ 0 sD) (fun _ _ _ _ _=>gx) (fun _ _ _ _ _=>aT d_is_place (hr.mono (by decide)) (aJ (aG 1) (aJ (aG 0) (aX))))) (aX))))))
theorem vp (nm:Nm mg) {f:Addr}{fd:FuncData} (F:gZ K "is_rising" "is_rising" gJ f fd) (hm:mg "is_rising" = some (.ref f)):dg P w K mg base (df K w) 1 "is_rising" 1 iB:=
 cw F vh rfl hm (F.b1 (by rfl) fun _ _ _ _ _ _ _=>by rfl) fun cdv A outer s H E hr=>
 aW (bo (bh pE nm.all (aJ (cX (bE (N:=["things"]) (sc:=ar gJ) (Nc:=["at", "things"]) (cap:=[none,some 0]) rfl rfl (by decide +kernel)) (MR nm.range (aJ (cJ) (aJ (bh ir nm.len (aJ (aG 0) (aX))) (aX)))) (fun _ _ _ _ _=>iQ 0 sC) (fun _ _ _ _ _=>gx) (fun _ _ _ _ _=>mv (jc (op:=.Lt) hr.units) (dM (aG 1) (qH (aG 0) (cJ))) (dM (aG 1) (aG 0)))) (aX))))
theorem mi (nm:Nm mg) {f:Addr}{fd:FuncData} (F:gZ K "is_rising_places" "is_rising_places" dr f fd) (hm:mg "is_rising_places" = some (.ref f)) (d_is_places:dg P w K mg base (df K w) 4 "is_places" 2 cG) (d_is_rising:dg P w K mg base (df K w) 1 "is_rising" 1 iB):dg P w K mg base (df K w) 5 "is_rising_places" 2 cU:=
 cw F mf rfl hm (F.b2 (by rfl) fun _ _ _ _ _ _ _ _=>by rfl) fun cdv A outer s H E hr=>
 aW (bo (kG (aT d_is_places (hr.mono (by decide)) (aJ (aG 0) (aJ (aG 1) (aX)))) (kG (mv (jc (op:=.Gt) hr.units) (bh ir nm.len (aJ (aG 1) (aX))) (cJ)) (mr (aT d_is_rising (hr.mono (by decide)) (aJ (aG 1) (aX)))))))
theorem yG (nm:Nm mg) {f:Addr}{fd:FuncData} (F:gZ K "is_many" "is_many" kr f fd) (hm:mg "is_many" = some (.ref f)) (c_MOST_PLACES:∃t,mg "MOST_PLACES" = some (.int 6 t)) (d_is_whole_from:dg P w K mg base (df K w) 2 "is_whole_from" 3 bu):dg P w K mg base (df K w) 3 "is_many" 1 eB:=
 cw F yA rfl hm (F.b1 (by rfl) fun _ _ _ _ _ _ _=>by rfl) fun cdv A outer s H E hr=>
 aW (bo (aT d_is_whole_from (hr.mono (by decide)) (aJ (aG 0) (aJ (cJ) (aJ (Mv c_MOST_PLACES) (aX))))))
theorem yF (nm:Nm mg) {f:Addr}{fd:FuncData} (F:gZ K "is_pair" "is_pair" kq f fd) (hm:mg "is_pair" = some (.ref f)) (d_is_places:dg P w K mg base (df K w) 4 "is_places" 2 cG):dg P w K mg base (df K w) 5 "is_pair" 2 i4:=
 cw F yz rfl hm (F.b2 (by rfl) fun _ _ _ _ _ _ _ _=>by rfl) fun cdv A outer s H E hr=>
 aW (bo (kG (aT d_is_places (hr.mono (by decide)) (aJ (aG 0) (aJ (aG 1) (aX)))) (kG (mv (xR hr.units) (bh ir nm.len (aJ (aG 1) (aX))) (cJ)) (mr (mv (sI hr.units) (dM (aG 1) (cJ)) (dM (aG 1) (cJ)))))))
theorem AV (nm:Nm mg) {f:Addr}{fd:FuncData} (F:gZ K "web_of" "web_of" jS f fd) (hm:mg "web_of" = some (.ref f)) (d_is_many:dg P w K mg base (df K w) 3 "is_many" 1 eB) (d_is_pair:dg P w K mg base (df K w) 5 "is_pair" 2 i4):dg P w K mg base (df K w) 6 "web_of" 2 jk:=
 cw F oK rfl hm (F.b2 (by rfl) fun _ _ _ _ _ _ _ _=>by rfl) fun cdv A outer s H E hr=>
 aO (i7 (gm (uq (aT d_is_many (hr.mono (by decide)) (aJ (aG 0) (aX))))) (aW (uK)) (eS))
 (aO (kI R7 (HC nm.enumerate (aJ (aG 1) (aX))) (qK (gC (iQ 2 oK.nd) (gC (iQ 3 oK.nd) (qL)))) (aW (i7 (gm (uq (aT d_is_pair (hr.mono (by decide)) (aJ (aG 0) (aJ (aG 3) (aX)))))) (aW (uK)) (eS))))
 (aW (bo (bI (aJ (aG 0) (aJ (bh iW nm.tuple (aJ (bh jQ nm.sorted (aJ (EX (bE (N:=["many", "things", "at", "thing"]) (sc:=ar jS) (Nc:=["pair"]) (cap:=[none]) rfl rfl (by decide +kernel)) (pS (aG 1)) (fun _ _ _ _ _=>iQ 0 xy) (fun _ _ _ _ _=>gx) (fun _ _ _ _ _ _=>LX rfl hr.units (bI (aJ (bh (Kj hr.units) nm.min (aJ (aG 0) (aX))) (aJ (bh Cb nm.max (aJ (aG 0) (aX))) (aX)))))) (aX))) (aX))) (aX)))))))
theorem su (nm:Nm mg) {f:Addr}{fd:FuncData} (F:gZ K "check_place" "check_place" gM f fd) (hm:mg "check_place" = some (.ref f)) (d_is_place:dg P w K mg base (df K w) 3 "is_place" 2 dU):dg P w K mg base (df K w) 4 "check_place" 2 fP:=
 cw F si rfl hm (F.b2 (by rfl) fun _ _ _ _ _ _ _ _=>by rfl) fun cdv A outer s H E hr=>
 aW (i7 (gm (uq (aT d_is_place (hr.mono (by decide)) (aJ (dM (aG 0) (cJ)) (aJ (aG 1) (aX)))))) (aW (uK)) (eS))
theorem sm (nm:Nm mg) {f:Addr}{fd:FuncData} (F:gZ K "next_places" "next_places" dD f fd) (hm:mg "next_places" = some (.ref f)):dg P w K mg base (df K w) 1 "next_places" 2 fO:=
 cw F se rfl hm (F.b2 (by rfl) fun _ _ _ _ _ _ _ _=>by rfl) fun cdv A outer s H E hr=>
 aW (bo (d0 (cX (bE (N:=["ties", "front"]) (sc:=ar dD) (Nc:=["a", "b", "front"]) (cap:=[none,none,some 1]) rfl rfl (by decide +kernel)) (pS (aG 0)) (fun _ _ _ _ _=>qK (gC (iQ 0 j4) (gC (iQ 1 j4) (qL)))) (fun _ _ _ _ _=>kY (dH (Aj hr.units) (aG 0) (aG 2))) (fun _ _ _ _ _=>aG 1)) (cX (bE (N:=["ties", "front"]) (sc:=ar dD) (Nc:=["a", "b", "front"]) (cap:=[none,none,some 1]) rfl rfl (by decide +kernel)) (pS (aG 0)) (fun _ _ _ _ _=>qK (gC (iQ 0 j3) (gC (iQ 1 j3) (qL)))) (fun _ _ _ _ _=>kY (dH (Aj hr.units) (aG 1) (aG 2))) (fun _ _ _ _ _=>aG 0))))
theorem yE (nm:Nm mg) {f:Addr}{fd:FuncData} (F:gZ K "star_of" "star_of" ko f fd) (hm:mg "star_of" = some (.ref f)) (d_check_place:dg P w K mg base (df K w) 4 "check_place" 2 fP) (d_next_places:dg P w K mg base (df K w) 1 "next_places" 2 fO):dg P w K mg base (df K w) 5 "star_of" 2 jY:=
 cw F yy rfl hm (F.b2 (by rfl) fun _ _ _ _ _ _ _ _=>by rfl) fun cdv A outer s H E hr=>
 aO (ka (aT d_check_place (hr.mono (by decide)) (aJ (aG 0) (aJ (aG 1) (aX)))))
 (aW (bo (bh iW nm.tuple (aJ (bh jQ nm.sorted (aJ (bh (zk hr.units) nm.set (aJ (d0 (fC (aJ (aG 1) (aX))) (aT d_next_places (hr.mono (by decide)) (aJ (dM (aG 0) (cJ)) (aJ (fC (aJ (aG 1) (aX))) (aX))))) (aX))) (aX))) (aX)))))
theorem yH (nm:Nm mg) {f:Addr}{fd:FuncData} (F:gZ K "is_even" "is_even" jn f fd) (hm:mg "is_even" = some (.ref f)):dg P w K mg base (df K w) 1 "is_even" 2 jZ:=
 cw F rP rfl hm (F.b2 (by rfl) fun _ _ _ _ _ _ _ _=>by rfl) fun cdv A outer s H E hr=>
 aO (cb 2 rP.nd (dM (aG 0) (aG 1)))
 (aW (bo (kG (mv (Aj hr.units) (aG 1) (aG 2)) (mr (bh pE nm.all (aJ (cX (bE (N:=["stars", "place", "star"]) (sc:=ar jn) (Nc:=["other", "star", "place", "stars"]) (cap:=[none,some 2,some 1,some 0]) rfl rfl (by decide +kernel)) (oq nm.range (aJ (bh ir nm.len (aJ (aG 0) (aX))) (aX))) (fun _ _ _ _ _=>iQ 0 vy) (fun _ _ _ _ _=>gx) (fun _ _ _ _ _=>mv (xR hr.units) (mv (Aj hr.units) (aG 0) (aG 1)) (mv (Aj hr.units) (aG 2) (dM (aG 3) (aG 0))))) (aX)))))))
theorem sR (nm:Nm mg) {f:Addr}{fd:FuncData} (F:gZ K "stars_good" "stars_good" eC f fd) (hm:mg "stars_good" = some (.ref f)) (d_is_many:dg P w K mg base (df K w) 3 "is_many" 1 eB) (d_is_rising_places:dg P w K mg base (df K w) 5 "is_rising_places" 2 cU) (d_is_even:dg P w K mg base (df K w) 1 "is_even" 2 jZ):dg P w K mg base (df K w) 6 "stars_good" 1 dW:=
 cw F mB rfl hm (F.b1 (by rfl) fun _ _ _ _ _ _ _=>by rfl) fun cdv A outer s H E hr=>
 aO (i7 (ux (qC (gm (uq (kH (T:="tuple") (by decide) jj (by decide) (by decide) nm.isinstance nm.tuple (aG 0)))) (pB (gm (uq (aT d_is_many (hr.mono (by decide)) (aJ (bh ir nm.len (aJ (aG 0) (aX))) (aX)))))))) (aW (bo (vD))) (eS))
 (aO (cb 1 mB.nd (bh ir nm.len (aJ (aG 0) (aX))))
 (aO (i7 (gm (uq (bh pE nm.all (aJ (cX (bE (N:=["thing", "many"]) (sc:=ar eC) (Nc:=["star", "many"]) (cap:=[none,some 1]) rfl rfl (by decide +kernel)) (pS (aG 0)) (fun _ _ _ _ _=>iQ 0 qd) (fun _ _ _ _ _=>gx) (fun _ _ _ _ _=>aT d_is_rising_places (hr.mono (by decide)) (aJ (aG 1) (aJ (aG 0) (aX))))) (aX))))) (aW (bo (vD))) (eS))
 (aW (bo (bh pE nm.all (aJ (cX (bE (N:=["thing", "many"]) (sc:=ar eC) (Nc:=["place", "thing"]) (cap:=[none,some 0]) rfl rfl (by decide +kernel)) (oq nm.range (aJ (aG 1) (aX))) (fun _ _ _ _ _=>iQ 0 qc) (fun _ _ _ _ _=>gx) (fun _ _ _ _ _=>aT d_is_even (hr.mono (by decide)) (aJ (aG 1) (aJ (aG 0) (aX))))) (aX)))))))
theorem sr (nm:Nm mg) {f:Addr}{fd:FuncData} (F:gZ K "check_stars" "check_stars" gL f fd) (hm:mg "check_stars" = some (.ref f)) {a_NoRoot:Addr} (k_NoRoot:W.nsIn K mainGlobals "NoRoot" = some (some (.ref a_NoRoot))) (o_NoRoot:An mg base "NoRoot" a_NoRoot) (d_stars_good:dg P w K mg base (df K w) 6 "stars_good" 1 dW):sM P w K mg base 7 "check_stars" 1 b8:=
 xW F sf rfl hm (F.b1 (by rfl) fun _ _ _ _ _ _ _=>by rfl) fun cdv A outer s H E hr=>
 aW (i7 (gm (uq (uL d_stars_good (hr.mono (by decide)) (aJ (aG 0) (aX))))) (aW (EM k_NoRoot o_NoRoot)) (eS))
theorem xt (nm:Nm mg) {f:Addr}{fd:FuncData} (F:gZ K "stars_of" "stars_of" iA f fd) (hm:mg "stars_of" = some (.ref f)) (d_star_of:dg P w K mg base (df K w) 5 "star_of" 2 jY):dg P w K mg base (df K w) 6 "stars_of" 1 jo:=
 cw F xp rfl hm (F.b1 (by rfl) fun _ _ _ _ _ _ _=>by rfl) fun cdv A outer s H E hr=>
 aW (bo (bh iW nm.tuple (aJ (cX (bE (N:=["web"]) (sc:=ar iA) (Nc:=["place", "web"]) (cap:=[none,some 0]) rfl rfl (by decide +kernel)) (oq nm.range (aJ (dM (aG 0) (cJ)) (aX))) (fun _ _ _ _ _=>iQ 0 sU) (fun _ _ _ _ _=>gx) (fun _ _ _ _ _=>aT d_star_of (hr.mono (by decide)) (aJ (aG 1) (aJ (aG 0) (aX))))) (aX))))
theorem AW (nm:Nm mg) {f:Addr}{fd:FuncData} (F:gZ K "web_by" "web_by" jT f fd) (hm:mg "web_by" = some (.ref f)) (d_check_stars:sM P w K mg base 7 "check_stars" 1 b8) (d_web_of:dg P w K mg base (df K w) 6 "web_of" 2 jk):sM P w K mg base 8 "web_by" 1 jm:=
 xW F AH rfl hm (F.b1 (by rfl) fun _ _ _ _ _ _ _=>by rfl) fun cdv A outer s H E hr=>
 aO (ka (zo d_check_stars Hf (hr.mono (by decide)) (aJ (aG 0) (aX))))
 (aW (bo (uL d_web_of (hr.mono (by decide)) (aJ (bh ir nm.len (aJ (aG 0) (aX))) (aJ (zm (bE (N:=["stars"]) (sc:=ar jT) (Nc:=["a", "star", "b"]) (cap:=[none,none,none]) rfl rfl (by decide +kernel)) (HC nm.enumerate (aJ (aG 0) (aX))) (fun _ _ _ _ _=>qK (gC (iQ 0 lA) (gC (iQ 1 lA) (qL)))) (fun _ _ _ _ _=>gx) (fun _ _ _ _ _ _=>HI rfl (pS (aG 1)) (iQ 2 lA) (kY (dH (jc (op:=.Lt) hr.units) (aG 0) (aG 2))) (K1 rfl (bI (aJ (aG 0) (aJ (aG 2) (aX))))))) (aX))))))
theorem vn (nm:Nm mg) {f:Addr}{fd:FuncData} (F:gZ K "joined_by" "joined_by" gI f fd) (hm:mg "joined_by" = some (.ref f)) (d_check_stars:sM P w K mg base 7 "check_stars" 1 b8) (d_web_of:dg P w K mg base (df K w) 6 "web_of" 2 jk):sM P w K mg base 8 "joined_by" 1 eY:=
 xW F vg rfl hm (F.b1 (by rfl) fun _ _ _ _ _ _ _=>by rfl) fun cdv A outer s H E hr=>
 aO (ka (zo d_check_stars Hf (hr.mono (by decide)) (aJ (aG 0) (aX))))
 (aW (bo (uL d_web_of (hr.mono (by decide)) (aJ (bh ir nm.len (aJ (aG 0) (aX))) (aJ (zm (bE (N:=["stars"]) (sc:=ar gI) (Nc:=["star", "a", "b"]) (cap:=[none,none,none]) rfl rfl (by decide +kernel)) (pS (aG 0)) (fun _ _ _ _ _=>iQ 0 jr) (fun _ _ _ _ _=>gx) (fun _ _ _ _ _ _=>HI rfl (pS (aG 0)) (iQ 1 jr) (gx) (HI rfl (pS (aG 0)) (iQ 2 jr) (kY (dH (jc (op:=.Lt) hr.units) (aG 1) (aG 2))) (K1 rfl (bI (aJ (aG 1) (aJ (aG 2) (aX)))))))) (aX))))))
theorem p8 (nm:Nm mg) {f:Addr}{fd:FuncData} (F:gZ K "_law_cell_at" "_law_cell_at" fY f fd) (hm:mg "_law_cell_at" = some (.ref f)):dg P w K mg base (df K w) 1 "_law_cell_at" 2 ff:=
 cw F pY rfl hm (F.b2 (by rfl) fun _ _ _ _ _ _ _ _=>by rfl) fun cdv A outer s H E hr=>
 aO (i7 (dH (jc (op:=.Lt) hr.units) (aG 1) (bh ir nm.len (aJ (aG 0) (aX)))) (aW (bo (dM (aG 0) (aG 1)))) (eS))
 (aW (bo (cJ)))
theorem vt (nm:Nm mg) {f:Addr}{fd:FuncData} (F:gZ K "_law_next" "_law_next" iY f fd) (hm:mg "_law_next" = some (.ref f)):dg P w K mg base (df K w) 1 "_law_next" 1 gp:=
 cw F nP rfl hm (F.b1 (by rfl) fun _ _ _ _ _ _ _=>by rfl) fun cdv A outer s H E hr=>
 aO (cb 0 nP.nd (vS (d0 (aG 0) (cJ)) (cJ)))
 (aW (bo (vS (d0 (d0 (BQ (aG 0) (aG 0)) (BQ (cJ) (aG 0))) (cJ)) (cJ))))
theorem sA (nm:Nm mg) {f:Addr}{fd:FuncData} (F:gZ K "_law_pen_of" "_law_pen_of" gP f fd) (hm:mg "_law_pen_of" = some (.ref f)):dg P w K mg base (df K w) 1 "_law_pen_of" 1 fQ:=
 cw F lI rfl hm (F.b1 (by rfl) fun _ _ _ _ _ _ _=>by rfl) fun cdv A outer s H E hr=>
 aO (cb 1 lI.nd (bh Cb nm.max (aJ (aG 0) (aJ (qH (cJ) (aG 0)) (aX)))))
 (aW (bo (fC (aJ (aG 1) (aJ (bh LW nm.int (aJ (mv (jc (op:=.GtE) hr.units) (aG 1) (GR (cJ) (cJ))) (aX))) (aJ (vS (aG 1) (cJ)) (aX)))))))
theorem vv (nm:Nm mg) {f:Addr}{fd:FuncData} (F:gZ K "_law_draw" "_law_draw" iZ f fd) (hm:mg "_law_draw" = some (.ref f)) (d__law_next:dg P w K mg base (df K w) 1 "_law_next" 1 gp):dg P w K mg base (df K w) 2 "_law_draw" 2 aL:=
 cw F nQ rfl hm (F.b2 (by rfl) fun _ _ _ _ _ _ _ _=>by rfl) fun cdv A outer s H E hr=>
 aO (i7 (dH (xR hr.units) (dM (aG 0) (cJ)) (cJ)) (aO (cb 2 nQ.nd (vS (dM (aG 0) (cJ)) (aG 1)))
 (aO (GX (Cf (dM (aG 0) (cJ)) (aG 1)) (Hl (aG 0) (cJ)))
 (aW (bo (aG 2))))) (eS))
 (aO (GX (aT d__law_next (hr.mono (by decide)) (aJ (d0 (aT d__law_next (hr.mono (by decide)) (aJ (dM (aG 0) (cJ)) (aX))) (cJ)) (aX))) (Hl (aG 0) (cJ)))
 (aW (bo (vS (Cf (dM (aG 0) (cJ)) (cJ)) (aG 1)))))
theorem sS (nm:Nm mg) {f:Addr}{fd:FuncData} (F:gZ K "_law_whole" "_law_whole" ij f fd) (hm:mg "_law_whole" = some (.ref f)):dg P w K mg base (df K w) 1 "_law_whole" 1 bZ:=
 cw F sQ rfl hm (F.b1 (by rfl) fun _ _ _ _ _ _ _=>by rfl) fun cdv A outer s H E hr=>
 aW (bo (kG (kH (T:="int") (by decide) C5 (by decide) (by decide) nm.isinstance nm.int (aG 0)) (mr (GP (kH (T:="bool") (by decide) u6 (by decide) (by decide) nm.isinstance nm.bool (aG 0))))))
theorem p7 (nm:Nm mg) {f:Addr}{fd:FuncData} (F:gZ K "_law_kind_of" "_law_kind_of" fX f fd) (hm:mg "_law_kind_of" = some (.ref f)) {a_NoLine a_NoNumber a_NoPlace a_NoRoot a_NoText a_NoTree a_NoWeb a_TooGreat:Addr} (q_NoLine:bM K (.ref a_NoLine) [] ["NoPlace", "NoRoot"]) (q_NoNumber:bM K (.ref a_NoNumber) [] ["NoPlace", "NoRoot"]) (q_NoPlace:bM K (.ref a_NoPlace) ["NoPlace"] ["NoPlace", "NoRoot"]) (q_NoRoot:bM K (.ref a_NoRoot) ["NoRoot"] ["NoPlace", "NoRoot"]) (q_NoText:bM K (.ref a_NoText) [] ["NoPlace", "NoRoot"]) (q_NoTree:bM K (.ref a_NoTree) [] ["NoPlace", "NoRoot"]) (q_NoWeb:bM K (.ref a_NoWeb) [] ["NoPlace", "NoRoot"]) (q_TooGreat:bM K (.ref a_TooGreat) [] ["NoPlace", "NoRoot"]) (q_ValueError:bM K (.type "ValueError") ["NoPlace", "NoRoot"] ["NoPlace", "NoRoot"]) (m_NoLine:mg "NoLine" = some (.ref a_NoLine)) (m_NoNumber:mg "NoNumber" = some (.ref a_NoNumber)) (m_NoPlace:mg "NoPlace" = some (.ref a_NoPlace)) (m_NoRoot:mg "NoRoot" = some (.ref a_NoRoot)) (m_NoText:mg "NoText" = some (.ref a_NoText)) (m_NoTree:mg "NoTree" = some (.ref a_NoTree)) (m_NoWeb:mg "NoWeb" = some (.ref a_NoWeb)) (m_TooGreat:mg "TooGreat" = some (.ref a_TooGreat)):EK P w K mg base (df K w) 1 "_law_kind_of" 1 fe:=
 HR F iJ rfl hm (F.b1 (by rfl) fun _ _ _ _ _ _ _=>by rfl) fun cdv A outer s H E hr=>
 aO (cb 1 iJ.nd (fC (aJ (pq q_NoPlace nm.isinstance m_NoPlace (aG 0)) (aJ (pq q_NoNumber nm.isinstance m_NoNumber (aG 0)) (aJ (pq q_NoLine nm.isinstance m_NoLine (aG 0)) (aJ (pq q_NoRoot nm.isinstance m_NoRoot (aG 0)) (aX)))))))
 (aO (cb 1 iJ.nd (d0 (aG 1) (fC (aJ (pq q_NoTree nm.isinstance m_NoTree (aG 0)) (aJ (pq q_NoWeb nm.isinstance m_NoWeb (aG 0)) (aJ (pq q_NoText nm.isinstance m_NoText (aG 0)) (aJ (pq q_TooGreat nm.isinstance m_TooGreat (aG 0)) (aX))))))))
 (aO (i7 (ux (qC (gm (uq (HV q_ValueError nm.isinstance nm.ValueError sX (aG 0)))) (pB (dH (sI hr.units) (K7 (aG 1) (aJ (vD) (aX))) (cJ))))) (aW (bo (Bz))) (eS))
 (aW (bo (dM (fC (aJ (Bz) (aJ (Bz) (aJ (Bz) (aJ (Bz) (aJ (Bz) (aJ (Bz) (aJ (Bz) (aJ (Bz) (aX)))))))))) (K6 (aG 1) (aJ (vD) (aX))))))))
theorem sv (nm:Nm mg) {f:Addr}{fd:FuncData} (F:gZ K "_law_web_of" "_law_web_of" eZ f fd) (hm:mg "_law_web_of" = some (.ref f)):dg P w K mg base (df K w) 1 "_law_web_of" 2 bg:=
 cw F sj rfl hm (F.b2 (by rfl) fun _ _ _ _ _ _ _ _=>by rfl) fun cdv A outer s H E hr=>
 aW (bo (bI (aJ (aG 0) (aJ (bh iW nm.tuple (aJ (bh jQ nm.sorted (aJ (bh (zk hr.units) nm.set (aJ (cX (bE (N:=["_law_many", "_law_ties"]) (sc:=ar eZ) (Nc:=["_law_a", "_law_b"]) (cap:=[none,none]) rfl rfl (by decide +kernel)) (pS (aG 1)) (fun _ _ _ _ _=>qK (gC (iQ 0 j5) (gC (iQ 1 j5) (qL)))) (fun _ _ _ _ _=>gx) (fun _ _ _ _ _=>bI (aJ (bh LV nm.min (aJ (aG 0) (aJ (aG 1) (aX)))) (aJ (bh Cb nm.max (aJ (aG 0) (aJ (aG 1) (aX)))) (aX))))) (aX))) (aX))) (aX))) (aX)))))
theorem nY (nm:Nm mg) {f:Addr}{fd:FuncData} (F:gZ K "_law_drawn_web" "_law_drawn_web" c8 f fd) (hm:mg "_law_drawn_web" = some (.ref f)) (d__law_draw:dg P w K mg base (df K w) 2 "_law_draw" 2 aL) (d__law_web_of:dg P w K mg base (df K w) 1 "_law_web_of" 2 bg):dg P w K mg base (df K w) 3 "_law_drawn_web" 2 cI:=
 cw F dc rfl hm (F.b2 (by rfl) fun _ _ _ _ _ _ _ _=>by rfl) fun cdv A outer s H E hr=>
 aO (cb 2 dc.nd (d0 (cJ) (aT d__law_draw (hr.mono (by decide)) (aJ (aG 0) (aJ (aG 1) (aX))))))
 (aO (cb 3 dc.nd (d0 (cJ) (aT d__law_draw (hr.mono (by decide)) (aJ (aG 0) (aJ (cJ) (aX))))))
 (aO (cb 4 dc.nd (fC (aX)))
 (aO (kI R7 (oq nm.range (aJ (aG 2) (aX))) (iQ 5 dc.nd) (aW (ka (zd (aG 4) (aJ (cX (bE (N:=["_law_pen", "_law_most", "_law_many", "_law_share", "_law_ties", "_law_one"]) (sc:=ar c8) (Nc:=["_law_other", "_law_one", "_law_pen", "_law_share"]) (cap:=[none,some 5,some 0,some 3]) rfl rfl (by decide +kernel)) (oq nm.range (aJ (aG 5) (aX))) (fun _ _ _ _ _=>iQ 0 ml) (fun _ _ _ _ _=>kY (dH (xR hr.units) (aT d__law_draw (hr.mono (by decide)) (aJ (aG 2) (aJ (aG 3) (aX)))) (cJ))) (fun _ _ _ _ _=>bI (aJ (aG 0) (aJ (aG 1) (aX))))) (aX))))))
 (aW (bo (aT d__law_web_of (hr.mono (by decide)) (aJ (aG 2) (aJ (aG 4) (aX)))))))))
theorem p6 (nm:Nm mg) {f:Addr}{fd:FuncData} (F:gZ K "_law_near_of" "_law_near_of" d5 f fd) (hm:mg "_law_near_of" = some (.ref f)):dg P w K mg base (df K w) 1 "_law_near_of" 2 cQ:=
 cw F pX rfl hm (F.b2 (by rfl) fun _ _ _ _ _ _ _ _=>by rfl) fun cdv A outer s H E hr=>
 aW (bo (cX (bE (N:=["_law_web", "_law_place"]) (sc:=ar d5) (Nc:=["_law_a", "_law_b", "_law_place"]) (cap:=[none,none,some 1]) rfl rfl (by decide +kernel)) (pS (dM (aG 0) (cJ))) (fun _ _ _ _ _=>qK (gC (iQ 0 jC) (gC (iQ 1 jC) (qL)))) (fun _ _ _ _ _=>kY (dH (Aj hr.units) (aG 2) (bI (aJ (aG 0) (aJ (aG 1) (aX)))))) (fun _ _ _ _ _=>qH (d0 (aG 0) (aG 1)) (aG 2))))
theorem pd (nm:Nm mg) {f:Addr}{fd:FuncData} (F:gZ K "_law_two_step" "_law_two_step" dE f fd) (hm:mg "_law_two_step" = some (.ref f)) (d__law_near_of:dg P w K mg base (df K w) 1 "_law_near_of" 2 cQ) (d__law_web_of:dg P w K mg base (df K w) 1 "_law_web_of" 2 bg):dg P w K mg base (df K w) 2 "_law_two_step" 1 d7:=
 cw F dG rfl hm (F.b1 (by rfl) fun _ _ _ _ _ _ _=>by rfl) fun cdv A outer s H E hr=>
 aO (cb 1 dG.nd (bh uJ nm.list (aJ (dM (aG 0) (cJ)) (aX))))
 (aO (kI R7 (oq nm.range (aJ (dM (aG 0) (cJ)) (aX))) (iQ 2 dG.nd) (aO (cb 3 dG.nd (aT d__law_near_of (hr.mono (by decide)) (aJ (aG 0) (aJ (aG 2) (aX)))))
 (aW (kI R7 (pS (aG 3)) (iQ 4 dG.nd) (aW (ka (zd (aG 1) (aJ (cX (bE (N:=["_law_web", "_law_ties", "_law_place", "_law_near", "_law_one"]) (sc:=ar dE) (Nc:=["_law_other", "_law_one"]) (cap:=[none,some 4]) rfl rfl (by decide +kernel)) (pS (aG 3)) (fun _ _ _ _ _=>iQ 0 nk) (fun _ _ _ _ _=>kY (dH (jc (op:=.Lt) hr.units) (aG 1) (aG 0))) (fun _ _ _ _ _=>bI (aJ (aG 1) (aJ (aG 0) (aX))))) (aX)))))))))
 (aW (bo (aT d__law_web_of (hr.mono (by decide)) (aJ (dM (aG 0) (cJ)) (aJ (aG 1) (aX)))))))
theorem p9 (nm:Nm mg) {f:Addr}{fd:FuncData} (F:gZ K "_law_any_web" "_law_any_web" d6 f fd) (hm:mg "_law_any_web" = some (.ref f)) (d__law_drawn_web:dg P w K mg base (df K w) 3 "_law_drawn_web" 2 cI) (d__law_draw:dg P w K mg base (df K w) 2 "_law_draw" 2 aL) (d__law_two_step:dg P w K mg base (df K w) 2 "_law_two_step" 1 d7) (d__law_web_of:dg P w K mg base (df K w) 1 "_law_web_of" 2 bg):dg P w K mg base (df K w) 4 "_law_any_web" 2 cR:=
 cw F bQ rfl hm (F.b2 (by rfl) fun _ _ _ _ _ _ _ _=>by rfl) fun cdv A outer s H E hr=>
 aO (cb 2 bQ.nd (aT d__law_drawn_web (hr.mono (by decide)) (aJ (aG 0) (aJ (aG 1) (aX)))))
 (aO (cb 3 bQ.nd (aT d__law_draw (hr.mono (by decide)) (aJ (aG 0) (aJ (cJ) (aX)))))
 (aO (i7 (dH (xR hr.units) (aG 3) (cJ)) (aW (bo (aG 2))) (eS))
 (aO (cb 2 bQ.nd (aT d__law_two_step (hr.mono (by decide)) (aJ (aG 2) (aX))))
 (aO (i7 (ux (La (dH (xR hr.units) (aG 3) (cJ)) (Ig (dH (jc (op:=.Gt) hr.units) (dM (aG 2) (cJ)) (cJ))))) (aO (cb 4 bQ.nd (aT d__law_draw (hr.mono (by decide)) (aJ (aG 0) (aJ (qH (dM (aG 2) (cJ)) (cJ)) (aX)))))
 (aO (cb 5 bQ.nd (bI (aJ (aG 4) (aJ (d0 (d0 (aG 4) (cJ)) (aT d__law_draw (hr.mono (by decide)) (aJ (aG 0) (aJ (qH (qH (dM (aG 2) (cJ)) (cJ)) (aG 4)) (aX))))) (aX)))))
 (aO (Cs 6 bQ.nd (bE (N:=["_law_pen", "_law_most", "_law_web", "_law_way", "_law_one", "_law_pair", "_law_some"]) (sc:=ar d6) (Nc:=["_law_tie", "_law_pair"]) (cap:=[none,some 5]) rfl rfl (by decide +kernel)) (pS (dM (aG 2) (cJ))) (fun _ _ _ _ _=>iQ 0 nZ) (fun _ _ _ _ _=>kY (dH (sI hr.units) (aG 0) (aG 1))) (fun _ _ _ _ _=>aG 0))
 (aO (i7 (dH (B5 hr.units) (aG 5) (dM (aG 2) (cJ))) (aW (ka (GU (aG 6) (aJ (aG 5) (aX))))) (eS))
 (aW (cb 2 bQ.nd (aT d__law_web_of (hr.mono (by decide)) (aJ (dM (aG 2) (cJ)) (aJ (aG 6) (aX)))))))))) (eS))
 (aW (bo (aG 2)))))))
theorem nh (nm:Nm mg) {f:Addr}{fd:FuncData} (F:gZ K "_law_tuples_are" "_law_tuples_are" cS f fd) (hm:mg "_law_tuples_are" = some (.ref f)) (d__law_whole:dg P w K mg base (df K w) 1 "_law_whole" 1 bZ):dg P w K mg base (df K w) 2 "_law_tuples_are" 2 bp:=
 cw F ng rfl hm (F.b2 (by rfl) fun _ _ _ _ _ _ _ _=>by rfl) fun cdv A outer s H E hr=>
 aO (i7 (ux (qC (gm (uq (kH (T:="tuple") (by decide) jj (by decide) (by decide) nm.isinstance nm.tuple (aG 0)))) (pB (dH (sI hr.units) (aG 0) (aG 1))))) (aW (bo (vD))) (eS))
 (aW (bo (bh pE nm.all (aJ (cX (bE (N:=["_law_found", "_law_due"]) (sc:=ar cS) (Nc:=["_law_one"]) (cap:=[none]) rfl rfl (by decide +kernel)) (pS (aG 0)) (fun _ _ _ _ _=>iQ 0 lQ) (fun _ _ _ _ _=>gx) (fun _ _ _ _ _=>kG (kH (T:="tuple") (by decide) jj (by decide) (by decide) nm.isinstance nm.tuple (aG 0)) (mr (bh pE nm.all (aJ (cX (GH (N:=["_law_one"]) (Nc:=["_law_number"]) (cap:=[none]) rfl rfl (by decide +kernel)) (pS (aG 0)) (fun _ _ _ _ _=>iQ 0 lP) (fun _ _ _ _ _=>gx) (fun _ _ _ _ _=>aT d__law_whole (hr.mono (by decide)) (aJ (aG 0) (aX)))) (aX)))))) (aX)))))
theorem sx (nm:Nm mg) {f:Addr}{fd:FuncData} (F:gZ K "_law_web_is" "_law_web_is" gN f fd) (hm:mg "_law_web_is" = some (.ref f)) (d__law_whole:dg P w K mg base (df K w) 1 "_law_whole" 1 bZ) (d__law_tuples_are:dg P w K mg base (df K w) 2 "_law_tuples_are" 2 bp):dg P w K mg base (df K w) 3 "_law_web_is" 2 eE:=
 cw F sk rfl hm (F.b2 (by rfl) fun _ _ _ _ _ _ _ _=>by rfl) fun cdv A outer s H E hr=>
 aO (i7 (ux (qC (gm (uq (kH (T:="tuple") (by decide) jj (by decide) (by decide) nm.isinstance nm.tuple (aG 0)))) (qC (dH (sI hr.units) (bh ir nm.len (aJ (aG 0) (aX))) (cJ)) (qC (gm (uq (aT d__law_whole (hr.mono (by decide)) (aJ (dM (aG 0) (cJ)) (aX))))) (pB (dH (sI hr.units) (aG 0) (aG 1))))))) (aW (bo (vD))) (eS))
 (aW (bo (aT d__law_tuples_are (hr.mono (by decide)) (aJ (dM (aG 0) (cJ)) (aJ (dM (aG 1) (cJ)) (aX))))))
theorem vw (nm:Nm mg) {f:Addr}{fd:FuncData} (F:gZ K "_law_bent" "_law_bent" i3 f fd) (hm:mg "_law_bent" = some (.ref f)) (d__law_draw:dg P w K mg base (df K w) 2 "_law_draw" 2 aL):dg P w K mg base (df K w) 3 "_law_bent" 2 iC:=
 cw F c6 rfl hm (F.b2 (by rfl) fun _ _ _ _ _ _ _ _=>by rfl) fun cdv A outer s H E hr=>
 aO (cb 2 c6.nd (bh ir nm.len (aJ (aG 1) (aX))))
 (aO (cb 3 c6.nd (aT d__law_draw (hr.mono (by decide)) (aJ (aG 0) (aJ (aG 2) (aX)))))
 (aO (cb 4 c6.nd (dM (aG 1) (aG 3)))
 (aO (cb 5 c6.nd (dM (fC (aJ (aG 2) (aJ (zc (cJ)) (aJ (vD) (aJ (L4) (aJ (Bz) (aJ (bI (aJ (cJ) (aX))) (aJ (GR (cJ) (cJ)) (aJ (aT d__law_draw (hr.mono (by decide)) (aJ (aG 0) (aJ (aG 2) (aX)))) (aX)))))))))) (aT d__law_draw (hr.mono (by decide)) (aJ (aG 0) (aJ (cJ) (aX))))))
 (aO (cb 6 c6.nd (fC (aJ (xP (aG 4) (jy (cJ)) (lU)) (aJ (xP (aG 4) (lU) (jy (zc (cJ)))) (aJ (d0 (aG 4) (bI (aJ (aG 5) (aX)))) (aJ (Ce (aG 4) (zc (cJ))) (aJ (d0 (aG 4) (xP (aG 4) (lU) (jy (cJ)))) (aJ (bh uJ nm.list (aJ (aG 4) (aX))) (aJ (L4) (aJ (bI (aX)) (aJ (bI (aJ (aG 5) (aX))) (aJ (GQ) (aJ (bI (aJ (aG 3) (aX))) (aX))))))))))))))
 (aO (ka (GU (aG 6) (aJ (bh iW nm.tuple (aJ (bh jQ nm.sorted (aJ (bh (zk hr.units) nm.set (aJ (d0 (aG 4) (bI (aJ (aT d__law_draw (hr.mono (by decide)) (aJ (aG 0) (aJ (aG 2) (aX)))) (aX)))) (aX))) (aX))) (aX))) (aX))))
 (aO (cb 7 c6.nd (dM (aG 6) (aT d__law_draw (hr.mono (by decide)) (aJ (aG 0) (aJ (cJ) (aX))))))
 (aO (cb 8 c6.nd (d0 (BQ (fC (aJ (d0 (d0 (xP (aG 1) (lU) (jy (aG 3))) (bI (aJ (aG 7) (aX)))) (xP (aG 1) (jy (d0 (aG 3) (cJ))) (lU))) (aX))) (cJ)) (fC (aJ (xP (aG 1) (jy (cJ)) (lU)) (aJ (d0 (aG 1) (bI (aJ (bI (aJ (aG 2) (aX))) (aX)))) (aJ (bh uJ nm.list (aJ (aG 1) (aX))) (aJ (bI (aJ (aG 1) (aX))) (aJ (bI (aX)) (aX)))))))))
 (aW (bo (dM (d0 (aG 8) (fC (aJ (L4) (aJ (GQ) (aJ (Ce (aG 1) (zc (cJ))) (aX)))))) (aT d__law_draw (hr.mono (by decide)) (aJ (aG 0) (aJ (cJ) (aX))))))))))))))
theorem ni (nm:Nm mg) {f:Addr}{fd:FuncData} (F:gZ K "_law_stars_like" "_law_stars_like" bX f fd) (hm:mg "_law_stars_like" = some (.ref f)) (d__law_whole:dg P w K mg base (df K w) 1 "_law_whole" 1 bZ):dg P w K mg base (df K w) 2 "_law_stars_like" 1 de:=
 cw F dX rfl hm (F.b1 (by rfl) fun _ _ _ _ _ _ _=>by rfl) fun cdv A outer s H E hr=>
 aO (i7 (ux (qC (gm (uq (kH (T:="tuple") (by decide) jj (by decide) (by decide) nm.isinstance nm.tuple (aG 0)))) (pB (gm (K9 (jc (op:=.Lt) hr.units) (jc (op:=.Lt) hr.units) (cJ) (bh ir nm.len (aJ (aG 0) (aX))) (cJ)))))) (aW (bo (vD))) (eS))
 (aO (kI R7 (oq nm.range (aJ (bh ir nm.len (aJ (aG 0) (aX))) (aX))) (iQ 1 dX.nd) (aO (cb 2 dX.nd (dM (aG 0) (aG 1)))
 (aO (i7 (ux (qC (gm (uq (kH (T:="tuple") (by decide) jj (by decide) (by decide) nm.isinstance nm.tuple (aG 2)))) (pB (gm (uq (bh pE nm.all (aJ (cX (bE (N:=["_law_thing", "_law_place", "_law_lot"]) (sc:=ar bX) (Nc:=["_law_one", "_law_thing"]) (cap:=[none,some 0]) rfl rfl (by decide +kernel)) (pS (aG 2)) (fun _ _ _ _ _=>iQ 0 lS) (fun _ _ _ _ _=>gx) (fun _ _ _ _ _=>kG (aT d__law_whole (hr.mono (by decide)) (aJ (aG 0) (aX))) (mr (GS (jc (op:=.LtE) hr.units) (jc (op:=.Lt) hr.units) (cJ) (aG 0) (bh ir nm.len (aJ (aG 1) (aX))))))) (aX)))))))) (aW (bo (vD))) (eS))
 (aW (i7 (ux (qC (dH (sI hr.units) (bh uJ nm.list (aJ (aG 2) (aX))) (bh jQ nm.sorted (aJ (bh (zk hr.units) nm.set (aJ (aG 2) (aX))) (aX)))) (pB (dH (B5 hr.units) (aG 1) (aG 2))))) (aW (bo (vD))) (eS))))))
 (aO (kI R7 (oq nm.range (aJ (bh ir nm.len (aJ (aG 0) (aX))) (aX))) (iQ 1 dX.nd) (aW (i7 (dH (sI hr.units) (cX (bE (N:=["_law_thing", "_law_place", "_law_lot"]) (sc:=ar bX) (Nc:=["_law_other", "_law_place", "_law_thing"]) (cap:=[none,some 1,some 0]) rfl rfl (by decide +kernel)) (pS (dM (aG 0) (aG 1))) (fun _ _ _ _ _=>iQ 0 lR) (fun _ _ _ _ _=>kY (dH (B5 hr.units) (aG 1) (dM (aG 2) (aG 0)))) (fun _ _ _ _ _=>aG 0)) (fC (aX))) (aW (bo (vD))) (eS))))
 (aW (bo (vD)))))
theorem mj (nm:Nm mg) {f:Addr}{fd:FuncData} (F:gZ K "_law_stars_of_of" "_law_stars_of_of" cy f fd) (hm:mg "_law_stars_of_of" = some (.ref f)) (d__law_near_of:dg P w K mg base (df K w) 1 "_law_near_of" 2 cQ):dg P w K mg base (df K w) 2 "_law_stars_of_of" 1 cV:=
 cw F mh rfl hm (F.b1 (by rfl) fun _ _ _ _ _ _ _=>by rfl) fun cdv A outer s H E hr=>
 aW (bo (bh iW nm.tuple (aJ (cX (bE (N:=["_law_web"]) (sc:=ar cy) (Nc:=["_law_place", "_law_web"]) (cap:=[none,some 0]) rfl rfl (by decide +kernel)) (oq nm.range (aJ (dM (aG 0) (cJ)) (aX))) (fun _ _ _ _ _=>iQ 0 kU) (fun _ _ _ _ _=>gx) (fun _ _ _ _ _=>bh iW nm.tuple (aJ (bh jQ nm.sorted (aJ (d0 (aT d__law_near_of (hr.mono (by decide)) (aJ (aG 1) (aJ (aG 0) (aX)))) (fC (aJ (aG 0) (aX)))) (aX))) (aX)))) (aX))))
theorem pf (nm:Nm mg) {f:Addr}{fd:FuncData} (F:gZ K "_law_together" "_law_together" dF f fd) (hm:mg "_law_together" = some (.ref f)) (d__law_web_of:dg P w K mg base (df K w) 1 "_law_web_of" 2 bg):dg P w K mg base (df K w) 2 "_law_together" 1 d8:=
 cw F fw rfl hm (F.b1 (by rfl) fun _ _ _ _ _ _ _=>by rfl) fun cdv A outer s H E hr=>
 aO (cb 1 fw.nd (fC (aX)))
 (aO (kI R7 (pS (aG 0)) (iQ 2 fw.nd) (aW (kI R7 (pS (aG 2)) (iQ 3 fw.nd) (aW (ka (zd (aG 1) (aJ (cX (bE (N:=["_law_stars", "_law_ties", "_law_lot", "_law_one"]) (sc:=ar dF) (Nc:=["_law_other", "_law_one"]) (cap:=[none,some 3]) rfl rfl (by decide +kernel)) (pS (aG 2)) (fun _ _ _ _ _=>iQ 0 nq) (fun _ _ _ _ _=>kY (dH (jc (op:=.Lt) hr.units) (aG 1) (aG 0))) (fun _ _ _ _ _=>bI (aJ (aG 1) (aJ (aG 0) (aX))))) (aX))))))))
 (aW (bo (aT d__law_web_of (hr.mono (by decide)) (aJ (bh ir nm.len (aJ (aG 0) (aX))) (aJ (aG 1) (aX)))))))
theorem pZ (nm:Nm mg) {f:Addr}{fd:FuncData} (F:gZ K "_law_told_of" "_law_told_of" fW f fd) (hm:mg "_law_told_of" = some (.ref f)) {a_RootError:Addr} (m_RootError:mg "RootError" = some (.ref a_RootError)) (kn_RootError:v9 K "RootError" a_RootError ["NoPlace", "NoRoot"]) (d_joined_by:sM P w K mg base 8 "joined_by" 1 eY) (d_web_by:sM P w K mg base 8 "web_by" 1 jm) (d__law_kind_of:EK P w K mg base (df K w) 1 "_law_kind_of" 1 fe):dg P w K mg base (df K w) 9 "_law_told_of" 2 bj:=
 cw F kM rfl hm (F.b2 (by rfl) fun _ _ _ _ _ _ _ _=>by rfl) fun cdv A outer s H E hr=>
 aW (K4 ya kM.nd kn_RootError m_RootError (fun pins E=>aW (bo (HU (wG (KO d_web_by (He ya) (hr.mono (by decide))) (wG (KO d_joined_by (He ya) (hr.mono (by decide))) (FR))) (aJ (aG 1) (aX))))) (fun ea=>aW (bo (EY d__law_kind_of ((hr.h.mark _).mono (by decide)) (aJ (aG 2) (aX))))))
theorem sT (nm:Nm mg) {f:Addr}{fd:FuncData} (F:gZ K "_law_right" "_law_right" eD f fd) (hm:mg "_law_right" = some (.ref f)) (d_stars_good:dg P w K mg base (df K w) 6 "stars_good" 1 dW) (d__law_stars_like:dg P w K mg base (df K w) 2 "_law_stars_like" 1 de) (d__law_told_of:dg P w K mg base (df K w) 9 "_law_told_of" 2 bj) (d__law_web_is:dg P w K mg base (df K w) 3 "_law_web_is" 2 eE) (d__law_web_of:dg P w K mg base (df K w) 1 "_law_web_of" 2 bg) (d__law_together:dg P w K mg base (df K w) 2 "_law_together" 1 d8):dg P w K mg base (df K w) 10 "_law_right" 1 fu:=
 cw F cH rfl hm (F.b1 (by rfl) fun _ _ _ _ _ _ _=>by rfl) fun cdv A outer s H E hr=>
 aO (cb 1 cH.nd (bh (zY hr) nm.repr (aJ (aG 0) (aX))))
 (aO (cb 2 cH.nd (aT d_stars_good (hr.mono (by decide)) (aJ (aG 0) (aX))))
 (aO (cb 3 cH.nd (aT d__law_stars_like (hr.mono (by decide)) (aJ (aG 0) (aX))))
 (aO (Cs 4 cH.nd (bE (N:=["_law_thing", "_law_held", "_law_found", "_law_due", "_law_told", "_law_ties", "_law_place", "_law_lot"]) (sc:=ar eD) (Nc:=["_law_way", "_law_thing"]) (cap:=[none,some 0]) rfl rfl (by decide +kernel)) (oq nm.range (aJ (cJ) (aX))) (fun _ _ _ _ _=>iQ 0 qf) (fun _ _ _ _ _=>gx) (fun _ _ _ _ _=>aT d__law_told_of (hr.mono (by decide)) (aJ (aG 0) (aJ (aG 1) (aX)))))
 (aO (i7 (ux (qC (gm (uq (kH (T:="bool") (by decide) u6 (by decide) (by decide) nm.isinstance nm.bool (aG 2)))) (qC (dH (sI hr.units) (aG 2) (aG 3)) (pB (dH (LK) (bh (zY hr) nm.repr (aJ (aG 0) (aX))) (aG 1)))))) (aW (bo (vD))) (eS))
 (aO (i7 (gm (uq (aG 3))) (aW (bo (mv (xR hr.units) (aG 4) (fC (aJ (Bz) (aJ (Bz) (aX))))))) (eS))
 (aO (cb 5 cH.nd (fC (aX)))
 (aO (kI R7 (HC nm.enumerate (aJ (aG 0) (aX))) (qK (gC (iQ 6 cH.nd) (gC (iQ 7 cH.nd) (qL)))) (aW (ka (zd (aG 5) (aJ (cX (bE (N:=["_law_thing", "_law_held", "_law_found", "_law_due", "_law_told", "_law_ties", "_law_place", "_law_lot"]) (sc:=ar eD) (Nc:=["_law_other", "_law_place"]) (cap:=[none,some 6]) rfl rfl (by decide +kernel)) (pS (aG 7)) (fun _ _ _ _ _=>iQ 0 qe) (fun _ _ _ _ _=>kY (dH (sI hr.units) (aG 0) (aG 1))) (fun _ _ _ _ _=>bI (aJ (aG 1) (aJ (aG 0) (aX))))) (aX))))))
 (aW (bo (kG (aT d__law_web_is (hr.mono (by decide)) (aJ (dM (aG 4) (cJ)) (aJ (aT d__law_web_of (hr.mono (by decide)) (aJ (bh ir nm.len (aJ (aG 0) (aX))) (aJ (aG 5) (aX)))) (aX)))) (mr (aT d__law_web_is (hr.mono (by decide)) (aJ (dM (aG 4) (cJ)) (aJ (aT d__law_together (hr.mono (by decide)) (aJ (aG 0) (aX))) (aX)))))))))))))))
theorem J6 (nm:Nm mg) {f:Addr}{fd:FuncData} (F:gZ K "law" "law" jH f fd) (d__law_right:dg P w K mg base (df K w) 10 "_law_right" 1 fu) (d__law_cell_at:dg P w K mg base (df K w) 1 "_law_cell_at" 2 ff) (d__law_pen_of:dg P w K mg base (df K w) 1 "_law_pen_of" 1 fQ) (d__law_any_web:dg P w K mg base (df K w) 4 "_law_any_web" 2 cR) (d__law_stars_of_of:dg P w K mg base (df K w) 2 "_law_stars_of_of" 1 cV) (d__law_tuples_are:dg P w K mg base (df K w) 2 "_law_tuples_are" 2 bp) (d_stars_of:dg P w K mg base (df K w) 6 "stars_of" 1 jo) (d__law_bent:dg P w K mg base (df K w) 3 "_law_bent" 2 iC):qG P w K mg base xO 11 f fd ["_law_script"] (En (df K w) 1 wc):=
 LR F lh rfl fun cdv A outer s H E hr=>
 aO (cb 1 lh.nd (fC (aJ (bI (aJ (bI (aJ (cJ) (aX))) (aX))) (aJ (bI (aJ (bI (aJ (cJ) (aJ (cJ) (aX)))) (aJ (bI (aJ (cJ) (aJ (cJ) (aX)))) (aX)))) (aJ (bI (aJ (bI (aJ (cJ) (aJ (cJ) (aX)))) (aJ (bI (aJ (cJ) (aX))) (aX)))) (aJ (bI (aX)) (aJ (bI (aJ (bI (aX)) (aX))) (aJ (L4) (aJ (fC (aJ (bI (aJ (cJ) (aX))) (aX))) (aJ (bI (aJ (bI (aJ (vD) (aX))) (aX))) (aX)))))))))))
 (aO (kI R7 (pS (d0 (aG 1) (fC (aJ (bh iW nm.tuple (aJ (cX (bE (N:=["_law_script", "_law_some", "_law_thing", "_law_cell", "_law_pen", "_law_web", "_law_stars"]) (sc:=ar jH) (Nc:=["_law_k"]) (cap:=[none]) rfl rfl (by decide +kernel)) (oq nm.range (aJ (cJ) (aX))) (fun _ _ _ _ _=>iQ 0 DS) (fun _ _ _ _ _=>gx) (fun _ _ _ _ _=>bI (aJ (aG 0) (aX)))) (aX))) (aJ (bh iW nm.tuple (aJ (cX (bE (N:=["_law_script", "_law_some", "_law_thing", "_law_cell", "_law_pen", "_law_web", "_law_stars"]) (sc:=ar jH) (Nc:=["_law_k"]) (cap:=[none]) rfl rfl (by decide +kernel)) (oq nm.range (aJ (cJ) (aX))) (fun _ _ _ _ _=>iQ 0 DR) (fun _ _ _ _ _=>gx) (fun _ _ _ _ _=>bI (aJ (aG 0) (aX)))) (aX))) (aX)))))) (iQ 2 lh.nd) (aW (i7 (gm (uq (aT d__law_right (hr.mono (by decide)) (aJ (aG 2) (aX))))) (aW (bo (vD))) (eS))))
 (aO (kI R7 (pS (d0 (fC (aJ (aT d__law_cell_at (hr.mono (by decide)) (aJ (aG 0) (aJ (cJ) (aX)))) (aX))) (xP (aG 0) (jy (cJ)) (jy (cJ))))) (iQ 3 lh.nd) (aO (cb 4 lh.nd (aT d__law_pen_of (hr.mono (by decide)) (aJ (aG 3) (aX))))
 (aO (cb 5 lh.nd (aT d__law_any_web (hr.mono (by decide)) (aJ (aG 4) (aJ (cJ) (aX)))))
 (aO (cb 6 lh.nd (aT d__law_stars_of_of (hr.mono (by decide)) (aJ (aG 5) (aX))))
 (aO (i7 (gm (uq (aT d__law_tuples_are (hr.mono (by decide)) (aJ (aT d_stars_of (hr.mono (by decide)) (aJ (aG 5) (aX))) (aJ (aG 6) (aX)))))) (aW (bo (vD))) (eS))
 (aW (kI R7 (pS (d0 (fC (aJ (aG 6) (aX))) (cX (bE (N:=["_law_script", "_law_some", "_law_thing", "_law_cell", "_law_pen", "_law_web", "_law_stars"]) (sc:=ar jH) (Nc:=["_law_turn", "_law_pen", "_law_stars"]) (cap:=[none,some 4,some 6]) rfl rfl (by decide +kernel)) (oq nm.range (aJ (cJ) (aX))) (fun _ _ _ _ _=>iQ 0 DQ) (fun _ _ _ _ _=>gx) (fun _ _ _ _ _=>aT d__law_bent (hr.mono (by decide)) (aJ (aG 1) (aJ (aG 2) (aX))))))) (iQ 2 lh.nd) (aW (i7 (gm (uq (aT d__law_right (hr.mono (by decide)) (aJ (aG 2) (aX))))) (aW (bo (vD))) (eS))))))))))
 (aW (bo (vD)))))
end
end Lw
namespace Lv
variable{adj:Int->Int->Prop}{p:Int}
def R(adj:Int->Int->Prop)(p:Int):Nat->Int->Prop
 |0,q=>q=p
 |n+1,q=>R adj p n q\/∃r,adj r q/\R adj p n r
theorem R.up{n:Nat}{q:Int}(h:R adj p n q):R adj p (n+1) q:=.inl h
theorem R.mono{n m:Nat}{q:Int}(h:R adj p n q)(hm:n<=m):R adj p m q:=by
 induction hm with
 |refl=>exact h
 |step _ ih=>exact ih.up
end Lv
namespace Lv
end Lv
namespace Lw
open PySem L2 RS
theorem bz:1000<=sizeLine:=by decide
theorem zu{μ:aw}(s:Int):∃r:Int,gp [.int s] μ=.ok (.int r) μ:=by
 have h0:0<=(s+7919)%2147483647:=R8 _ (by decide);have h1:(s+7919)%2147483647<2147483647:=R9 _ (by decide);generalize ht:(s+7919)%2147483647=t at h0 h1;refine⟨(t*t+48271*t+12345)%2147483629,?_⟩;have c1:vR t t:=.inl ⟨by omega,by omega⟩;have c2:vR 48271 t:=.inl ⟨by omega,by omega⟩;unfold gp;rw[cN];simp[pQ,ht,c1,c2];exact bx (by simp)
def cv(a b c:Int):O:=.lst [.int a,.int b,.int c]
theorem uX{n:Nat}{a b c:Int}:(cv a b c).low n:=by simp[cv,O.low]
theorem Iz{μ:aw}(x:Int):∃a b c:Int,fQ [.int x] μ=.ok (.obj μ.length) (μ++[cv a b c]):=by
 have e:∀i j:Int,uC [.int i,.int j] μ=.ok (.int (if j>i then j else i)) μ:=fun _ _=>rfl;have p1:BO 10 18:=⟨by decide,by decide,by decide⟩;have ib:∀k:Bool,∀μ,v3 [.bl k] μ=.ok (.int (if k then 1 else 0)) μ:=fun _ _=>rfl;refine⟨(if 0-x>x then 0-x else x),(if f7 .GtE (if 0-x>x then 0-x else x) (10^(18:Int).toNat) then 1 else 0),(if 0-x>x then 0-x else x)%1000003,?_⟩;unfold fQ;rw[cN];have l3:(3:Nat)<=sizeLine:=by decide
 simp only[mH,aH,bc,az,aq,au,ah,aj,aK,bt,aa,ae,af,Hn,e,bD,aD,aU,dP,List.set,List.replicate,Sa,Sb];have pw:Ak (.int 10) (.int 18) μ=.ok (.int (10^(18:Int).toNat)) μ:=oH p1;have md:∀x,vM (.int x) (.int 1000003) μ=.ok (.int (x%1000003)) μ:=fun x=>oH (show (0:Int)<1000003 by decide);simp only[pw,md,aa,ae,dQ,ib,PD,Ql,NL l3,af,aM];rw[B7 (by simp)];rfl
theorem Fj{μ:aw}{i:Nat}{a b c m:Int}(hp:μ[i]?=some (cv a b c))(h0:0<m)(h1:m<1073741824) :
  ∃r a' b' c':Int,0<=r/\r<m/\aL [.obj i,.int m] μ=.ok (.int r) (μ.set i (cv a' b' c')):=by
 have hi:i<μ.length:=(N3.mp hp).1;have hp':μ[i]?=some (.lst [.int a,.int b,.int c]):=hp;have md:∀{x:Int}{μ:aw},vM (.int x) (.int m) μ=.ok (.int (x%m)) μ:=fun {x μ}=>oH (show (fun _ j=>(0:Int)<j) x m from h0);have fd:∀{x:Int}{μ:aw},v5 (.int x) (.int m) μ=.ok (.int (x / m)) μ:=fun {x μ}=>oH (show EL x m from⟨h0,by omega⟩);have f64:∀{x:Int}{μ:aw},v5 (.int x) (.int 64) μ=.ok (.int (x / 64)) μ:=fun {x μ}=>oH (show EL x 64 from⟨by decide,by decide⟩);unfold aL;rw[cn];by_cases hb:b=1
 ·subst hb;refine⟨a%m,a / m,1,c,R8 _ (by omega),R9 _ h0,?_⟩;simp only[lH,aH,bS,dz,aK,ah,aj,bt,aa,ae];rw[iH hp' zl];simp only[aa,ae,jJ,Pz,OX,aZ,af,aH,bc,aK,ah,aj,bt];simp only[PB,OW,OX,aH,bc,aK,ah,aj,bt,aa,ae];rw[iH hp' v8];simp only[aa,ae,md,af,bD,aD,List.replicate,Sa,Sb,ah,aj,bt,aK,bc,aH];rw[iH hp' v8];simp only[aa,ae,fd,af,zT,ah,aj,bt];rw[zQ hp' (CM (by decide) (by simp))];simp only[aa,ae,af,aD,aU,ah,aj,f9,aM];exact zO (by simp only[Gn]) (uX (a:=a / m) (b:=1) (c:=c))
 ·obtain ⟨s1, e1⟩ := zu (μ := μ) c;obtain⟨s2,e2⟩:=zu (μ:=μ) (s1+7);refine⟨s2 / 64%m,a,b,s2,R8 _ (by omega),R9 _ h0,?_⟩;have hb':(b == 1)=false:=by simpa using hb
  simp only[lH,aH,bS,dz,aK,ah,aj,bt,aa,ae];rw[iH hp' zl];simp only[aa,ae,jJ,hb',aZ,af,PB,OW,bH,aD,aH,bc,az,aq,au,aK,ah,aj,bt];rw[iH hp' Hr];simp only[aa,ae,e1,ki,e2,af,zT,ah,aj,bt];rw[zQ hp' (CM (by decide) (by simp))];have hg:(μ.set i (.lst ([D.int a,D.int b,D.int c].set (2:Int).toNat (.int s2))))[i]?=some (.lst [D.int a,D.int b,D.int s2]):=by rw[N5 hi];rfl
  simp only[aa,ae,af,aD,aU,aK,ah,aj,bt];rw[iH hg Hr];simp only[aa,ae,f64,md,af,aM];exact zO (by simp) (uX (a:=a) (b:=b) (c:=s2))
theorem aF{μ g:aw}{i:Nat}{o:O}(h:μ[i]?=some o):(μ++g)[i]?=some o:=by
 rw[OJ (N3.mp h).1];exact h
theorem zy{μ g:aw}{i:Nat}{o:O}(h:i<μ.length):(μ++g).set i o=μ.set i o++g:=by
 rw[List.set_append_left _ _ h]
theorem lY{μ:aw}{i:Nat}{o:O}(h:i<μ.length):(μ.set i o)[i]?=some o:=N5 h
def vI(m:Int)(k:List Int):Prop:=∃a b:Int,k=[a,b]/\0<=a/\a<b/\b<m
theorem vI.prs{m:Int}{k:List Int}(h:vI m k)(hm:m<=6):k∈prs:=by
 obtain⟨a,b,rfl,h1,h2,h3⟩:=h;exact uT h1 h2 (by omega)
def ny(d:D)(m:Int)(ks:List (List Int)):Prop:=d=.tup [.int m,.tup (ks.map bf)]/\1<=m/\m<=6/\(ks.Pairwise fun a b=>sE a<sE b)/\∀k∈ks,vI m k
theorem pG{m:Int}{ks:List (List Int)}(h0:1<=m)(h1:m<=6)(hk:∀k∈ks,vI m k):ny (.tup [.int m,.tup ((bJ ks).map bf)]) m (bJ ks):=by
 refine⟨rfl,h0,h1,mV.filter _,fun k h=>?_⟩;unfold bJ at h;rw[NS,RI]at h;exact hk k h.2
theorem iz{m:Int}{ks:List (List Int)}{d:D}(h:ny d m ks):ks.length<=15:=by
 obtain⟨_,_,hm,hp,hk⟩:=h;have hn:ks.Nodup:=hp.imp fun h e=>by subst e;omega
 have hs:ks ⊆ prs:=fun k h=>(hk k h).prs hm;have:=hn.length_le_of_subset hs;rw[zC]at this;exact this
def d9(p:Int×Int):D:=.tup [.int p.1,.int p.2]
theorem l2:(2:Nat)<=sizeLine:=by decide
theorem NB{u v:Int}{μ:aw}:vN [.tup [.int u,.int v]] μ=.ok (.int (min u v)) μ:=rfl
theorem MP{u v:Int}{μ:aw}:uC [.tup [.int u,.int v]] μ=.ok (.int (max u v)) μ:=rfl
theorem d4{n:Nat}{d:D}{m:Int}{ks:List (List Int)}(h:ny d m ks):d.low n:=by
 obtain⟨rfl,_⟩:=h;simp
 exact iy.mpr fun x hx=>by
  obtain⟨k,_,rfl⟩:=Qr.mp hx;simp[bf];exact iy.mpr (by simp)
theorem oM{lo:Int}{n:Nat}:cu lo (n+1)=.int lo::cu (lo+1) n:=by
 unfold cu;rw[Qh,Pe,Qi];congr 1
 ·simp
 ·apply Qj;intro i _;simp only[Function.comp_apply];congr 1;omega
theorem tM{lo:Int}:cu lo 0=[]:=rfl
theorem Dv{lo:Int}{n:Nat}(h:cu lo n=[]):n=0:=by
 cases n with
 |zero=>rfl
 |succ n=>rw[oM]at h;cases h
theorem l1:(1:Nat)<=sizeLine:=by decide
end Lw
namespace Lw
open PySem L2 RS Lv
def HE(ks:List (List Int)):List (Int×Int):=ks.flatMap fun k=>match k with
 |[u,v]=>[(u,v),(v,u)]
 |_=>[]
def vF(ks:List (List Int))(a b:Int):Prop:=(a,b)∈HE ks
section
variable{μ0 μ:aw}{m a:Nat}{web:D}{M p u v q r:Int}{n:Nat}{T:Int->Int->Option Nat}{f:Int->Option Nat}
theorem GD{ks:List (List Int)}(hk:∀k∈ks,vI m k){x y:Int}(h:vF ks x y):(0<=x/\x<m)/\(0<=y/\y<m):=by
 unfold vF HE at h;obtain⟨k,hk',hm⟩:=Sd.mp h;obtain⟨u,v,rfl,u0,uv,v1⟩:=hk k hk';simp at hm;omega
end
end Lw
namespace Lw
open PySem L2 RS Lv
section
variable{μ0 μ:aw}{m a:Nat}{p q:Int}{k:Int}{T:Int->Int->Option Nat}
end
end Lw
namespace Lw
open PySem L2 RS Lv
theorem nI{μ:aw}:∀fs:List Int,iN μ (fs.map D.int)=some (fs.map PyData.int)
 |[]=>rfl
 |x::fs=>by simp only[Pe,iN,nI fs];rfl
theorem lx:∀fs:List Int,PyData.canLayAll0 (fs.map PyData.int)=true/\PyData.depthAll (fs.map PyData.int)=0
 |[]=>by simp[PyData.canLayAll0,PyData.depthAll]
 |x::fs=>by
  have:=lx fs;simp only[Pe,PyData.canLayAll0,PyData.depthAll,PyData.canLay0,PyData.depth,this.1,this.2];exact⟨rfl,rfl⟩
theorem zN{μ:aw}{F:Nat}{fs:List Int}{a:Int}(h:μ[F]?=some (.lst (fs.map D.int))):qy false (.int a) (.obj F) μ=.ok (.bl (decide (a∈fs))) μ:=by
 have e1:mI μ (.int a)=some (.int a):=rfl
 have e2:mI μ (.obj F)=some (.list (fs.map PyData.int)):=by
  unfold mI;dsimp only;rw[h];dsimp only;rw[nI];rfl
 have f1:eG (.int a)=true:=rfl
 have f2:eG (.list (fs.map PyData.int))=true:=by
  have:=lx fs;simp only[eG,PyData.canLay0,this.1,PyData.depth,this.2,Se];rfl
 unfold qy;rw[e1,e2];dsimp only[uG];rw[NL ⟨f1,f2⟩];simp only[PB,OW];congr 2;rw[List.any_map];apply Ot.mpr;rw[Sf,RI];constructor
 ·rintro ⟨x, hx, e⟩
  have:x=a:=by simpa[PyData.eqv] using e
  subst this;exact hx
 ·intro hx;exact⟨a,hx,by simp[PyData.eqv]⟩
theorem gH{m:Int}{ks:List (List Int)}(hk:∀k∈ks,vI m k){a b:Int}:vF ks a b↔([a,b]∈ks\/[b,a]∈ks):=by
 unfold vF HE;rw[Sd];constructor
 ·rintro ⟨k, hk', hm⟩
  obtain⟨u,v,rfl,_⟩:=hk k hk';simp at hm;rcases hm with⟨rfl,rfl⟩|⟨rfl,rfl⟩
  ·exact .inl hk'
  ·exact .inr hk'
 ·rintro (h | h)
  ·exact⟨_,h,by simp⟩
  ·exact⟨_,h,by simp⟩
theorem oS{m:Int}{t e:List Int->Int}:∀{ks:List (List Int)},(∀k∈ks,vI m k)->∀(P:Int->Bool),∃l:List Int,
  ((ks.map bf).filter (fun d=>match d with | .tup [.int a,.int b]=>P (t [a,b])|_=>false)).map (fun d=>match d with | .tup [.int a,.int b]=>.int (e [a,b])|_=>.non)=l.map D.int/\l.length<=ks.length/\∀x,x∈l↔∃k∈ks,P (t k)=true/\x=e k
 |[],_,P=>⟨[],rfl,Om _,by simp⟩
 |k::ks,h,P=>by
  obtain⟨l,e1,e2,e3⟩:=oS (t:=t) (e:=e) (ks:=ks) (fun x hx=>h x (NY _ hx)) P;obtain⟨a,b,rfl,_⟩:=h k NX;rw[Pe,RR];show ∃l:List Int,List.map _ (if P (t [a,b])=true then _ else _)=_/\_;by_cases c:P (t [a,b])=true
  ·rw [NL c, Pe, e1];refine⟨e [a,b]::l,rfl,by simp;omega,fun x=>?_⟩;simp only[NZ,e3];constructor
   ·rintro (rfl | ⟨k, hk, z⟩)
    ·exact⟨[a,b],.inl rfl,c,rfl⟩
    ·exact⟨k,.inr hk,z⟩
   ·rintro ⟨k, rfl | hk, z1, z2⟩
    ·exact .inl z2
    ·exact .inr ⟨k,hk,z1,z2⟩
  ·rw [NM c, e1];refine⟨l,rfl,by simp;omega,fun x=>?_⟩;simp only[NZ,e3];constructor
   ·rintro⟨k,hk,z⟩;exact⟨k,.inr hk,z⟩
   ·rintro ⟨k, rfl | hk, z1, z2⟩
    ·exact absurd z1 c
    ·exact⟨k,hk,z1,z2⟩
def EG:List Int->Int
 |[a,_]=>a
 |_=>0
def EE:List Int->Int
 |[_,b]=>b
 |_=>0
theorem Dg{μ:aw}{m:Int}{F:Nat}{fs:List Int}{ks:List (List Int)}(hk:∀k∈ks,vI m k)(hl:ks.length<=15)(h:μ[F]?=some (.lst (fs.map D.int))) :
  ∃(t:Nat)(g:aw)(ns:List Int),fO [.tup (ks.map bf),.obj F] μ=.ok (.obj t) (μ++g)/\(μ++g)[t]?=some (.lst (ns.map D.int))/\ns.length<=30/\μ.length<=t/\∀q,q∈ns↔∃r∈fs,vF ks r q:=by
 obtain⟨l1,a1,a2,a3⟩:=oS (t:=EG) (e:=EE) hk fun x=>decide (x∈fs);obtain⟨l2',b1,b2,b3⟩:=oS (t:=EE) (e:=EG) hk fun x=>decide (x∈fs)
 have c1:=jW (src:=.fix (ks.map bf)) (g:=g7 2 (bC (ao 0) (bC (ao 1) (g8)))) (t:=iL) (e:=kP) (μ1:=μ)
  (q:=fun d=>match d with | .tup [.int a,.int b]=>decide (EG [a,b]∈fs)|_=>false) (h:=fun d=>match d with | .tup [.int a,.int b]=>.int (EE [a,b])|_=>.non)
  (fun ρ=>∃o1 o2,ρ=[o1,o2,some (.obj F)]) (fun _=>trivial) (xs:=ks.map bf) (acc:=[]) (ρ:=[none,none,some (.obj F)]) ⟨_,_,rfl⟩
  (by rw[OO,Ql];exact NU (by omega) bz)
  (fun x hx a ρ hJJ => by
   obtain⟨o1,o2,ho⟩:=hJJ;obtain⟨k,hk',rfl⟩:=Qr.mp hx;obtain⟨u,v,rfl,_⟩:=hk k hk';subst ho;refine⟨[some (.int u),some (.int v),some (.obj F)],⟨_,_,rfl⟩,rfl,?_,fun _=>rfl⟩;unfold iL;simp only[dz,aK,aj,ah,aa,ae];rw[zN (aF h)]
   rfl)
 have c2:=fun M:aw=>fun hM:M[F]?=some (.lst (fs.map D.int))=>jW (src:=.fix (ks.map bf)) (g:=g7 2 (bC (ao 0) (bC (ao 1) (g8)))) (t:=iK) (e:=kO) (μ1:=M)
  (q:=fun d=>match d with | .tup [.int a,.int b]=>decide (EE [a,b]∈fs)|_=>false) (h:=fun d=>match d with | .tup [.int a,.int b]=>.int (EG [a,b])|_=>.non)
  (fun ρ=>∃o1 o2,ρ=[o1,o2,some (.obj F)]) (fun _=>trivial) (xs:=ks.map bf) (acc:=[]) (ρ:=[none,none,some (.obj F)]) ⟨_,_,rfl⟩
  (by rw[OO,Ql];exact NU (by omega) bz)
  (fun x hx a ρ hJJ => by
   obtain⟨o1,o2,ho⟩:=hJJ;obtain⟨k,hk',rfl⟩:=Qr.mp hx;obtain⟨u,v,rfl,_⟩:=hk k hk';subst ho;refine⟨[some (.int u),some (.int v),some (.obj F)],⟨_,_,rfl⟩,rfl,?_,fun _=>rfl⟩;unfold iK;simp only[dz,aK,aj,ah,aa,ae];rw[zN (aF hM)]
   rfl)
 rw[Pv,a1]at c1;have c2':=c2 (μ++[O.lst (l1.map D.int)]) (aF h);rw[Pv,b1]at c2';refine⟨((μ++[O.lst (l1.map D.int)])++[O.lst (l2'.map D.int)]).length,([O.lst (l1.map D.int)]++[O.lst (l2'.map D.int)])++[O.lst ((l1++l2').map D.int)],l1++l2',?_,?_,by rw[ON];omega,by simp,fun q=>?_⟩
 ·unfold fO;rw[cn];simp only[mD,aU,aK,bT,bL,ah,aa,ae,iT,aS,List.replicate];rw[show eR [none,none,some 1] (some (D.tup (List.map bf ks))::some (D.obj F)::List.replicate (2-2) none)=[none,none,some (.obj F)] from rfl,c1];simp only[aa,ae];rw[c2'];simp only[aa,ae]
  have ad:cf (.obj μ.length) (.obj (μ++[O.lst (l1.map D.int)]).length) ((μ++[O.lst (l1.map D.int)])++[O.lst (l2'.map D.int)])=.ok (.obj ((μ++[O.lst (l1.map D.int)])++[O.lst (l2'.map D.int)]).length) (((μ++[O.lst (l1.map D.int)])++[O.lst (l2'.map D.int)])++[O.lst ((l1++l2').map D.int)]):=by
   unfold cf;dsimp only;rw[aA,aF aA];dsimp only;rw[NL,Qy];rw[OO,OO];exact NU (show _<=1000 by omega) bz
  rw[ad,af,aM,B7 (by simp)];simp only[Pp]
 ·rw[<- Pp,<- Pp];exact aA
 ·rw [N1, a3, b3];constructor
  ·rintro (⟨k, hk', z1, z2⟩ | ⟨k, hk', z1, z2⟩)
   ·obtain⟨u,v,rfl,_⟩:=hk k hk';subst z2;exact⟨u,Sg z1,(gH hk).mpr (.inl hk')⟩
   ·obtain⟨u,v,rfl,_⟩:=hk k hk';subst z2;exact⟨v,Sg z1,(gH hk).mpr (.inr hk')⟩
  ·rintro ⟨r, hr, ha⟩
   rcases (gH hk).mp ha with z|z
   ·exact .inl ⟨_,z,Pw hr,rfl⟩
   ·exact .inr ⟨_,z,Pw hr,rfl⟩
def g6(k:List Int):PyData:=.tuple (k.map PyData.int)
theorem tQ{μ:aw}{m:Int}:∀{ks:List (List Int)},(∀k∈ks,vI m k)->iN μ (ks.map bf)=some (ks.map g6)
 |[],_=>rfl
 |k::ks,h=>by
  obtain⟨a,b,rfl,_⟩:=h k NX;have ih:=tQ (μ:=μ) fun x hx=>h x (NY _ hx);simp only[Pe,iN,ih];rfl
theorem oN{μ:aw}{m:Int}:∀{ks:List (List Int)},(∀k∈ks,vI m k)->toPs μ (ks.map bf)=some (ks.map g6)
 |[],_=>rfl
 |k::ks,h=>by
  obtain⟨a,b,rfl,_⟩:=h k NX;have ih:=oN (μ:=μ) fun x hx=>h x (NY _ hx);simp only[Pe,toPs,ih];rfl
theorem oO{m:Int}:∀{ks:List (List Int)},(∀k∈ks,vI m k)->PyData.canLayAll0 (ks.map g6)=true/\PyData.depthAll (ks.map g6)<=1
 |[],_=>by simp[PyData.canLayAll0,PyData.depthAll]
 |k::ks,h=>by
  obtain⟨a,b,rfl,_⟩:=h k NX;have ih:=oO fun x hx=>h x (NY _ hx);simp only[Pe,PyData.canLayAll0,PyData.depthAll,ih.1,g6,Pd,PyData.canLay0,PyData.depth];refine⟨rfl,?_⟩;have:=ih.2;omega
def Hw(m:Int)(ks:List (List Int)):PyData:=.tuple [.int m,.tuple (ks.map g6)]
theorem EU{μ:aw}{d:D}{m:Int}{ks:List (List Int)}(h:ny d m ks):mI μ d=some (Hw m ks):=by
 obtain⟨rfl,_,_,_,hk⟩:=h
 have e:xJ μ (.tup (ks.map bf))=some (.tuple (ks.map g6)):=by
  simp only[xJ,oN hk,Option.map_some]
 unfold mI;dsimp only;simp only[iN,Ac,xJ,e,oN hk,Option.map_some,PM];rfl
theorem EV{d:D}{m:Int}{ks:List (List Int)}(h:ny d m ks):eG (Hw m ks)=true:=by
 obtain⟨_,_,_,_,hk⟩:=h;have:=oO hk;simp only[eG,Hw,PyData.canLay0,PyData.canLayAll0,this.1,PyData.depth,PyData.depthAll,Se,Bool.and_true];exact Pw (by have:=this.2;omega)
end Lw
namespace Lw
open PySem L2 RS
def Pn(μ0:aw)(i:Nat)(μ:aw):Prop:=∃a b c g,μ=μ0.set i (cv a b c)++g
theorem Pn.app{μ0 μ g:aw}{i:Nat}(h:Pn μ0 i μ):Pn μ0 i (μ++g):=by
 obtain⟨a,b,c,g',rfl⟩:=h;exact⟨a,b,c,g'++g,by rw[Pp]⟩
theorem Pn.get{μ0 μ:aw}{i:Nat}(h:Pn μ0 i μ)(hi:i<μ0.length):∃a b c,μ[i]?=some (cv a b c):=by
 obtain⟨a,b,c,g',rfl⟩:=h;exact⟨a,b,c,aF (lY hi)⟩
theorem Pn.set{μ0 μ:aw}{i:Nat}{a b c:Int}(h:Pn μ0 i μ)(hi:i<μ0.length):Pn μ0 i (μ.set i (cv a b c)):=by
 obtain⟨a',b',c',g',rfl⟩:=h;exact⟨a,b,c,g',by rw[zy (by simpa using hi),List.set_set]⟩
theorem Pn.len{μ0 μ:aw}{i:Nat}(h:Pn μ0 i μ):μ0.length<=μ.length:=by
 obtain⟨a',b',c',g',rfl⟩:=h;simp
theorem Pn.self{μ0:aw}{i:Nat}{a b c:Int}(h:μ0[i]?=some (cv a b c)):Pn μ0 i μ0:=by
 refine⟨a,b,c,[],?_⟩;rw[Ox];apply Rh;intro j;by_cases e:i=j
 ·subst e;rw[lY (N3.mp h).1,h]
 ·rw[N6 e]
theorem Pn.draw{μ0 μ:aw}{i:Nat}{m:Int}(h:Pn μ0 i μ)(hi:i<μ0.length)(h0:0<m)(h1:m<1073741824) :
  ∃r a b c:Int,0<=r/\r<m/\aL [.obj i,.int m] μ=.ok (.int r) (μ.set i (cv a b c))/\Pn μ0 i (μ.set i (cv a b c)):=by
 obtain⟨a,b,c,hp⟩:=h.get hi;obtain⟨r,a',b',c',r0,r1,e⟩:=Fj hp h0 h1;exact⟨r,a',b',c',r0,r1,e,h.set hi⟩
theorem Pn.gc{μ0 μ:aw}{i:Nat}{d:D}(h:Pn μ0 i μ)(hd:d.low μ0.length):∃a b c,qh μ0 (.ok d μ)=.ok d (μ0.set i (cv a b c)):=by
 obtain⟨a,b,c,g',rfl⟩:=h;exact⟨a,b,c,CQ hd uX⟩
theorem AR{m:Int}{ks:List (List Int)}(h:∀k∈ks,vI m k):eG (.tuple (ks.map g6))=true:=by
 have:=oO h;simp only[eG,PyData.canLay0,this.1,PyData.depth,Se];exact Pw (by omega)
theorem Kg{β:Type}{xs:List β}{r:Nat}(h:r<=xs.length):i9 xs none (some (r:Int))=xs.take r:=by
 unfold i9;rw[HT.sIx_none,HT.sIx_nat];simp[Nat.min_eq_left h]
end Lw
namespace Lv
def Hx(ks:List (List Int))(a b:Int):Bool:=decide ([min a b,max a b]∈ks)
def rg(m:Nat):List Int:=(List.range m).map Int.ofNat
def gy(m:Nat)(ks:List (List Int))(p:Int):List Int:=(rg m).filter fun q=>decide (q=p) || Hx ks p q
theorem lj{m:Nat}{p:Int}:p∈rg m↔0<=p/\p<m:=by
 unfold rg;rw[Qr];constructor
 ·rintro ⟨i, hi, rfl⟩
  have:=NT.mp hi;exact⟨Int.natCast_nonneg _,by simpa using this⟩
 ·rintro ⟨h0, h1⟩
  exact⟨p.toNat,NT.mpr (by omega),by simp;omega⟩
theorem mP{m:Nat}:(rg m).length=m:=by simp[rg]
theorem GY{m:Nat}:(rg m).Pairwise (·<·):=by
 unfold rg;rw[Rk];exact List.pairwise_lt_range.imp fun h=>by simpa using h
structure NF(m k:Nat)(w:List Int):Prop where
 len:w.length=k+1
 nd:w.Nodup
 rng:∀p∈w,0<=p/\p<(m:Int)
end Lv
namespace Lw
open PySem L2 RS Lv
theorem cx{U:Type}{en:U->D}{src:oj}{g:MG}{t:MT}{e:ME}{μ1:aw}{q:U->Bool}{h:U->D}(R:Ro->Prop)(ho:∀a,cF src (μ1++[.lst a])) :
  ∀{us:List U}{acc:List D}{ρ:Ro},R ρ->acc.length+us.length<=sizeLine->(∀x∈us,∀a ρ,R ρ->∃ρ1,R ρ1/\g (en x) ρ (μ1++[.lst a])=.ok ρ1 (μ1++[.lst a])/\t ρ1 (μ1++[.lst a])=.ok (q x) (μ1++[.lst a])/\(q x=true->e ρ1 (μ1++[.lst a])=.ok (h x) (μ1++[.lst a]))) ->
   compLoop src μ1.length g t e (us.map en) ρ (μ1++[.lst acc])=.ok (.obj μ1.length) (μ1++[.lst (acc++(us.filter q).map h)])
 |[],acc,ρ,hr,hl,he=>by
  rw[Pd];unfold compLoop;rw[NL (ho acc)];simp
 |x::xs,acc,ρ,hr,hl,he=>by
  obtain⟨ρ1,r1,e1,e2,e3⟩:=he x NX acc ρ hr;rw[Pe];unfold compLoop;rw[NL (ho acc),e1];simp only[ae,aa];rw[e2];simp only[ae,aa];have he':=fun y hy=>he y (NY _ hy);simp only[PD]at hl;cases hq:q x with
  |false=>
   rw[NM Ou,cx R ho r1 (by omega) he',RR,hq];rfl
  |true=>
   rw[NL rfl,e3 hq];simp only[ae,aa];rw[l7 (by omega)];simp only[aa,ae];rw[cx R ho r1 (by simp;omega) he',RR,hq];simp
theorem jh{U:Type}{en:U->D}{src:oj}{g:MG}{t:MT}{fb:MB}{μ1:aw}{q:U->Bool}{k:U->List D}(R:Ro->Prop)(ho:∀a,cF src (μ1++[.lst a])) :
  ∀{us:List U}{acc:List D}{ρ:Ro},R ρ->acc.length+((us.filter q).flatMap k).length<=sizeLine->(∀x∈us,∀a ρ,R ρ->∃ρ1,g (en x) ρ (μ1++[.lst a])=.ok ρ1 (μ1++[.lst a])/\t ρ1 (μ1++[.lst a])=.ok (q x) (μ1++[.lst a])/\(q x=false->R ρ1)/\(q x=true->a.length+(k x).length<=sizeLine->∃ρ2,R ρ2/\fb μ1.length ρ1 (μ1++[.lst a])=.ok ρ2 (μ1++[.lst (a++k x)]))) ->
   ∃ρ',R ρ'/\iq src μ1.length g t fb (us.map en) ρ (μ1++[.lst acc])=.ok ρ' (μ1++[.lst (acc++(us.filter q).flatMap k)])
 |[],acc,ρ,hr,hl,he=>by
  refine⟨ρ,hr,?_⟩;rw[Pd];unfold iq;rw[NL (ho acc)];simp
 |x::xs,acc,ρ,hr,hl,he=>by
  obtain⟨ρ1,e1,e2,e4,e3⟩:=he x NX acc ρ hr;rw[Pe];unfold iq;rw[NL (ho acc),e1];simp only[ae,aa];rw[e2];simp only[ae,aa];have he':=fun y hy=>he y (NY _ hy);cases hq:q x with
  |false=>
   rw[RR,hq]at hl;rw[NM Ou,RR,hq];exact jh R ho (e4 hq) hl he'
  |true=>
   rw[RR,hq,NL rfl,Sh,ON]at hl;obtain⟨ρ2,r2,e5⟩:=e3 hq (by omega);rw[NL rfl,e5];simp only[ae,aa];obtain⟨ρ',r',e6⟩:=jh R ho r2 (acc:=acc++k x) (by rw[ON];omega) he';refine⟨ρ',r',?_⟩;rw[e6,RR,hq,NL rfl,Sh,Pp]
theorem cP{U:Type}:∀{us:List U},us.filter (fun _=>true)=us
 |[]=>rfl
 |_::us=>by rw[RR,NL rfl,cP]
theorem xg{e:ME}{ρ:Ro}{μ1:aw}{a:List D}{y:D}(h:e ρ (μ1++[.lst a])=.ok y (μ1++[.lst a]))(hl:a.length+1<=sizeLine):la e μ1.length ρ (μ1++[.lst a])=.ok ρ (μ1++[.lst (a++[y])]):=by
 unfold la;rw[h];simp only[ae,aa];rw[l7 (by omega)];rfl
def Ku:D->Bool
 |.int _=>true
 |_=>false
def BB(m:Nat):D->Bool
 |.int i=>decide (0<=i/\i<(m:Int))
 |_=>false
def Eo(μ:aw)(d:D):Prop:=z6 μ d≠none
theorem zF{μ:aw}{n:Nat}(h:Eo μ (.obj n)):(∃xs,μ[n]?=some (.lst xs))\/μ[n]?=some .dic:=by
 unfold Eo z6 at h;dsimp only at h;split at h
 ·rename_i xs e;exact .inl ⟨xs,e⟩
 ·rename_i e;exact .inr e
 ·exact absurd rfl h
theorem Gu {μ:aw}{d:D} (h:Eo μ d):∃b,gq "int" d μ=.ok (.bl b) μ/\(b=true->∃c,gq "bool" d μ=.ok (.bl c) μ/\(!c)=Ku d)/\(b=false->Ku d=false):=by
 cases d with
 |non=>exact⟨false,rfl,nofun,fun _=>rfl⟩
 |bl b=>exact⟨true,rfl,fun _=>⟨true,rfl,rfl⟩,nofun⟩
 |int i=>exact⟨true,rfl,fun _=>⟨false,rfl,rfl⟩,nofun⟩
 |str x=>exact⟨false,rfl,nofun,fun _=>rfl⟩
 |tup xs=>exact⟨false,rfl,nofun,fun _=>rfl⟩
 |frz xs=>exact⟨false,rfl,nofun,fun _=>rfl⟩
 |obj n=>
  refine⟨false,?_,nofun,fun _=>rfl⟩;unfold gq z6;rcases zF h with⟨xs,e⟩|e <;> simp only[e] <;> rfl
theorem Dd{μ:aw}{d:D}(h:Eo μ d):dS [d] μ=.ok (.bl (Ku d)) μ:=by
 obtain⟨b,h1,h2,h3⟩:=Gu h;unfold dS;rw[cN];simp only[kE,List.replicate,aU,gG,zR,iO,ah,aa,ae,h1,aZ];cases b with
 |false=>
  rw[NM Ou,af,aM,h3 rfl];exact bx (by simp)
 |true=>
  obtain⟨c,c1,c2⟩:=h2 rfl;rw[NL rfl,c1];simp only[aa,ae,aZ,af,aM,c2];exact bx (by simp)
theorem wx{μ:aw}{m:Nat}{d:D}(h:Eo μ d):dU [.int m,d] μ=.ok (.bl (BB m d)) μ:=by
 have hw:bu [d,.int 0,.int ((m:Int)-1)] μ=.ok (.bl (BB m d)) μ:=by
  unfold bu;rw[yd];simp only[f6,List.replicate,aU,gG,az,aq,au,ah,aj,aa,ae,Dd h,aZ,nK];cases d with
  |int i=>
   rw[show Ku (.int i)=true from rfl,NL rfl];simp only[dQ,aa,ae,aZ];by_cases c:f7 .LtE 0 i=true
   ·rw [NL c, af, aM]
    rw[show f7 .LtE i ((m:Int)-1)=BB m (.int i) from by
     have c':(0:Int)<=i:=Sg c;show decide (i<=(m:Int)-1)=decide (0<=i/\i<(m:Int))
     exact Rf.mpr ⟨fun z=>⟨c',by omega⟩,fun z=>by omega⟩]
    exact bx (by simp)
   ·rw [NM c, af, aM]
    rw[show BB m (.int i)=false from by
     have c':¬ (0:Int)<=i:=fun z=>c (Pw z)
     exact NI (fun z=>c' z.1)]
    exact bx (by simp)
  |_=>
   rw[show Ku _=false from rfl,NM Ou,af,aM];exact bx (by simp)
 unfold dU;rw[cn];simp only[nc,List.replicate,aU,az,aq,au,ah,aj,bt,aK,aa,ae];rw[show pT (.int m) (.int 1) μ=.ok (.int ((m:Int)-1)) μ from rfl];simp only[aa,ae,hw,af,aM];exact bx (by simp)
theorem DN{μ g:aw}{d:D}(h:Eo μ d):Eo (μ++g) d:=by
 cases d with
 |obj n=>
  unfold Eo z6;rcases zF h with⟨xs,e⟩|e <;> simp only[aF e] <;> exact nofun
 |_=>exact h
theorem Cp:100000<=sizeLine:=by decide
theorem yt{μ:aw}{m:Nat}{xs:List D}(h:∀x∈xs,Eo μ x)(hl:xs.length<=1000):cG [.int m,.tup xs] μ=.ok (.bl (xs.all (BB m))) μ:=by
 have c:=cx (U:=D) (en:=fun x=>x) (src:=.fix xs) (g:=ao 0) (t:=bA) (e:=il) (μ1:=μ) (q:=fun _=>true) (h:=fun x=>.bl (BB m x)) (fun ρ=>∃o,ρ=[o,some (.int m)]) (fun _=>trivial) (us:=xs) (acc:=[]) (ρ:=[none,some (.int m)]) ⟨_,rfl⟩
  (by rw[Ql];exact NU (by omega) bz)
  (fun x hx a ρ hJJ => by
   obtain⟨o,e⟩:=hJJ;subst e;refine⟨[some x,some (.int m)],⟨_,rfl⟩,rfl,rfl,fun _=>?_⟩;unfold il
   simp only[az,aq,au,aj,ah,aa,ae,wx (DN (h x hx))])
 rw[List.map_id',Pv,cP]at c;unfold cG;rw[cn];simp only[lG,List.replicate,aU,gG,iO,aj,ah,aa,ae];rw[show gq "tuple" (.tup xs) μ=.ok (.bl true) μ from rfl];simp only[aa,ae,aZ,OX,az,aq,au,bT,bL,aj,ah,iT,aS];rw[show eR [none,some 0] _=[none,some (.int m)] from rfl,c];simp only[aa,ae];rw[iU (bs:=xs.map (BB m)) (by rw[aA,Qi];rfl)];simp only[af,ae,aM];rw[show (xs.map (BB m)).all id=xs.all (BB m) from by rw[RM];rfl];exact cA (by simp)
theorem D7{μ:aw}{m:Int}{ks:List (List Int)}{a b:Int}(hk:∀k∈ks,vI m k):qy false (.tup [.int a,.int b]) (.tup (ks.map bf)) μ=.ok (.bl (decide ([a,b]∈ks))) μ:=by
 have e1:mI μ (.tup [.int a,.int b])=some (.tuple [.int a,.int b]):=rfl
 have e2:mI μ (.tup (ks.map bf))=some (.tuple (ks.map g6)):=by
  simp only[mI,tQ hk,Option.map_some]
 unfold qy;rw[e1,e2];dsimp only[uG];rw[NL ⟨rfl,AR hk⟩];simp only[PB,OW];congr 2;rw[List.any_map];apply Ot.mpr;rw[Sf,RI];constructor
 ·rintro ⟨k, hk', e⟩
  obtain⟨u,v,rfl,_⟩:=hk k hk';have:u=a/\v=b:=by simpa[g6,PyData.eqv,PyData.eqvAll] using e
  rw[<- this.1,<- this.2];exact hk'
 ·intro h;exact⟨_,h,by simp[g6,PyData.eqv,PyData.eqvAll]⟩
theorem LH{μ:aw}{a b:Int}:vN [.int a,.int b] μ=.ok (.int (min a b)) μ:=by
 show ai.ok (D.int (if b<a then b else a)) μ=_;congr 2;split <;> omega
theorem LI{μ:aw}{a b:Int}:uC [.int a,.int b] μ=.ok (.int (max a b)) μ:=by
 show ai.ok (D.int (if b>a then b else a)) μ=_;congr 2;split <;> omega
abbrev cm(w:List Int):D:=.tup (w.map D.int)
theorem h7:∀(l acc:List Int),acc.Nodup->(l.foldl (fun acc k=>if k∈acc then acc else acc++[k]) acc).Nodup/\∀x,x∈l.foldl (fun acc k=>if k∈acc then acc else acc++[k]) acc↔x∈acc\/x∈l
 |[],acc,h=>⟨h,fun x=>by simp⟩
 |y::l,acc,h=>by
  rw[Pq];by_cases c:y∈acc
  ·rw [NL c];have ih:=h7 l acc h;refine⟨ih.1,fun x=>?_⟩;rw[ih.2 x,NZ];constructor
   ·rintro (z | z)
    ·exact .inl z
    ·exact .inr (.inr z)
   ·rintro (z | rfl | z)
    ·exact .inl z
    ·exact .inl c
    ·exact .inr z
  ·rw[NM c];have ih:=h7 l (acc++[y]) (by rw[QU];exact⟨h,by simp,fun a ha b hb=>by simp at hb;subst hb;exact fun e=>c (e ▸ ha)⟩);refine⟨ih.1,fun x=>?_⟩;rw[ih.2 x,NZ,N1,PX,or_assoc]
theorem AC{m:Nat}{ks:List (List Int)}{p:Int}{ns:List Int}(h:∀q,q∈ns↔q∈gy m ks p):gA (di ns)=gy m ks p:=by
 have d:=h7 ns [] QH;have up:(gy m ks p).Pairwise (·<·):=GY.filter _;refine(nF ?_ (up.imp fun {a b} h=>Int.le_of_lt h)).symm;refine(QL (up.imp fun {a b} h=>by omega) d.1).mpr fun q=>?_;rw[d.2 q,<- h q];simp
theorem wm{m:Int}{ks:List (List Int)}(hk:∀k∈ks,vI m k){p q:Int}:Hx ks p q=true↔[p,q]∈ks\/[q,p]∈ks:=by
 unfold Hx;rw[RI]
 have asc:∀{a b:Int},[a,b]∈ks->a<b:=fun h=>by
  obtain⟨u,v,e,_,h2,_⟩:=hk _ h;simp at e;rw[e.1,e.2];exact h2
 constructor
 ·intro h;have:=asc h;by_cases c:p<=q
  ·left;rw[Si c,Sj c]at h;exact h
  ·right;rw[Int.min_eq_right (by omega),Int.max_eq_left (by omega)]at h;exact h
 ·rintro (h | h)
  ·have:=asc h;rw[Si (by omega),Sj (by omega)];exact h
  ·have:=asc h;rw[Int.min_eq_right (by omega),Int.max_eq_left (by omega)];exact h
theorem rq:∀{ns:List Int},kL (ns.map D.int)=some ns
 |[]=>rfl
 |n::ns=>by simp[kL,rq (ns:=ns)]
theorem zM{ns:List Int}(h:∀n∈ns,0<=n/\n<6):BL (ns.map D.int)=some ns:=by
 unfold BL;rw[rq];dsimp only;rw[NL (QN.mpr fun n hn=>Pw (h n hn))]
theorem CK{n:Nat}{w:List Int}:(cm w).low n:=by simp only[nA];exact iy.mpr fun x hx=>by obtain⟨k,_,rfl⟩:=Qr.mp hx;simp
theorem zf{μ:aw}{neg:Bool}{w:List Int}{a:Int}:qy neg (.int a) (cm w) μ=.ok (.bl (if neg then !decide (a∈w) else decide (a∈w))) μ:=by
 have e2:mI μ (cm w)=some (.tuple (w.map PyData.int)):=by
  simp only[mI,nI,Option.map_some]
 have f2:eG (.tuple (w.map PyData.int))=true:=by
  have:=lx w;simp only[eG,PyData.canLay0,this.1,PyData.depth,this.2,Se];rfl
 unfold qy;rw[show mI μ (.int a)=some (.int a) from rfl,e2];dsimp only[uG];rw[NL ⟨rfl,f2⟩]
 have:(w.map PyData.int).any (fun y=>PyData.eqv y (.int a))=decide (a∈w):=by
  rw[List.any_map];apply Ot.mpr;rw[Sf,RI];constructor
  ·rintro ⟨x, hx, e⟩
   have:x=a:=by simpa[PyData.eqv] using e
   subst this;exact hx
  ·intro hx;exact⟨a,hx,by simp[PyData.eqv]⟩
 rw[this]
theorem uF{m:Nat}:cu 0 ((m:Int)).toNat=(rg m).map D.int:=by
 unfold cu rg;rw[Qi];simp
end Lw
namespace Lw
open PySem L2 RS Lv
section
variable{μ0:aw}{m A:Nat}{p:Int}{ks:List (List Int)}{w:D}
end
end Lw
namespace Lw
open PySem L2 RS Lv
theorem Aq{μ:aw}{k:Int}(h0:1<=k)(h1:k<=6):bu [.int k,.int 1,.int 6] μ=.ok (.bl true) μ:=by
 have w:dS [.int k] μ=.ok (.bl true) μ:=by
  unfold dS;rw[cN];have e1:gq "int" (.int k) μ=.ok (.bl true) μ:=rfl;have e2:gq "bool" (.int k) μ=.ok (.bl false) μ:=rfl;simp only[kE,aU,gG,iO,zR,ah,aa,ae,e1,e2,aZ,OX,QX,af,aM];exact bx (by simp)
 unfold bu;rw[yd];simp only[f6,aU,gG,az,aq,au,aj,ah,aa,ae,w,aZ,OX,nK,dQ];rw[show f7 .LtE 1 k=true from Pw h0,show f7 .LtE k 6=true from Pw h1];simp only[aZ,aa,ae,OX,af,aM];exact bx (by simp)
end Lw
namespace Lv
section
variable{adj adj':Int->Int->Prop}{D:Int->Prop}{p:Int}
theorem R.add{q:Int}{n:Nat}(h:R adj p n q):∀{k:Nat}{r:Int},R adj q k r->R adj p (n+k) r
 |0,r,e=>by have:r=q:=e;subst this;exact h
 |k+1,r,e=>by
  rcases e with e|⟨t,e1,e2⟩
  ·exact .inl (R.add h e)
  ·exact .inr ⟨t,e1,R.add h e2⟩
theorem u9{n:Nat}:∀{k:Nat}{q:Int},R adj p (n+k) q->∃r,R adj p n r/\R adj r k q
 |0,q,h=>⟨q,h,rfl⟩
 |k+1,q,h=>by
  rcases h with h|⟨t,h1,h2⟩
  ·obtain⟨r,a,b⟩:=u9 (k:=k) h;exact⟨r,a,.inl b⟩
  ·obtain⟨r,a,b⟩:=u9 (k:=k) h2;exact⟨r,a,.inr ⟨t,h1,b⟩⟩
theorem R.one{a b:Int}(h:adj a b):R adj a 1 b:=.inr ⟨a,h,rfl⟩
theorem R.rev(hs:∀a b,adj a b->adj b a):∀{n:Nat}{q:Int},R adj p n q->R adj q n p
 |0,q,h=>by have:q=p:=h;exact this.symm
 |n+1,q,h=>by
  rcases h with h|⟨r,h1,h2⟩
  ·exact .inl (R.rev hs h)
  ·have:=R.add (R.one (hs _ _ h1)) (R.rev hs h2);rw[Nat.add_comm]at this;exact this
end
end Lv
namespace Lw
open PySem L2 RS Lv
theorem Cg:∀{xs ys:List (List Int)},xs.Pairwise (fun a b=>sE a<sE b)->ys.Pairwise (fun a b=>sE a<sE b)->(∀k,k∈xs↔k∈ys)->xs=ys
 |[],ys,_,_,h=>by
  cases ys with
  |nil=>rfl
  |cons y ys=>exact absurd ((h y).mpr NX) Qc
 |x::xs,[],_,_,h=>absurd ((h x).mp NX) Qc
 |x::xs,y::ys,hx,hy,h=>by
  obtain⟨x1,x2⟩:=Qx.mp hx;obtain⟨y1,y2⟩:=Qx.mp hy
  have e:x=y:=by
   rcases NZ.mp ((h x).mp NX) with z|z
   ·exact z
   ·rcases NZ.mp ((h y).mpr NX) with u | u
    ·exact u.symm
    ·have:=y1 x z;have:=x1 y u;omega
  subst e;congr 1;refine Cg x2 y2 fun k=>?_;constructor
  ·intro hk;rcases NZ.mp ((h k).mp (NY _ hk)) with z|z
   ·subst z;have:=x1 k hk;omega
   ·exact z
  ·intro hk;rcases NZ.mp ((h k).mpr (NY _ hk)) with z|z
   ·subst z;have:=y1 k hk;omega
   ·exact z
theorem w8{d d':D}{m m':Int}{ks ks':List (List Int)}(h:ny d m ks)(h':ny d' m' ks')(e:∀a b:Int,[a,b]∈ks↔[a,b]∈ks'):ks=ks':=by
 refine Cg h.2.2.2.1 h'.2.2.2.1 fun k=>?_;constructor
 ·intro hk;obtain⟨a,b,rfl,_⟩:=h.2.2.2.2 k hk;exact(e a b).mp hk
 ·intro hk;obtain⟨a,b,rfl,_⟩:=h'.2.2.2.2 k hk;exact(e a b).mpr hk
abbrev cz(m:Nat)(ks:List (List Int)):D:=.tup [.int m,.tup (ks.map bf)]
abbrev GW(m:Nat)(ks:List (List Int)):Prop:=ny (cz m ks) m ks
open Classical in
def y6(m:Nat)(ks:List (List Int))(k:Nat):List (List Int):=prs.filter fun x=>decide (x.getD 1 0<(m:Int)/\R (vF ks) (x.getD 0 0) k (x.getD 1 0))
open Classical in
theorem Cn{m k:Nat}{ks:List (List Int)}{a b:Int}(hm:m<=6):[a,b]∈y6 m ks k↔(0<=a/\a<b/\b<(m:Int)/\R (vF ks) a k b):=by
 unfold y6;rw[NS,decide_eq_true_iff];constructor
 ·rintro ⟨h1, h2, h3⟩
  obtain⟨c,d,e,g1,g2,g3⟩:=gn h1;injection e with e1 e2
  injection e2 with e2 _
  subst e1 e2;exact⟨g1,g2,h2,h3⟩
 ·rintro ⟨h1, h2, h3, h4⟩
  exact⟨uT h1 h2 (by omega),h3,h4⟩
theorem uQ{m k:Nat}{ks:List (List Int)}(h0:1<=m)(hm:m<=6):GW m (y6 m ks k):=by
 refine⟨rfl,by omega,by omega,mV.filter _,fun x hx=>?_⟩;obtain⟨a,b,rfl,g1,g2,g3⟩:=gn (NS.mp hx).1;obtain⟨h1,h2,h3,_⟩:=(Cn hm).mp hx;exact⟨a,b,rfl,h1,h2,h3⟩
end Lw
namespace Lw
open PySem L2 RS Lv
section
variable{m:Nat}{ks:List (List Int)}
theorem GW.m0(h:GW m ks):1<=m:=by have:=h.2.1;omega
theorem GW.m6(h:GW m ks):m<=6:=by have:=h.2.2.1;omega
theorem HJ(h:GW m ks){a b:Int}(e:vF ks a b):vF ks b a:=(gH h.2.2.2.2).mpr ((gH h.2.2.2.2).mp e).symm
theorem HK(h:GW m ks){a b:Int}(e:vF ks a b):(0<=a/\a<(m:Int))/\(0<=b/\b<(m:Int)):=GD h.2.2.2.2 e
end
end Lw
namespace Lw
open PySem L2 RS Lv
theorem Fg{μ:aw}{m:Nat}(h0:1<=m)(h1:m<=6):eB [.int m] μ=.ok (.bl true) μ:=by
 unfold eB;rw[cN];simp only[o7,List.replicate,aU,az,aq,au,ah,bt,aa,ae,Aq (show (1:Int)<=(m:Int) by omega) (show (m:Int)<=6 by omega),af,aM];exact bx (by simp)
theorem Ff{μ:aw}{m:Nat}{a b:Int}(ha:0<=a/\a<(m:Int))(hb:0<=b/\b<(m:Int))(hn:a≠b):i4 [.int m,.tup [.int a,.int b]] μ=.ok (.bl true) μ:=by
 have h1:cG [.int m,.tup [.int a,.int b]] μ=.ok (.bl true) μ:=by
  rw[yt (fun x hx=>by simp only[NZ,Qc,Qd]at hx;rcases hx with rfl|rfl <;> exact nofun) (by simp)];congr 2;simp only[Pj,List.all_nil,Bool.and_true,BB,Pb,RI];exact⟨ha,hb⟩
 have h2:kW true (.int a) (.int b) μ=.ok (.bl true) μ:=by
  show ai.ok (D.bl (!(a == b))) μ=_;rw[NJ.mpr hn];rfl
 have i0:gY (.tup [.int a,.int b]) (.int 0) μ=.ok (.int a) μ:=rfl;have i1:gY (.tup [.int a,.int b]) (.int 1) μ=.ok (.int b) μ:=rfl;have l2:kW false (.int (([.int a,.int b]:List D).length:Int)) (.int 2) μ=.ok (.bl true) μ:=rfl;unfold i4;rw[cn];simp only[um,List.replicate,aU,gG,az,aq,au,ah,aj,bt,aa,ae,h1,aZ,OX,aK,dm,l2,i0,i1,h2,af,aM];exact bx (by simp)
mutual
def Kn(μ:aw):D->Prop
 |.tup xs=>xs.length<1000/\Kns μ xs
 |.obj n=>∃tn,z6 μ (.obj n)=some tn/\tn ≠ "int" /\ tn ≠ "bool" /\ tn ≠ "tuple"
 |_=>True
def Kns(μ:aw):List D->Prop
 |[]=>True
 |x::xs=>Kn μ x/\Kns μ xs
end
theorem lV{μ:aw}:∀{xs:List D},Kns μ xs↔∀x∈xs,Kn μ x
 |[]=>by simp[Kns]
 |x::xs=>by simp[Kns,lV (xs:=xs)]
theorem EZ{μ g:aw}{n:Nat}{tn:String}(h:z6 μ (.obj n)=some tn):z6 (μ++g) (.obj n)=some tn:=by
 unfold z6 at h⊢;dsimp only at h⊢;cases e:μ[n]? with
 |none=>rw[e]at h;cases h
 |some o=>rw[OJ (N3.mp e).1,e];rw[e]at h;exact h
mutual
theorem qm{μ:aw}(g:aw):∀{d:D},Kn μ d->Kn (μ++g) d
 |.non,_=>by simp[Kn]
 |.bl _,_=>by simp[Kn]
 |.int _,_=>by simp[Kn]
 |.str _,_=>by simp[Kn]
 |.frz _,_=>by simp[Kn]
 |.obj n,h=>by
  simp only[Kn]at h⊢;obtain⟨tn,h1,h2⟩:=h;exact⟨tn,EZ h1,h2⟩
 |.tup xs,h=>by
  simp only[Kn]at h⊢;exact⟨h.1,kns_more g h.2⟩
theorem kns_more{μ:aw}(g:aw):∀{xs:List D},Kns μ xs->Kns (μ++g) xs
 |[],_=>by simp[Kns]
 |x::xs,h=>by
  simp only[Kns]at h⊢;exact⟨qm g h.1,kns_more g h.2⟩
end
def isInt:D->Bool
 |.int _=>true
 |_=>false
def jd:D->Bool
 |.tup _=>true
 |_=>false
def d3(a b:Int):D->Bool
 |.int i=>decide (a<=i)&&decide (i<=b)
 |_=>false
theorem A8 {μ:aw}{d:D} (h:Kn μ d):∃b,gq "int" d μ=.ok (.bl b) μ/\(b=true↔(isInt d=true\/∃c,d=.bl c)):=by
 cases d with
 |obj n=>
  simp only[Kn]at h;obtain⟨tn,h1,h2,h3,h4⟩:=h;refine⟨_,by unfold gq;rw[h1],?_⟩;simp[kX,isInt,h2,h3]
 |non=>exact⟨_,rfl,by simp[kX,isInt]⟩
 |bl b=>exact⟨_,rfl,by simp[kX,isInt]⟩
 |int b=>exact⟨_,rfl,by simp[kX,isInt]⟩
 |str b=>exact⟨_,rfl,by simp[kX,isInt]⟩
 |tup b=>exact⟨_,rfl,by simp[kX,isInt]⟩
 |frz b=>exact⟨_,rfl,by simp[kX,isInt]⟩
theorem D5 {μ:aw}{d:D} (h:Kn μ d):∃b,gq "bool" d μ=.ok (.bl b) μ/\(b=true↔∃c,d=.bl c):=by
 cases d with
 |obj n=>
  simp only[Kn]at h;obtain⟨tn,h1,h2,h3,h4⟩:=h;refine⟨_,by unfold gq;rw[h1],?_⟩;simp[kX,h2,h3]
 |non=>exact⟨_,rfl,by simp[kX]⟩
 |bl b=>exact⟨_,rfl,by simp[kX]⟩
 |int b=>exact⟨_,rfl,by simp[kX]⟩
 |str b=>exact⟨_,rfl,by simp[kX]⟩
 |tup b=>exact⟨_,rfl,by simp[kX]⟩
 |frz b=>exact⟨_,rfl,by simp[kX]⟩
theorem l9 {μ:aw}{d:D} (h:Kn μ d):gq "tuple" d μ=.ok (.bl (jd d)) μ:=by
 cases d with
 |obj n=>
  simp only[Kn]at h;obtain⟨tn,h1,h2,h3,h4⟩:=h;unfold gq;rw[h1];simp[kX,jd,h4]
 |non=>rfl
 |bl b=>rfl
 |int b=>rfl
 |str b=>rfl
 |tup b=>rfl
 |frz b=>rfl
theorem rM{μ:aw}{d:D}(h:Kn μ d):dS [d] μ=.ok (.bl (isInt d)) μ:=by
 obtain⟨b1,e1,f1⟩:=A8 h;obtain⟨b2,e2,f2⟩:=D5 h;unfold dS;rw[cN]
 have:(b1 && !b2)=isInt d:=by
  cases d <;> simp[isInt]at f1 f2⊢ <;> simp[f1,f2]
 simp[kE,e1,e2];cases b1 <;> cases b2 <;> simp at this⊢ <;> rw[<- this] <;> exact bx (by simp)
theorem oJ{μ:aw}{d:D}(h:Kn μ d):bZ [d] μ=.ok (.bl (isInt d)) μ:=rM h
theorem wq{μ:aw}{d:D}{a b:Int}(h:Kn μ d):bu [d,.int a,.int b] μ=.ok (.bl (d3 a b d)) μ:=by
 unfold bu;rw[yd];simp[f6,rM h]
 cases d <;> simp[isInt,d3] <;> first
  |exact bx (by simp)
  |skip
 simp[f7];split <;> (rename_i hc;simp[hc];exact bx (by simp))
theorem yu{μ:aw}{d:D}{m:Int}(h:Kn μ d):dU [.int m,d] μ=.ok (.bl (d3 0 (m-1) d)) μ:=by
 unfold dU;rw[cn];simp[nc,wq h];exact bx (by simp)
theorem Az{μ:aw}{d:D}(h:Kn μ d):eB [d] μ=.ok (.bl (d3 1 6 d)) μ:=by
 unfold eB;rw[cN];simp[o7,wq h];exact bx (by simp)
def sF(m:Int):D->Bool
 |.tup xs=>xs.all (d3 0 (m-1))
 |_=>false
theorem rC{μ:aw}{xs:List D}{h:D->Bool}{e:ME}{c:D}(hl:xs.length<=sizeLine)(he:∀x∈xs,∀a,e [some x,some c] (μ++[.lst a])=.ok (.bl (h x)) (μ++[.lst a])) :
  compLoop (.fix xs) μ.length (ao 0) bA e xs [none,some c] (μ++[.lst []])=.ok (.obj μ.length) (μ++[.lst ((xs.map h).map D.bl)]):=by
 have:=jW (src:=.fix xs) (g:=ao 0) (t:=bA) (e:=e) (μ1:=μ) (q:=fun _=>true) (h:=fun x=>D.bl (h x)) (fun ρ=>∃o,ρ=[o,some c]) (fun _=>trivial) (xs:=xs) (acc:=[]) (ρ:=[none,some c]) ⟨none,rfl⟩ (by simpa using hl)
  (fun x hx a ρ ⟨o,ho⟩=>⟨[some x,some c],⟨_,rfl⟩,by subst ho;rfl,rfl,fun _=>he x hx a⟩)
 rw[this,List.filter_eq_self.mpr (fun _ _=>rfl)];simp[Qi,Sk]
theorem Dk:1000<=sizeLine:=by decide
theorem Ay{μ:aw}{d:D}{m:Int}(h:Kn μ d):cG [.int m,d] μ=.ok (.bl (sF m d)) μ:=by
 unfold cG;rw[cn];simp[lG,l9 h];cases d with
 |tup xs=>
  simp only[jd,OX,sF];simp;simp only[Kn]at h;rw[rC (h:=d3 0 (m-1)) (NU (NV h.1) Dk) fun x hx a=>?_]
  ·simp;rw[iU (bs:=xs.map (d3 0 (m-1))) (by simp)];simp[RM,Sk];exact cA (by simp)
  ·simp[il];exact yu (qm _ (lV.mp h.2 x hx))
 |non=>simp[jd,sF];exact bx (by simp)
 |bl b=>simp[jd,sF];exact bx (by simp)
 |int b=>simp[jd,sF];exact bx (by simp)
 |str b=>simp[jd,sF];exact bx (by simp)
 |frz b=>simp[jd,sF];exact bx (by simp)
 |obj b=>simp[jd,sF];exact bx (by simp)
theorem DC{m:Int}{xs:List D}(h:sF m (.tup xs)=true):∃ns:List Int,xs=ns.map D.int/\∀n∈ns,0<=n/\n<=m-1:=by
 simp only[sF]at h
 induction xs with
 |nil=>exact⟨[],rfl,by simp⟩
 |cons x r ih=>
  rw[Pj,Pb]at h;obtain⟨ns,e,f⟩:=ih h.2;cases x with
  |int i=>
   simp[d3]at h;exact⟨i::ns,by rw[e];rfl,fun n hn=>(NZ.mp hn).elim (fun z=>by rw[z];exact h.1) (f n)⟩
  |non=>simp[d3]at h
  |bl b=>simp[d3]at h
  |str b=>simp[d3]at h
  |tup b=>simp[d3]at h
  |frz b=>simp[d3]at h
  |obj b=>simp[d3]at h
def mm(p:Int×Int):List Int:=[min p.1 p.2,max p.1 p.2]
def PP(m:Nat)(p:Int×Int):Prop:=(0<=p.1/\p.1<(m:Int))/\(0<=p.2/\p.2<(m:Int))/\p.1≠p.2
theorem PP.ok{m:Nat}{p:Int×Int}(h:PP m p):vI m (mm p):=⟨_,_,rfl,by have:=h.1;have:=h.2.1;omega,by have:=h.2.2;omega,by have:=h.1;have:=h.2.1;omega⟩
theorem qZ{m:Nat}{ps:List (Int×Int)}{a b:Int}(hm:m<=6)(hps:∀p∈ps,PP m p):[a,b]∈bJ (ps.map mm)↔∃p∈ps,mm p=[a,b]:=by
 unfold bJ;rw[NS,RI,Qr];exact⟨fun h=>h.2,fun h=>⟨by obtain⟨p,hp,e⟩:=h;rw[<- e];exact(hps p hp).ok.prs (by omega),h⟩⟩
theorem fk{m:Nat}{ps:List (Int×Int)}(h0:1<=m)(hm:m<=6)(hps:∀p∈ps,PP m p):GW m (bJ (ps.map mm)):=pG (by omega) (by omega) fun k hk=>by obtain⟨p,hp,rfl⟩:=Qr.mp hk;exact(hps p hp).ok
theorem jU{μ:aw}{m t:Nat}{ps:List (Int×Int)}(h0:1<=m)(hm:m<=6)(hl:ps.length<=100000)(ht:μ[t]?=some (.lst (ps.map d9)))(hps:∀p∈ps,PP m p):bg [.int m,.obj t] μ=.ok (cz m (bJ (ps.map mm))) μ:=by
 have c:=cx (U:=Int×Int) (en:=d9) (src:=.own t (ps.map d9)) (g:=g7 2 (bC (ao 0) (bC (ao 1) (g8)))) (t:=bA) (e:=iM) (μ1:=μ) (q:=fun _=>true) (h:=fun p=>bf (mm p)) (fun ρ=>∃o o',ρ=[o,o']) (fun _=>aF ht) (us:=ps) (acc:=[]) (ρ:=[none,none]) ⟨_,_,rfl⟩
  (by rw[Ql];exact NU (by omega) Cp)
  (fun p hp a ρ hJJ => by
   obtain⟨o,o',e⟩:=hJJ;subst e;refine⟨[some (.int p.1),some (.int p.2)],⟨_,_,rfl⟩,rfl,rfl,fun _=>?_⟩;unfold iM;simp only[dO,az,aq,au,ah,aj,aa,ae,LH,LI,PD,Ql,NL l2]
   rfl)
 rw[cP,Pv,show ps.map (fun p=>bf (mm p))=(ps.map mm).map bf from by rw[Qi];rfl]at c
 have hk:∀k∈ps.map mm,k∈prs:=fun k hk=>by
  obtain⟨p,hp,rfl⟩:=Qr.mp hk;exact(hps p hp).ok.prs (by omega)
 let M1:aw:=μ++[O.lst ((ps.map mm).map bf)]
 have s1:nt [.obj μ.length] M1=.ok (.obj M1.length) (M1++[.set (gD (ps.map mm))]):=by
  unfold nt;dsimp only;rw[show M1[μ.length]?=some (.lst ((ps.map mm).map bf)) from aA];dsimp only;unfold qI;rw[wX hk]
 have s2:ck [.obj M1.length] (M1++[.set (gD (ps.map mm))])=.ok (.obj (M1++[O.set (gD (ps.map mm))]).length) ((M1++[.set (gD (ps.map mm))])++[.lst ((bJ (ps.map mm)).map bf)]):=by
  unfold ck;dsimp only;rw[aA];dsimp only;rw[pH]
 unfold bg;rw[cn];simp only[mF,List.replicate,aU,dO,aq,au,az,aj,ah,aa,ae,bT,bL];rw[kh ht];simp only[aa,ae,hU];rw[show eR [none,none] _=[none,none] from rfl,c];simp only[aa,ae];rw[show nt [.obj μ.length] (μ++[O.lst ((ps.map mm).map bf)])=_ from s1];simp only[aa,ae];rw[s2];simp only[aa,ae];rw[iS aA];simp only[aa,ae,PD,Ql,NL l2,af,aM,M1,Pp];exact cA (d4 (fk h0 hm hps))
theorem Kc{μ0 μ1:aw}{i:Nat}{m q:Nat}{sh:Int}(hi:i<μ0.length)(h:Pn μ0 i μ1)(hq:q<m)(m6:m<=6)(s0:0<sh)(s1:sh<1000) :
  ∃(qs:List (Int×Int))(μ2:aw),(∀p∈qs,PP m p)/\qs.length<=q/\Pn μ0 i μ2/\μ2.length=μ1.length/\(∀j o,i≠j->μ1[j]?=some o->μ2[j]?=some o)/\compLoop (.fix (cu 0 q)) μ1.length (ao 0) dY dZ (cu 0 q) [none,some (.int q),some (.obj i),some (.int sh)] (μ1++[.lst []])=.ok (.obj μ1.length) (μ2++[.lst (qs.map d9)]):=by
 have run:=jP (src:=.fix (cu 0 q)) (g:=ao 0) (t:=dY) (e:=dZ) (n:=μ1.length)
  (fun xs ys ρ μ2 s=>s=[]/\μ2.length=μ1.length/\Pn μ0 i μ2/\(∀j o,i≠j->μ1[j]?=some o->μ2[j]?=some o)/\(∃o,ρ=[o,some (.int q),some (.obj i),some (.int sh)])/\∃(lo n:Nat)(qs:List (Int×Int)),xs=cu lo n/\lo+n=q/\ys=qs.map d9/\qs.length<=lo/\(∀p∈qs,PP m p))
  (fun ys ρ μ2 s ⟨_,e1,_⟩=>⟨e1,trivial⟩)
  (fun x r ys ρ μ2 s hJJ => by
   obtain⟨es,e1,e2,ek,⟨o,e4⟩,lo,n,qs,e5,e7,e8,e9,e10⟩:=hJJ;subst es e4 e8;cases n with
   |zero=>rw[tM]at e5;cases e5
   |succ n=>
    rw[oM]at e5;injection e5 with ex er
    subst ex er;have i2:i<μ2.length:=NP hi e2.len;obtain⟨v,a,b,c,v0,v1,ed,hp⟩:=(e2.app (g:=[.lst (qs.map d9)])).draw (m:=sh) hi s0 (by omega);rw[zy i2]at ed;refine⟨e1,trivial,[some (.int lo),some (.int q),some (.obj i),some (.int sh)],μ2,[],v == 0,μ2.set i (cv a b c),[],rfl,?_,fun hc=>?_,fun hc=>?_⟩
    ·unfold dY;simp only[dz,aK,az,aq,au,aj,ah,bt,aa,ae,ed,jJ,PB,OW,aZ]
    ·refine ⟨d9 ((lo : Int), (q : Int)), μ2.set i (cv a b c), [], ?_, ?_, by simpa using e1, rfl, by simpa using e1, e2.set hi, fun j o ne z => by rw [N6 ne]; exact ek j o ne z, ⟨_, rfl⟩, lo + 1, n, qs ++ [((lo : Int), (q : Int))], by push_cast; rfl, by omega, by simp, by simp; omega, fun p hp => ?_⟩
     ·unfold dZ;simp only[dO,aq,au,aj,ah,aa,ae,PD,Ql,NL l2];rfl
     ·rw[OO];exact NP (show qs.length<1000 by omega) bz
     ·rcases N1.mp hp with z | z
      ·exact e10 p z
      ·simp at z;subst z;exact⟨⟨by dsimp only;omega,by dsimp only;omega⟩,⟨by dsimp only;omega,by dsimp only;omega⟩,by dsimp only;omega⟩
    ·exact⟨rfl,by simpa using e1,e2.set hi,fun j o ne z=>by rw[N6 ne];exact ek j o ne z,⟨_,rfl⟩,lo+1,n,qs,by push_cast;rfl,by omega,rfl,by omega,e10⟩)
  (xs:=cu 0 q) (ys:=[]) (ρ:=[none,some (.int q),some (.obj i),some (.int sh)]) (μ1:=μ1) (s:=[])
  ⟨rfl,rfl,h,fun _ _ _ z=>z,⟨_,rfl⟩,0,q,[],rfl,by omega,rfl,by simp,fun p hp=>by cases hp⟩
 obtain⟨ys',ρ',μ2,s',⟨es,e1,e2,ek,⟨o,e4⟩,lo,n,qs,e5,e7,e8,e9,e10⟩,run⟩:=run;subst es e8;exact⟨qs,μ2,e10,by omega,e2,e1,ek,run⟩
theorem Pn.put{μ0 M:aw}{i t:Nat}{o:O}(h:Pn μ0 i M)(ht:μ0.length<=t):Pn μ0 i (M.set t o):=by
 obtain⟨a,b,c,g,rfl⟩:=h;refine⟨a,b,c,g.set (t-μ0.length) o,?_⟩;rw[List.set_append_right _ _ (by simpa using ht)];simp
theorem Gz{M:aw}{t u:Nat}{xs ys:List D}(ht:M[t]?=some (.lst xs))(hu:M[u]?=some (.lst ys))(hl:xs.length+ys.length<=1000):fV (.obj t) [.obj u] M=.ok .non (M.set t (.lst (xs++ys))):=by
 unfold fV;dsimp only;rw[ht,hu];dsimp only;rw[NL (NU hl bz)]
theorem mQ{M:aw}{t:Nat}{xs:List D}(h:M[t]?=some (.lst xs)):z9 (.obj t) M=true:=by
 unfold z9;dsimp only;rw[h]
theorem Dh{μ:aw}{i:Nat}{a b c:Int}(hp:μ[i]?=some (cv a b c)):∃m ks a' b' c',GW m ks/\cI [.obj i,.int 6] μ=.ok (cz m ks) (μ.set i (cv a' b' c')):=by
 have hi:i<μ.length:=(N3.mp hp).1;obtain⟨v,a1,b1,c1,v0,v1,ed,P1⟩:=(Pn.self hp).draw (m:=6) hi (by decide) (by decide);obtain⟨m,em⟩:∃m:Nat,(1:Int)+v=(m:Int):=⟨(1+v).toNat,by omega⟩;obtain⟨s,a2,b2,c2,s0,s1,ed2,P2⟩:=P1.draw (m:=3) hi (by decide) (by decide);let M2:aw:=(μ.set i (cv a1 b1 c1)).set i (cv a2 b2 c2)
 have lM2:M2.length=μ.length:=by simp[M2]
 obtain⟨ρ',M',⟨n,cc,ps,o5,e1,e2,e3,e4,e5,e6,e7⟩,run⟩:=qp (src:=.fix (cu 0 m)) (g:=ao 5) (fb:=cT)
  (fun xs ρ M=>∃(n cc:Nat)(ps:List (Int×Int))(o5:Option D),xs=cu n cc/\n+cc=m/\ρ=[some (.obj i),some (.int 6),some (.int m),some (.int (2+s)),some (.obj M2.length),o5]/\Pn μ i M/\M[M2.length]?=some (.lst (ps.map d9))/\ps.length<=6*n/\∀p∈ps,PP m p)
  (fun _ _ _=>trivial)
  (fun x xs ρ M hJJ => by
   obtain⟨n,cc,ps,o5,e1,e2,e3,e4,e5,e6,e7⟩:=hJJ;subst e3;cases cc with
   |zero=>rw[tM]at e1;cases e1
   |succ cc=>
    rw[oM]at e1;injection e1 with ex er
    subst ex er;obtain⟨qs,M3,q1,q2,q3,q4,q5,q6⟩:=Kc (m:=m) (q:=n) (sh:=2+s) hi e4 (by omega) (by omega) (by omega) (by omega);have t3:(M3++[O.lst (qs.map d9)])[M2.length]?=some (.lst (ps.map d9)):=aF (q5 _ _ (by omega) e5);have u3:(M3++[O.lst (qs.map d9)])[M.length]?=some (.lst (qs.map d9)):=by rw[<- q4];exact aA
    have ex:=Gz t3 u3 (by rw[OO,OO];omega);refine⟨trivial,_,_,[some (.obj i),some (.int 6),some (.int m),some (.int (2+s)),some (.obj M2.length),some (.int n)],(M3++[O.lst (qs.map d9)]).set M2.length (.lst (ps.map d9++qs.map d9)),rfl,?_,n+1,cc,ps++qs,some (.int n),by push_cast;rfl,by omega,rfl,(q3.app).put (by omega),?_,by rw[ON];omega,fun p hp=>?_⟩
    ·show cT [some (.obj i),some (.int 6),some (.int m),some (.int (2+s)),some (.obj M2.length),some (.int n)] M=_;unfold cT;simp only[gF,pD,aj,ah,aa,ae,mQ e5,OX,aq,au,bT,dq];rw[fm (by omega) (by omega)];simp only[aa,ae,aS,OU];rw[show eR [none,some 5,some 0,some 3] [some (D.obj i),some (D.int 6),some (D.int m),some (D.int (2+s)),some (D.obj M2.length),some (D.int n)]=[none,some (.int n),some (.obj i),some (.int (2+s))] from rfl,q6];simp only[aa,ae,ex,af]
    ·rw[lY (by have:=(N3.mp t3).1;exact this),Qy]
    ·rcases N1.mp hp with z | z
     ·exact e7 p z
     ·exact q1 p z)
  (xs:=cu 0 m) (ρ:=[some (.obj i),some (.int 6),some (.int m),some (.int (2+s)),some (.obj M2.length),none]) (μ:=M2++[.lst []])
  ⟨0,m,[],none,rfl,by omega,rfl,P2.app,aA,by simp,fun p hp=>by cases hp⟩
 have hz:=Dv e1.symm;subst hz e3;have hg:GW m (bJ (ps.map mm)):=fk (by omega) (by omega) e7;obtain⟨a7,b7,c7,hgc⟩:=e4.gc (d4 hg);refine⟨m,_,a7,b7,c7,hg,?_⟩;unfold cI;rw[cn];simp only[j6,List.replicate];rw[aH,bc];simp only[aK,bt,az,aq,au,ah,aj,aa,ae,ed,ki,em,af,bD,aD,Sa,Sb];rw[aH,bc];simp only[aK,bt,az,aq,au,ah,aj,aa,ae,ed2,ki,af,bD,aD,Sa,Sb];rw[aH,bc];simp only[dP,au,aa,ae,Ql,NL (PV sizeLine),af,bD,aD,Sa,Sb];rw[aH,iI];simp only[dq,aq,au,aj,ah,aa,ae];rw[fm (by omega) (by omega)];simp only[af,ae,aS,OU];rw[show gr (.fix (cu 0 m)) (ao 5) cT (cu 0 m) [some (.obj i),some (.int 6),some (.int m),some (.int (2+s)),some (.obj M2.length),none] (M2++[O.lst []])=_ from run];simp only[aD,aU,az,aq,au,aj,ah,aa,ae,jU (show 1<=m by omega) (by omega) (by omega) e5 e7,af,aM];exact hgc
def oi(k:List Int):Int×Int:=(k.getD 0 0,k.getD 1 0)
def uB(p:Int)(k:List Int):Bool:=decide (p=(oi k).1) || decide (p=(oi k).2)
def cM(ks:List (List Int))(p:Int):List Int:=(ks.filter (uB p)).map fun k=>(oi k).1+(oi k).2-p
def fj(l:List Int)(x:Int):List (Int×Int):=(l.filter fun y=>decide (x<y)).map fun y=>(x,y)
def BD(m:Nat)(ks:List (List Int)):List (Int×Int):=ks.map oi++(rg m).flatMap fun p=>(cM ks p).flatMap (fj (cM ks p))
theorem xb{M:aw}{t u:Nat}{xs ys:List D}(ht:M[t]?=some (.lst xs))(hu:M[u]?=some (.lst ys))(hl:xs.length+ys.length<=100000):fV (.obj t) [.obj u] M=.ok .non (M.set t (.lst (xs++ys))):=by
 unfold fV;dsimp only;rw[ht,hu];dsimp only;rw[NL (NU hl Cp)]
theorem JY{μ:aw}{p a b:Int}:qy false (.int p) (.tup [.int a,.int b]) μ=.ok (.bl (decide (p=a) || decide (p=b))) μ:=by
 show ai.ok (D.bl ((a == p) || ((b == p) || false))) μ=_;congr 2;rw[Bool.or_false];congr 1
 ·apply Ot.mpr;rw[RD,RI];exact eq_comm
 ·apply Ot.mpr;rw[RD,RI];exact eq_comm
section
variable{m:Nat}{ks:List (List Int)}
theorem rn(h:GW m ks){p:Int}:(cM ks p).length<=15:=by
 have:=iz h;unfold cM;rw[OO];exact NU (Sl _ _) this
theorem iw(h:GW m ks){p x:Int}:x∈cM ks p↔vF ks p x:=by
 rw[gH h.2.2.2.2];unfold cM;rw[Qr];constructor
 ·rintro ⟨k, hk, rfl⟩
  obtain⟨h1,h2⟩:=NS.mp hk;obtain⟨a,b,rfl,_⟩:=h.2.2.2.2 k h1;have h3:p=a\/p=b:=by simpa[uB,oi] using h2
  rcases h3 with rfl|rfl
  ·left;rw[show (oi [p,b]).1+(oi [p,b]).2-p=b from by show p+b-p=b;omega];exact h1
  ·right;rw[show (oi [a,p]).1+(oi [a,p]).2-p=a from by show a+p-p=a;omega];exact h1
 ·rintro (h1 | h1)
  ·exact⟨[p,x],NS.mpr ⟨h1,by simp[uB,oi]⟩,by show p+x-p=x;omega⟩
  ·exact⟨[x,p],NS.mpr ⟨h1,by simp[uB,oi]⟩,by show x+p-p=x;omega⟩
theorem zv{μ:aw}{p:Int}(h:GW m ks):cQ [cz m ks,.int p] μ=.ok (.obj μ.length) (μ++[.lst ((cM ks p).map D.int)]):=by
 have n2:0+1+1<=sizeLine:=l2
 have c:=cx (U:=List Int) (en:=bf) (src:=.fix (ks.map bf)) (g:=g7 2 (bC (ao 0) (bC (ao 1) (g8)))) (t:=ic) (e:=ig) (μ1:=μ) (q:=uB p) (h:=fun k=>.int ((oi k).1+(oi k).2-p)) (fun ρ=>∃o o',ρ=[o,o',some (.int p)]) (fun _=>trivial) (us:=ks) (acc:=[]) (ρ:=[none,none,some (.int p)]) ⟨_,_,rfl⟩
  (by rw[Ql];have:=iz h;exact NU (by omega) bz)
  (fun k hk a ρ hJJ => by
   obtain⟨o,o',e⟩:=hJJ;subst e;obtain⟨x,y,rfl,_⟩:=h.2.2.2.2 k hk;refine⟨[some (.int x),some (.int y),some (.int p)],⟨_,_,rfl⟩,rfl,?_,fun _=>?_⟩
   ·unfold ic;simp only[dz,aK,dO,aq,au,aj,ah,aa,ae,PD,Ql,NL n2,JY,aZ];rfl
   ·unfold ig;simp only[aK,aj,ah,aa,ae,ki]
    rfl)
 rw[Pv,show (ks.filter (uB p)).map (fun k=>D.int ((oi k).1+(oi k).2-p))=(cM ks p).map D.int from by unfold cM;rw[Qi];rfl]at c;unfold cQ;rw[cn];simp only[lN,List.replicate,aU,bT,bL,aK,ah,bt,aa,ae,lZ,iT,aS];rw[show eR [none,none,some 1] _=[none,none,some (.int p)] from rfl,c];simp only[af,ae,aM];exact B7 (by simp)
theorem E2{M:aw}{N:Nat}{l:List Int}{x:Int}(hN:M[N]?=some (.lst (l.map D.int)))(hl:l.length<=15):compLoop (.own N (l.map D.int)) M.length (ao 0) eJ eQ (l.map D.int) [none,some (.int x)] (M++[.lst []])=.ok (.obj M.length) (M++[.lst ((fj l x).map d9)]):=by
 have c:=cx (U:=Int) (en:=D.int) (src:=.own N (l.map D.int)) (g:=ao 0) (t:=eJ) (e:=eQ) (μ1:=M) (q:=fun y=>decide (x<y)) (h:=fun y=>d9 (x,y)) (fun ρ=>∃o,ρ=[o,some (.int x)]) (fun _=>aF hN) (us:=l) (acc:=[]) (ρ:=[none,some (.int x)]) ⟨_,rfl⟩
  (by rw[Ql];exact NU (by omega) bz)
  (fun y hy a ρ hJJ => by
   obtain⟨o,e⟩:=hJJ;subst e;refine⟨[some (.int y),some (.int x)],⟨_,rfl⟩,rfl,?_,fun _=>?_⟩
   ·unfold eJ;simp only[dz,aK,aj,ah,aa,ae,dQ,aZ];rfl
   ·unfold eQ;simp only[dO,aq,au,aj,ah,aa,ae,PD,Ql,NL l2]
    rfl)
 rw[Pv,show (l.filter fun y=>decide (x<y)).map (fun y=>d9 (x,y))=(fj l x).map d9 from by unfold fj;rw[Qi];rfl]at c;exact c
theorem rf{l:List Int}{x:Int}:(fj l x).length<=l.length:=by
 unfold fj;rw[OO];exact Sl _ _
theorem qq{α β:Type}{f:α->List β}{k:Nat}(h:∀x,(f x).length<=k):∀l:List α,(l.flatMap f).length<=l.length*k
 |[]=>by simp
 |w::l=>by
  rw[Sh,ON,PD,Pu];have:=h w;have:=qq h l;omega
theorem Ci{M:aw}{T N:Nat}{ps:List (Int×Int)}{l:List Int}{o0 o2:Option D}(hT:M[T]?=some (.lst (ps.map d9)))(hN:M[N]?=some (.lst (l.map D.int)))(ne:T≠N)(hl:l.length<=15)(hp:ps.length<=10000):∀(xs:List Int)(dn:List Int)(M1:aw)(o4:Option D),l=dn++xs->M1[T]?=some (.lst ((ps++dn.flatMap (fj l)).map d9))->(∀j o,T≠j->M[j]?=some o->M1[j]?=some o) ->
  ∃(M2:aw)(o4':Option D),gr (.own N (l.map D.int)) (ao 4) eP (xs.map D.int) [o0,some (.obj T),o2,some (.obj N),o4] M1=.next [o0,some (.obj T),o2,some (.obj N),o4'] M2/\M2[T]?=some (.lst ((ps++l.flatMap (fj l)).map d9))/\(∀j o,T≠j->M[j]?=some o->M2[j]?=some o)
 |[],dn,M1,o4,e,h1,h2=>by
  rw[Ox]at e;subst e;refine⟨M1,o4,?_,h1,h2⟩;rw[Pd];unfold gr;rw[NL (show cF (.own N _) M1 from h2 N _ ne hN)]
 |x::xs,dn,M1,o4,e,h1,h2=>by
  have hN1:=h2 N _ ne hN;have c:=E2 (M:=M1) (x:=x) hN1 hl
  have fl:(dn.flatMap (fj l)).length<=15*15:=by
   have h3:=qq (f:=fj l) (k:=15) (fun y=>NU rf hl) dn;have h4:dn.length<=15:=by have:=Oa List.length e;simp at this;omega
   exact NU h3 (Sm 15 h4)
  have rl:(fj l x).length<=15:=NU rf hl;have ex:=xb (M:=M1++[.lst ((fj l x).map d9)]) (aF h1) aA (by rw[OO,OO,ON];omega);have tl:T<M1.length:=(N3.mp h1).1
  obtain⟨M2,o4',r1,r2,r3⟩:=Ci (o0:=o0) (o2:=o2) hT hN ne hl hp xs (dn++[x]) ((M1++[O.lst ((fj l x).map d9)]).set T (.lst ((ps++dn.flatMap (fj l)).map d9++(fj l x).map d9))) (some (.int x)) (by rw[e];simp)
   (by rw[lY (by rw[ON];omega),List.flatMap_append,Sh,Sn,Ox,<- Pp,Qy (l₂:=fj l x)])
   (fun j o nj z=>by rw[N6 nj];exact aF (h2 j o nj z))
  refine⟨M2,o4',?_,r2,r3⟩;rw[Pe];unfold gr;rw[NL (show cF (.own N _) M1 from hN1)];simp only[bD,af,ae,Sa,Sb]
  rw[show eP [o0,some (.obj T),o2,some (.obj N),some (.int x)] M1=.next [o0,some (.obj T),o2,some (.obj N),some (.int x)] ((M1++[O.lst ((fj l x).map d9)]).set T (.lst ((ps++dn.flatMap (fj l)).map d9++(fj l x).map d9))) from by
   unfold eP;simp only[gF,pD,aj,ah,aa,ae,mQ h1,OX,aq,au,bT,bL];rw[kh hN1];simp only[aa,ae,hU];rw[show eR [none,some 4] [o0,some (D.obj T),o2,some (D.obj N),some (D.int x)]=[none,some (.int x)] from rfl,c]
   simp only[aa,ae,ex,af]]
  exact r1
end
end Lw
namespace Lw
open PySem L2 RS Lv
section
variable{m:Nat}{ks:List (List Int)}
def tq(ks:List (List Int))(l:List Int):List (Int×Int):=l.flatMap fun p=>(cM ks p).flatMap (fj (cM ks p))
theorem AZ(h:GW m ks){p:Int}:((cM ks p).flatMap (fj (cM ks p))).length<=225:=by
 have hl:=rn h (p:=p);have h3:=qq (f:=fj (cM ks p)) (k:=15) (fun y=>NU rf hl) (cM ks p);exact NU h3 (Sm 15 hl)
theorem wJ(h:GW m ks)(l:List Int):(tq ks l).length<=l.length*225:=qq (fun p=>AZ h) l
theorem zp{T:Nat}{μ:aw}(h:GW m ks):∀(xs dn:List Int)(M:aw)(o2 o3 o4:Option D),dn.length+xs.length<=6->M[T]?=some (.lst ((ks.map oi++tq ks dn).map d9))->μ.length<=T->(∀j,j<μ.length->M[j]?=μ[j]?) ->
  ∃(M':aw)(o2' o3' o4':Option D),gr (.fix ((rg m).map D.int)) (ao 2) eK (xs.map D.int) [some (cz m ks),some (.obj T),o2,o3,o4] M=.next [some (cz m ks),some (.obj T),o2',o3',o4'] M'/\M'[T]?=some (.lst ((ks.map oi++tq ks (dn++xs)).map d9))/\(∀j,j<μ.length->M'[j]?=μ[j]?)
 |[],dn,M,o2,o3,o4,hl,hT,hμ,hk=>by
  refine⟨M,o2,o3,o4,?_,by rw[Ox];exact hT,hk⟩;rw[Pd];unfold gr;rw[NL (show cF (.fix _) M from trivial)]
 |p::xs,dn,M,o2,o3,o4,hl,hT,hμ,hk=>by
  have nl:=rn h (p:=p);have pl:=wJ h dn;have kl:=iz h;simp only[PD]at hl;have tl:T<M.length:=(N3.mp hT).1
  obtain⟨M2,o4',r1,r2,r3⟩:=Ci (M:=M++[.lst ((cM ks p).map D.int)]) (T:=T) (N:=M.length) (ps:=ks.map oi++tq ks dn) (l:=cM ks p) (o0:=some (cz m ks)) (o2:=some (.int p)) (aF hT) aA (by omega) nl
   (by
    rw[ON,OO];have:dn.length*225<=6*225:=Sm 225 (by omega)
    omega) (cM ks p) [] (M++[.lst ((cM ks p).map D.int)]) o4 rfl (by rw[Sn,Ox];exact aF hT) (fun _ _ _ z=>z)
  obtain⟨M',o2',o3',o4'',q1,q2,q3⟩:=zp h xs (dn++[p]) M2 (some (.int p)) (some (.obj M.length)) o4' (by rw[ON];simp only[PD,Ql];omega)
   (by rw [r2]; unfold tq; rw [List.flatMap_append, Sh, Sn, Ox, Pp]) hμ (fun j hj => by
    have hj':j<M.length:=by
     have:j<T:=by omega
     omega
    rw[r3 j M[j] (by omega) (by rw[OJ hj',Ry hj']),<- hk j hj,Ry hj'])
  refine⟨M',o2',o3',o4'',?_,by rw[q2,Pp];rfl,q3⟩;rw[Pe];unfold gr;rw[NL (show cF (.fix _) M from trivial)];simp only[bD,af,ae,Sa,Sb]
  rw[show eK [some (cz m ks),some (.obj T),some (.int p),o3,o4] M=.next [some (cz m ks),some (.obj T),some (.int p),some (.obj M.length),o4'] M2 from by
   unfold eK;rw[aH,bc];simp only[az,aq,au,aj,ah,aa,ae,zv h,af,bD,aD,Sa,Sb];rw[iI];simp only[bL,aj,ah,aa,ae];rw[kh (show (M++[O.lst ((cM ks p).map D.int)])[M.length]?=some (.lst ((cM ks p).map D.int)) from aA)];simp only[af,ae,hU]
   exact r1]
  exact q1
theorem uE(h:GW m ks):∀p∈BD m ks,PP m p:=fun p hp=>by
 rcases N1.mp hp with z|z
 ·obtain⟨k,hk,rfl⟩:=Qr.mp z;obtain⟨a,b,rfl,h1,h2,h3⟩:=h.2.2.2.2 k hk;exact⟨⟨h1,by show a<(m:Int);omega⟩,⟨by show 0<=b;omega,h3⟩,by show a≠b;omega⟩
 ·obtain⟨q,hq,z⟩:=Sd.mp z;obtain⟨x,hx,z⟩:=Sd.mp z;obtain⟨y,hy,rfl⟩:=Qr.mp z;obtain⟨hy,hxy⟩:=NS.mp hy;have ax:=HK h ((iw h).mp hx);have ay:=HK h ((iw h).mp hy);have:=Sg hxy;exact⟨ax.2,ay.2,by dsimp only;omega⟩
theorem HZ(h:GW m ks):bJ ((BD m ks).map mm)=y6 m ks 2:=by
 have m0:=h.m0;have m6:=h.m6;refine w8 (fk m0 m6 (uE h)) (uQ m0 m6) fun a b=>?_;rw[qZ m6 (uE h),Cn m6];constructor
 ·rintro ⟨p, hp, e⟩
  have pp:=uE h p hp;unfold mm at e;simp only[List.cons.injEq,and_true]at e;have hab:0<=a/\a<b/\b<(m:Int):=by obtain⟨⟨_,_⟩,⟨_,_⟩,_⟩:=pp;omega
  refine⟨hab.1,hab.2.1,hab.2.2,?_⟩
  have key:vF ks p.1 p.2\/∃q,vF ks p.1 q/\vF ks q p.2:=by
   rcases N1.mp hp with z|z
   ·obtain⟨k,hk,rfl⟩:=Qr.mp z;obtain⟨x,y,rfl,_⟩:=h.2.2.2.2 k hk;exact .inl ((gH h.2.2.2.2).mpr (.inl hk))
   ·obtain⟨q,hq,z⟩:=Sd.mp z;obtain⟨x,hx,z⟩:=Sd.mp z;obtain⟨y,hy,rfl⟩:=Qr.mp z;exact .inr ⟨q,HJ h ((iw h).mp hx),(iw h).mp (NS.mp hy).1⟩
  have r:R (vF ks) p.1 2 p.2:=by
   rcases key with k|⟨q,k1,k2⟩
   ·exact(R.one k).mono (by decide)
   ·exact(R.one k1).add (R.one k2)
  by_cases c:p.1<=p.2
  ·have e1 : a = p.1 := by omega
   have e2:b=p.2:=by omega
   rw[e1,e2];exact r
  ·have e1 : a = p.2 := by omega
   have e2:b=p.1:=by omega
   rw[e1,e2];exact r.rev fun x y z=>HJ h z
 ·rintro ⟨h1, h2, h3, r⟩
  obtain⟨c,r1,r2⟩:=u9 (n:=1) (k:=1) r
  have st:∀{x y:Int},R (vF ks) x 1 y->y=x\/vF ks x y:=fun {x y} z=>by
   rcases z with z|⟨t,z1,z2⟩
   ·exact .inl z
   ·have:t=x:=z2;subst this;exact .inr z1
  have one:vF ks a b->∃p∈BD m ks,mm p=[a,b]:=fun z=>by
   have hk:[a,b]∈ks:=by
    rcases (gH h.2.2.2.2).mp z with z|z
    ·exact z
    ·obtain⟨x,y,e,_⟩:=h.2.2.2.2 _ z;simp only[List.cons.injEq,and_true]at e;omega
   refine⟨(a,b),N2 _ (Qr.mpr ⟨[a,b],hk,rfl⟩),?_⟩;unfold mm;rw[Si (by dsimp only;omega),Sj (by dsimp only;omega)]
  rcases st r1 with rfl|k1
  ·rcases st r2 with rfl | k2
   ·omega
   ·exact one k2
  ·rcases st r2 with rfl | k2
   ·exact one k1
   ·have hc:=(HK h k1).2;refine⟨(a,b),Oq _ (Sd.mpr ⟨c,lj.mpr hc,Sd.mpr ⟨a,(iw h).mpr (HJ h k1),Qr.mpr ⟨b,NS.mpr ⟨(iw h).mpr k2,Pw h2⟩,rfl⟩⟩⟩),?_⟩;unfold mm;rw[Si (by dsimp only;omega),Sj (by dsimp only;omega)]
theorem zw{μ:aw}(h:GW m ks):d7 [cz m ks] μ=.ok (cz m (y6 m ks 2)) μ:=by
 have m0:=h.m0;have m6:=h.m6;have kl:=iz h
 have e0:ks.map bf=(ks.map oi).map d9:=by
  rw[Qi];apply Qj;intro k hk;obtain⟨a,b,rfl,_⟩:=h.2.2.2.2 k hk;rfl
 obtain⟨M',o2,o3,o4,run,hT,hk⟩:=zp (T:=μ.length) (μ:=μ) h (rg m) [] (μ++[.lst (ks.map bf)]) none none none (by rw[mP];simpa using m6) (by rw[e0];show _=some (O.lst ((ks.map oi++[]).map d9));rw[Ox];exact aA) (Om _) (fun j hj=>OJ hj);rw[Pv]at hT
 obtain⟨g,hpre⟩:∃g,M'=μ++g:=by
  refine⟨M'.drop μ.length,?_⟩;apply Rh;intro i;by_cases hi:i<μ.length
  ·rw[OJ hi,hk i hi]
  ·rw[OH (by omega),List.getElem?_drop];congr 1;omega
 have hr:∀μ,i8 [.int (m:Int)] μ=.ok (.fix ((rg m).map D.int)) μ:=fun μ=>by rw[fm (by omega) (by omega),uF]
 have wo:=jU (μ:=M') m0 m6 (ps:=BD m ks) (by
  unfold BD;rw[ON,OO];have:=wJ h (rg m);unfold tq at this;rw[mP]at this;have h2:m*225<=6*225:=Sm 225 m6
  omega) hT (uE h)
 rw[HZ h]at wo;unfold d7;rw[cN];simp only[kQ,List.replicate];rw[aH,bc];simp only[az,aq,au,aK,ah,bt,aa,ae,lZ];rw[show lb [.tup (ks.map bf)] μ=.ok (.obj μ.length) (μ++[.lst (ks.map bf)]) from rfl];simp only[af,ae,bD,aD,Sa,Sb];rw[aH,iI];simp only[dq,aq,au,aK,ah,bt,aa,ae,fU,hr,af,aS];rw[run];simp only[aD,aU,az,aq,au,aK,aj,ah,bt,aa,ae,fU,wo,af,aM];rw[hpre];exact cA (d4 (uQ m0 m6))
end
end Lw
namespace Lw
open PySem L2 RS Lv
theorem Bb{μ:aw}{m:Int}{ks:List (List Int)}{a b:Int}(hk:∀k∈ks,vI m k):qy true (.tup [.int a,.int b]) (.tup (ks.map bf)) μ=.ok (.bl (!decide ([a,b]∈ks))) μ:=by
 have e:=D7 (μ:=μ) (a:=a) (b:=b) hk;unfold qy at e⊢;split at e
 ·split at e
  ·split at e
   ·rename_i hf;rw[NL hf,NL rfl];rw[NM Ou]at e;injection e with e1
    injection e1 with e2
    rw[e2]
   ·cases e
  ·cases e
 ·cases e
theorem Gf{μ:aw}{a b c d:Int}:kW true (.tup [.int a,.int b]) (.tup [.int c,.int d]) μ=.ok (.bl (!(decide (a=c)&&decide (b=d)))) μ:=by
 show ai.ok (D.bl (!((a == c)&&((b == d)&&true)))) μ=_;congr 3;rw[Bool.and_true];rfl
section
variable{m:Nat}{ks:List (List Int)}
theorem IC{μ:aw}{i:Nat}{a b c:Int}(hp:μ[i]?=some (cv a b c)):∃m ks a' b' c',GW m ks/\cR [.obj i,.int 6] μ=.ok (cz m ks) (μ.set i (cv a' b' c')):=by
 have hi:i<μ.length:=(N3.mp hp).1;obtain⟨m,ks,a1,b1,c1,h,ed⟩:=Dh hp;have m0:=h.m0;have m6:=h.m6;let M1:aw:=μ.set i (cv a1 b1 c1)
 have P1:Pn μ i M1:=(Pn.self hp).set hi;obtain⟨w,a2,b2,c2,w0,w1,ew,P2⟩:=P1.draw (m:=4) hi (by decide) (by decide);let M2:aw:=M1.set i (cv a2 b2 c2)
 have ed':cI [.obj i,.int 6] μ=.ok (cz m ks) M1:=ed;have ew':aL [.obj i,.int 4] M1=.ok (.int w) M2:=ew;have hg:=uQ (k:=2) (ks:=ks) m0 m6;by_cases z0:w=0
 ·obtain⟨a7,b7,c7,hgc⟩:=P2.gc (d4 h);refine⟨m,ks,a7,b7,c7,h,?_⟩;unfold cR;rw[cn];simp only[gT,List.replicate];rw[aH,bc];simp only[az,aq,au,aj,ah,aa,ae,ed',af,bD,aD,Sa,Sb];rw[aH,bc];simp only[az,aq,au,aj,ah,bt,aa,ae,ew',af,bD,aD,Sa,Sb];rw[aH,bS];simp only[dz,aK,aj,ah,bt,aa,ae,jJ,PB,OW,aZ,af];rw[show (w == 0)=true from by rw[RD];exact z0];simp only[OX,aU,aj,ah,af,ae,f9,aM];exact hgc
 ·by_cases z3 : w = 3 /\ 1 < m
  ·
   obtain⟨u,a3,b3,c3,u0,u1,eu,P3⟩:=P2.draw (m:=(m:Int)-1) hi (by omega) (by omega);obtain⟨v,a4,b4,c4,v0,v1,ev',P4⟩:=P3.draw (m:=(m:Int)-1-u) hi (by omega) (by omega);let M4:aw:=(M2.set i (cv a3 b3 c3)).set i (cv a4 b4 c4)
   let y:Int:=u+1+v
   let ls:List (List Int):=(y6 m ks 2).filter fun k=>!(decide (k.getD 0 0=u)&&decide (k.getD 1 0=y))
   have cc:=cx (U:=List Int) (en:=bf) (src:=.fix ((y6 m ks 2).map bf)) (g:=ao 0) (t:=fA) (e:=fB) (μ1:=M4) (q:=fun k=>!(decide (k.getD 0 0=u)&&decide (k.getD 1 0=y))) (h:=bf) (fun ρ=>∃o,ρ=[o,some (.tup [.int u,.int y])]) (fun _=>trivial) (us:=y6 m ks 2) (acc:=[]) (ρ:=[none,some (.tup [.int u,.int y])]) ⟨_,rfl⟩
    (by rw[Ql];have:=iz hg;exact NU (by omega) bz)
    (fun k hk a ρ hJJ => by
     obtain⟨o,e⟩:=hJJ;subst e;obtain⟨x,z,rfl,_⟩:=hg.2.2.2.2 k hk;refine⟨[some (bf [x,z]),some (.tup [.int u,.int y])],⟨_,rfl⟩,rfl,?_,fun _=>by unfold fB;rw[ah]⟩;unfold fA;simp only[dz,aK,aj,ah,aa,ae];rw[show kW true (bf [x,z]) (.tup [.int u,.int y]) (M4++[O.lst a])=_ from Gf];simp only[aa,ae,aZ]
     rfl)
   rw[Pv]at cc;let ps:List (Int×Int):=ls.map oi++(if ([u,y]∈y6 m ks 2) then [] else [(u,y)])
   have pp:∀p∈ps,PP m p:=by
    intro p hp;rcases N1.mp hp with z|z
    ·obtain⟨k,hk,rfl⟩:=Qr.mp z;obtain⟨x,y',rfl,h1,h2,h3⟩:=hg.2.2.2.2 k (NS.mp hk).1;exact⟨⟨h1,by show x<(m:Int);omega⟩,⟨by show 0<=y';omega,h3⟩,by show x≠y';omega⟩
    ·split at z
     ·cases z
     ·rw[PX.mp z];exact⟨⟨u0,by show u<(m:Int);omega⟩,⟨by show 0<=u+1+v;omega,by show u+1+v<(m:Int);omega⟩,by show u≠u+1+v;omega⟩
   have e0:ls.map bf=(ls.map oi).map d9:=by
    rw[Qi];apply Qj;intro k hk;obtain⟨x,z,rfl,_⟩:=hg.2.2.2.2 k (NS.mp hk).1;rfl
   have lsl:ls.length<=15:=NU (Sl _ _) (iz hg);let M6:aw:=M4++[O.lst (ps.map d9)]
   have psl:ps.length<=100000:=by
    simp only[ps,ON,OO];split <;> simp only[PD,Ql] <;> omega
   have wo:=jU (μ:=M6) (t:=M4.length) m0 m6 psl aA pp;have gw:=fk m0 m6 pp;obtain⟨a7,b7,c7,hgc⟩:=(P4.app (g:=[O.lst (ps.map d9)])).gc (d4 gw);refine⟨m,_,a7,b7,c7,gw,?_⟩;have n2:0+1+1<=sizeLine:=l2;unfold cR;rw[cn];simp only[gT,List.replicate];rw[aH,bc];simp only[az,aq,au,aj,ah,aa,ae,ed',af,bD,aD,Sa,Sb];rw[aH,bc];simp only[az,aq,au,aj,ah,bt,aa,ae,ew',af,bD,aD,Sa,Sb];rw[aH,bS];simp only[dz,aK,aj,ah,bt,aa,ae,jJ,PB,OW,aZ,af];rw[show (w == 0)=false from by rw[NJ];exact z0];simp only[PB,OW,bH,aD];rw[aH,bc];simp only[az,aq,au,aj,ah,aa,ae,zw h,af,bD,aD,Sa,Sb];rw[aH,bS];simp only[zU,dz,aK,aj,ah,bt,aa,ae,jJ,PB,OW,aZ,fU,dQ];rw[show (w == 3)=true from by rw[RD];exact z3.1,NL rfl,show f7 .Gt (m:Int) 1=true from Pw (by have:=z3.2;show (1:Int)<m;omega)];simp only[af,ae,OX];rw[aH,bc];simp only[az,aq,au,aK,aj,ah,bt,aa,ae,fU];rw[show pT (.int m) (.int 1) M2=.ok (.int ((m:Int)-1)) M2 from rfl];simp only[aa,ae];rw[show aL [.obj i,.int ((m:Int)-1)] M2=.ok (.int u) (M2.set i (cv a3 b3 c3)) from eu];simp only[af,ae,bD,aD,Sa,Sb];rw[aH,bc];simp only[dO,az,aq,au,aK,aj,ah,bt,aa,ae,fU,ki];rw[show pT (.int m) (.int 1) (M2.set i (cv a3 b3 c3))=.ok (.int ((m:Int)-1)) (M2.set i (cv a3 b3 c3)) from rfl];simp only[aa,ae];rw[show pT (.int ((m:Int)-1)) (.int u) (M2.set i (cv a3 b3 c3))=.ok (.int ((m:Int)-1-u)) (M2.set i (cv a3 b3 c3)) from rfl];simp only[aa,ae];rw[show aL [.obj i,.int ((m:Int)-1-u)] (M2.set i (cv a3 b3 c3))=.ok (.int v) M4 from ev'];simp only[aa,ae,ki,PD,Ql,NL n2,af,bD,aD,Sa,Sb];rw[aH,bc];simp only[bT,bL,aK,aj,ah,bt,aa,ae,lZ,iT,aS];rw[show eR [none,some 5] [some (D.obj i),some (D.int 6),some (cz m (y6 m ks 2)),some (D.int w),some (D.int u),some (D.tup [D.int u,D.int (u+1+v)]),none]=[none,some (.tup [.int u,.int y])] from rfl];rw[show compLoop (.fix ((y6 m ks 2).map bf)) M4.length (ao 0) fA fB ((y6 m ks 2).map bf) [none,some (.tup [.int u,.int y])] (M4++[O.lst []])=.ok (.obj M4.length) (M4++[O.lst (ls.map bf)]) from cc];simp only[af,ae,bD,aD,Sa,Sb];rw[aH,bS];simp only[dz,aK,aj,ah,bt,aa,ae,lZ];rw[show qy true (.tup [.int u,.int (u+1+v)]) (.tup ((y6 m ks 2).map bf)) (M4++[O.lst (ls.map bf)])=_ from Bb hg.2.2.2.2];simp only[aa,ae,aZ,af];by_cases hc:[u,u+1+v]∈y6 m ks 2
   ·rw [Pw hc];simp only[QO,PB,OW,bH,aD];have ep:ps=ls.map oi:=by simp only[ps,y];rw[NL hc,Ox]
    rw[bc];simp only[az,aq,au,aK,aj,ah,bt,aa,ae,fU];rw[show bg [.int m,.obj M4.length] (M4++[O.lst (ls.map bf)])=.ok (cz m (bJ (ps.map mm))) (M4++[O.lst (ps.map d9)]) from by rw[e0,<- ep];exact wo];simp only[af,ae,bD,aD,Sa,Sb,aU,aj,ah,aM];exact hgc
   ·rw [NI hc];simp only[QX,OX];have ep:ps=ls.map oi++[(u,u+1+v)]:=by simp only[ps,y];rw[NM hc]
    rw[gF,pD];simp only[aj,ah,aa,ae];rw[mQ (show (M4++[O.lst (ls.map bf)])[M4.length]?=some (.lst (ls.map bf)) from aA),NL rfl];simp only[aq,au,aj,ah,aa,ae]
    rw[show iV (.obj M4.length) [.tup [.int u,.int (u+1+v)]] (M4++[O.lst (ls.map bf)])=.ok .non (M4++[O.lst (ps.map d9)]) from by
     unfold iV;dsimp only;rw[aA];dsimp only;rw[NL (by rw[OO];exact NP (show ls.length<1000 by omega) bz),nG,e0,ep,Qy]
     rfl]
    simp only[af,ae,aD];rw[bc];simp only[az,aq,au,aK,aj,ah,bt,aa,ae,fU];rw[show bg [.int m,.obj M4.length] (M4++[O.lst (ps.map d9)])=.ok (cz m (bJ (ps.map mm))) (M4++[O.lst (ps.map d9)]) from wo];simp only[af,ae,bD,aD,Sa,Sb,aU,aj,ah,aM];exact hgc
  ·obtain ⟨a7, b7, c7, hgc⟩ := P2.gc (d4 hg);refine⟨m,_,a7,b7,c7,hg,?_⟩;unfold cR;rw[cn];simp only[gT,List.replicate];rw[aH,bc];simp only[az,aq,au,aj,ah,aa,ae,ed',af,bD,aD,Sa,Sb];rw[aH,bc];simp only[az,aq,au,aj,ah,bt,aa,ae,ew',af,bD,aD,Sa,Sb];rw[aH,bS];simp only[dz,aK,aj,ah,bt,aa,ae,jJ,PB,OW,aZ,af];rw[show (w == 0)=false from by rw[NJ];exact z0];simp only[PB,OW,bH,aD];rw[aH,bc];simp only[az,aq,au,aj,ah,aa,ae,zw h,af,bD,aD,Sa,Sb];rw[aH,bS];simp only[zU,dz,aK,aj,ah,bt,aa,ae,jJ,PB,OW,aZ,fU,dQ];by_cases c3:w=3
   ·rw[show (w == 3)=true from by rw[RD];exact c3,NL rfl,show f7 .Gt (m:Int) 1=false from NI (by show ¬ (1:Int)<m;intro z;exact z3 ⟨c3,by omega⟩)];simp only[af,ae,PB,OW,bH,aD,aU,aj,ah,aM];exact hgc
   ·rw[show (w == 3)=false from by rw[NJ];exact c3];simp only[PB,OW,af,ae,bH,aD,aU,aj,ah,aM];exact hgc
end
def Ny(w:Nat)(q:PyData):Prop:=q.showable=true/\q.leavesShort 40=true/\q.weight<=w/\q.hasDict=false
section
variable{T:aw->Prop}{n w k:Nat}
theorem CV{μ:aw}{d:D}{q:PyData}(h:vY d=some q):oh μ n d=some q:=by
 cases n with
 |zero=>exact h
 |succ n=>
  cases d with
  |tup _=>cases h
  |frz _=>cases h
  |obj _=>cases h
  |_=>exact h
theorem oP{i:Int}(h0:-1<=i)(h1:i<=8):Ny 8 (.int i):=by
 have:i=-1\/i=0\/i=1\/i=2\/i=3\/i=4\/i=5\/i=6\/i=7\/i=8:=by omega
 rcases this with rfl|rfl|rfl|rfl|rfl|rfl|rfl|rfl|rfl|rfl <;> exact⟨by decide +kernel,by decide +kernel,by decide +kernel,rfl⟩
end
theorem mx{μ:aw}{b:Bool}:qh μ (.ok (.bl b) μ)=.ok (.bl b) μ:=bx (by simp)
abbrev cg(ls:List (List Int)):D:=.tup (ls.map cm)
def Ky:D->Int
 |.int i=>i
 |_=>0
def y4:D->List Int
 |.tup xs=>xs.map Ky
 |_=>[]
theorem pA{w:List Int}:y4 (cm w)=w:=by
 show (w.map D.int).map Ky=w;rw[Qi];exact List.map_id' w
def uz(w:List Int):Bool:=(List.range (w.length-1)).all fun i=>decide (w.getD i 0<w.getD (i+1) 0)
theorem lq{w:List Int}:uz w=true↔w.Pairwise (·<·):=by
 unfold uz;rw[QN];constructor
 ·intro h
  have st:∀i (hi:i+1<w.length),w[i]<w[i+1]:=fun i hi=>by
   have:=Sg (h i (NT.mpr (by omega)));rw[Rg,Rg,Ry (by omega),Ry hi]at this;exact this
  have up:∀k i (hi:i+k+1<w.length),w[i]<w[i+k+1]:=fun k=>by
   induction k with
   |zero=>exact fun i hi=>st i hi
   |succ k ih=>exact fun i hi=>Int.lt_trans (ih i (by omega)) (st (i+k+1) hi)
  rw[Qo];intro i j hi hj hij;have:=up (j-i-1) i (by omega);have e:i+(j-i-1)+1=j:=by omega
  simp only[e]at this;exact this
 ·intro h i hi;have hi:=NT.mp hi;apply Pw;rw[Rg,Rg,Ry (show i<w.length by omega),Ry (show i+1<w.length by omega)];exact Qo.mp h i (i+1) (by omega) (by omega) (by omega)
theorem Dw{μ:aw}{w:List Int}(i:Nat)(hi:i<w.length-1) :
  ik [some (.int (1+(i:Int))),some (cm w)] μ=.ok (.bl (decide (w.getD i 0<w.getD (i+1) 0))) μ:=by
 have h1:i<w.length:=by omega
 have h2:i+1<w.length:=by omega
 have g1:atI (w.map D.int) (1+(i:Int)-1)=some (.int w[i]):=by
  rw[show (1+(i:Int)-1)=((i:Nat):Int) by omega];exact kj (by rw[OK,Ry h1];rfl)
 have g2:atI (w.map D.int) (1+(i:Int))=some (.int w[i+1]):=by
  rw[show (1+(i:Int))=((i+1:Nat):Int) by omega];exact kj (by rw[OK,Ry h2];rfl)
 rw[Rg,Rg,Ry h1,Ry h2];unfold ik;simp only[aK,aj,ah,bt,aa,ae,Hn];rw[oG g1];simp only[aa,ae];rw[oG g2];simp only[aa,ae,dQ];rfl
theorem yr{μ:aw}{w:List Int}(hl:w.length<1000):iB [cm w] μ=.ok (.bl (uz w)) μ:=by
 have c:=cx (U:=Nat) (en:=fun(i:Nat)=>D.int (1+(i:Int))) (src:=.fix (cu 1 (w.length-1))) (g:=ao 0) (t:=bA) (e:=ik) (μ1:=μ) (q:=fun _=>true) (h:=fun i=>.bl (decide (w.getD i 0<w.getD (i+1) 0)))
  (fun ρ=>∃o,ρ=[o,some (cm w)]) (fun _=>trivial) (us:=List.range (w.length-1)) (acc:=[]) (ρ:=[none,some (cm w)]) ⟨none,rfl⟩
  (by rw[Qk,Ql];exact NU (by omega) bz)
  (fun i hi a ρ ⟨o,ho⟩=>⟨[some (.int (1+(i:Int))),some (cm w)],⟨_,rfl⟩,by subst ho;rfl,rfl,fun _=>Dw i (NT.mp hi)⟩)
 rw[Pv,cP]at c;unfold iB;rw[cN];simp only[pP,aU,az,aq,bT,dq,bt,au,aa,ae,ah,dm,OO];rw[GA (by omega) (by omega) (by omega) (by omega)];have hn:((w.length:Int)-1).toNat=w.length-1:=by omega
 simp only[aa,ae,aS,hn];rw[show eR [none,some 0] (some (cm w)::List.replicate (1-1) none)=[none,some (cm w)] from rfl];rw[show cu 1 (w.length-1)=(List.range (w.length-1)).map fun(i:Nat)=>D.int (1+(i:Int)) from rfl]at c⊢;rw[c];simp only[aa,ae];rw[iU (bs:=(List.range (w.length-1)).map fun i=>decide (w.getD i 0<w.getD (i+1) 0)) (by rw[Qi];exact aA)];simp only[af,ae,aM];rw[cA (by simp)];simp[uz,RM,Sk]
def xK(m:Int)(d:D):Bool:=sF m d&&(decide (0<(y4 d).length)&&uz (y4 d))
theorem uR{m:Int}{d:D}(h:sF m d=true):∃w:List Int,d=cm w/\y4 d=w/\∀n∈w,0<=n/\n<=m-1:=by
 cases d with
 |tup xs=>
  obtain⟨ns,rfl,f⟩:=DC h;exact⟨ns,rfl,pA,f⟩
 |_=>cases h
theorem Hi{μ:aw}{w:List Int}(h:Kn μ (cm w)):w.length<1000:=by
 simp only[cm,Kn,OO]at h;exact h.1
theorem Lm{μ:aw}{d:D}{m:Int}(h:Kn μ d):cU [.int m,d] μ=.ok (.bl (xK m d)) μ:=by
 unfold cU;rw[cn];simp only[ju,List.replicate,aU,gG,az,aq,au,ah,aj,aa,ae,Ay h,aZ];cases hp:sF m d with
 |false=>
  simp only[PB,OW,af,aM,xK,hp,Oi];exact mx
 |true=>
  obtain⟨w,rfl,hu,_⟩:=uR hp;simp only[OX,aK,az,aq,au,aj,ah,aa,ae,dm,OO,bt,dQ,aZ]
  rw[show f7 .Gt (w.length:Int) 0=decide (0<w.length) from by
   show decide ((w.length:Int)>0)=_;by_cases z:0<w.length
   ·rw[Pw z];exact Pw (by omega)
   ·rw[NI z];exact NI (by omega)]
  rw[xK,hp,hu,Se];cases decide (0<w.length) with
  |false=>
   simp only[PB,OW,af,aM,Oi];exact mx
  |true=>
   simp only[OX,yr (Hi h),af,aM,Se];exact mx
theorem vT{μ:aw}{ls:List (List Int)}{p:Nat}(hp:p<ls.length):gY (cg ls) (.int (p:Int)) μ=.ok (cm (ls.getD p [])) μ:=by
 refine oG (kj ?_);rw[OK,Ry hp,Rg,Ry hp];rfl
theorem LS{μ:aw}{a b:Bool}:kW false (.bl a) (.bl b) μ=.ok (.bl (a == b)) μ:=by cases a <;> cases b <;> rfl
def Er(ls:List (List Int))(p:Nat):Bool:=decide ((p:Int)∈ls.getD p [])&&(List.range ls.length).all fun q=>decide ((q:Int)∈ls.getD p []) == decide ((p:Int)∈ls.getD q [])
theorem Fi{μ:aw}{ls:List (List Int)}{p:Nat}(hp:p<ls.length)(hl:ls.length<100):jZ [cg ls,.int (p:Int)] μ=.ok (.bl (Er ls p)) μ:=by
 have c:=cx (U:=Nat) (en:=fun(i:Nat)=>D.int (0+(i:Int))) (src:=.fix (cu 0 ls.length)) (g:=ao 0) (t:=bA) (e:=lE) (μ1:=μ) (q:=fun _=>true) (h:=fun q=>.bl (decide ((q:Int)∈ls.getD p []) == decide ((p:Int)∈ls.getD q [])))
  (fun ρ=>∃o,ρ=[o,some (cm (ls.getD p [])),some (.int (p:Int)),some (cg ls)]) (fun _=>trivial) (us:=List.range ls.length) (acc:=[]) (ρ:=[none,some (cm (ls.getD p [])),some (.int (p:Int)),some (cg ls)]) ⟨none,rfl⟩
  (by rw[Qk,Ql];exact NU (by omega) bz)
  (fun q hq a ρ ⟨o, ho⟩ => by
   refine⟨[some (.int (0+(q:Int))),some (cm (ls.getD p [])),some (.int (p:Int)),some (cg ls)],⟨_,rfl⟩,by subst ho;rfl,rfl,fun _=>?_⟩;unfold lE;rw[show (0:Int)+(q:Int)=(q:Int) from Int.zero_add _]
   simp only[aK,aj,ah,aa,ae,zf,PB,OW,vT (NT.mp hq),LS])
 rw[Pv,cP]at c;unfold jZ;rw[cn];simp only[uo,List.replicate];rw[aH,bc];simp only[aK,aj,ah,aa,ae,vT hp,af,bD,aD,Sa,Sb,aU,gG,zf,PB,OW,aZ];unfold Er;cases decide ((p:Int)∈ls.getD p []) with
 |false=>
  simp only[PB,OW,af,aM,Oi];exact mx
 |true=>
  simp only[OX,az,aq,au,bT,dq,aj,ah,aa,ae,dm,OO,Se];rw[fm (by omega) (by omega)];simp only[aa,ae,aS,OU];rw[show eR [none,some 2,some 1,some 0] [some (cg ls),some (.int (p:Int)),some (cm (ls.getD p []))]=[none,some (cm (ls.getD p [])),some (.int (p:Int)),some (cg ls)] from rfl];rw[show cu 0 ls.length=(List.range ls.length).map fun(i:Nat)=>D.int (0+(i:Int)) from rfl]at c⊢;rw[c];simp only[aa,ae];rw[iU (bs:=(List.range ls.length).map fun(q:Nat)=>decide ((q:Int)∈ls.getD p []) == decide ((p:Int)∈ls.getD q [])) (by rw[Qi];exact aA)];simp only[af,ae,aM];rw[cA (by simp)];simp[RM,Sk]
def Kv(ls:List (List Int)):Bool:=(List.range ls.length).all (Er ls)
def cL(d:D):Bool:=match d with
 |.tup xs=>(decide (1<=xs.length)&&decide (xs.length<=6))&&(xs.all (xK xs.length)&&Kv (xs.map y4))
 |_=>false
theorem yk{m:Int}{xs:List D}(h:∀x∈xs,sF m x=true):∃ls:List (List Int),xs=ls.map cm/\xs.map y4=ls/\∀l∈ls,∀n∈l,0<=n/\n<=m-1:=by
 induction xs with
 |nil=>exact⟨[],rfl,rfl,by simp⟩
 |cons x r ih=>
  obtain⟨ls,e1,e2,e3⟩:=ih fun y hy=>h y (NY _ hy);obtain⟨w,e4,e5,e6⟩:=uR (h x NX)
  exact⟨w::ls,by rw[e1,e4];rfl,by rw[Pe,e5,e2],fun l hl=>by
   rcases NZ.mp hl with rfl|hl
   ·exact e6
   ·exact e3 l hl⟩
theorem qY{μ:aw}{d:D}(h:Kn μ d):dW [d] μ=.ok (.bl (cL d)) μ:=by
 unfold dW;rw[cN];simp only[nV,List.replicate];rw[aH,bS];simp only[ll,dk,fG,iO,ah,aa,ae,l9 h,cD];cases d with
 |tup xs=>
  simp only[Kn]at h;have km:eB [.int (xs.length:Int)] μ=.ok (.bl (d3 1 6 (.int (xs.length:Int)))) μ:=Az (by simp[Kn])
  have hc:d3 1 6 (.int (xs.length:Int))=(decide (1<=xs.length)&&decide (xs.length<=6)):=by
   show (decide ((1:Int)<=(xs.length:Int))&&decide ((xs.length:Int)<=6))=_;congr 1
   ·by_cases z : 1 <= xs.length
    ·rw[Pw z];exact Pw (by omega)
    ·rw[NI z];exact NI (by omega)
   ·by_cases z : xs.length <= 6
    ·rw[Pw z];exact Pw (by omega)
    ·rw[NI z];exact NI (by omega)
  simp only[jd,QO,PB,OW,az,aq,au,ah,aa,ae,dm,km,cD,hc];cases hn:(decide (1<=xs.length)&&decide (xs.length<=6)) with
  |false=>
   simp only[QX,af,OX,aU,bt,f9,aM,cL,hn,Oi];exact mx
  |true=>
   have h6:1<=xs.length/\xs.length<=6:=by simpa using hn
   simp only[QO,af,PB,OW,bH,aD];rw[aH,bc];simp only[az,aq,au,ah,aa,ae,dm,af,bD,aD,Sa,Sb];rw[aH,bS];simp only[dk,fG,az,aq,au,bT,bL,ah,aa,ae,iT,aS];rw[show eR [none,some 1] [some (.tup xs),some (.int (xs.length:Int))]=[none,some (.int (xs.length:Int))] from rfl]
   rw[rC (h:=xK xs.length) (NU (NV h.1) bz) fun x hx a=>by
    unfold lL;simp only[az,aq,au,aj,ah,aa,ae]
    exact Lm (qm _ (lV.mp h.2 x hx))]
   simp only[aa,ae];rw[iU aA];simp only[aa,ae,cD];have ea:(xs.map (xK xs.length)).all id=xs.all (xK xs.length):=by simp[RM,Sk]
   rw[ea];have es:cL (.tup xs)=(xs.all (xK xs.length)&&Kv (xs.map y4)):=by simp only[cL,hn,Se]
   rw[es];cases hr:xs.all (xK xs.length) with
   |false=>
    simp only[QX,af,OX,aU,bt,f9,aM,Oi];exact cA (by simp)
   |true=>
    obtain⟨ls,rfl,eu,_⟩:=yk (m:=xs.length) fun x hx=>by
     have:=QN.mp hr x hx;unfold xK at this;exact(Pb _ _ ▸ this).1
    rw[OO]at h6;simp only[QO,af,PB,OW,bH,aD,aU,az,aq,au,bT,dq,aj,ah,aa,ae,Se,eu,OO];rw[fm (by omega) (by omega)];simp only[aa,ae,aS,OU];rw[show eR [none,some 0] [some (cg ls),some (.int (ls.length:Int))]=[none,some (cg ls)] from rfl]
    have c:=cx (U:=Nat) (en:=fun(i:Nat)=>D.int (0+(i:Int))) (src:=.fix (cu 0 ls.length)) (g:=ao 0) (t:=bA) (e:=js) (μ1:=μ++[.lst (((ls.map cm).map (xK ls.length)).map D.bl)]) (q:=fun _=>true) (h:=fun q=>.bl (Er ls q))
     (fun ρ=>∃o,ρ=[o,some (cg ls)]) (fun _=>trivial) (us:=List.range ls.length) (acc:=[]) (ρ:=[none,some (cg ls)]) ⟨none,rfl⟩
     (by rw[Qk,Ql];exact NU (by omega) bz)
     (fun q hq a ρ ⟨o, ho⟩ => by
      refine⟨[some (.int (0+(q:Int))),some (cg ls)],⟨_,rfl⟩,by subst ho;rfl,rfl,fun _=>?_⟩;unfold js;rw[show (0:Int)+(q:Int)=(q:Int) from Int.zero_add _];simp only[az,aq,au,aj,ah,aa,ae]
      exact Fi (NT.mp hq) (by omega))
    rw[Pv,cP]at c;rw[show cu 0 ls.length=(List.range ls.length).map fun(i:Nat)=>D.int (0+(i:Int)) from rfl]at c⊢;rw[c];simp only[aa,ae];rw[iU (bs:=(List.range ls.length).map (Er ls)) (by rw[show ((List.range ls.length).map (Er ls)).map D.bl=(List.range ls.length).map (fun q=>D.bl (Er ls q)) from Qi];exact aA)];simp only[af,ae,aM,Pp];rw[cA (by simp)];simp[Kv,RM,Sk]
 |_=>
  simp only[jd,QX,OX,af,aU,bt,f9,aM,cL];exact mx
theorem rD{U:Type}{en:U->D}{src:oj}{k:Nat}{fb:MS}{c:U->Bool}(Q:Ro->aw->Prop)(ho:∀ρ M,Q ρ M->cF src M):∀(us:List U),(∀u∈us,∀ρ M,Q ρ M->∃ρ' M',Q ρ' M'/\fb (ρ.set k (some (en u))) M=if c u=true then .next ρ' M' else .ret (.bl false) M') ->
  ∀ρ M,Q ρ M->∃ρ' M',Q ρ' M'/\gr src (ao k) fb (us.map en) ρ M=if us.all c=true then .next ρ' M' else .ret (.bl false) M'
 |[],_,ρ,M,h=>⟨ρ,M,h,by rw[Pd];unfold gr;rw[NL (ho ρ M h)];rfl⟩
 |u::us,hs,ρ,M,h=>by
  obtain⟨ρ1,M1,q1,e1⟩:=hs u NX ρ M h;obtain⟨ρ2,M2,q2,e2⟩:=rD Q ho us (fun v hv=>hs v (NY _ hv)) ρ1 M1 q1;rw[Pe];unfold gr;rw[NL (ho ρ M h)];simp only[bD,af,e1];rw[Pj];cases c u with
  |true=>
   refine⟨ρ2,M2,q2,?_⟩;simp only[OX,zJ,e2,Se]
  |false=>
   refine⟨ρ1,M1,q1,?_⟩;simp only[PB,OW,JK,Oi]
theorem wy{ns:List Int}:(gA ns).Pairwise (·<=·):=by
 have:=List.pairwise_mergeSort (le:=fun(a b:Int)=>decide (a<=b)) (fun a b c h1 h2=>by simp at *;omega) (fun a b=>by simp;omega) ns;exact this.imp fun h=>by simpa using h
theorem mU{ns:List Int}:(gA ns).Perm ns:=List.mergeSort_perm ns _
theorem IQ{w:List Int}:decide (w=gA (di w))=uz w:=by
 have d:=h7 w [] QH;apply Ot.mpr;rw[RI,lq];constructor
 ·intro e;have h1:w.Pairwise (·<=·):=by rw[e];exact wy
  have h2:w.Nodup:=by rw[e];exact mU.nodup_iff.mpr d.1
  exact(h1.and h2).imp fun⟨a,b⟩=>by omega
 ·intro h;refine nF ?_ (h.imp fun z=>Int.le_of_lt z);refine(QL (h.imp fun z=>by omega) d.1).mpr fun q=>?_;rw[d.2 q];simp
theorem Cq{M:aw}{w:List Int}(h:∀n∈w,0<=n/\n<6):∃M',nt [cm w] M=.ok (.obj M.length) (M++[M'])/\∀M2:aw,M2[M.length]?=some M'->ck [.obj M.length] M2=.ok (.obj M2.length) (M2++[.lst ((gA (di w)).map D.int)]):=by
 cases w with
 |nil=>
  refine⟨.set [],rfl,fun M2 h2=>?_⟩;unfold ck;dsimp only;rw[h2];dsimp only;rw[show bJ []=[] from by simp[bJ],show gA (di [])=[] from by simp[gA,di]];rfl
 |cons a r=>
  refine⟨.iset (di (a::r)),?_,fun M2 h2=>?_⟩
  ·unfold nt;dsimp only;unfold qI;rw[show pC ((a::r).map D.int)=none from rfl,zM h]
  ·unfold ck;dsimp only;rw[h2]
theorem xc:∀{v w:List Int},PyData.eqvAll (v.map PyData.int) (w.map PyData.int)=decide (v=w)
 |[],[]=>rfl
 |[],_::_=>rfl
 |_::_,[]=>rfl
 |a::v,b::w=>by
  simp only[Pe,PyData.eqvAll,xc (v:=v) (w:=w),PyData.eqv];apply Ot.mpr;simp
theorem zH{M:aw}{t:Nat}{w:List Int}(h:M[t]?=some (.lst (w.map D.int))):mI M (.obj t)=some (.list (w.map PyData.int)):=by
 unfold mI;dsimp only;rw[h];dsimp only;rw[nI];rfl
theorem zI{w:List Int}:eG (.list (w.map PyData.int))=true:=by
 have:=lx w;simp only[eG,PyData.canLay0,this.1,PyData.depth,this.2,Se];rfl
theorem wQ{M:aw}{t u:Nat}{v w:List Int}(ht:M[t]?=some (.lst (v.map D.int)))(hu:M[u]?=some (.lst (w.map D.int))):kW true (.obj t) (.obj u) M=.ok (.bl (!decide (v=w))) M:=by
 unfold kW;rw[zH ht,zH hu];dsimp only;rw[NL ⟨zI,zI⟩,NL rfl];simp only[PyData.eqv,xc]
def c1(n:Int)(xs:List D)(p:Nat):Bool:=sF n (xs.getD p .non)&&(uz (y4 (xs.getD p .non))&&decide ((p:Int)∈y4 (xs.getD p .non)))
theorem D6{M:aw}{x:D}{xs:List D}(h:Kn M x):fJ [some x,some (.tup xs)] M=.ok (.bl (d3 0 ((xs.length:Int)-1) x)) M:=by
 unfold fJ;simp only[gG,az,aq,au,aj,ah,aa,ae];rw[show bZ [x] M=.ok (.bl (isInt x)) M from oJ h];simp only[aa,ae,aZ];cases x with
 |int i=>
  simp only[isInt,OX,nK,az,aq,au,bt,aj,ah,aa,ae,dm,dQ,aZ,d3];by_cases z:0<=i
  ·rw [show f7 .LtE 0 i = true from Pw z, NL rfl, Pw z, Se];congr 2;by_cases y:i<(xs.length:Int)
   ·rw[Pw (show i<=(xs.length:Int)-1 by omega)];exact Pw y
   ·rw[NI (show ¬ i<=(xs.length:Int)-1 by omega)];exact NI y
  ·rw[show f7 .LtE 0 i=false from NI z,NM Ou,NI z,Oi]
 |_=>rfl
theorem DZ{μ M:aw}{xs:List D}{p:Nat}{a1 a2:Option D}(h:Kns M xs)(h6:xs.length<=6)(hp:p<xs.length) :
  ∃(g:aw)(b:Option D),dv [some (.tup xs),some (.int (p:Int)),a2] M=if c1 xs.length xs p=true then .next [some (.tup xs),some (.int (p:Int)),b] (M++g) else .ret (.bl false) (M++g):=by
 obtain⟨x,hx⟩:∃x,xs.getD p .non=x:=⟨_,rfl⟩
 have hx':xs[p]?=some x:=by
  rw[Rg,Ry hp]at hx;rw[Ry hp];exact Oa some hx
 have kx:Kn M x:=lV.mp h x (OM hx');have ix:gY (.tup xs) (.int (p:Int)) M=.ok x M:=oG (kj hx');unfold dv c1;rw[hx,aH,bc];simp only[aK,aj,ah,aa,ae,ix,af,bD,aD,Sa,Sb];rw[aH,bS];simp only[ll,dk,fG,iO,aj,ah,aa,ae,l9 kx,cD];cases x with
 |tup ys=>
  simp only[Kn]at kx;simp only[jd,QO,PB,OW,az,aq,au,bT,bL,aj,ah,aa,ae,iT,aS];rw[show eR [none,some 0] [some (.tup xs),some (.int (p:Int)),some (.tup ys)]=[none,some (.tup xs)] from rfl];rw[rC (h:=d3 0 ((xs.length:Int)-1)) (NU (NV kx.1) bz) fun y hy a=>D6 (qm _ (lV.mp kx.2 y hy))];simp only[aa,ae];rw[iU aA];simp only[aa,ae,cD];rw[show (ys.map (d3 0 ((xs.length:Int)-1))).all id=sF xs.length (.tup ys) from by simp[sF,RM,Sk]];cases hpl:sF xs.length (.tup ys) with
  |false=>
   refine⟨[.lst ((ys.map (d3 0 ((xs.length:Int)-1))).map D.bl)],none,?_⟩;simp only[QX,af,OX,aU,bt,f9,Oi,PB,OW]
  |true=>
   obtain⟨w,ew,eu,hr⟩:=uR hpl;rw[eu,ew];obtain⟨M',s1,s2⟩:=Cq (M:=M++[.lst ((ys.map (d3 0 ((xs.length:Int)-1))).map D.bl)]++[.lst (w.map D.int)]) (w:=w) fun n hn=>by have:=hr n hn;omega
   refine⟨[.lst ((ys.map (d3 0 ((xs.length:Int)-1))).map D.bl)]++[.lst (w.map D.int)]++[M']++[.lst ((gA (di w)).map D.int)],some (cm w),?_⟩;simp only[QO,af,PB,OW,bH,aD];rw[bS];simp only[ll,dz,aK,az,aq,au,aj,ah,aa,ae];rw[show ∀M:aw,lb [cm w] M=.ok (.obj M.length) (M++[.lst (w.map D.int)]) from fun _=>rfl];simp only[aa,ae];rw[s1];simp only[aa,ae];rw[s2 _ aA];simp only[aa,ae];rw[wQ (aF (aF aA)) aA,IQ];simp only[aa,ae,aZ,Se];cases hri:uz w with
   |false=>
    simp only[QX,OX,af,aU,bt,f9,Oi,PB,OW,Pp]
   |true=>
    simp only[QO,PB,OW,zf,OX,aa,ae,aZ,Se];cases decide ((p:Int)∈w) with
    |false=>simp only[QX,OX,af,aU,bt,PB,OW,Pp]
    |true=>simp only[QO,PB,OW,af,bH,OX,Pp]
 |_=>
  refine⟨[],none,?_⟩;simp only[jd,QX,OX,af,aU,bt,f9,sF,Oi,PB,OW,Ox]
def Mi(ls:List (List Int)):Prop:=∀l∈ls,∀n∈l,0<=n/\n<(ls.length:Int)
theorem cO{ls:List (List Int)}{p:Nat}(hp:p<ls.length):ls.getD p []∈ls:=by
 rw[Rg,Ry hp];exact Rw hp
def c2(ls:List (List Int))(p:Nat):Bool:=decide ((ls.getD p []).filter (fun q=>!decide ((p:Int)∈ls.getD q.toNat []))=[])
theorem C4{ls:List (List Int)}{p:Nat}:c2 ls p=true↔∀q∈ls.getD p [],(p:Int)∈ls.getD q.toNat []:=by
 unfold c2;rw[RI,List.filter_eq_nil_iff];constructor
 ·intro h q hq;have:=h q hq;simpa using this
 ·intro h q hq;simpa using h q hq
theorem DY{M:aw}{ls:List (List Int)}{p:Nat}{a2:Option D}(h:Mi ls)(hl:∀l∈ls,l.length<1000)(hp:p<ls.length) :
  ∃g:aw,du [some (cg ls),some (.int (p:Int)),a2] M=if c2 ls p=true then .next [some (cg ls),some (.int (p:Int)),a2] (M++g) else .ret (.bl false) (M++g):=by
 have c:=cx (U:=Int) (en:=D.int) (src:=.fix ((ls.getD p []).map D.int)) (g:=ao 0) (t:=fH) (e:=iP) (μ1:=M) (q:=fun q=>!decide ((p:Int)∈ls.getD q.toNat [])) (h:=D.int)
  (fun ρ=>∃o,ρ=[o,some (.int (p:Int)),some (cg ls)]) (fun _=>trivial) (us:=ls.getD p []) (acc:=[]) (ρ:=[none,some (.int (p:Int)),some (cg ls)]) ⟨none,rfl⟩
  (by rw[Ql];exact NU (by have:=hl _ (cO hp);omega) bz)
  (fun q hq a ρ ⟨o, ho⟩ => by
   refine⟨[some (.int q),some (.int (p:Int)),some (cg ls)],⟨_,rfl⟩,by subst ho;rfl,?_,fun _=>rfl⟩;have hr:=h _ (cO hp) q hq;unfold fH;simp only[dz,aK,aj,ah,aa,ae]
   rw[show gY (cg ls) (.int q) (M++[.lst a])=.ok (cm (ls.getD q.toNat [])) (M++[.lst a]) from by
    rw[show q=((q.toNat:Nat):Int) by omega];exact vT (by omega)]
   simp only[aa,ae,zf,OX,aZ])
 rw[Pv]at c;refine⟨[.lst (((ls.getD p []).filter (fun q=>!decide ((p:Int)∈ls.getD q.toNat []))).map D.int)]++[.lst []],?_⟩;unfold du;rw[bS];simp only[dz,aK,bT,bL,aj,ah,aa,ae,vT hp,iT,aS];rw[show eR [none,some 1,some 0] [some (cg ls),some (.int (p:Int)),a2]=[none,some (.int (p:Int)),some (cg ls)] from rfl,c];simp only[aa,ae,dP,au,Ql,NL (PV sizeLine)];have ne:∀v:List Int,kW true (.obj M.length) (.obj (M++[O.lst (v.map D.int)]).length) (M++[O.lst (v.map D.int)]++[O.lst []])=.ok (.bl (!decide (v=[]))) (M++[O.lst (v.map D.int)]++[O.lst []]):=fun v=>wQ (w:=[]) (aF aA) aA;rw[ne];simp only[aa,ae,aZ];unfold c2;cases decide ((ls.getD p []).filter (fun q=>!decide ((p:Int)∈ls.getD q.toNat []))=[]) with
 |true=>simp only[QO,af,PB,OW,bH,OX,Pp]
 |false=>simp only[QX,af,OX,aU,bt,PB,OW,Pp]
theorem G9{m:Int}{w:List Int}(h:∀n∈w,0<=n/\n<=m-1):sF m (cm w)=true:=by
 show (w.map D.int).all (d3 0 (m-1))=true;rw[RM,QN];intro n hn;have:=h n hn;simp[d3];exact this
theorem yi{ls:List (List Int)}{p:Nat}(hp:p<ls.length):(ls.map cm).getD p .non=cm (ls.getD p []):=by
 rw[Rg,Rg,OK,Ry hp];rfl
theorem CI{ls:List (List Int)}{l:List Int}(h:l∈ls):∃p,p<ls.length/\ls.getD p []=l:=by
 obtain⟨p,hp,e⟩:=So.mp h;exact⟨p,hp,by rw[Rg,Ry hp];exact e⟩
def jN(ls:List (List Int)):Prop:=(1<=ls.length/\ls.length<=6)/\Mi ls/\(∀l∈ls,l.Pairwise (·<·))/\(∀p,p<ls.length->(p:Int)∈ls.getD p [])/\∀p,p<ls.length->∀q∈ls.getD p [],(p:Int)∈ls.getD q.toNat []
theorem mT{d:D}(h:cL d=true):∃ls,d=cg ls/\jN ls:=by
 cases d with
 |tup xs=>
  simp only[cL,Pb,RI]at h;obtain⟨h1,h2,h3⟩:=h;have h2':=QN.mp h2
  obtain⟨ls,rfl,eu,hr⟩:=yk (m:=xs.length) fun x hx=>by
   have:=h2' x hx;unfold xK at this;exact(Pb _ _ ▸ this).1
  rw[eu]at h3;rw[OO]at *;unfold Kv at h3;have h4:=QN.mp h3;have i:Mi ls:=fun l hl n hn=>by have:=hr l hl n hn;omega
  refine⟨ls,rfl,h1,i,fun l hl=>?_,fun p hp=>?_,fun p hp q hq=>?_⟩
  ·have:=h2' (cm l) (Qv hl);unfold xK at this;rw[pA,Pb,Pb]at this;exact lq.mp this.2.2
  ·have:=h4 p (NT.mpr hp);unfold Er at this;rw[Pb]at this;exact Sg this.1
  ·have:=h4 p (NT.mpr hp);unfold Er at this;rw[Pb]at this;have r:=i _ (cO hp) q hq;have:=QN.mp this.2 q.toNat (NT.mpr (by omega));rw[show ((q.toNat:Nat):Int)=q by omega,Pw hq]at this;simpa using this
 |_=>cases h
theorem rL{ls:List (List Int)}(h:jN ls):cL (cg ls)=true:=by
 obtain⟨h1,h2,h3,h4,h5⟩:=h;have eu:(ls.map cm).map y4=ls:=by rw[Qi];exact(Qj fun w _=>pA).trans (List.map_id ls)
 simp only[cL,eu,OO,Pb,RI];refine⟨h1,?_,?_⟩
 ·rw[RM,QN];intro l hl;show xK ls.length (cm l)=true;unfold xK;rw[pA,G9 fun n hn=>by have:=h2 l hl n hn;omega,lq.mpr (h3 l hl)];obtain⟨p,hp,e⟩:=CI hl;have:=h4 p hp;rw[e]at this;rw[Pw (List.length_pos_of_mem this)];rfl
 ·unfold Kv;rw[QN];intro p hp;have hp:=NT.mp hp;unfold Er;rw[Pw (h4 p hp),Se,QN];intro q hq;have hq:=NT.mp hq;by_cases z:(q:Int)∈ls.getD p []
  ·have y:(p:Int)∈ls.getD q []:=h5 p hp q z;rw[Pw z,Pw y];rfl
  ·have y:¬ (p:Int)∈ls.getD q []:=fun y=>z (h5 q hq p y);rw[NI z,NI y];rfl
theorem Fh{μ:aw}{d:D}(h:Kn μ d):de [d] μ=.ok (.bl (cL d)) μ:=by
 unfold de;rw[cN];simp only[jG,List.replicate];rw[aH,bS];simp only[ll,dk,fG,iO,ah,aa,ae,l9 h,cD];cases d with
 |tup xs=>
  simp only[Kn]at h;simp only[jd,QO,PB,OW,dz,nK,az,aq,au,bt,ah,aa,ae,dm,dQ,aZ];by_cases h1:1<=xs.length
  ·by_cases h2 : xs.length <= 6
   ·rw [show f7 .Lt 0 (xs.length : Int) = true from Pw (by omega), NL rfl, show f7 .Lt (xs.length : Int) 7 = true from Pw (by omega)];simp only[aa,ae,aZ,QO,af,PB,OW,bH,aD]
    have rg1:cu 0 xs.length=(List.range xs.length).map fun(i:Nat)=>D.int (i:Int):=by
     show (List.range xs.length).map (fun(i:Nat)=>D.int (0+(i:Int)))=_;exact Qj fun i _=>by rw[Int.zero_add]
    obtain⟨ρ1,M1,⟨g1,b1,b2,rfl,rfl⟩,e1⟩:=rD (U:=Nat) (en:=fun(i:Nat)=>D.int (i:Int)) (src:=.fix (cu 0 xs.length)) (k:=1) (fb:=dv) (c:=c1 xs.length xs) (fun ρ M=>∃(g:aw)(b1 b2:Option D),M=μ++g/\ρ=[some (.tup xs),b1,b2]) (fun _ _ _=>trivial) (List.range xs.length)
     (fun p hp ρ M ⟨g, b1, b2, eM, eρ⟩ => by
      subst eM eρ;obtain⟨g',b,e⟩:=DZ (μ:=μ) (M:=μ++g) (a1:=none) (a2:=b2) (kns_more g h.2) h2 (NT.mp hp)
      exact⟨_,_,⟨g++g',_,b,by rw[Pp],rfl⟩,e⟩) [some (.tup xs),none,none] μ ⟨[],none,none,by rw[Ox],rfl⟩
    rw[aH,iI];simp only[dq,az,aq,au,ah,aa,ae,dm];rw[fm (by omega) (by omega)];simp only[af,ae,aS,OU];rw[rg1]at e1⊢;rw[e1];cases ha:(List.range xs.length).all (c1 xs.length xs) with
    |false=>
     have:cL (.tup xs)=false:=by
      cases hs:cL (.tup xs) with
      |false=>rfl
      |true=>
       obtain⟨ls,e,h1',h2',h3',h4',h5'⟩:=mT hs;injection e with e
       subst e;rw[OO]at ha;rw[<- ha,QN.mpr];intro p hp;have hp:=NT.mp hp;unfold c1;rw[yi hp,pA,G9 fun n hn=>by have:=h2' _ (cO hp) n hn;omega,lq.mpr (h3' _ (cO hp)),Pw (h4' p hp)];rfl
     rw[this];simp only[PB,OW,f9,aM];exact cA (by simp)
    |true=>
     have ha':=QN.mp ha
     have hc:∀p,p<xs.length->sF xs.length (xs.getD p .non)=true/\uz (y4 (xs.getD p .non))=true/\(p:Int)∈y4 (xs.getD p .non):=fun p hp=>by
      have:=ha' p (NT.mpr hp);unfold c1 at this;rw[Pb,Pb,RI]at this;exact this
     obtain⟨ls,rfl,eu,hr⟩:=yk (m:=xs.length) (xs:=xs) fun x hx=>by
      obtain⟨p,hp,e⟩:=So.mp hx;have:=(hc p hp).1;rw[Rg,Ry hp]at this;rw[<- e];exact this
     simp only[OO]at h1 h2 hc hr⊢ rg1;have i:Mi ls:=fun l hl n hn=>by have:=hr l hl n hn;omega
     have kl:∀l∈ls,l.length<1000:=fun l hl=>Hi (lV.mp h.2 _ (Qv hl))
     obtain⟨ρ2,M2,⟨g2,d1,d2,rfl,rfl⟩,e2⟩:=rD (U:=Nat) (en:=fun(i:Nat)=>D.int (i:Int)) (src:=.fix (cu 0 ls.length)) (k:=1) (fb:=du) (c:=c2 ls) (fun ρ M=>∃(g:aw)(b1 b2:Option D),M=μ++g/\ρ=[some (cg ls),b1,b2]) (fun _ _ _=>trivial) (List.range ls.length)
      (fun p hp ρ M ⟨g, b1, b2, eM, eρ⟩ => by
       subst eM eρ;obtain⟨g',e⟩:=DY (M:=μ++g) (a2:=b2) i kl (NT.mp hp)
       exact⟨_,_,⟨g++g',_,b2,by rw[Pp],rfl⟩,e⟩) [some (cg ls),b1,b2] (μ++g1) ⟨g1,b1,b2,rfl,rfl⟩
     simp only[OX,aD];rw[aH,iI];simp only[dq,az,aq,au,ah,aa,ae,dm,OO];rw[fm (by omega) (by omega)];simp only[af,ae,aS,OU];rw[rg1]at e2⊢;rw[e2]
     have es:cL (cg ls)=(List.range ls.length).all (c2 ls):=by
      apply Ot.mpr;constructor
      ·intro hs;obtain⟨ls',e,h1',h2',h3',h4',h5'⟩:=mT hs
       have:ls'=ls:=by
        have e':=Oa (fun d=>match d with | .tup xs=>xs.map y4|_=>[]) e;have eu':∀l:List (List Int),(l.map cm).map y4=l:=fun l=>by rw[Qi];exact(Qj fun w _=>pA).trans (List.map_id l)
        simp only[eu']at e';exact e'.symm
       subst this;rw[QN];exact fun p hp=>C4.mpr (h5' p (NT.mp hp))
      ·intro hs;have hs':=QN.mp hs;refine rL ⟨⟨h1,h2⟩,i,fun l hl=>?_,fun p hp=>?_,fun p hp=>C4.mp (hs' p (NT.mpr hp))⟩
       ·obtain⟨p,hp,e⟩:=CI hl;have:=(hc p hp).2.1;rw[yi hp,pA,e]at this;exact lq.mp this
       ·have:=(hc p hp).2.2;rw[yi hp,pA]at this;exact this
     rw[es];cases (List.range ls.length).all (c2 ls) with
     |false=>
      simp only[PB,OW,f9,aM];exact cA (by simp)
     |true=>
      simp only[OX,aD,aU,bt,af,aM];exact cA (by simp)
   ·rw [show f7 .Lt 0 (xs.length : Int) = true from Pw (by omega), NL rfl, show f7 .Lt (xs.length : Int) 7 = false from NI (by omega)];have:cL (.tup xs)=false:=by simp[cL,h2]
    simp only[aa,ae,aZ,QX,af,OX,aU,bt,f9,aM,this];exact mx
  ·rw [show f7 .Lt 0 (xs.length : Int) = false from NI (by omega), NM Ou];have:cL (.tup xs)=false:=by simp[cL,h1]
   simp only[aa,ae,aZ,QX,af,OX,aU,bt,f9,aM,this];exact mx
 |_=>
  simp only[jd,QX,OX,af,aU,bt,f9,aM,cL];exact mx
theorem LG{u v:Int}{μ:aw}:vZ [.tup [.int u,.int v]] μ=.ok (.int (min u v)) μ:=rfl
theorem wA{M:aw}{t m:Nat}{xs:List D}(hm:m<=6)(ht:M[t]?=some (.lst xs)):∀(rs:List (Int×Int))(acc:List (List Int))(o:Option D),(∀p∈rs,PP m p) ->
  ∃o',iq (.own t xs) M.length (ao 0) bA kC (rs.map d9) [o] (M++[.set acc])=.ok [o'] (M++[.set ((rs.map mm).foldl mL acc)])
 |[],acc,o,_=>by
  refine⟨o,?_⟩;rw[Pd];unfold iq;rw[NL (show cF (.own t xs) (M++[.set acc]) from aF ht)];rfl
 |p::rs,acc,o,h=>by
  obtain⟨o',e⟩:=wA hm ht rs (mL acc (mm p)) (some (d9 p)) fun q hq=>h q (NY _ hq);refine⟨o',?_⟩;have hp:=(h p NX).ok.prs (by omega)
  have ee:kC M.length [some (d9 p)] (M++[.set acc])=.ok [some (d9 p)] (M++[.set (mL acc (mm p))]):=by
   unfold kC zg r8 d9;simp only[dO,aq,au,az,ah,aa,ae,LG,MP,PD,Ql,NL l2,ae];unfold EH;rw[aA];dsimp only;rw[NL (show [min p.1 p.2,max p.1 p.2]∈prs from hp)];simp only[aa,ae];rw[show (M++[O.set acc]).set M.length (O.set (mL acc [min p.1 p.2,max p.1 p.2]))=M++[O.set (mL acc [min p.1 p.2,max p.1 p.2])] from nG];rfl
  rw[Pe];unfold iq;rw[NL (show cF (.own t xs) (M++[.set acc]) from aF ht)];rw[show ao 0 (d9 p) [o] (M++[.set acc])=.ok [some (d9 p)] (M++[.set acc]) from rfl];simp only[ae,aa,ae];rw[show bA [some (d9 p)] (M++[.set acc])=.ok true (M++[.set acc]) from rfl];simp only[ae,aa,ae,OX];rw[ee];simp only[ae,aa,ae];rw[e];rfl
theorem wt{μ:aw}{m t:Nat}{ps:List (Int×Int)}(h0:1<=m)(hm:m<=6)(ht:μ[t]?=some (.lst (ps.map d9)))(hps:∀p∈ps,PP m p):jk [.int m,.obj t] μ=.ok (cz m (bJ (ps.map mm))) μ:=by
 have hks:∀k∈ps.map mm,vI m k:=fun k hk=>by obtain⟨p,hp,rfl⟩:=Qr.mp hk;exact(hps p hp).ok
 obtain⟨ρ',μ',⟨rs,o2,o3,e1,e2,e3⟩,run⟩:=qp (src:=.eno t (ps.map d9)) (g:=g7 2 (bC (ao 2) (bC (ao 3) (g8)))) (fb:=m7)
  (fun xs ρ M=>∃(rs:List (Nat×(Int×Int)))(o2 o3:Option D),xs=rs.map (fun r=>D.tup [.int (r.1:Nat),d9 r.2])/\(M=μ/\∀r∈rs,PP m r.2)/\ρ=[some (.int m),some (.obj t),o2,o3])
  (fun ρ M hJJ => by
   obtain⟨_,_,_,_,e,_⟩:=hJJ
   rw[e.1];exact ht)
  (fun x xs ρ M hJJ => by
   obtain⟨rs,o2,o3,e1,e2,e3⟩:=hJJ;subst e3;obtain⟨rfl,e2⟩:=e2;cases rs with
   |nil=>cases e1
   |cons r rs=>
    rw[Pe]at e1;injection e1 with h1 h2
    subst h1 h2;have hp:=e2 r NX;refine⟨ht,[some (.int m),some (.obj t),some (.int (r.1:Nat)),some (d9 r.2)],M,[some (.int m),some (.obj t),some (.int (r.1:Nat)),some (d9 r.2)],M,rfl,?_,rs,_,_,rfl,⟨rfl,fun z hz=>e2 z (NY _ hz)⟩,rfl⟩;unfold m7;simp only[bS,dk,fG,az,aq,au,ah,aj,aa,ae];rw[show i4 [.int m,d9 r.2] M=.ok (.bl true) M from Ff hp.1 hp.2.1 hp.2.2]
    simp only[aa,ae,cD,QO,af,PB,OW,bH])
  (xs:=eT 0 (ps.map d9)) (ρ:=[some (.int m),some (.obj t),none,none]) (μ:=μ)
  ⟨(List.range ps.length).zip ps, none, none, by
    have core:∀(l:List (Int×Int))(k:Nat),eT k (l.map d9)=((List.range' k l.length).zip l).map (fun r=>D.tup [.int (r.1:Nat),d9 r.2]):=by
     intro l
     induction l with
     |nil=>intro k;rfl
     |cons p l ih=>
      intro k;simp only[Pe,eT,PD,List.range'_succ,RJ];rw[ih (k+1)]
    rw[core,<- List.range_eq_range'],⟨rfl,fun r hr=>hps r.2 (OD hr).2⟩,rfl⟩
 obtain⟨rfl,_⟩:=e2;subst e3;obtain⟨o',sl⟩:=wA hm ht ps [] none hps;unfold jk;rw[cn];simp only[xm,List.replicate,aH,bS,dk,fG,az,aq,au,ah,aj,aa,ae,Fg h0 hm,cD,QO,af,PB,OW,bH,aD,iI,dq];rw[show k9 [.obj t] μ'=.ok (.eno t (ps.map d9)) μ' from by unfold k9;dsimp only;rw[ht]];simp only[af];rw[show (oj.eno t (ps.map d9)).items=eT 0 (ps.map d9) from rfl,run];simp only[aD,aU,dO,aq,au,az,ah,aj,aa,ae];unfold uI;simp only[bL,aj,ah,aa,ae];rw[kh ht];simp only[aa,ae,hU];rw[show eR [none] _=[none] from rfl,sl];simp only[aa,ae];rw[show (ps.map mm).foldl mL []=gD (ps.map mm) from rfl]
 have s2:ck [.obj μ'.length] (μ'++[.set (gD (ps.map mm))])=.ok (.obj (μ'++[O.set (gD (ps.map mm))]).length) ((μ'++[.set (gD (ps.map mm))])++[.lst ((bJ (ps.map mm)).map bf)]):=by
  unfold ck;dsimp only;rw[aA];dsimp only;rw[pH]
 rw[s2];simp only[aa,ae];rw[iS aA];simp only[aa,ae,PD,Ql,NL l2,af,aM];rw[Pp];exact cA (d4 (pG (by omega) (by omega) hks))
theorem x4:∀{l:List Int}{lo hi:Int},l.Pairwise (·<·)->(∀x∈l,lo<=x/\x<hi)->(l.length:Int)<=max 0 (hi-lo)
 |[],lo,hi,_,_=>by simp only[Ql];omega
 |x::r,lo,hi,h,hr=>by
  have ih:=x4 (l:=r) (lo:=x+1) (hi:=hi) (Qx.mp h).2 fun y hy=>⟨(Qx.mp h).1 y hy,(hr y (NY _ hy)).2⟩;have:=hr x NX;simp only[PD];omega
theorem lp{ls:List (List Int)}(h:jN ls){l:List Int}(hl:l∈ls):l.length<=6:=by
 obtain⟨h1,h2,h3,_⟩:=h;have:=x4 (lo:=0) (hi:=ls.length) (h3 l hl) (h2 l hl);omega
theorem C3{μ:aw}{ls:List (List Int)}(h:jN ls)(hk:Kn μ (cg ls)):b8 [cg ls] μ=.ok .non μ:=by
 unfold b8;rw[cN];simp only[jL,List.replicate,bS,dk,fG,az,aq,au,ah,aa,qY hk,rL h,ae,cD,QO,af,PB,OW,bH,wL];exact bx (by simp)
theorem zx{x:DX}{μ:aw}{g:MS}:(SO.exc x μ).bind g=.exc x μ:=RE (RF _)
theorem rm{x:DX}{μ:aw}:(SO.exc x μ).out=.exc x μ:=RE (RF _)
theorem ky{β:Type}{x:DX}{μ:aw}{f:β->aw->SO}:(ai.exc x μ:ai β).bindS f=.exc x μ:=RE (RF _)
theorem x8{x:DX}{μ μ':aw}:qh μ (.exc x μ')=.exc x μ':=RE (RF _)
theorem Ed{c:Str}{ρ:Ro}{μ:aw}:xZ c ρ μ=.exc ⟨c,[]⟩ μ:=RE (RF _)
theorem Hq {μ:aw}{d:D} (hk:Kn μ d) (h:cL d=false):b8 [d] μ=.exc ⟨"NoRoot",[]⟩ μ:=by
 unfold b8;rw[cN];simp only[jL,List.replicate,bS,dk,fG,az,aq,au,ah,aa,qY hk,h,ae,cD,QX,af,OX,Ed,rm,x8]
def Ag(r:Nat×List Int):List (Int×Int):=(r.2.filter fun b=>decide ((r.1:Int)<b)).map fun b=>((r.1:Int),b)
def y8(ls:List (List Int)):List (Nat×List Int):=(List.range ls.length).zip ls
def L8(r:Nat×List Int):D:=.tup [.int (r.1:Nat),cm r.2]
theorem xf{ls:List (List Int)}:eT 0 (ls.map cm)=(y8 ls).map L8:=by
 have core:∀(l:List (List Int))(k:Nat),eT k (l.map cm)=((List.range' k l.length).zip l).map L8:=by
  intro l
  induction l with
  |nil=>intro k;rfl
  |cons p l ih=>
   intro k;simp only[Pe,eT,PD,List.range'_succ,RJ];rw[ih (k+1)];rfl
 unfold y8;rw[core,<- List.range_eq_range']
theorem iR{ls:List (List Int)}{r:Nat×List Int}(h:r∈y8 ls):r.1<ls.length/\ls.getD r.1 []=r.2:=by
 obtain⟨i,hi,e⟩:=So.mp h;unfold y8 at hi e;rw[Sr,Qk,Nat.min_self]at hi;rw[List.getElem_zip,List.getElem_range]at e;subst e;exact⟨hi,by rw[Rg,Ry hi];rfl⟩
theorem JH{ls:List (List Int)}{p:Nat}(h:p<ls.length):(p,ls.getD p [])∈y8 ls:=by
 unfold y8;refine So.mpr ⟨p,by rw[Sr,Qk,Nat.min_self];exact h,?_⟩;rw[List.getElem_zip,List.getElem_range,Rg,Ry h];rfl
theorem zG{ls:List (List Int)}:(y8 ls).length=ls.length:=by
 unfold y8;rw[Sr,Qk,Nat.min_self]
def By(ls:List (List Int)):List (Int×Int):=(y8 ls).flatMap Ag
def z8(ls:List (List Int)):List (Int×Int):=ls.flatMap fun l=>l.flatMap (fj l)
theorem vX{U V:Type}{f:U->List V}{k:Nat}:∀(l:List U),(∀u∈l,(f u).length<=k)->(l.flatMap f).length<=l.length*k
 |[],_=>by simp
 |x::r,h=>by
  have a:=h x NX;have b:=vX r fun u hu=>h u (NY _ hu);rw[Sh,ON,PD,Pu];omega
theorem HS{ls:List (List Int)}(h:jN ls):(By ls).length<=36:=by
 have a:=vX (f:=Ag) (k:=6) (y8 ls) fun r hr=>by
  unfold Ag;rw[OO];have:=lp h (by rw[<- (iR hr).2];exact cO (iR hr).1:r.2∈ls);exact NU (Sl _ _) this
 rw[zG]at a;have:=h.1.2;have:ls.length*6<=6*6:=Sm 6 this;exact NU a this
theorem x6{ls:List (List Int)}(h:jN ls):(z8 ls).length<=216:=by
 have a:=vX (f:=fun l=>l.flatMap (fj l)) (k:=36) ls fun l hl=>by
  have hl6:=lp h hl
  have:=vX (f:=fj l) (k:=6) l fun x _=>by
   unfold fj;rw[OO];exact NU (Sl _ _) hl6
  have:l.length*6<=6*6:=Sm 6 hl6;omega
 have:=h.1.2;have:ls.length*36<=6*36:=Sm 36 this;exact NU a this
theorem sZ{ls:List (List Int)}(h:jN ls):∀p∈By ls,PP ls.length p:=fun p hp=>by
 obtain⟨r,hr,hp⟩:=Sd.mp hp;obtain⟨b,hb,rfl⟩:=Qr.mp hp;obtain⟨h1,h2⟩:=iR hr;obtain⟨hb1,hb2⟩:=NS.mp hb;have:=Sg hb2;have r:=h.2.1 _ (cO h1) b (by rw[h2];exact hb1);exact⟨⟨by dsimp only;omega,by dsimp only;omega⟩,r,by dsimp only;omega⟩
theorem tE{ls:List (List Int)}(h:jN ls):∀p∈z8 ls,PP ls.length p:=fun p hp=>by
 obtain⟨l,hl,hp⟩:=Sd.mp hp;obtain⟨x,hx,hp⟩:=Sd.mp hp;obtain⟨y,hy,rfl⟩:=Qr.mp hp;obtain⟨hy1,hy2⟩:=NS.mp hy;have:=Sg hy2;exact⟨h.2.1 l hl x hx,h.2.1 l hl y hy1,by dsimp only;omega⟩
theorem tj{μ:aw}{w:List Int}:uy (cm w) μ=.ok (.fix (w.map D.int)) μ:=rfl
theorem EW{M:aw}{ls:List (List Int)}(h:jN ls):kd (iE k9 (ag (ak 0) (aB))) [none,none,none] (g7 2 (bC (ao 0) (bC (ao 1) (g8)))) (bA) (kD) [some (cg ls)] M=.ok (.obj M.length) (M++[.lst ((By ls).map d9)]):=by
 have n2:0+1+1<=sizeLine:=l2
 obtain⟨ρ',_,run⟩:=jh (U:=Nat×List Int) (en:=L8) (src:=.fix (eT 0 (ls.map cm))) (g:=g7 2 (bC (ao 0) (bC (ao 1) (g8)))) (t:=bA) (fb:=kD) (μ1:=M) (q:=fun _=>true) (k:=fun r=>(Ag r).map d9)
  (fun ρ=>∃x y z,ρ=[x,y,z]) (fun _=>trivial) (us:=y8 ls) (acc:=[]) (ρ:=[none,none,none]) ⟨_,_,_,rfl⟩
  (by
   rw[cP,Ql,QJ,<- Ss,OO]
   exact NU (show (By ls).length<=1000 by have:=HS h;omega) bz)
  (fun r hr a ρ hJJ => by
   obtain⟨x,y,z,e⟩:=hJJ;subst e;refine⟨[some (.int (r.1:Nat)),some (cm r.2),z],rfl,rfl,⟨(fun q=>Bool.noConfusion q),fun _ ha=>?_⟩⟩
   obtain⟨ρ2,⟨z2,e2⟩,run2⟩:=jh (U:=Int) (en:=D.int) (src:=.fix (r.2.map D.int)) (g:=ao 2) (t:=m5) (fb:=la m8) (μ1:=M) (q:=fun b=>decide ((r.1:Int)<b)) (k:=fun b=>[d9 ((r.1:Int),b)])
    (fun ρ=>∃z,ρ=[some (.int (r.1:Nat)),some (cm r.2),z]) (fun _=>trivial) (us:=r.2) (acc:=a) (ρ:=[some (.int (r.1:Nat)),some (cm r.2),z]) ⟨_,rfl⟩
    (by
     rw[<- Su]
     ·unfold Ag at ha;rw[Qi]at ha
      exact ha)
    (fun b hb a ρ hJJ => by
     obtain⟨z,e⟩:=hJJ;subst e;refine⟨[some (.int (r.1:Nat)),some (cm r.2),some (.int b)],rfl,?_,fun _=>⟨_,rfl⟩,fun _ ha=>⟨[some (.int (r.1:Nat)),some (cm r.2),some (.int b)],⟨_,rfl⟩,?_⟩⟩
     ·unfold m5;simp only[dz,aK,aj,ah,aa,ae,dQ,aZ];rfl
     ·refine xg ?_ ha;unfold m8;simp only[dO,aq,au,aj,ah,aa,ae,PD,Ql,NL n2]
      rfl)
   subst e2;refine⟨[some (.int (r.1:Nat)),some (cm r.2),z2],⟨_,_,_,rfl⟩,?_⟩;unfold kD jI;simp only[bL,aj,ah,aa,tj,ae,aS];rw[run2];rw[<- Su];unfold Ag;rw[Qi]
   rfl)
 unfold kd;simp only[dq,aq,au,ah,aa];rw[show k9 [cg ls] M=.ok (.fix (eT 0 (ls.map cm))) M from rfl];simp only[aa,aS];rw[show eR [none,none,none] [some (cg ls)]=[none,none,none] from rfl];rw[xf]at run⊢;rw[run];simp only[aa,cP,Pv];rw[<- Ss];rfl
theorem De{μ:aw}{ls:List (List Int)}(h:jN ls)(hk:Kn μ (cg ls)):jm [cg ls] μ=.ok (cz ls.length (bJ ((By ls).map mm))) μ:=by
 unfold jm;rw[cN];simp only[rK,List.replicate];rw[aH,gF];simp only[az,aq,au,ah,aa,C3 h hk,af,aD,aU,dm,OO];rw[show (some (cg ls)::List.replicate (1-1) none)=[some (cg ls)] from rfl,EW h];simp only[aa];rw[wt h.1.1 h.1.2 aA (sZ h)];simp only[ae,af,aM];exact cA (d4 (fk h.1.1 h.1.2 (sZ h)))
theorem Gs{M:aw}{ls:List (List Int)}(h:jN ls):kd (fE (ak 0)) [none,none,none] (ao 0) (bA) (jK) [some (cg ls)] M=.ok (.obj M.length) (M++[.lst ((z8 ls).map d9)]):=by
 have n2:0+1+1<=sizeLine:=l2
 obtain⟨ρ',_,run⟩:=jh (U:=List Int) (en:=cm) (src:=.fix (ls.map cm)) (g:=ao 0) (t:=bA) (fb:=jK) (μ1:=M) (q:=fun _=>true) (k:=fun l=>(l.flatMap (fj l)).map d9)
  (fun ρ=>∃x y z,ρ=[x,y,z]) (fun _=>trivial) (us:=ls) (acc:=[]) (ρ:=[none,none,none]) ⟨_,_,_,rfl⟩
  (by
   rw[cP,Ql,QJ,<- Ss,OO]
   exact NU (show (z8 ls).length<=1000 by have:=x6 h;omega) bz)
  (fun l hl a ρ hJJ => by
   obtain⟨x,y,z,e⟩:=hJJ;subst e;refine⟨[some (cm l),y,z],rfl,rfl,⟨(fun q=>Bool.noConfusion q),fun _ ha=>?_⟩⟩
   obtain⟨ρ2,⟨y2,z2,e2⟩,run2⟩:=jh (U:=Int) (en:=D.int) (src:=.fix (l.map D.int)) (g:=ao 1) (t:=bA) (fb:=jI (fE (ak 0)) (ao 2) (fN) (la (fR))) (μ1:=M) (q:=fun b=>true) (k:=fun x=>(fj l x).map d9)
    (fun ρ=>∃y z,ρ=[some (cm l),y,z]) (fun _=>trivial) (us:=l) (acc:=a) (ρ:=[some (cm l),y,z]) ⟨_,_,rfl⟩
    (by rw[cP,<- Ss];exact ha)
    (fun b hb a ρ hJJ => by
     obtain⟨y,z,e⟩:=hJJ;subst e;refine⟨[some (cm l),some (.int b),z],rfl,rfl,⟨(fun q=>Bool.noConfusion q),fun _ ha=>?_⟩⟩
     obtain⟨ρ3,⟨z3,e3⟩,run3⟩:=jh (U:=Int) (en:=D.int) (src:=.fix (l.map D.int)) (g:=ao 2) (t:=fN) (fb:=la fR) (μ1:=M) (q:=fun y=>decide (b<y)) (k:=fun y=>[d9 (b,y)])
      (fun ρ=>∃z,ρ=[some (cm l),some (.int b),z]) (fun _=>trivial) (us:=l) (acc:=a) (ρ:=[some (cm l),some (.int b),z]) ⟨_,rfl⟩
      (by
       rw[<- Su];unfold fj at ha;rw[Qi]at ha
       exact ha)
      (fun c hc a ρ hJJ => by
       obtain⟨z,e⟩:=hJJ;subst e;refine⟨[some (cm l),some (.int b),some (.int c)],rfl,?_,fun _=>⟨_,rfl⟩,fun _ ha=>⟨[some (cm l),some (.int b),some (.int c)],⟨_,rfl⟩,?_⟩⟩
       ·unfold fN;simp only[dz,aK,aj,ah,aa,ae,dQ,aZ];rfl
       ·refine xg ?_ ha;unfold fR;simp only[dO,aq,au,aj,ah,aa,ae,PD,Ql,NL n2]
        rfl)
     subst e3;refine⟨[some (cm l),some (.int b),z3],⟨_,_,rfl⟩,?_⟩;unfold jI;simp only[bL,aj,ah,aa,tj,ae,aS];rw[run3,<- Su];unfold fj;rw[Qi]
     rfl)
   subst e2;refine⟨[some (cm l),y2,z2],⟨_,_,_,rfl⟩,?_⟩;show (fE (ak 0) [some (cm l),y,z] (M++[O.lst a])).nox.bind (fun src μ1=>iq src M.length (ao 1) bA (jI (fE (ak 0)) (ao 2) fN (la fR)) src.items [some (cm l),y,z] μ1)=_;rw[show fE (ak 0) [some (cm l),y,z] (M++[O.lst a])=.ok (.fix (l.map D.int)) (M++[O.lst a]) from rfl];simp only[ae,aa,aS]
   rw[run2,cP,<- Ss])
 unfold kd;simp only[bL,ah,aa];rw[show uy (cg ls) M=.ok (.fix (ls.map cm)) M from rfl];simp only[aa,aS];rw[show eR [none,none,none] [some (cg ls)]=[none,none,none] from rfl,run];simp only[aa,cP,Pv];rw[<- Ss];rfl
theorem AA{μ:aw}{ls:List (List Int)}(h:jN ls)(hk:Kn μ (cg ls)):eY [cg ls] μ=.ok (cz ls.length (bJ ((z8 ls).map mm))) μ:=by
 unfold eY;rw[cN];simp only[lF,List.replicate];rw[aH,gF];simp only[az,aq,au,ah,aa,C3 h hk,af,aD,aU,dm,OO];rw[show (some (cg ls)::List.replicate (1-1) none)=[some (cg ls)] from rfl,Gs h];simp only[aa];rw[wt h.1.1 h.1.2 aA (tE h)];simp only[ae,af,aM];exact cA (d4 (fk h.1.1 h.1.2 (tE h)))
theorem K5 {μ:aw}{d:D} (hk:Kn μ d) (h:cL d=false):jm [d] μ=.exc ⟨"NoRoot",[]⟩ μ:=by
 unfold jm;rw[cN];simp only[rK,List.replicate];rw[aH,gF];simp only[az,aq,au,ah,aa,Hq hk h,ky,zx,rm,x8]
theorem LL {μ:aw}{d:D} (hk:Kn μ d) (h:cL d=false):eY [d] μ=.exc ⟨"NoRoot",[]⟩ μ:=by
 unfold eY;rw[cN];simp only[lF,List.replicate];rw[aH,gF];simp only[az,aq,au,ah,aa,Hq hk h,ky,zx,rm,x8]
theorem nJ{U:Type}{en:U->D}{src:oj}{g:MG}{fb:MS}{T:Nat}{k:U->List D}{μ:aw}(R:Ro->Prop)(ho:∀M,cF src M):∀(us:List U)(acc:List D)(ρ:Ro)(G:aw),R ρ->(μ++G)[T]?=some (.lst acc)->acc.length+(us.flatMap k).length<=100000 ->
  (∀u∈us,∀ρ G acc,R ρ->(μ++G)[T]?=some (.lst acc)->acc.length+(k u).length<=100000->∃ρ1 ρ2 G',g (en u) ρ (μ++G)=.ok ρ1 (μ++G)/\fb ρ1 (μ++G)=.next ρ2 (μ++G')/\R ρ2/\(μ++G')[T]?=some (.lst (acc++k u))) ->
  ∃ρ' G',gr src g fb (us.map en) ρ (μ++G)=.next ρ' (μ++G')/\R ρ'/\(μ++G')[T]?=some (.lst (acc++us.flatMap k))
 |[],acc,ρ,G,hR,hT,_,_=>⟨ρ,G,by rw[Pd];unfold gr;rw[NL (ho _)],hR,by rw[Sn,Ox];exact hT⟩
 |u::us,acc,ρ,G,hR,hT,hl,hs=>by
  rw[Sh,ON]at hl;obtain⟨ρ1,ρ2,G1,e1,e2,r2,t2⟩:=hs u NX ρ G acc hR hT (by omega);obtain⟨ρ',G',e3,r3,t3⟩:=nJ R ho us (acc++k u) ρ2 G1 r2 t2 (by rw[ON];omega) fun v hv=>hs v (NY _ hv);refine⟨ρ',G',?_,r3,by rw[t3,Sh,Pp]⟩;rw[Pe];unfold gr;rw[NL (ho _),e1];simp only[af,e2,zJ,e3]
theorem CW{μ G:aw}{T:Nat}{acc xs:List D}(hT:(μ++G)[T]?=some (.lst acc))(hμ:μ.length<=T)(hl:acc.length+xs.length<=100000) :
  ∃G',fV (.obj T) [.obj (μ++G).length] (μ++G++[.lst xs])=.ok .non (μ++G')/\(μ++G')[T]?=some (.lst (acc++xs)):=by
 have hlt:=(N3.mp hT).1;refine⟨(G++[O.lst xs]).set (T-μ.length) (.lst (acc++xs)),?_,?_⟩
 ·rw[xb (aF hT) aA hl,Pp,List.set_append,NM (by omega)]
 ·rw[OH hμ,N5];rw[ON]at *;simp only[ON,PD,Ql];omega
def Af(r:Nat×List Int):List (Int×Int):=(r.2.filter fun b=>!decide (b=(r.1:Int))).map fun b=>((r.1:Int),b)
def xM(ls:List (List Int)):List (Int×Int):=(y8 ls).flatMap Af
theorem wB{M:aw}{w:List Int}{x:Int}{q:Int->Bool}{t:MT}{e:ME}(hl:w.length<=1000)(ht:∀y M,t [some (.int y),some (.int x)] M=.ok (q y) M)(he:∀y M,e [some (.int y),some (.int x)] M=.ok (d9 (x,y)) M) :
  compLoop (.fix (w.map D.int)) M.length (ao 0) t e (w.map D.int) [none,some (.int x)] (M++[.lst []])=.ok (.obj M.length) (M++[.lst (((w.filter q).map fun y=>(x,y)).map d9)]):=by
 have c:=cx (U:=Int) (en:=D.int) (src:=.fix (w.map D.int)) (g:=ao 0) (t:=t) (e:=e) (μ1:=M) (q:=q) (h:=fun y=>d9 (x,y)) (fun ρ=>∃o,ρ=[o,some (.int x)]) (fun _=>trivial) (us:=w) (acc:=[]) (ρ:=[none,some (.int x)]) ⟨_,rfl⟩
  (by rw[Ql];exact NU (by omega) bz)
  (fun y hy a ρ ⟨o,ho⟩=>⟨[some (.int y),some (.int x)],⟨_,rfl⟩,by subst ho;rfl,ht y _,fun _=>he y _⟩)
 rw[c,Pv,Qi];rfl
end Lw
namespace Lw
open PySem L2 RS Lv
section
variable{ls:List (List Int)}{μ M:aw}
theorem B4(h:jN ls):∀p∈xM ls,PP ls.length p:=fun p hp=>by
 obtain⟨r,hr,hp⟩:=Sd.mp hp;obtain⟨b,hb,rfl⟩:=Qr.mp hp;obtain⟨h1,h2⟩:=iR hr;obtain⟨hb1,hb2⟩:=NS.mp hb;have:b≠(r.1:Int):=by simpa using hb2
 have r:=h.2.1 _ (cO h1) b (by rw[h2];exact hb1);exact⟨⟨by dsimp only;omega,by dsimp only;omega⟩,r,by dsimp only;omega⟩
theorem CJ(h:jN ls):(xM ls).length<=36:=by
 have a:=vX (f:=Af) (k:=6) (y8 ls) fun r hr=>by
  unfold Af;rw[OO];have:=lp h (by rw[<- (iR hr).2];exact cO (iR hr).1:r.2∈ls);exact NU (Sl _ _) this
 rw[zG]at a;have:=h.1.2;have:ls.length*6<=6*6:=Sm 6 this;exact NU a this
theorem LJ(h:jN ls):bJ ((xM ls).map mm)=bJ ((By ls).map mm):=by
 refine w8 (fk h.1.1 h.1.2 (B4 h)) (fk h.1.1 h.1.2 (sZ h)) fun a b=>?_;rw[qZ h.1.2 (B4 h),qZ h.1.2 (sZ h)];constructor
 ·rintro ⟨p, hp, e⟩
  obtain⟨r,hr,hp⟩:=Sd.mp hp;obtain⟨c,hc,rfl⟩:=Qr.mp hp;obtain⟨h1,h2⟩:=iR hr;obtain⟨hc1,hc2⟩:=NS.mp hc;have ne:c≠(r.1:Int):=by simpa using hc2
  have rg:=h.2.1 _ (cO h1) c (by rw[h2];exact hc1);by_cases z:(r.1:Int)<c
  ·exact⟨_,Sd.mpr ⟨r,hr,Qr.mpr ⟨c,NS.mpr ⟨hc1,Pw z⟩,rfl⟩⟩,e⟩
  ·have sy := h.2.2.2.2 r.1 h1 c (by rw [h2]; exact hc1);have hc':c.toNat<ls.length:=by omega
   refine⟨(c,(r.1:Int)),Sd.mpr ⟨(c.toNat,ls.getD c.toNat []),JH hc',Qr.mpr ⟨(r.1:Int),NS.mpr ⟨sy,Pw (by dsimp only;omega)⟩,?_⟩⟩,?_⟩
   ·dsimp only;rw[show ((c.toNat:Nat):Int)=c by omega]
   ·rw[<- e];unfold mm;dsimp only;rw[Int.min_comm,Int.max_comm]
 ·rintro ⟨p, hp, e⟩
  obtain⟨r,hr,hp⟩:=Sd.mp hp;obtain⟨c,hc,rfl⟩:=Qr.mp hp;obtain⟨hc1,hc2⟩:=NS.mp hc;have:=Sg hc2;exact⟨_,Sd.mpr ⟨r,hr,Qr.mpr ⟨c,NS.mpr ⟨hc1,by simp;omega⟩,rfl⟩⟩,e⟩
theorem JJ{T:Nat}{G:aw}{a0 a1 a2 a3 a4 a6 a7:Option D}(h:jN ls)(hT:(μ++G)[T]?=some (.lst []))(hμ:μ.length<=T) :
  ∃b6 b7 G',gr (.fix (eT 0 (ls.map cm))) (g7 2 (bC (ao 6) (bC (ao 7) (g8)))) gQ (eT 0 (ls.map cm)) [a0,a1,a2,a3,a4,some (.obj T),a6,a7] (μ++G)=.next [a0,a1,a2,a3,a4,some (.obj T),b6,b7] (μ++G')/\(μ++G')[T]?=some (.lst ((xM ls).map d9)):=by
 have n2:0+1+1<=sizeLine:=l2
 obtain⟨ρ',G',e,⟨b6,b7,er⟩,t⟩:=nJ (U:=Nat×List Int) (en:=L8) (src:=.fix (eT 0 (ls.map cm))) (g:=g7 2 (bC (ao 6) (bC (ao 7) (g8)))) (fb:=gQ) (T:=T) (k:=fun r=>(Af r).map d9) (μ:=μ)
  (fun ρ=>∃b6 b7,ρ=[a0,a1,a2,a3,a4,some (.obj T),b6,b7]) (fun _=>trivial) (y8 ls) [] _ G ⟨a6,a7,rfl⟩ hT
  (by
   rw[Ql,QJ,<- Ss,OO]
   exact NU (show (xM ls).length<=36 from CJ h) (by decide))
  (fun r hr ρ G acc hR hT hl => by
   obtain⟨b6,b7,e⟩:=hR;subst e;obtain⟨G',x1,x2⟩:=CW (xs:=(Af r).map d9) hT hμ hl;have hl6:=lp h (by rw[<- (iR hr).2];exact cO (iR hr).1:r.2∈ls);refine⟨[a0,a1,a2,a3,a4,some (.obj T),some (.int (r.1:Nat)),some (cm r.2)],[a0,a1,a2,a3,a4,some (.obj T),some (.int (r.1:Nat)),some (cm r.2)],G',rfl,?_,⟨_,_,rfl⟩,x2⟩;unfold gQ;simp only[gF,pD,aj,ah,aa,ae,mQ hT,OX,aq,au,bT,bL,tj,aS];rw[show eR [none,some 6] [a0,a1,a2,a3,a4,some (.obj T),some (.int (r.1:Nat)),some (cm r.2)]=[none,some (.int (r.1:Nat))] from rfl]
   rw[wB (q:=fun b=>!decide (b=(r.1:Int))) (by omega) (fun y M=>by
    unfold lK;simp only[dz,aK,aj,ah,aa,ae,jJ,aZ]
    rfl) (fun y M=>by
    unfold lM;simp only[dO,aq,au,aj,ah,aa,ae,PD,Ql,NL n2]
    rfl)]
   simp only[aa,ae];rw[show ((r.2.filter fun b=>!decide (b=(r.1:Int))).map fun y=>((r.1:Int),y))=Af r from rfl,x1]
   simp only[af])
 subst er;refine⟨b6,b7,G',?_,by rw[t,Pv,<- Ss];rfl⟩;rw[<- xf]at e;exact e
theorem Iy(h:jN ls):d8 [cg ls] μ=.ok (cz ls.length (bJ ((z8 ls).map mm))) μ:=by
 have n2:0+1+1<=sizeLine:=l2
 obtain⟨ρ',G',e,⟨b2,b3,er⟩,t⟩:=nJ (U:=List Int) (en:=cm) (src:=.fix (ls.map cm)) (g:=ao 2) (fb:=gW) (T:=μ.length) (k:=fun l=>(l.flatMap (fj l)).map d9) (μ:=μ)
  (fun ρ=>∃b2 b3,ρ=[some (cg ls),some (.obj μ.length),b2,b3]) (fun _=>trivial) ls [] _ [.lst []] ⟨none,none,rfl⟩ aA
  (by
   rw[Ql,QJ,<- Ss,OO]
   exact NU (show (z8 ls).length<=216 from x6 h) (by decide))
  (fun l hl ρ G acc hR hT hlen => by
   obtain⟨b2,b3,e⟩:=hR;subst e;have hl6:=lp h hl
   obtain⟨ρ2,G2,e2,⟨c3,er2⟩,t2⟩:=nJ (U:=Int) (en:=D.int) (src:=.fix (l.map D.int)) (g:=ao 3) (fb:=gX) (T:=μ.length) (k:=fun x=>(fj l x).map d9) (μ:=μ)
    (fun ρ=>∃b3,ρ=[some (cg ls),some (.obj μ.length),some (cm l),b3]) (fun _=>trivial) l acc _ G ⟨b3,rfl⟩ hT
    (by rw[<- Ss];exact hlen)
    (fun x hx ρ G acc hR hT hlen => by
     obtain⟨b3,e⟩:=hR;subst e;obtain⟨G',x1,x2⟩:=CW (xs:=(fj l x).map d9) hT (Om _) hlen;refine⟨[some (cg ls),some (.obj μ.length),some (cm l),some (.int x)],[some (cg ls),some (.obj μ.length),some (cm l),some (.int x)],G',rfl,?_,⟨_,rfl⟩,x2⟩;unfold gX;simp only[gF,pD,aj,ah,aa,ae,mQ hT,OX,aq,au,bT,bL,tj,aS];rw[show eR [none,some 3] [some (cg ls),some (.obj μ.length),some (cm l),some (.int x)]=[none,some (.int x)] from rfl]
     rw[wB (q:=fun y=>decide (x<y)) (by omega) (fun y M=>by
      unfold jD;simp only[dz,aK,aj,ah,aa,ae,dQ,aZ]
      rfl) (fun y M=>by
      unfold jE;simp only[dO,aq,au,aj,ah,aa,ae,PD,Ql,NL n2]
      rfl)]
     simp only[aa,ae];rw[show ((l.filter fun y=>decide (x<y)).map fun y=>(x,y))=fj l x from rfl,x1]
     simp only[af])
   subst er2;refine⟨[some (cg ls),some (.obj μ.length),some (cm l),b3],[some (cg ls),some (.obj μ.length),some (cm l),c3],G2,rfl,?_,⟨_,_,rfl⟩,by rw[t2,<- Ss]⟩;unfold gW;rw[iI];simp only[bL,aj,ah,aa,ae,tj,af,aS]
   exact e2)
 subst er;rw[Pv,<- Ss]at t;unfold d8;rw[cN];simp only[kT,List.replicate];rw[aH,bc];simp only[dP,au,aa,ae,Ql,NL (PV sizeLine),af,bD,aD,Sa,Sb];rw[aH,iI];simp only[bL,aj,ah,aa,ae,iT,af,aS];rw[e];simp only[aD,aU,az,aq,au,aj,ah,aa,ae,dm,OO];rw[jU h.1.1 h.1.2 (NU (x6 h) (by decide)) t (tE h)];simp only[af,aM];exact cA (d4 (fk h.1.1 h.1.2 (tE h)))
end
end Lw
namespace Lw
open PySem L2 RS Lv
theorem yc{subs known:List Str}{n:Nat}{c:Str}{μ:aw}(h:μ[n]?=some (.exc c))(hk:known.contains c=true):mK subs known (.obj n) μ=.ok (.bl (subs.contains c)) μ:=by
 unfold mK;dsimp only;rw[h];dsimp only;rw[NL hk]
theorem kn{μ:aw}{a b:Nat}{xs ys:List D}(h:μ[a]?=some (.lst xs))(g:μ[b]?=some (.lst ys))(hn:xs.length+ys.length<=1000000):cf (.obj a) (.obj b) μ=.ok (.obj μ.length) (μ++[.lst (xs++ys)]):=by
 unfold cf;simp only[h,g];rw[NL (NU hn (by decide))]
theorem l4:(4:Nat)<=sizeLine:=by decide
theorem l8:(8:Nat)<=sizeLine:=by decide
abbrev qJ:List D:=[.str "place",.str "number",.str "line",.str "root",.str "tree",.str "web",.str "text",.str "great"]
theorem gU:(["NoPlace"]:List Str).contains "NoRoot" = false:=by decide +kernel
theorem ia:(["NoRoot"]:List Str).contains "NoRoot" = true:=by decide +kernel
theorem lB:([]:List Str).contains "NoRoot" = false:=by decide +kernel
theorem eX:(["NoPlace", "NoRoot"]:List Str).contains "NoRoot" = true:=by decide +kernel
abbrev kA:List D:=[D.bl false,D.bl false,D.bl false,D.bl true]
abbrev kB:List D:=[D.bl false,D.bl false,D.bl false,D.bl false]
abbrev kR(μ:aw):aw:=μ++[O.lst kA]++[O.lst kB]
abbrev kS(μ:aw):aw:=kR μ++[O.lst (kA++kB)]
theorem sd {μ:aw}{n:Nat} (h:μ[n]?=some (.exc "NoRoot")):fe [.obj n] μ=.ok (.str "root") μ:=by
 have h1:(μ++[O.lst kA])[n]?=some (.exc "NoRoot"):=aF h;have h2:(kR μ)[n]?=some (.exc "NoRoot"):=aF h1;have h3:(kS μ)[n]?=some (.exc "NoRoot"):=aF h2;have m3:(kS μ)[(kR μ).length]?=some (.lst (kA++kB)):=aA;have m4:(kS μ++[O.lst qJ])[(kR μ).length]?=some (.lst (kA++kB)):=aF m3;have k4:(kS μ++[O.lst qJ])[(kS μ).length]?=some (.lst qJ):=aA;have a1:=kn (μ:=kR μ) (a:=μ.length) (b:=(μ++[O.lst kA]).length) (xs:=kA) (ys:=kB) (aF aA) aA (by decide)
 have c1:l5 (.obj (kR μ).length) [.bl true] (kS μ)=.ok (.int 1) (kS μ):=by
  unfold l5;dsimp only;rw[m3];rfl
 have i1:l0 (.obj (kR μ).length) [.bl true] (kS μ++[O.lst qJ])=.ok (.int 3) (kS μ++[O.lst qJ]):=by
  unfold l0;dsimp only;rw[m4];dsimp only;rw[NL ⟨rfl,by decide,rfl⟩];rfl
 have e3:z9 (.obj (kR μ).length) (kS μ)=true:=by unfold z9;dsimp only;rw[m3]
 have e4:z9 (.obj (kR μ).length) (kS μ++[O.lst qJ])=true:=by unfold z9;dsimp only;rw[m4]
 unfold fe;rw[cN];simp only[lO,List.replicate,aH,bc,dP,aq,au,iO,ah,aa,yc h eX,gU,ia,lB,eX];rw[NL (show kA.length<=sizeLine from l4)];simp only[af];rw[show ao 1 (D.obj μ.length) [some (D.obj n),none] (μ++[O.lst kA])=.ok [some (D.obj n),some (D.obj μ.length)] (μ++[O.lst kA]) from rfl];simp only[af,aD,aH,bc,aK,dP,aq,au,iO,ah,aj,aa,yc h1 eX,gU,ia,lB,eX];rw[NL (show kB.length<=sizeLine from l4)];simp only[aa];rw[a1];simp only[af];rw[show ao 1 (D.obj (kR μ).length) [some (D.obj n),some (D.obj μ.length)] (kS μ)=.ok [some (D.obj n),some (D.obj (kR μ).length)] (kS μ) from rfl];simp only[af,aD,aH,bS,ll,dk,fG,iO,aK,aq,au,ah,aj,bt,aa,yc h3 eX,gU,ia,lB,eX,cD,QO,PB,OW];unfold lT;simp only[aK,pD,aq,au,ah,aj,bt,aa,e3,OX,c1,jJ,aZ];rw[show (!((1:Int) == 1))=false from rfl];simp only[af,PB,OW,bH,aD,aU,aK,dP,aq,au,bt,aa];rw[NL (show [D.str "place",D.str "number",D.str "line",D.str "root",D.str "tree",D.str "web",D.str "text",D.str "great"].length<=sizeLine from l8)];simp only[aa,pD,aq,au,aj,ah,bt,e4,OX,i1];rw[iH (xs:=qJ) (d:=.str "root") k4 rfl];simp only[af,aM,Pp];exact cA (by simp)
theorem Hc{F G:List D->aw->ai D}{fr:MA}{ρ:Ro}{μ:aw}:qP [F,G] 0 fr (some (.int 0)::ρ) μ=(fr (some (.int 0)::ρ) μ).bind F:=by unfold qP;rfl
theorem Hb{F G:List D->aw->ai D}{fr:MA}{ρ:Ro}{μ:aw}:qP [F,G] 0 fr (some (.int 1)::ρ) μ=(fr (some (.int 1)::ρ) μ).bind G:=by unfold qP;rfl
theorem RF{μ:aw}{x:D}{p:PyData}{neg:Bool}(e:mI μ x=some p)(f:eG p=true):kW neg x x μ=.ok (.bl (!neg)) μ:=by
 unfold kW;rw[e];dsimp only;rw[NL ⟨f,f⟩,SeqAt.eqv_refl _ (bU f)];cases neg <;> rfl
theorem MY{M:aw}{neg:Bool}{x:Str}:Al neg (.str x) (.str x) M=.ok (.bl (!neg)) M:=by
 unfold Al;dsimp only;rw[Pw rfl];cases neg <;> rfl
theorem J8{M:aw}{x y:D}{p:PyData}{neg:Bool}(e:mI M x=some p)(e':mI M y=some p)(f:eG p=true):kW neg x y M=.ok (.bl (!neg)) M:=by
 unfold kW;rw[e,e'];dsimp only;rw[NL ⟨f,f⟩,SeqAt.eqv_refl _ (bU f)];cases neg <;> rfl
theorem Bf:eG (.list [.str "root",.str "root"])=true:=by decide +kernel
theorem tH {M:aw}{n:Nat} (h:M[n]?=some (.lst [.str "root",.str "root"])):mI M (.obj n)=some (.list [.str "root",.str "root"]):=by
 unfold mI;dsimp only;rw[h];rfl
theorem wZ{μ:aw}:∀fs:List Int,toPs μ (fs.map D.int)=some (fs.map PyData.int)
 |[]=>rfl
 |x::fs=>by simp only[Pe,toPs,wZ fs];rfl
theorem zt{μ:aw}:∀ls:List (List Int),iN μ (ls.map cm)=some (ls.map g6)
 |[]=>rfl
 |l::ls=>by
  have:Ac μ (cm l)=some (g6 l):=by
   show (toPs μ (l.map D.int)).map PyData.tuple=_;rw[wZ];rfl
  simp only[Pe,iN,zt ls,this];rfl
theorem Ij{μ:aw}{ls:List (List Int)}:mI μ (cg ls)=some (.tuple (ls.map g6)):=by
 simp only[mI,zt,Option.map_some]
theorem Co:∀ls:List (List Int),PyData.canLayAll0 (ls.map g6)=true/\PyData.depthAll (ls.map g6)<=1
 |[]=>by simp[PyData.canLayAll0,PyData.depthAll]
 |l::ls=>by
  have ih:=Co ls;have f:=lx l;simp only[Pe,PyData.canLayAll0,PyData.depthAll,ih.1,g6,PyData.canLay0,PyData.depth,f.1,f.2];have:=ih.2;exact⟨rfl,by omega⟩
theorem Il{ls:List (List Int)}:eG (.tuple (ls.map g6))=true:=by
 have:=Co ls;simp only[eG,PyData.canLay0,this.1,PyData.depth,Se];exact Pw (by have:=this.2;omega)
theorem CN {μ:aw}{xs:List D}:gq "tuple" (.tup xs) μ=.ok (.bl true) μ:=rfl
theorem D8{w:List Int}{M:aw}(hl:w.length<=1000):compLoop (.fix (w.map D.int)) M.length (ao 0) bA dw (w.map D.int) [none] (M++[.lst []])=.ok (.obj M.length) (M++[.lst ((w.map fun _=>true).map D.bl)]):=by
 have c:=cx (U:=Int) (en:=D.int) (src:=.fix (w.map D.int)) (g:=ao 0) (t:=bA) (e:=dw) (μ1:=M) (q:=fun _=>true) (h:=fun _=>.bl true) (fun ρ=>∃o,ρ=[o]) (fun _=>trivial) (us:=w) (acc:=[]) (ρ:=[none]) ⟨_,rfl⟩
  (by rw[Ql];exact NU (by omega) bz)
  (fun k hk x ρ hJJ => by
   obtain⟨o,e'⟩:=hJJ;subst e';refine⟨[some (.int k)],⟨_,rfl⟩,rfl,rfl,fun _=>?_⟩;unfold dw;simp only[az,aq,au,ah,aa]
   exact oJ (by simp[Kn]))
 rw[c,cP,Pv,Qi];rfl
theorem tK{μ:aw}{ls:List (List Int)}(h:∀k∈ls,k.length<=1000)(hl:ls.length<=1000):bp [cg ls,cg ls] μ=.ok (.bl true) μ:=by
 obtain⟨ys',ρ',μ2,s',⟨e1,n,L',e3,e4,e5,e6,e7⟩,run⟩:=jP (src:=.fix (ls.map cm)) (g:=ao 0) (t:=bA) (e:=fI) (n:=μ.length)
  (fun xs ys ρ μ2 s=>μ2=μ/\∃(n:Nat)(L':List (List Int)),xs=L'.map cm/\(∀k∈L',k.length<=1000)/\ys=(List.replicate n true).map D.bl/\n+L'.length<=1000/\∃o,ρ=[o])
  (fun ys ρ μ2 s ⟨e,_⟩=>⟨by rw[e],trivial⟩)
  (fun x r ys ρ μ2 s hJ => by
   obtain⟨e1,n,L',e3,e4,e5,e6,o,e7⟩:=hJ;subst e1 e5 e7;cases L' with
   |nil=>cases e3
   |cons k L'=>
    rw[Pe]at e3;injection e3 with ex er
    subst ex er;have hk:=e4 k NX;simp only[PD]at e6;refine⟨rfl,trivial,[some (cm k)],μ2,s,true,μ2,s,rfl,rfl,fun _=>⟨.bl true,μ2,s++[.lst ((k.map fun _=>true).map D.bl)],?_,?_,rfl,rfl,n+1,L',rfl,fun k hk=>e4 k (NY _ hk),?_,by omega,_,rfl⟩,fun z=>by cases z⟩
    ·unfold fI;simp only[gG,iO,ah,aa];rw[show gq "tuple" (cm k) (μ2++O.lst ((List.replicate n true).map D.bl)::s)=.ok (.bl true) (μ2++O.lst ((List.replicate n true).map D.bl)::s) from rfl];simp only[aa,aZ,OX,az,aq,au,bT,bL,ah,tj,aS];rw[show eR [none] [some (cm k)]=[none] from rfl,D8 hk];simp only[aa];refine(iU aA).trans ?_;rw[show (k.map fun _=>true).all id=true from by simp];simp only[Pp,Qn]
    ·simp only[OO,OP];exact NP (show n<1000 by omega) bz
    ·rw[List.replicate_succ',Qy];rfl)
  (xs:=ls.map cm) (ys:=[]) (ρ:=[none]) (μ1:=μ) (s:=[]) ⟨rfl,0,ls,rfl,h,rfl,by omega,_,rfl⟩
 subst e1 e5;unfold bp;rw[cn];simp only[jF,List.replicate];rw[aH,bS];simp only[ll,dk,fG,iO,aK,dz,aj,ah,aa,CN,cD,QO,PB,OW,RF Ij Il,aZ,af,bH,aD,aU,az,aq,au,bT,bL,iT,aS];rw[rE,u5,run];simp only[aa];rw[iU (bs:=List.replicate n true) (by rw[OH (Om _),QI];rfl)];rw[show (List.replicate n true).all id=true from by simp];simp only[af,aM];exact cA (by simp)
theorem wu{μ:aw}{m:Nat}{ks:List (List Int)}(h:GW m ks):eE [cz m ks,cz m ks] μ=.ok (.bl true) μ:=by
 have hl:=iz h;have tu:bp [.tup (ks.map bf),.tup (ks.map bf)] μ=.ok (.bl true) μ:=tK (fun k hk=>by obtain⟨a,b,rfl,_⟩:=h.2.2.2.2 k hk;simp) (by omega);have ln:kW true (.int (([.int (m:Int),.tup (ks.map bf)]:List D).length:Int)) (.int 2) μ=.ok (.bl false) μ:=rfl;unfold eE;rw[cn];simp only[mG,List.replicate];rw[aH,bS];simp only[ll,dk,fG,iO,aK,dz,az,aq,au,bt,aj,ah,aa,CN,cD,QO,PB,OW,dm,ln,aZ,fU];rw[show bZ [.int (m:Int)] μ=.ok (.bl true) μ from oJ (by simp[Kn])];simp only[aa,cD,QO,PB,OW,RF (EU h) (EV h),aZ,af,bH,aD,aU,az,aq,au,aK,bt,aj,ah,lZ,tu,aM];exact mx
theorem Cj {μ:aw}{d:D}{j:Int} (hj:j=0\/j=1) (hk:Kn μ d) (h:cL d=false):bj [.int j,d] μ=.ok (.str "root") μ:=by
 unfold bj;rw[cn];simp only[gS,List.replicate];unfold Ae
 rw[show bG [some (.int j),some d,none] μ=.exc ⟨"NoRoot",[]⟩ μ from by
  rcases hj with rfl|rfl
  ·simp only[bG,aU,Hc,aq,au,ah,aj,aa,K5 hk h,ky]
  ·simp only[bG,aU,Hb,aq,au,ah,aj,aa,LL hk h,ky]]
 dsimp only;rw[NL eX]
 rw[show ie ((List.replicate 3 none).set 2 (some (D.obj μ.length))) (μ++[O.exc "NoRoot"])=.ret (.str "root") (μ++[O.exc "NoRoot"]) from by
  simp only[ie,aU,az,aq,au,List.replicate,List.set,aj,ah,aa,sd (μ:=μ++[O.exc "NoRoot"]) (n:=μ.length) aA,af]]
 show qh μ (.ok (.str "root") (μ++[O.exc "NoRoot"]))=_;exact cA (by simp)
theorem Ic{μ:aw}{ls:List (List Int)}(h:jN ls)(hk:Kn μ (cg ls)):bj [.int 0,cg ls] μ=.ok (cz ls.length (bJ ((By ls).map mm))) μ:=by
 unfold bj;rw[cn];simp only[gS,List.replicate];unfold Ae
 rw[show bG [some (.int 0),some (cg ls),none] μ=.ret (cz ls.length (bJ ((By ls).map mm))) μ from by
  simp only[bG,aU,Hc,aq,au,ah,aj,aa,De h hk,af]]
 dsimp only;rw[aM];exact bx (d4 (fk h.1.1 h.1.2 (sZ h)))
theorem E4{μ:aw}{ls:List (List Int)}(h:jN ls)(hk:Kn μ (cg ls)):bj [.int 1,cg ls] μ=.ok (cz ls.length (bJ ((z8 ls).map mm))) μ:=by
 unfold bj;rw[cn];simp only[gS,List.replicate];unfold Ae
 rw[show bG [some (.int 1),some (cg ls),none] μ=.ret (cz ls.length (bJ ((z8 ls).map mm))) μ from by
  simp only[bG,aU,Hb,aq,au,ah,aj,aa,AA h hk,af]]
 dsimp only;rw[aM];exact bx (d4 (fk h.1.1 h.1.2 (tE h)))
theorem IT{μ:aw}{d t0 t1:D}(h0:∀a,bj [.int 0,d] (μ++[.lst a])=.ok t0 (μ++[.lst a]))(h1:∀a,bj [.int 1,d] (μ++[.lst a])=.ok t1 (μ++[.lst a])) :
  compLoop (.fix (cu 0 2)) μ.length (ao 0) bA gR (cu 0 2) [none,some d] (μ++[.lst []])=.ok (.obj μ.length) (μ++[.lst [t0,t1]]):=
 cx (U:=Int) (en:=D.int) (src:=.fix (cu 0 2)) (g:=ao 0) (t:=bA) (e:=gR) (μ1:=μ) (q:=fun _=>true) (h:=fun j=>if j=0 then t0 else t1) (fun ρ=>∃o,ρ=[o,some d]) (fun _=>trivial) (us:=[0,1]) (acc:=[]) (ρ:=[none,some d]) ⟨_,rfl⟩
  (NU (show ([]:List D).length+([0,1]:List Int).length<=1000 by simp) bz)
  (fun k hk a ρ hJJ => by
   obtain⟨o,e'⟩:=hJJ;subst e';refine⟨[some (.int k),some d],⟨_,rfl⟩,rfl,rfl,fun _=>?_⟩;unfold gR;simp only[az,aq,au,aj,ah,aa];simp only[NZ,Qc,Qd]at hk;rcases hk with rfl|rfl
   ·rw[h0,NL rfl]
   ·rw[h1,NM (by decide)])
theorem Df{μ:aw}{d:D}{x:Str}(A:∀s,Kn (μ++s) d/\hG [d] (μ++s)=.ok (.str x) (μ++s)):fu [d] μ=.ok (.bl true) μ:=by
 have n2:0+1+1<=sizeLine:=l2;have A0:=A [];rw[Ox]at A0;obtain⟨K0,R0⟩:=A0;have R1:∀o,hG [d] (μ++[o])=.ok (.str x) (μ++[o]):=fun o=>(A [o]).2
 have tw:∃t0 t1,(∀a,bj [.int 0,d] (μ++[.lst a])=.ok t0 (μ++[.lst a]))/\(∀a,bj [.int 1,d] (μ++[.lst a])=.ok t1 (μ++[.lst a]))/\((cL d=false/\t0=.str "root" /\ t1=.str "root")\/∃ls,cL d=true/\d=cg ls/\jN ls/\t0=cz ls.length (bJ ((By ls).map mm))/\t1=cz ls.length (bJ ((z8 ls).map mm))):=by
  cases e:cL d with
  |false=>exact⟨_,_,fun a=>Cj (.inl rfl) (A _).1 e,fun a=>Cj (.inr rfl) (A _).1 e,.inl ⟨rfl,rfl,rfl⟩⟩
  |true=>
   obtain⟨ls,rfl,hs⟩:=mT e;exact⟨_,_,fun a=>Ic hs (A _).1,fun a=>E4 hs (A _).1,.inr ⟨ls,rfl,rfl,hs,rfl,rfl⟩⟩
 obtain⟨t0,t1,h0,h1,hc⟩:=tw;unfold fu;rw[cN];simp only[nX,List.replicate];rw[aH,bc];simp only[az,aq,au,aj,ah,aa,R0,af,bD,aD,Sa,Sb];rw[aH,bc];simp only[az,aq,au,aj,ah,aa,qY K0,af,bD,aD,Sa,Sb];rw[aH,bc];simp only[az,aq,au,aj,ah,aa,Fh K0,af,bD,aD,Sa,Sb];rw[aH,bc];simp only[bT,dq,aq,au,bt,aa];rw[show i8 [.int 2] μ=.ok (.fix (cu 0 2)) μ from fm (by decide) (by decide)];simp only[aa,aS];rw[show eR [none,some 0] [some d,some (.str x),some (.bl (cL d)),some (.bl (cL d)),none,none,none,none]=[none,some d] from rfl,IT h0 h1];simp only[af,bD,aD,Sa,Sb];rw[aH,bS];simp only[ll,dk,fG,iO,aj,ah,aa];rw[show gq "bool" (.bl (cL d)) (μ++[O.lst [t0,t1]])=.ok (.bl true) (μ++[O.lst [t0,t1]]) from rfl];have eqb:kW true (.bl (cL d)) (.bl (cL d)) (μ++[O.lst [t0,t1]])=.ok (.bl false) (μ++[O.lst [t0,t1]]):=by cases cL d <;> rfl
 simp only[aa,cD,QO,PB,OW,dz,aK,aj,ah,eqb,aZ,az,aq,au,R1,MY,af,bH,aD];rw[aH,bS];simp only[dk,fG,aj,ah,aa,cD];rcases hc with⟨e,rfl,rfl⟩|⟨ls,e,rfl,hs,rfl,rfl⟩
 ·rw[e];simp only[QX,af,OX,aU,aK,dP,aq,au,aj,ah,bt,aa,PD,Ql,NL n2];have g1:(μ++[O.lst [D.str "root",D.str "root"]]++[O.lst [D.str "root",D.str "root"]])[μ.length]?=some (.lst [.str "root",.str "root"]):=aF aA;rw[J8 (tH g1) (tH aA) Bf];simp only[af,f9,aM,QX,Pp];exact cA (by simp)
 ·rw[e];obtain⟨b6,b7,G',e6,t6⟩:=JJ (μ:=μ++[O.lst [cz ls.length (bJ ((By ls).map mm)),cz ls.length (bJ ((z8 ls).map mm))]]) (G:=[O.lst []]) (a0:=some (cg ls)) (a1:=some (.str x)) (a2:=some (.bl true)) (a3:=some (.bl true)) (a4:=some (.obj μ.length)) (a6:=none) (a7:=none) hs aA (Om _);simp only[QO,af,PB,OW,bH,aD];rw[aH,bc];simp only[dP,au,aa,Ql,NL (PV sizeLine),af,bD,aD,Sa,Sb];rw[aH,iI];simp only[dq,aq,au,ah,aa];rw[show ∀M:aw,k9 [cg ls] M=.ok (.fix (eT 0 (ls.map cm))) M from fun _=>rfl];simp only[af,aS];rw[e6];simp only[aD,aU,gG,az,aq,au,aK,bt,aj,ah,aa,dm,OO];have gt:(μ++[O.lst [cz ls.length (bJ ((By ls).map mm)),cz ls.length (bJ ((z8 ls).map mm))]]++G')[μ.length]?=some (.lst [cz ls.length (bJ ((By ls).map mm)),cz ls.length (bJ ((z8 ls).map mm))]):=aF aA;rw[iH gt v8];simp only[aa];rw[jU hs.1.1 hs.1.2 (NU (CJ hs) (by decide)) t6 (B4 hs),LJ hs];simp only[aa,wu (fk hs.1.1 hs.1.2 (sZ hs)),aZ,OX];rw[iH gt zl];simp only[aa,Iy hs,wu (fk hs.1.1 hs.1.2 (tE hs)),af,aM,Pp];exact cA (by simp)
theorem Di{μ:aw}{m:Nat}{x:D}{p:Int}(h:0<=p/\p<(m:Int)):fP [.tup [.int m,x],.int p] μ=.ok .non μ:=by
 unfold fP;rw[cn];simp only[mE,List.replicate,bS,dk,fG,az,aq,au,aK,ah,aj,bt,aa,ae,fU];rw[wx (show Eo μ (.int p) from nofun),show BB m (.int p)=true from Pw h];simp only[aa,ae,cD,QO,af,PB,OW,bH,wL];exact bx (by simp)
theorem Fe{μ:aw}{m:Nat}{ks:List (List Int)}{p:Int}(h:ny (.tup [.int m,.tup (ks.map bf)]) m ks)(hp:0<=p/\p<(m:Int)):jY [.tup [.int m,.tup (ks.map bf)],.int p] μ=.ok (cm (gy m ks p)) μ:=by
 have hl:=iz h;obtain⟨_,h0,h1,_,hk⟩:=h;have eN:(μ++[O.lst [.int p]]++[O.lst [.int p]])[(μ++[O.lst [.int p]]).length]?=some (.lst ([p].map D.int)):=aA;obtain⟨t,g,ns,e1,e2,e3,e4,e5⟩:=Dg (μ:=μ++[O.lst [.int p]]++[O.lst [.int p]]) hk hl eN
 have mem:∀q,q∈p::ns↔q∈gy m ks p:=fun q=>by
  unfold gy;rw[NZ,e5 q,NS,lj];simp only[PX,exists_eq_left,RP,RI,gH hk,wm hk];constructor
  ·rintro (rfl | z)
   ·exact⟨hp,.inl rfl⟩
   ·refine⟨?_,.inr z⟩;rcases z with z|z <;> (obtain⟨u,v,e,h3,h4,h5⟩:=hk _ z;simp at e;obtain⟨ea,eb⟩:=e;subst ea eb;exact⟨by omega,by omega⟩)
  ·rintro ⟨_, z | z⟩
   ·exact .inl z
   ·exact .inr z
 have rng:∀n∈p::ns,0<=n/\n<6:=fun n hn=>by
  have:=lj.mp (NS.mp ((mem n).mp hn)).1;omega
 unfold jY;rw[cn];have l1:([D.int p]:List D).length<=sizeLine:=NU (by simp) bz;simp only[uk,List.replicate,aH,gF,az,aq,au,ah,aj,aa,ae,Di hp,af,aD,aU,aK,dP,NL l1,bt,lZ,e1]
 have ad:cf (.obj μ.length) (.obj t) (μ++[O.lst [.int p]]++[O.lst [.int p]]++g)=.ok (.obj (μ++[O.lst [.int p]]++[O.lst [.int p]]++g).length) ((μ++[O.lst [.int p]]++[O.lst [.int p]]++g)++[O.lst ((p::ns).map D.int)]):=by
  unfold cf;dsimp only;rw[e2,aF (aF aA)];dsimp only;rw[NL]
  ·rfl
  ·rw[OO];exact NU (show _<=1000 by simp;omega) bz
 rw[ad];simp only[aa,ae]
 have st:∀M:aw,nt [.obj M.length] (M++[O.lst ((p::ns).map D.int)])=.ok (.obj (M++[O.lst ((p::ns).map D.int)]).length) ((M++[O.lst ((p::ns).map D.int)])++[O.iset (di (p::ns))]):=fun M=>by
  unfold nt;dsimp only;rw[aA];dsimp only;unfold qI;rw[show pC ((p::ns).map D.int)=none from rfl,zM rng]
 rw[st];simp only[aa,ae]
 have so:∀M:aw,ck [.obj M.length] (M++[O.iset (di (p::ns))])=.ok (.obj (M++[O.iset (di (p::ns))]).length) ((M++[O.iset (di (p::ns))])++[.lst ((gy m ks p).map D.int)]):=fun M=>by
  unfold ck;dsimp only;rw[aA];dsimp only;rw[AC mem]
 rw[so];simp only[aa,ae];rw[iS aA];simp only[af,aM];simp only[Pp];exact cA (by simp only[nA];exact iy.mpr fun x hx=>by obtain⟨k,_,rfl⟩:=Qr.mp hx;simp)
section
variable{m:Nat}{ks:List (List Int)}{μ:aw}
abbrev cE(m:Nat)(ks:List (List Int)):List (List Int):=(rg m).map (gy m ks)
theorem yI(h:GW m ks){p:Int}:(cM ks p++[p]).Nodup:=by
 have hk:=h.2.2.2.2;rw[QU];refine⟨?_,by simp,fun a ha b hb=>?_⟩
 ·unfold cM;refine Rk.mpr ?_;refine((h.2.2.2.1.filter (uB p)).imp_of_mem fun {k k'} h1 h2 hlt e=>?_);obtain⟨h1,p1⟩:=NS.mp h1;obtain⟨h2,p2⟩:=NS.mp h2;obtain⟨a,b,rfl,_,hab,_⟩:=hk k h1;obtain⟨c,d,rfl,_,hcd,_⟩:=hk k' h2;have q1:p=a\/p=b:=by simpa[uB,oi] using p1
  have q2:p=c\/p=d:=by simpa[uB,oi] using p2
  have e':a+b-p=c+d-p:=e;have:a=c/\b=d:=by omega
  obtain⟨rfl,rfl⟩:=this;exact absurd hlt (Int.lt_irrefl _)
 ·rw[PX.mp hb];intro e;subst e;rcases (gH hk).mp ((iw h).mp ha) with z|z <;> (obtain⟨u,v,e,_,hlt,_⟩:=hk _ z;simp at e;omega)
theorem AY(h:GW m ks){p:Int}(hp:0<=p/\p<(m:Int)):gy m ks p=gA (cM ks p++[p]):=by
 have hk:=h.2.2.2.2;have up:(gy m ks p).Pairwise (·<·):=GY.filter _;refine nF ?_ (up.imp fun {a b} h=>Int.le_of_lt h);refine(QL (up.imp fun {a b} h=>by omega) (yI h)).mpr fun q=>?_;unfold gy;rw[NS,lj,N1,PX,iw h,gH hk,RP,RI,wm hk];constructor
 ·rintro ⟨_, z | z⟩
  ·exact .inr z
  ·exact .inl z
 ·rintro (z | z)
  ·refine⟨?_,.inr z⟩;rcases z with z|z <;> (obtain⟨u,v,e,h3,h4,h5⟩:=hk _ z;simp at e;obtain⟨ea,eb⟩:=e;subst ea eb;exact⟨by omega,by omega⟩)
  ·subst z;exact⟨hp,.inl rfl⟩
theorem yo{p:Int}(hm:m<=6):(gy m ks p).length<=6:=by
 unfold gy;exact NU (Sl _ _) (by rw[mP];exact hm)
theorem yq(h:GW m ks):jo [cz m ks] μ=.ok (cg (cE m ks)) μ:=by
 have m6:=h.m6
 have c:=cx (U:=Int) (en:=D.int) (src:=.fix ((rg m).map D.int)) (g:=ao 0) (t:=bA) (e:=kF) (μ1:=μ) (q:=fun _=>true) (h:=fun p=>cm (gy m ks p)) (fun ρ=>∃o,ρ=[o,some (cz m ks)]) (fun _=>trivial) (us:=rg m) (acc:=[]) (ρ:=[none,some (cz m ks)]) ⟨_,rfl⟩
  (by rw[Ql,mP];exact NU (by omega) bz)
  (fun p hp a ρ hJJ => by
   obtain⟨o,e'⟩:=hJJ;subst e';refine⟨[some (.int p),some (cz m ks)],⟨_,rfl⟩,rfl,rfl,fun _=>?_⟩;unfold kF;simp only[az,aq,au,aj,ah,aa]
   exact Fe h (lj.mp hp))
 rw[cP,Pv]at c;unfold jo;rw[cN];simp only[r9,List.replicate,aU,az,aq,au,bT,dq,aK,bt,ah,aa,fU];rw[fm (by omega) (by omega)];simp only[aa,aS,uF];rw[show eR [none,some 0] (some (cz m ks)::List.replicate (1-1) none)=[none,some (cz m ks)] from rfl,c];simp only[aa];rw[iS aA];simp only[af,aM];rw[show (rg m).map (fun p=>cm (gy m ks p))=(cE m ks).map cm from by rw[Qi];rfl];refine cA ?_;simp only[nA];exact iy.mpr fun x hx=>by obtain⟨k,_,rfl⟩:=Qr.mp hx;exact CK
theorem Ax(h:GW m ks):cV [cz m ks] μ=.ok (cg (cE m ks)) μ:=by
 have m6:=h.m6
 obtain⟨ys',ρ',μ2,s',⟨e1,dn,r,e3,e4,e5,e6,e7⟩,run⟩:=jP (src:=.fix ((rg m).map D.int)) (g:=ao 0) (t:=bA) (e:=fg) (n:=μ.length)
  (fun xs ys ρ μ2 s=>μ2=μ/\∃(dn r:List Int),xs=r.map D.int/\(∀p∈r,0<=p/\p<(m:Int))/\ys=(dn.map (gy m ks)).map cm/\dn++r=rg m/\∃o,ρ=[o,some (cz m ks)])
  (fun ys ρ μ2 s ⟨e,_⟩=>⟨by rw[e],trivial⟩)
  (fun x r ys ρ μ2 s hJ => by
   obtain⟨e1,dn,L',e3,e4,e5,e6,o,e7⟩:=hJ;subst e1 e5 e7;cases L' with
   |nil=>cases e3
   |cons p L'=>
    rw[Pe]at e3;injection e3 with ex er
    subst ex er;have hp:=e4 p NX
    have hdn:dn.length<1000:=by
     have:=Oa List.length e6;rw[ON,PD,mP]at this;omega
    refine⟨rfl,trivial,[some (.int p),some (cz m ks)],μ2,s,true,μ2,s,rfl,rfl,fun _=>⟨cm (gy m ks p),μ2,s++[.lst ((cM ks p).map D.int)]++[.lst [.int p]]++[.lst ((cM ks p++[p]).map D.int)]++[.lst ((gy m ks p).map D.int)],?_,?_,rfl,rfl,dn++[p],L',rfl,fun k hk=>e4 k (NY _ hk),?_,by rw[Pp];exact e6,_,rfl⟩,fun z=>by cases z⟩
    ·have nl := rn h (p := p);have n1:0+1<=sizeLine:=l1;unfold fg;simp only[az,aq,au,aK,dP,aj,ah,aa,zv h,PD,Ql,NL n1];rw[kn (aF aA) aA (by rw[OO];simp only[PD,Ql];omega)];simp only[aa];rw[show (cM ks p).map D.int++[D.int p]=(cM ks p++[p]).map D.int from by rw[Qy];rfl]
     have so:∀M:aw,ck [.obj M.length] (M++[O.lst ((cM ks p++[p]).map D.int)])=.ok (.obj (M++[O.lst ((cM ks p++[p]).map D.int)]).length) ((M++[O.lst ((cM ks p++[p]).map D.int)])++[.lst ((gy m ks p).map D.int)]):=fun M=>by
      unfold ck;dsimp only;rw[aA];dsimp only;rw[rq];dsimp only;rw[NL (by rw[ON];simp only[PD,Ql];omega),AY h hp]
     rw[so];simp only[aa];rw[iS aA];simp only[Pp,Qn]
    ·simp only[OO];exact NP hdn bz
    ·rw[Qy,Qy];rfl)
  (xs:=(rg m).map D.int) (ys:=[]) (ρ:=[none,some (cz m ks)]) (μ1:=μ) (s:=[]) ⟨rfl,[],rg m,rfl,fun p hp=>lj.mp hp,rfl,rfl,_,rfl⟩
 subst e1 e5
 have:r=[]:=by
  cases r with
  |nil=>rfl
  |cons=>cases e3
 subst this;rw[Ox]at e6;subst e6;unfold cV;rw[cN];simp only[jv,List.replicate,aU,az,aq,au,bT,dq,aK,bt,ah,aa,fU];rw[fm (by omega) (by omega)];simp only[aa,aS,uF];rw[show eR [none,some 0] (some (cz m ks)::List.replicate (1-1) none)=[none,some (cz m ks)] from rfl,run];simp only[aa];rw[iS (xs:=(cE m ks).map cm) (by rw[OH (Om _),QI];rfl)];simp only[af,aM];refine cA ?_;simp only[nA];exact iy.mpr fun x hx=>by obtain⟨k,_,rfl⟩:=Qr.mp hx;exact CK
theorem ly{l:List Int}(hm:m<=6)(h:l∈cE m ks):l.length<=6/\∀x∈l,0<=x/\x<(m:Int):=by
 obtain⟨p,_,rfl⟩:=Qr.mp h;exact⟨yo hm,fun x hx=>lj.mp (NS.mp hx).1⟩
theorem jR:(cE m ks).length=m:=by rw[OO,mP]
end
def cB(b:Bool)(q:PyData):Bool:=if b then !q.hasDict else Ep q
def EA(b:Bool)(q:List PyData):Bool:=if b then !PyData.hasDictAll q else noLs q
theorem Ki{b:Bool}{qs:List PyData}(h:EA b qs=true):cB b (.tuple qs)=true:=by
 cases b with
 |true=>simp only[EA,OX]at h;simp only[cB,OX,PyData.hasDict];exact h
 |false=>simp only[EA,PB,OW]at h;simp only[cB,PB,OW,Ep];exact h
theorem Ek{b:Bool}{q:PyData}{qs:List PyData}(h:cB b q=true)(hs:EA b qs=true):EA b (q::qs)=true:=by
 cases b with
 |true=>
  simp only[EA,cB,OX,Bool.not_eq_true']at h hs⊢;simp only[PyData.hasDictAll,h,hs,Bool.or_self]
 |false=>
  simp only[EA,cB,PB,OW]at h hs⊢;simp only[noLs,h,hs,QS]
def Nz(b:Bool)(w:Nat)(q:PyData):Prop:=q.showable=true/\q.leavesShort 40=true/\q.weight<=w/\cB b q=true
def GB(b:Bool)(T:aw->Prop)(n w:Nat)(d:D):Prop:=(∃q,(∀μ,T μ->oh μ n d=some q)/\Nz b w q/\q.depth<=n)/\∀μ,T μ->Kn μ d
section
variable{b:Bool}{T:aw->Prop}{n w k:Nat}
theorem GB.wk{w':Nat}{d:D}(h:GB b T n w d)(hw:w<=w'):GB b T n w' d:=by
 obtain⟨⟨q,h1,⟨a,b,c,e⟩,h3⟩,h4⟩:=h;exact⟨⟨q,h1,⟨a,b,NU c hw,e⟩,h3⟩,h4⟩
theorem GB.of{d:D}(h:GB b (fun _=>True) n w d):GB b T n w d:=by
 obtain⟨⟨q,h1,h2,h3⟩,h4⟩:=h;exact⟨⟨q,fun μ _=>h1 μ trivial,h2,h3⟩,fun μ _=>h4 μ trivial⟩
theorem nD{d:D}{q:PyData}(h:vY d=some q)(h1:q.showable=true)(h2:q.leavesShort 40=true)(h3:q.weight<=w)(h4:cB true q=true)(h5:cB false q=true)(hd:q.depth=0):GB b T n w d:=by
 refine⟨⟨q,fun μ _=>CV h,⟨h1,h2,h3,by cases b <;> assumption⟩,by omega⟩,fun μ _=>?_⟩;cases d with
 |tup _=>cases h
 |frz _=>cases h
 |obj _=>cases h
 |_=>simp[Kn]
theorem oF{i:Int}(h0:-1<=i)(h1:i<=8):GB b T n 8 (.int i):=nD rfl (oP h0 h1).1 (oP h0 h1).2.1 (oP h0 h1).2.2.1 rfl rfl rfl
theorem J1:GB b T n 110 (.int 1000000000000000000000000000000):=nD rfl (by decide +kernel) (by decide +kernel) (by decide +kernel) rfl rfl rfl
theorem Hk{c:Bool}:GB b T n 8 (.bl c):=nD rfl rfl rfl (by simp[PyData.weight]) rfl rfl rfl
theorem CT:GB b T n 8 .non:=nD rfl rfl rfl (by simp[PyData.weight]) rfl rfl rfl
theorem J0:GB b T n 8 (.str "0"):=nD rfl rfl (by decide +kernel) (by decide +kernel) rfl rfl rfl
theorem rA:∀{xs:List D},(∀x∈xs,GB b T n w x)->∃qs,(∀μ,T μ->jM (oh μ n) xs=some qs)/\PyData.showableAll qs=true/\PyData.leavesShortAll 40 qs=true/\PyData.weightAll qs<=xs.length*(w+1)/\EA b qs=true/\PyData.depthAll qs<=n/\∀μ,T μ->Kns μ xs
 |[],_=>⟨[],fun _ _=>rfl,rfl,rfl,by simp[PyData.weightAll],by cases b <;> rfl,by simp[PyData.depthAll],fun _ _=>by simp[Kns]⟩
 |x::xs,h=>by
  obtain⟨⟨q,q1,⟨a,b,c,e⟩,q3⟩,q4⟩:=h x NX;obtain⟨qs,r1,r2,r3,r4,r5,r6,r7⟩:=rA fun y hy=>h y (NY _ hy);refine⟨q::qs,fun μ hμ=>?_,?_,?_,?_,Ek e r5,?_,fun μ hμ=>?_⟩
  ·simp only[jM,q1 μ hμ,r1 μ hμ,PM,Option.map_some]
  ·simp only[PyData.showableAll,a,r2,QS]
  ·simp only[PyData.leavesShortAll,b,r3,QS]
  ·simp only[PyData.weightAll,PD,Pu];omega
  ·simp only[PyData.depthAll];exact Nat.max_le.mpr ⟨q3,r6⟩
  ·simp only[Kns];exact⟨q4 μ hμ,r7 μ hμ⟩
theorem kb{xs:List D}(h:∀x∈xs,GB b T n w x)(hl:xs.length<=k)(hk:k<1000):GB b T (n+1) (k*(w+1)) (.tup xs):=by
 obtain⟨qs,r1,r2,r3,r4,r5,r6,r7⟩:=rA h;refine⟨⟨.tuple qs,fun μ hμ=>?_,⟨?_,?_,?_,Ki r5⟩,?_⟩,fun μ hμ=>?_⟩
 ·show (jM (oh μ n) xs).map PyData.tuple=_;rw[r1 μ hμ];rfl
 ·simp only[PyData.showable,r2]
 ·simp only[PyData.leavesShort,r3]
 ·simp only[PyData.weight];exact NU r4 (Sm _ hl)
 ·simp only[PyData.depth];omega
 ·simp only[Kn];exact⟨by omega,r7 μ hμ⟩
theorem x9{t:Nat}{xs:List D}(ht:∀μ,T μ->μ[t]?=some (.lst xs))(h:∀x∈xs,GB true T n w x)(hl:xs.length<=k):GB true T (n+1) (k*(w+1)) (.obj t):=by
 obtain⟨qs,r1,r2,r3,r4,r5,r6,r7⟩:=rA h;refine⟨⟨.list qs,fun μ hμ=>?_,⟨?_,?_,?_,?_⟩,?_⟩,fun μ hμ=>?_⟩
 ·unfold oh;dsimp only;rw[ht μ hμ];dsimp only;rw[r1 μ hμ];rfl
 ·simp only[PyData.showable,r2]
 ·simp only[PyData.leavesShort,r3]
 ·simp only[PyData.weight];exact NU r4 (Sm _ hl)
 ·simp only[EA,OX]at r5;simp only[cB,OX,PyData.hasDict];exact r5
 ·simp only[PyData.depth];omega
 ·simp only[Kn];refine⟨"list",?_,by decide,by decide,by decide⟩;unfold z6;dsimp only;rw[ht μ hμ]
theorem CU{t:Nat}(ht:∀μ,T μ->μ[t]?=some .dic):GB false T (n+1) 8 (.obj t):=by
 refine⟨⟨.dict [],fun μ hμ=>?_,⟨rfl,rfl,by decide +kernel,rfl⟩,by simp[PyData.depth,PyData.depthKv]⟩,fun μ hμ=>?_⟩
 ·unfold oh;dsimp only;rw[ht μ hμ]
 ·simp only[Kn];refine⟨"dict",?_,by decide,by decide,by decide⟩;unfold z6;dsimp only;rw[ht μ hμ]
theorem nC{d:D}(h:GB b T 5 w d)(hw:w<=300000)(hr:qS d=true):∃x,∀μ,T μ->Kn μ d/\hG [d] μ=.ok (.str x) μ:=by
 obtain⟨⟨q,q1,⟨a,s,c,e⟩,q3⟩,q4⟩:=h;refine⟨q.shown,fun μ hμ=>⟨q4 μ hμ,?_⟩⟩
 have hl:q.shown.length<=sizeLine:=by
  have h1:=PyData.shown_le 40 (by decide) q s;have h2:(40+2)*q.weight<=42*300000:=Nat.mul_le_mul (Om _) (by omega);rw[Ov];omega
 have hd:(!q.hasDict || Ep q)=true:=by
  cases b with
  |true=>rw[show (!q.hasDict)=true from e];rfl
  |false=>rw[show Ep q=true from e,Bool.or_true]
 have ok:qi q=true:=by
  unfold qi;rw[a,hd,Pw (show q.depth<=60 by omega),Pw hl];rfl
 cases d with
 |tup xs=>unfold hG;dsimp only;rw[q1 μ hμ];dsimp only;rw[NL ⟨rfl,ok⟩]
 |frz xs=>unfold hG;dsimp only;rw[q1 μ hμ];dsimp only;rw[NL ⟨rfl,ok⟩]
 |obj k=>unfold hG;dsimp only;rw[q1 μ hμ];dsimp only;rw[NL ⟨rfl,ok⟩]
 |_=>cases hr
def Nb(b:Bool)(T:aw->Prop)(n0 n w:Nat)(d:D):Prop:=GB b (fun _=>True) n w d\/(GB b T n w d/\¬ d.low n0)
variable{n0:Nat}
theorem Nb.wk{w':Nat}{d:D}(h:Nb b T n0 n w d)(hw:w<=w'):Nb b T n0 n w' d:=h.elim (fun z=>.inl (z.wk hw)) fun z=>.inr ⟨z.1.wk hw,z.2⟩
theorem Nb.gb{d:D}(h:Nb b T n0 n w d):GB b T n w d:=h.elim (fun z=>z.of) fun z=>z.1
theorem CH{xs:List D}(h:∀x∈xs,Nb b T n0 n w x)(hl:xs.length<=k)(hk:k<1000):Nb b T n0 (n+1) (k*(w+1)) (.tup xs):=by
 by_cases c:∀x∈xs,GB b (fun _=>True) n w x
 ·exact .inl (kb c hl hk)
 ·obtain⟨x,hx,hn⟩:∃x∈xs,¬ GB b (fun _=>True) n w x:=by
   rcases Classical.em (∃x∈xs,¬ GB b (fun _=>True) n w x) with z|z
   ·exact z
   ·exact absurd (fun x hx=>Qs fun y=>z ⟨x,hx,y⟩) c
  refine .inr ⟨kb (fun y hy=>(h y hy).gb) hl hk,fun z=>?_⟩;rcases h x hx with y|⟨_,y⟩
  ·exact hn y
  ·rw[nA]at z;exact y (iy.mp z x hx)
theorem tF{l:List Int}(hl:l.length<=17)(h:∀x∈l,-1<=x/\x<=8):GB b T (n+1) 153 (cm l):=kb (k:=17) (w:=8) (fun x hx=>by
 obtain⟨i,hi,rfl⟩:=Qr.mp hx
 exact oF (h i hi).1 (h i hi).2) (by rw[OO];exact hl) (by decide)
end
theorem C1{β:Type}{xs:List β}{r:Nat}{n:Int}(e:n=(r:Int)):i9 xs (some n) none=xs.drop r:=by
 subst e;unfold i9;have h1:HT.sIx xs.length 0 (some (r:Int))=min r xs.length:=HT.sIx_nat _ _ r;have h2:HT.sIx xs.length xs.length none=xs.length:=rfl;rw[h1,h2];by_cases h:r<=xs.length
 ·rw[Nat.min_eq_left h,Qq (by rw[O2];exact Om _)]
 ·rw[Nat.min_eq_right (by omega),QI,List.take_zero,List.drop_eq_nil_of_le (by omega)]
theorem Ly{μ:aw}:Ak (.int 10) (.int 30) μ=.ok (.int 1000000000000000000000000000000) μ:=by
 rw[show (Ak:D->D->aw->ai D)=GN BO fun i j=>.int (i^j.toNat) from rfl,oH (show BO 10 30 from⟨by decide,by decide,by decide⟩)];rfl
theorem yh{xs:List D}{r:Int}{n:Nat}(h0:0<=r)(h1:r<(n:Int))(hl:xs.length=n):∃d,atI xs r=some d/\d∈xs:=by
 have h:r.toNat<xs.length:=by omega
 exact⟨xs[r.toNat],Kk h0 (Ry h),Rw h⟩
theorem l6{xs ys:List D}{M:aw}(h:xs.length+ys.length<=1000):cf (.tup xs) (.tup ys) M=.ok (.tup (xs++ys)) M:=by
 unfold cf;dsimp only;rw[NL (NU h bz)]
def Kw(l:Nat)(M M':aw):Prop:=∀(j:Nat) o,l<=j->M[j]?=some o->M'[j]?=some o
def Mc(l:Nat)(M:aw)(d:D):Prop:=∃x,∀μ,Kw l M μ->Kn μ d/\hG [d] μ=.ok (.str x) μ
theorem uZ{xs:List D}{a b:Option Int}:∀x∈i9 xs a b,x∈xs:=fun x hx=>by
 unfold i9 at hx;exact QF (QE hx)
theorem qt{xs:List D}{a b:Option Int}:(i9 xs a b).length<=xs.length:=by
 unfold i9;rw[OF,O2];omega
theorem oz{xs:List D}{a b:Option Int}{M:aw}:Aa (.tup xs) a b M=.ok (.tup (i9 xs a b)) M:=rfl
theorem Ct{xs:List D}{M:aw}:qM (.tup xs) (.int (-1)) M=.ok (.tup xs.reverse) M:=by
 unfold qM;dsimp only;rw[NL rfl]
theorem MN{M:aw}{t:Nat}{x:D}(h:M[t]?=some (.lst [x])):sJ (.obj t) (.int 6) M=.ok (.obj M.length) (M++[.lst [x,x,x,x,x,x]]):=by
 unfold sJ;dsimp only;rw[h];dsimp only;rw[NL ⟨by decide,by decide,NU (show 1*6<=1000 by decide) bz⟩];rfl
section
variable{ls:List (List Int)}{μ:aw}
theorem Fl{P:Nat}{a b c:Int}(hp:μ[P]?=some (cv a b c))(m0:1<=ls.length)(m6:ls.length<=6)(hs:∀l∈ls,l.length<=6/\∀x∈l,0<=x/\x<(ls.length:Int)):∃d μ',iC [.obj P,cg ls] μ=.ok d μ'/\Pn μ P μ'/\Mc μ.length μ' d:=by
 have hP:P<μ.length:=(N3.mp hp).1;let m:Nat:=ls.length
 let ts:List D:=ls.map cm
 have tl:ts.length=m:=by simp only[ts,OO,m]
 obtain⟨sp,a1,b1,c1,s0,s1,e1,P1⟩:=(Pn.self hp).draw (m:=(m:Int)) hP (by omega) (by omega);obtain⟨sp,rfl⟩:∃k:Nat,sp=(k:Int):=⟨sp.toNat,by omega⟩;let M1:aw:=μ.set P (cv a1 b1 c1)
 have l1M:M1.length=μ.length:=by simp[M1]
 obtain⟨w,hw,w6,wr0⟩:∃w,ls.getD sp []=w/\w.length<=6/\∀x∈w,0<=x/\x<(m:Int):=⟨_,rfl,hs _ (cO (by omega))⟩;obtain⟨r0,a2,b2,c2,r00,r01,e2,P2⟩:=P1.draw (m:=(m:Int)) hP (by omega) (by omega);let M2:aw:=M1.set P (cv a2 b2 c2)
 have l2M:M2.length=μ.length:=by simp[M2,l1M]
 let odds:List D:=[.int (m:Int),.int (-1),.bl true,.non,.str "0",.tup [.int 0],.int 1000000000000000000000000000000,.int r0]
 obtain⟨r1,a3,b3,c3,r10,r11,e3,P3⟩:=(P2.app (g:=[O.lst odds])).draw (m:=8) hP (by decide) (by decide);let M3:aw:=(M2++[O.lst odds]).set P (cv a3 b3 c3)
 have l3M:M3.length=μ.length+1:=by simp[M3,l2M]
 have t3:M3[M2.length]?=some (.lst odds):=by rw[N6 (by omega)];exact aA
 obtain⟨odd,eo,ho⟩:=yh (xs:=odds) (n:=8) r10 r11 rfl
 have go:∀(b:Bool)(T:aw->Prop) n,GB b T (n+1) 110 odd:=fun b T n=>by
  simp only[odds,NZ,Qc,Qd]at ho;rcases ho with rfl|rfl|rfl|rfl|rfl|rfl|rfl|rfl
  ·exact(oF (by omega) (by omega)).wk (by decide)
  ·exact(oF (by omega) (by omega)).wk (by decide)
  ·exact Hk.wk (by decide)
  ·exact CT.wk (by decide)
  ·exact J0.wk (by decide)
  ·exact(kb (k:=1) (w:=8) (fun x hx=>by rw[PX.mp hx];exact oF (by omega) (by omega)) (by simp) (by decide)).wk (by decide)
  ·exact J1
  ·exact(oF (by omega) (by omega)).wk (by decide)
 let ws:List D:=w.map D.int
 have wl:ws.length<=6:=by simp only[ws,OO];exact w6
 let wr:List D:=[.tup (i9 ws (some 1) none),.tup (i9 ws none (some (-1))),.tup (ws++[odd]),.tup ws.reverse,.tup (ws++i9 ws none (some 1)),.obj M3.length,.non,.tup [],.tup [odd],.obj (M3++[O.lst ws]).length,.tup [.int (sp:Int)]]
 let M4:aw:=M3++[O.lst ws]++[O.dic]++[O.lst wr]
 let W:Nat:=(M3++[O.lst ws]++[O.dic]).length
 have hW:W=μ.length+3:=by simp[W,l3M]
 have P4:Pn μ P M4:=((P3.app (g:=[O.lst ws])).app (g:=[O.dic])).app;obtain⟨r2,a5,b5,c5,r20,r21,e5,P5⟩:=P4.draw (m:=(m:Int)) hP (by omega) (by omega);let M5:aw:=M4.set P (cv a5 b5 c5)
 have l5M:M5.length=μ.length+4:=by simp[M5,M4,l3M]
 obtain⟨S,x1,x2⟩:=Cq (M:=M5) (w:=w++[r2]) (fun n hn=>by
  rcases N1.mp hn with z|z
  ·have:=wr0 n z;omega
  ·rw[PX.mp z];omega)
 let v:List Int:=gA (di (w++[r2]))
 have vm:∀x∈v,0<=x/\x<(m:Int):=fun x hx=>by
  have:=((h7 (w++[r2]) [] QH).2 x).mp (mU.mem_iff.mp hx);rcases this with z|z
  ·cases z
  ·rcases N1.mp z with z | z
   ·exact wr0 x z
   ·rw[PX.mp z];omega
 have vl:v.length<=17:=by
  have h1:v.Nodup:=mU.nodup_iff.mpr (h7 (w++[r2]) [] QH).1;have h2:v.Pairwise (·<·):=((wy (ns:=di (w++[r2]))).and h1).imp fun⟨a,b⟩=>by omega
  have:=x4 (lo:=0) (hi:=m) h2 vm;omega
 let M6:aw:=(M5++[S]++[O.lst (v.map D.int)]).set W (.lst (wr++[cm v]))
 have t5:(M5++[S]++[O.lst (v.map D.int)])[W]?=some (.lst wr):=aF (aF (by rw[N6 (by omega)];exact aA));have P6:Pn μ P M6:=((P5.app (g:=[S])).app (g:=[O.lst (v.map D.int)])).put (by omega);have l6M:M6.length=μ.length+6:=by simp[M6,l5M]
 have t6:M6[W]?=some (.lst (wr++[cm v])):=lY (by rw[ON,ON];omega);obtain⟨r3,a7,b7,c7,r30,r31,e7,P7⟩:=P6.draw (m:=12) hP (by decide) (by decide);let M7:aw:=M6.set P (cv a7 b7 c7)
 have l7M:M7.length=μ.length+6:=by simp[M7,l6M]
 have t7:M7[W]?=some (.lst (wr++[cm v])):=by rw[N6 (by omega)];exact t6
 obtain⟨O1,eO,hO⟩:=yh (xs:=wr++[cm v]) (n:=12) r30 r31 rfl;let bent:List D:=ts.take sp++[O1]++ts.drop (sp+1)
 let S2:List D:=[.tup (ts.drop 1),.tup (ts++[.tup [.int (m:Int)]]),.obj (M7++[O.lst [.tup bent]]++[O.lst [.tup bent,.tup bent,.tup bent,.tup bent,.tup bent,.tup bent]]).length,.tup [.tup ts],.tup []]
 let S1:List D:=[.tup bent,.tup bent,.tup bent,.tup bent,.tup bent,.tup bent]
 let M8:aw:=M7++[O.lst [.tup bent]]++[O.lst S1]++[O.lst ts]++[O.lst S2]++[O.lst (S1++S2)]
 let S3:List D:=[.non,.obj M8.length,.tup ts.reverse]
 let M9:aw:=M8++[O.dic]++[O.lst S3]++[O.lst (S1++S2++S3)]
 have P9:Pn μ P M9:=(((((((P7.app (g:=[O.lst [.tup bent]])).app (g:=[O.lst S1])).app (g:=[O.lst ts])).app (g:=[O.lst S2])).app (g:=[O.lst (S1++S2)])).app (g:=[O.dic])).app (g:=[O.lst S3])).app (g:=[O.lst (S1++S2++S3)]);obtain⟨r4,a9,b9,c9,r40,r41,e9,P10⟩:=P9.draw (m:=14) hP (by decide) (by decide);let M10:aw:=M9.set P (cv a9 b9 c9)
 have l8M:M8.length=μ.length+11:=by simp[M8,l7M]
 have t10:M10[(M8++[O.dic]++[O.lst S3]).length]?=some (.lst (S1++S2++S3)):=by
  rw[N6 (by simp only[ON,PD,Ql,l8M];omega)];exact aA
 obtain⟨d,ed,hd⟩:=yh (xs:=S1++S2++S3) (n:=14) r40 r41 rfl
 have up:∀{j:Nat}{o:O},μ.length<=j->M7[j]?=some o->M10[j]?=some o:=fun {j o} hj e=>by
  rw[N6 (by omega)];exact aF (aF (aF (aF (aF (aF (aF (aF e)))))))
 have up4:∀{j:Nat}{o:O},μ.length<=j->j≠W->M4[j]?=some o->M10[j]?=some o:=fun {j o} hj nW e=>up hj (by
  rw[N6 (by omega),N6 (by omega)]
  exact aF (aF (by rw[N6 (by omega)];exact e)))
 let T:aw->Prop:=Kw μ.length M10
 have oL:∀μ',T μ'->μ'[M3.length]?=some (.lst ws):=fun μ' k=>k _ _ (by omega) (up4 (by omega) (by omega) (aF (aF aA)));have oD:∀μ',T μ'->μ'[(M3++[O.lst ws]).length]?=some .dic:=fun μ' k=>k _ _ (by rw[ON];omega) (up4 (by rw[ON];omega) (by rw[ON,hW,l3M];simp only[PD,Ql];omega) (aF aA))
 have oT:∀μ',T μ'->μ'[(M7++[O.lst [.tup bent]]++[O.lst S1]).length]?=some (.lst ts):=fun μ' k=>k _ _ (by simp only[ON,l7M];omega) (by
  rw[N6 (by simp only[ON,l7M];omega)]
  exact aF (aF (aF (aF (aF aA)))))
 have oE:∀μ',T μ'->μ'[M8.length]?=some .dic:=fun μ' k=>k _ _ (by omega) (by
  rw[N6 (by omega)]
  exact aF (aF aA))
 have gws:∀(b:Bool)(T:aw->Prop) n,∀x∈ws,GB b T n 110 x:=fun b T n x hx=>by
  obtain⟨i,hi,rfl⟩:=Qr.mp hx;have:=wr0 i hi;exact(oF (by omega) (by omega)).wk (by decide)
 have gl:∀(b:Bool)(l:List D),l.length<=17->(∀x∈l,x∈ws\/x=odd)->Nb b T μ.length 3 2000 (.tup l):=fun b l hl hx=>.inl ((kb (n:=2) (k:=17) (w:=110) (fun x h=>by
  rcases hx x h with z|rfl
  ·exact gws _ _ _ x z
  ·exact go _ _ _) hl (by decide)).wk (by decide))
 have gO:∃b,Nb b T μ.length 3 2000 O1:=by
  have c1:=qt (xs:=ws) (a:=some 1) (b:=none);have c2:=qt (xs:=ws) (a:=none) (b:=some (-1));have c3:=qt (xs:=ws) (a:=none) (b:=some 1);rcases N1.mp hO with hO|hO
  ·simp only [wr, NZ, Qc, Qd] at hO;rcases hO with rfl|rfl|rfl|rfl|rfl|rfl|rfl|rfl|rfl|rfl|rfl
   ·exact⟨true,gl _ _ (by omega) fun x hx=>.inl (uZ x hx)⟩
   ·exact⟨true,gl _ _ (by omega) fun x hx=>.inl (uZ x hx)⟩
   ·refine ⟨true, gl _ _ (by rw [ON]; simp only [PD, Ql]; omega) fun x hx => ?_⟩;rcases N1.mp hx with z|z
    ·exact .inl z
    ·exact .inr (PX.mp z)
   ·exact⟨true,gl _ _ (by rw[RT];omega) fun x hx=>.inl (List.mem_reverse.mp hx)⟩
   ·refine ⟨true, gl _ _ (by rw [ON]; omega) fun x hx => ?_⟩;rcases N1.mp hx with z|z
    ·exact .inl z
    ·exact .inl (uZ x z)
   ·exact⟨true,.inr ⟨(x9 (T:=T) (n:=2) (k:=6) (w:=110) oL (fun z hz=>gws _ _ _ z hz) wl).wk (by decide),by rw[ql];omega⟩⟩
   ·exact⟨true,.inl (CT.wk (by decide))⟩
   ·exact⟨true,gl _ _ (by simp) fun x hx=>by cases hx⟩
   ·exact⟨true,gl _ _ (by simp) fun x hx=>.inr (PX.mp hx)⟩
   ·exact⟨false,.inr ⟨(CU (T:=T) (n:=2) oD).wk (by decide),by rw[ql,ON];omega⟩⟩
   ·exact⟨true,.inl ((tF (l:=[(sp:Int)]) (n:=2) (by simp) (fun x hx=>by rw[PX.mp hx];omega)).wk (by decide))⟩
  ·rw[PX.mp hO];exact⟨true,.inl ((tF (n:=2) vl (fun x hx=>by have:=vm x hx;omega)).wk (by decide))⟩
 have gts:∀(b:Bool)(T:aw->Prop) n,∀x∈ts,GB b T (n+1) 2000 x:=fun b T n x hx=>by
  obtain⟨l,hl,rfl⟩:=Qr.mp hx;have:=hs l hl;exact(tF (by omega) (fun i hi=>by have:=this.2 i hi;omega)).wk (by decide)
 obtain⟨bb,gO⟩:=gO
 have gb:Nb bb T μ.length 4 34017 (.tup bent):=CH (n:=3) (k:=17) (w:=2000) (fun z hz=>by
  rcases N1.mp hz with hz|hz
  ·rcases N1.mp hz with hz | hz
   ·exact .inl (gts _ _ 2 z (QE hz))
   ·rw[PX.mp hz];exact gO
  ·exact .inl (gts _ _ 2 z (QF hz))) (by
   simp only[bent,ON,OF,O2,PD,Ql]
   omega) (by decide)
 have g5:∀{b:Bool}{d:D}{T:aw->Prop}{w:Nat},GB b T 4 w d->GB b T 5 w d:=fun {b d T w} h=>by
  obtain⟨⟨q,h1,h2,h3⟩,h4⟩:=h;refine⟨⟨q,fun μ hμ=>?_,h2,by omega⟩,h4⟩
  have up:∀n (d:D) q μ,oh μ n d=some q->oh μ (n+1) d=some q:=by
   intro n
   induction n with
   |zero=>exact fun d q μ h=>CV h
   |succ n ih=>
    intro d q μ h
    have mp:∀(xs:List D) qs,jM (oh μ n) xs=some qs->jM (oh μ (n+1)) xs=some qs:=by
     intro xs
     induction xs with
     |nil=>exact fun qs h=>h
     |cons x xs ihx=>
      intro qs h;unfold jM at h⊢;cases e1:oh μ n x with
      |none=>rw[e1]at h;cases h
      |some y=>
       rw[e1]at h;rw[ih x y μ e1];cases e2:jM (oh μ n) xs with
       |none=>rw[e2]at h;cases h
       |some ys=>rw[e2]at h;rw[ihx ys e2];exact h
    cases d with
    |tup xs=>
     unfold oh at h⊢;dsimp only at h⊢;cases e:jM (oh μ n) xs with
     |none=>rw[e]at h;cases h
     |some qs=>rw[e]at h;rw[mp xs qs e];exact h
    |frz xs=>
     unfold oh at h⊢;dsimp only at h⊢;cases e:jM (oh μ n) xs with
     |none=>rw[e]at h;cases h
     |some qs=>rw[e]at h;rw[mp xs qs e];exact h
    |obj k=>
     unfold oh at h⊢;dsimp only at h⊢;cases eo:μ[k]? with
     |none=>rw[eo]at h;cases h
     |some o=>
      rw[eo]at h;cases o with
      |lst xs=>
       dsimp only at h⊢;cases e:jM (oh μ n) xs with
       |none=>rw[e]at h;cases h
       |some qs=>rw[e]at h;rw[mp xs qs e];exact h
      |_=>exact h
    |_=>exact h
  exact up 4 d q μ (h1 μ hμ)
 have n5:∀{b:Bool}{d:D}{w:Nat},Nb b T μ.length 4 w d->Nb b T μ.length 5 w d:=fun {b d w} h=>h.elim (fun z=>.inl (g5 z)) fun z=>.inr ⟨g5 z.1,z.2⟩
 have pts:∀l:List D,(∀z∈l,z∈ts\/z=.tup [.int (m:Int)])->l.length<=17->Nb true T μ.length 4 34017 (.tup l):=fun l hl hk=>.inl (kb (n:=3) (k:=17) (w:=2000) (fun z hz=>by
  rcases hl z hz with h|rfl
  ·exact gts _ _ 2 z h
  ·exact(tF (l:=[(m:Int)]) (n:=2) (by simp) (fun x hx=>by rw[PX.mp hx];omega)).wk (by decide)) hk (by decide))
 have all:(∃b,Nb b T μ.length 5 290000 d/\qS d=true)\/d=.non:=by
  simp only[S1,S2,S3,N1,NZ,Qc,Qd]at hd;have gB:d=.tup bent->(∃b,Nb b T μ.length 5 290000 d/\qS d=true)\/d=.non:=fun e=>by subst e;exact .inl ⟨bb,n5 (gb.wk (by decide)),rfl⟩
  rcases hd with ((h|h|h|h|h|h)|h|h|h|h|h)|h|h|h
  ·exact gB h
  ·exact gB h
  ·exact gB h
  ·exact gB h
  ·exact gB h
  ·exact gB h
  ·subst h;exact .inl ⟨true,n5 ((pts _ (fun z hz=>.inl (QF hz)) (by rw[O2];omega)).wk (by decide)),rfl⟩
  ·subst h;refine .inl ⟨true,n5 ((pts _ (fun z hz=>?_) (by rw[ON];simp only[PD,Ql];omega)).wk (by decide)),rfl⟩;rcases N1.mp hz with z|z
   ·exact .inl z
   ·exact .inr (PX.mp z)
  ·subst h;exact .inl ⟨true,.inr ⟨(x9 (T:=T) (n:=4) (k:=6) (w:=2000) oT (fun z hz=>gts _ _ 3 z hz) (by omega)).wk (by decide),by rw[ql];simp only[ON,l7M];omega⟩,rfl⟩
  ·subst h;refine .inl ⟨true,(CH (n:=4) (k:=1) (w:=34017) (fun z hz=>?_) (by simp) (by decide)).wk (by decide),rfl⟩;rw[PX.mp hz];exact pts ts (fun z hz=>.inl hz) (by omega)
  ·subst h;exact .inl ⟨true,n5 ((pts [] (fun z hz=>by cases hz) (by simp)).wk (by decide)),rfl⟩
  ·exact .inr h
  ·subst h;exact .inl ⟨false,.inr ⟨(CU (T:=T) (n:=4) oE).wk (by decide),by rw[ql];omega⟩,rfl⟩
  ·subst h;exact .inl ⟨true,n5 ((pts ts.reverse (fun z hz=>.inl (List.mem_reverse.mp hz)) (by rw[RT];omega)).wk (by decide)),rfl⟩
 have fin:∃μ',qh μ (.ok d M10)=.ok d μ'/\Pn μ P μ'/\Mc μ.length μ' d:=by
  rcases CS (μ:=μ) (d:=d) (μ':=M10) with e|⟨e,hlow⟩
  ·refine ⟨M10, e, P10, ?_⟩;rcases all with⟨b,g,hr⟩|rfl
   ·exact nC g.gb (by decide) hr
   ·exact⟨_,fun μ' _=>⟨by simp[Kn],rfl⟩⟩
  ·refine ⟨_, e, ?_, ?_⟩
   ·obtain⟨u,v,w,g,hg⟩:=P10;rw[show M10=μ.set P (cv u v w)++g from hg];exact⟨u,v,w,[],by rw[RQ (by simp),Qq (by simp),Ox]⟩
   ·rcases all with ⟨b, g, hr⟩ | rfl
    ·rcases g with g | ⟨_, g⟩
     ·exact nC (T:=Kw μ.length _) g.of (by decide) hr
     ·exact absurd hlow g
    ·exact⟨_,fun μ' _=>⟨by simp[Kn],rfl⟩⟩
 obtain⟨μ',eg,P11,tg⟩:=fin;refine⟨d,μ',?_,P11,tg⟩;have n1:0+1<=sizeLine:=l1;have n3:0+1+1+1<=sizeLine:=NU (by decide) bz;have n5':0+1+1+1+1+1<=sizeLine:=NU (by decide) bz;have n8:0+1+1+1+1+1+1+1+1<=sizeLine:=NU (by decide) bz;have n11:0+1+1+1+1+1+1+1+1+1+1+1<=sizeLine:=NU (by decide) bz;have e1':aL [.obj P,.int (m:Int)] μ=.ok (.int (sp:Int)) M1:=e1;have e2':aL [.obj P,.int (m:Int)] M1=.ok (.int r0) M2:=e2;have e3':aL [.obj P,.int 8] (M2++[O.lst odds])=.ok (.int r1) M3:=e3;have e5':aL [.obj P,.int (m:Int)] M4=.ok (.int r2) M5:=e5;have e7':aL [.obj P,.int 12] M6=.ok (.int r3) M7:=e7;have e9':aL [.obj P,.int 14] M9=.ok (.int r4) M10:=e9;have lot:gY (cg ls) (.int (sp:Int)) M1=.ok (.tup ws) M1:=by rw[vT (by omega),hw]
 unfold iC;rw[cn];simp only[pR,List.replicate];rw[aH,bc];simp only[az,aq,au,aj,ah,aa,ae,dm,OO,af,bD,aD,Sa,Sb];rw[aH,bc];simp only[az,aq,au,aj,ah,aa,ae];rw[show aL [.obj P,.int ((ls.length:Nat):Int)] μ=_ from e1'];simp only[af,bD,aD,Sa,Sb];rw[aH,bc];simp only[aK,aj,ah,aa,ae,lot,af,bD,aD,Sa,Sb];rw[aH,bc];simp only[aK,dP,iO,yb,dO,aq,au,az,aj,ah,bt,aa,ae,Ly,PD,Ql,NL n1];rw[show aL [.obj P,.int ((ls.length:Nat):Int)] M1=_ from e2'];simp only[aa,ae,PD,Ql,NL n8];rw[show aL [.obj P,.int 8] (M2++[O.lst [.int ((ls.length:Nat):Int),.int (-1),.bl true,.non,.str "0",.tup [.int 0],.int 1000000000000000000000000000000,.int r0]])=_ from e3'];simp only[aa,ae];rw[iH t3 eo];simp only[af,bD,aD,Sa,Sb];rw[aH,bc];have ad1:∀M:aw,cf (.tup ws) (.tup [odd]) M=.ok (.tup (ws++[odd])) M:=fun M=>l6 (by simp only[PD,Ql];omega);have ad2:∀M:aw,cf (.tup ws) (.tup (i9 ws none (some 1))) M=.ok (.tup (ws++i9 ws none (some 1))) M:=fun M=>l6 (by have:=qt (xs:=ws) (a:=none) (b:=some 1);omega);have li:∀M:aw,lb [.tup ws] M=.ok (.obj M.length) (M++[O.lst ws]):=fun _=>rfl;simp only[dP,aK,B8,CY,rB,ye,iO,yb,dO,aq,au,az,aj,ah,bt,CZ,aa,ae,oz,Ct,ad1,ad2,li,PD,Ql,NL n1,NL (PV sizeLine),NL n11,af,bD,aD,Sa,Sb];rw[aH,gF];have isl:∀M:aw,M[W]?=some (.lst wr)->z9 (.obj W) M=true:=fun M h=>mQ h;rw[pD];simp only[aj,ah,aa,ae];rw[show z9 (.obj (M3++[O.lst ws]++[O.dic]).length) (M3++[O.lst ws]++[O.dic]++[O.lst wr])=true from mQ aA];simp only[OX,aq,au,az,aK,dO,aj,ah,aa,ae];rw[show aL [.obj P,.int ((ls.length:Nat):Int)] (M3++[O.lst ws]++[O.dic]++[O.lst wr])=_ from e5'];simp only[aa,ae,PD,Ql,NL n1];rw[show cf (.tup ws) (.tup [.int r2]) M5=.ok (cm (w++[r2])) M5 from by rw[l6 (by simp only[PD,Ql];omega)];simp only[ws,cm,Qy,Pe,Pd]];simp only[aa,ae];rw[x1];simp only[aa,ae];rw[x2 _ aA];simp only[aa,ae];rw[iS aA];simp only[aa,ae]
 rw[show iV (.obj (M3++[O.lst ws]++[O.dic]).length) [.tup ((gA (di (w++[r2]))).map D.int)] (M5++[S]++[O.lst ((gA (di (w++[r2]))).map D.int)])=.ok .non M6 from by
  unfold iV;dsimp only;rw[t5];dsimp only
  rw[NL (NP (show wr.length<1000 by simp[wr]) bz)]]
 simp only[af,aD];rw[aH,bc];simp only[aK,az,aq,au,aj,ah,bt,aa,ae];rw[e7'];simp only[aa,ae];rw[show gY (.obj (M3++[O.lst ws]++[O.dic]).length) (.int r3) M7=_ from iH t7 eO];simp only[af,bD,aD,Sa,Sb];rw[aH,bc];have q1:∀M:aw,Aa (cg ls) none (some (sp:Int)) M=.ok (.tup (ts.take sp)) M:=fun M=>by show Aa (.tup ts) _ _ M=_;rw[oz,Kg (by omega)]
 have q2:∀M:aw,Aa (cg ls) (some ((sp:Int)+1)) none M=.ok (.tup (ts.drop (sp+1))) M:=fun M=>by show Aa (.tup ts) _ _ M=_;rw[oz,C1 (r:=sp+1) (by push_cast;rfl)]
 have q3:∀M:aw,Aa (cg ls) (some 1) none M=.ok (.tup (ts.drop 1)) M:=fun M=>by show Aa (.tup ts) _ _ M=_;rw[oz,C1 (n:=(1:Int)) (r:=1) rfl]
 have q4:∀M:aw,cf (.tup (ts.take sp)) (.tup [O1]) M=.ok (.tup (ts.take sp++[O1])) M:=fun M=>l6 (by rw[OF];simp only[PD,Ql];omega);have q5:∀M:aw,cf (.tup (ts.take sp++[O1])) (.tup (ts.drop (sp+1))) M=.ok (.tup bent) M:=fun M=>l6 (by rw[ON,OF,O2];simp only[PD,Ql];omega);have q6:∀M:aw,cf (cg ls) (.tup [.tup [.int ((ls.length:Nat):Int)]]) M=.ok (.tup (ts++[.tup [.int (m:Int)]])) M:=fun M=>l6 (xs:=ts) (by simp only[PD,Ql];omega);have qr:∀M:aw,qM (cg ls) (.int (-1)) M=.ok (.tup ts.reverse) M:=fun M=>Ct;have q7:∀M:aw,lb [cg ls] M=.ok (.obj M.length) (M++[O.lst ts]):=fun _=>rfl;simp only[aK,dP,B8,CY,rB,ye,dO,aq,au,az,aj,ah,bt,aa,ae,ki,q1,q2,q3,q4,q5,q6,PD,Ql,NL n1,NL (PV sizeLine)];rw[MN aA];simp only[aa,ae,q3,q6,q7,PD,Ql,NL n1,NL (PV sizeLine),NL n5'];have q8:cf (.obj (M7++[O.lst [.tup bent]]).length) (.obj (M7++[O.lst [.tup bent]]++[O.lst S1]++[O.lst ts]).length) (M7++[O.lst [.tup bent]]++[O.lst S1]++[O.lst ts]++[O.lst S2])=.ok (.obj (M7++[O.lst [.tup bent]]++[O.lst S1]++[O.lst ts]++[O.lst S2]).length) M8:=kn (aF (aF aA)) aA (show (6+5:Nat)<=1000000 by decide);rw[show cf (.obj (M7++[O.lst [.tup bent]]).length) (.obj (M7++[O.lst [.tup bent]]++[O.lst [.tup bent,.tup bent,.tup bent,.tup bent,.tup bent,.tup bent]]++[O.lst ts]).length) (M7++[O.lst [.tup bent]]++[O.lst [.tup bent,.tup bent,.tup bent,.tup bent,.tup bent,.tup bent]]++[O.lst ts]++[O.lst S2])=_ from q8];simp only[af,bD,aD,Sa,Sb,aU,aK,dP,aq,au,iO,yb,az,aj,ah,bt,CZ,aa,ae,qr,PD,Ql,NL n3];have q9:cf (.obj (M7++[O.lst [.tup bent]]++[O.lst S1]++[O.lst ts]++[O.lst S2]).length) (.obj (M8++[O.dic]).length) (M8++[O.dic]++[O.lst S3])=.ok (.obj (M8++[O.dic]++[O.lst S3]).length) M9:=kn (aF (aF aA)) aA (show (11+3:Nat)<=1000000 by decide);rw[show cf (.obj (M7++[O.lst [.tup bent]]++[O.lst [.tup bent,.tup bent,.tup bent,.tup bent,.tup bent,.tup bent]]++[O.lst ts]++[O.lst S2]).length) (.obj (M8++[O.dic]).length) (M8++[O.dic]++[O.lst S3])=_ from q9];simp only[aa,ae];rw[e9'];simp only[aa,ae];rw[iH t10 ed];simp only[af,aM];exact eg
end
theorem Fk{μ:aw}{ns:List Int}:∃x:Int,ff [.frz (ns.map D.int),.int 0] μ=.ok (.int x) μ:=by
 unfold ff;rw[cn];cases ns with
 |nil=>
  refine⟨0,?_⟩;simp only[jt,Pd,List.replicate,aH,bS,dz,aK,aj,ah,az,aq,au,zS,Ql,aa,dQ];rw[show f7 .Lt 0 ((0:Nat):Int)=false from rfl];simp only[aZ,af,PB,OW,bH,aD,aU,bt,aM];exact bx (by simp)
 |cons x r=>
  refine⟨x,?_⟩;simp only[jt,Pe,List.replicate,aH,bS,dz,aK,aj,ah,az,aq,au,zS,PD,aa,dQ];rw[show f7 .Lt 0 (((r.map D.int).length+1:Nat):Int)=true from Pw (by omega)];simp only[aZ,af,OX,aU,aK,aj,ah,aa];rw[J7 v8];simp only[af,f9,aM];exact bx (by simp)
section
variable{m:Nat}{ks:List (List Int)}{d:D}{μ:aw}
theorem above{A B:aw}{x y:O}{n j:Nat}(h:A.length=n)(hj:n<j):(A++x::B)[j]?=(A++y::B)[j]?:=by
 rw[OH (by omega),OH (by omega)];obtain⟨i,hi⟩:∃i,j-A.length=i+1:=⟨j-A.length-1,by omega⟩;rw[hi];rfl
theorem GI{N:aw}{P:Nat}{a b c:Int}(hp:N[P]?=some (cv a b c))(h:GW m ks):∃(ds:List D)(μc s:aw),μc.length=N.length/\(∀j o,P≠j->N[j]?=some o->μc[j]?=some o)/\ds.length=6/\(∀d∈ds,Mc (N.length+1) (μc++.lst ds::s) d) /\
  compLoop (.fix (cu 0 6)) N.length (ao 0) bA nE (cu 0 6) [none,some (.obj P),some (cg (cE m ks))] (N++[.lst []])=.ok (.obj N.length) (μc++.lst ds::s):=by
 have hP:P<N.length:=(N3.mp hp).1
 obtain⟨ys',ρ',μc,s',⟨e1,e2,e3,e4,e5,e6⟩,run⟩:=jP (src:=.fix (cu 0 6)) (g:=ao 0) (t:=bA) (e:=nE) (n:=N.length)
  (fun xs ys ρ μc s=>μc.length=N.length/\(∀j o,P≠j->N[j]?=some o->μc[j]?=some o)/\(∃a b c,μc[P]?=some (cv a b c))/\(∃o,ρ=[o,some (.obj P),some (cg (cE m ks))])/\ys.length+xs.length=6/\∀d∈ys,Mc (N.length+1) (μc++.lst ys::s) d)
  (fun ys ρ μc s ⟨e1,_⟩=>⟨e1,trivial⟩)
  (fun x r ys ρ μc s hJ => by
   obtain⟨e1,e2,⟨a,b,c,e3⟩,⟨o,e4⟩,e5,e6⟩:=hJ;subst e4;obtain⟨d,M',ed,⟨u,v,w,g,hg⟩,ht⟩:=Fl (μ:=μc++.lst ys::s) (P:=P) (ls:=cE m ks) (aF e3) (by rw[jR];exact h.m0) (by rw[jR];exact h.m6) (fun l hl=>by rw[jR];exact ly h.m6 hl);have hPc:P<μc.length:=by omega
   have hM:M'=μc.set P (cv u v w)++.lst ys::(s++g):=by
    rw[hg,List.set_append_left _ _ hPc,Pp,Qn]
   subst hM;refine⟨e1,trivial,[some x,some (.obj P),some (cg (cE m ks))],μc,s,true,μc,s,rfl,rfl,fun _=>⟨d,μc.set P (cv u v w),s++g,?_,?_,by simpa using e1,by simpa using e1,fun j o ne z=>by rw[N6 ne];exact e2 j o ne z,⟨u,v,w,lY hPc⟩,⟨_,rfl⟩,?_,fun d' hd=>?_⟩,fun z=>by cases z⟩
   ·unfold nE;simp only[az,aq,au,aj,ah,aa,ed]
   ·simp only[PD]at e5;exact NP (show ys.length<1000 by omega) bz
   ·simp only[PD,ON,Ql]at e5⊢;omega
   ·have l1 : (μc.set P (cv u v w)).length = N.length := by simpa using e1
    rcases N1.mp hd with hd|hd
    ·obtain⟨x',hx⟩:=e6 d' hd;refine⟨x',fun X hX=>hx X fun j o hj z=>hX j o hj ?_⟩;rw[OH (by omega)]at z⊢;rw[l1];rw[e1]at z;obtain⟨i,hi⟩:∃i,j-N.length=i+1:=⟨j-N.length-1,by omega⟩;rw[hi]at z⊢;exact aF (show s[i]?=some o from z)
    ·simp only [NZ, Qc, Qd] at hd;subst hd;obtain⟨x',hx⟩:=ht;refine⟨x',fun X hX=>hx X fun j o hj z=>hX j o ?_ ?_⟩
     ·simp only[ON,PD]at hj;omega
     ·rw [above (y := .lst ys) l1 (by simp only [ON, PD] at hj; omega)]
      exact z)
  (xs:=cu 0 6) (ys:=[]) (ρ:=[none,some (.obj P),some (cg (cE m ks))]) (μ1:=N) (s:=[])
  ⟨rfl,fun _ _ _ z=>z,⟨_,_,_,hp⟩,⟨_,rfl⟩,rfl,fun d hd=>by cases hd⟩
 exact⟨ys',μc,s',e1,e2,by simpa using e5,e6,run⟩
def Km(M:aw)(d:D):Prop:=∃x,∀s,Kn (M++s) d/\hG [d] (M++s)=.ok (.str x) (M++s)
theorem LP{b:Bool}{T:aw->Prop}{n:Nat}{ls:List (List Int)}(hl:ls.length<=17)(h:∀l∈ls,l.length<=17/\∀x∈l,-1<=x/\x<=8):GB b T (n+2) 2618 (cg ls):=kb (n:=n+1) (k:=17) (w:=153) (fun x hx=>by
 obtain⟨l,hl,rfl⟩:=Qr.mp hx
 exact tF (h l hl).1 (h l hl).2) (by rw[OO];exact hl) (by decide)
theorem lg{M:aw}{ls:List (List Int)}(hl:ls.length<=17)(h:∀l∈ls,l.length<=17/\∀x∈l,-1<=x/\x<=8):Km M (cg ls):=by
 obtain⟨x,hx⟩:=nC (b:=true) (T:=fun _=>True) (LP (n:=3) hl h) (by decide) rfl;exact⟨x,fun s=>hx _ trivial⟩
theorem Au{M:aw}(h:GW m ks):Km M (cg (cE m ks)):=by
 have m6:=h.m6;refine lg (by rw[jR];omega) fun l hl=>?_;have:=ly m6 hl;exact⟨by omega,fun x hx=>by have:=this.2 x hx;omega⟩
theorem DV{M:aw}{a0 a1 a3 a4 a5 a6:Option D}(hd:Km M d):qw [a0,a1,some d,a3,a4,a5,a6] M=.next [a0,a1,some d,a3,a4,a5,a6] M:=by
 obtain⟨x,hx⟩:=hd;unfold qw;simp only[bS,dk,fG,az,aq,au,aj,ah,aa,Df hx,cD,QO,PB,OW,af,bH]
theorem oQ{M:aw}{t:Nat}{all:List D}{a0 a1 a3 a4 a5 a6:Option D}(ht:M[t]?=some (.lst all)):∀(ds:List D)(a2:Option D),(∀d∈ds,Km M d) ->
  ∃b2:Option D,gr (.own t all) (ao 2) qw ds [a0,a1,a2,a3,a4,a5,a6] M=.next [a0,a1,b2,a3,a4,a5,a6] M
 |[],a2,_=>⟨a2,by unfold gr;rw[NL (show cF (.own t all) M from ht)]⟩
 |d::ds,a2,hd=>by
  have e1:=DV (a0:=a0) (a1:=a1) (a3:=a3) (a4:=a4) (a5:=a5) (a6:=a6) (hd d NX);obtain⟨b2,e2⟩:=oQ ht ds (some d) fun u hu=>hd u (NY _ hu);refine⟨b2,?_⟩;unfold gr;rw[NL (show cF (.own t all) M from ht)];simp only[bD,af,Sa,Sb];rw[e1];exact e2
theorem Gm{M:aw}{x:Int}{a0 a1 a2 a4 a5 a6:Option D}:∃(M':aw)(b2 b4 b5 b6:Option D),
  qv [a0,a1,a2,some (.int x),a4,a5,a6] M=.next [a0,a1,b2,some (.int x),b4,b5,b6] M'/\∀(j:Nat)(o:O),M[j]?=some o->M'[j]?=some o:=by
 obtain⟨a,b,c,ep⟩:=Iz (μ:=M) x;have sl:∀a b c a' b' c':Int,(M++[cv a b c]).set M.length (cv a' b' c')=M++[cv a' b' c']:=fun _ _ _ _ _ _=>nG;obtain⟨m,ks,a2',b2',c2',h,ea⟩:=IC (μ:=M++[cv a b c]) (i:=M.length) aA;rw[sl]at ea;have m6:=h.m6;let M2:aw:=M++[cv a2' b2' c2']
 let N:aw:=M2++[O.lst [cg (cE m ks)]]
 have hp2:N[M.length]?=some (cv a2' b2' c2'):=aF aA;obtain⟨ds,μc,s,lc,kc,ld,td,ec⟩:=GI (N:=N) (P:=M.length) hp2 h;let Me:aw:=μc++.lst ds::s
 let Mf:aw:=Me++[O.lst ([cg (cE m ks)]++ds)]
 have f1:Me[M2.length]?=some (.lst [cg (cE m ks)]):=aF (kc _ _ (by simp only[M2,ON,PD,Ql];omega) aA)
 have f2:Me[N.length]?=some (.lst ds):=by
  simp only[Me];rw[<- lc,OH (Om _),QI];rfl
 obtain⟨b2,ef⟩:=oQ (M:=Mf) (t:=Me.length) (all:=[cg (cE m ks)]++ds) (a0:=a0) (a1:=a1) (a3:=some (.int x)) (a4:=some (.obj M.length)) (a5:=some (cz m ks)) (a6:=some (cg (cE m ks))) aA ([cg (cE m ks)]++ds) a2 (fun d hd=>by
  rcases N1.mp hd with hd|hd
  ·rw[PX.mp hd];exact Au h
  ·obtain ⟨y, hy⟩ := td d hd
   exact⟨y,fun s'=>hy _ fun j o _ z=>by
    show (Me++[O.lst ([cg (cE m ks)]++ds)]++s')[j]?=some o
    exact aF (aF z)⟩)
 refine⟨Mf,b2,some (.obj M.length),some (cz m ks),some (cg (cE m ks)),?_,fun j o e=>?_⟩
 rotate_left
 ·have hj:j<M.length:=(N3.mp e).1;exact aF (aF (kc j o (by omega) (aF (aF e))))
 ·have n1:0+1<=sizeLine:=l1;have tu:bp [cg (cE m ks),cg (cE m ks)] M2=.ok (.bl true) M2:=tK (fun k hk=>by have:=(ly m6 hk).1;omega) (by rw[jR];omega);unfold qv;rw[aH,bc];simp only[az,aq,au,aj,ah,aa,ep,af,bD,Sa,Sb,aD];rw[aH,bc];simp only[az,aq,au,aj,ah,bt,aa,ea,af,bD,Sa,Sb,aD];rw[aH,bc];simp only[az,aq,au,aj,ah,bt,aa,Ax h,af,bD,Sa,Sb,aD];rw[aH,bS];simp only[dk,fG,az,aq,au,aj,ah,aa,yq h];rw[show bp [cg (cE m ks),cg (cE m ks)] (M++[cv a2' b2' c2'])=_ from tu];simp only[aa,cD,QO,af,PB,OW,bH,aD];rw[iI];simp only[bL,aK,dP,aq,au,bT,dq,aj,ah,bt,aa,PD,Ql,NL n1];rw[show i8 [.int 6] (M2++[O.lst [cg (cE m ks)]])=.ok (.fix (cu 0 6)) (M2++[O.lst [cg (cE m ks)]]) from fm (by decide) (by decide)];simp only[aa,aS];rw[show eR [none,some 4,some 6] [a0,a1,a2,some (.int x),some (.obj M.length),some (cz m ks),some (cg (cE m ks))]=[none,some (.obj M.length),some (cg (cE m ks))] from rfl];rw[show compLoop (.fix (cu 0 6)) (M2++[O.lst [cg (cE m ks)]]).length (ao 0) bA nE (cu 0 6) [none,some (.obj M.length),some (cg (cE m ks))] (M2++[O.lst [cg (cE m ks)]]++[O.lst []])=_ from ec];simp only[aa];rw[show cf (.obj M2.length) (.obj N.length) (μc++.lst ds::s)=.ok (.obj Me.length) Mf from kn f1 f2 (by simp only[PD,Ql];omega)];simp only[aa];rw[kh (show Mf[Me.length]?=some (.lst ([cg (cE m ks)]++ds)) from aA)];simp only[af,hU];exact ef
end
theorem DW{M:aw}{t:Nat}{all:List D}{a0 a1 a3 a4 a5 a6:Option D}(ht:M[t]?=some (.lst all)):∀(ds:List D)(a2:Option D),(∀d∈ds,Km M d) ->
  ∃b2:Option D,gr (.own t all) (ao 2) vb ds [a0,a1,a2,a3,a4,a5,a6] M=.next [a0,a1,b2,a3,a4,a5,a6] M:=oQ ht
theorem KR{M:aw}{n:Nat}{e:ME}(hn:n<=100)(he:∀i M,e [some (.int i)] M=.ok (.tup [.int i]) M):compLoop (.fix (cu 0 n)) M.length (ao 0) bA e (cu 0 n) [none] (M++[.lst []])=.ok (.obj M.length) (M++[.lst (((rg n).map fun i=>[i]).map cm)]):=by
 have c:=cx (U:=Int) (en:=D.int) (src:=.fix ((rg n).map D.int)) (g:=ao 0) (t:=bA) (e:=e) (μ1:=M) (q:=fun _=>true) (h:=fun i=>.tup [.int i]) (fun ρ=>∃o,ρ=[o]) (fun _=>trivial) (us:=rg n) (acc:=[]) (ρ:=[none]) ⟨_,rfl⟩
  (by rw[Ql,mP];exact NU (by omega) bz)
  (fun i hi a ρ ⟨o,ho⟩=>⟨[some (.int i)],⟨_,rfl⟩,by subst ho;rfl,rfl,fun _=>he i _⟩)
 rw[cP,Pv]at c;have:cu 0 n=(rg n).map D.int:=by have:=uF (m:=n);rwa [OU]at this
 rw[this,c,Qi];rfl
theorem rN{n:Nat}(hn:n<=9):∀l∈(rg n).map fun i=>[i],l.length<=17/\∀x∈l,-1<=x/\x<=8:=fun l hl=>by
 obtain⟨i,hi,rfl⟩:=Qr.mp hl;have:=lj.mp hi;exact⟨by simp,fun x hx=>by rw[PX.mp hx];omega⟩
abbrev vK:List D:=[cg [[0]],cg [[0,1],[0,1]],cg [[0,1],[1]],.tup [],cg [[]],.non,.obj 0,.tup [.tup [.bl true]]]
abbrev qB:List D:=[cg ((rg 7).map fun i=>[i]),cg ((rg 6).map fun i=>[i])]
abbrev MA:aw:=[O.lst [.tup [.int 0]],O.lst vK]
abbrev MB:aw:=MA++[O.lst (((rg 7).map fun i=>[i]).map cm)]++[O.lst (((rg 6).map fun i=>[i]).map cm)]
abbrev MC:aw:=MB++[O.lst qB]++[O.lst (vK++qB)]
theorem Ec:∀d∈vK++qB,Km MC d:=fun d hd=>by
 simp only[vK,qB,N1,NZ,Qc,Qd]at hd;rcases hd with (rfl|rfl|rfl|rfl|rfl|rfl|rfl|rfl)|rfl|rfl
 ·exact lg (by decide) (by decide)
 ·exact lg (by decide) (by decide)
 ·exact lg (by decide) (by decide)
 ·exact lg (ls:=[]) (by decide) (by decide)
 ·exact lg (by decide) (by decide)
 ·exact⟨_,fun s=>⟨by simp[Kn],rfl⟩⟩
 ·obtain⟨x,hx⟩:=nC (b:=true) (T:=fun μ=>μ[0]?=some (.lst [.tup [.int 0]])) (x9 (n:=4) (k:=1) (w:=153) (fun _ z=>z) (fun z hz=>by rw[PX.mp hz];exact tF (l:=[0]) (n:=3) (by decide) (by decide)) (by decide)) (by decide) rfl;exact⟨x,fun s=>hx _ rfl⟩
 ·obtain⟨x,hx⟩:=nC (b:=true) (T:=fun _=>True) (d:=.tup [.tup [.bl true]]) (kb (n:=4) (k:=1) (w:=9) (fun z hz=>by rw[PX.mp hz];exact kb (n:=3) (k:=1) (w:=8) (fun z hz=>by rw[PX.mp hz];exact Hk) (by decide) (by decide)) (by decide) (by decide)) (by decide) rfl;exact⟨x,fun s=>hx _ trivial⟩
 ·exact lg (by decide) (rN (by decide))
 ·exact lg (by decide) (rN (by decide))
theorem IA(ns:List Int):∃μ',wc [.frz (ns.map D.int)] []=.ok (.bl true) μ':=by
 have n1:0+1<=sizeLine:=l1;have n2:0+1+1<=sizeLine:=l2;have n8:0+1+1+1+1+1+1+1+1<=sizeLine:=NU (by decide) bz;obtain⟨b2,ef⟩:=DW (M:=MC) (t:=5) (all:=vK++qB) (a0:=some (.frz (ns.map D.int))) (a1:=some (.obj 1)) (a3:=none) (a4:=none) (a5:=none) (a6:=none) rfl (vK++qB) none Ec;obtain⟨x0,ex0⟩:=Fk (μ:=MC) (ns:=ns)
 obtain⟨xs,hxs,hxl⟩:∃xs:List Int,i9 (ns.map D.int) (some 1) (some 8)=xs.map D.int/\xs.length<=8:=by
  refine⟨(ns.drop (HT.sIx ns.length 0 (some 1))).take (HT.sIx ns.length ns.length (some 8)-HT.sIx ns.length 0 (some 1)),?_,?_⟩
  ·unfold i9;rw[OO,QA,QB]
  ·rw[OF];have h6:HT.sIx ns.length ns.length (some 8)=min 8 ns.length:=HT.sIx_nat _ _ 8;omega
 obtain⟨L,hL⟩:∃L:List Int,L=x0::xs:=⟨_,rfl⟩;let M5:aw:=((MC++[O.lst [.int x0]])++[O.lst (xs.map D.int)])++[O.lst (L.map D.int)]
 have h5:M5[8]?=some (.lst (L.map D.int)):=rfl
 obtain⟨ρ3,M6,_,run3⟩:=qp (src:=.own 8 (L.map D.int)) (g:=ao 3) (fb:=qv)
  (fun zs ρ μ=>μ[8]?=some (O.lst (L.map D.int))/\(∃rs:List Int,zs=rs.map D.int)/\∃o0 o1 o2 o3 o4 o5 o6,ρ=[o0,o1,o2,o3,o4,o5,o6])
  (fun ρ μ hJJ=>hJJ.1)
  (fun x r ρ μ hJJ => by
   obtain⟨h2,⟨rs,er⟩,o0,o1,o2,o3,o4,o5,o6,eρ⟩:=hJJ;subst eρ;cases rs with
   |nil=>cases er
   |cons y rs=>
    injection er with ex er
    subst ex er;obtain⟨M',b2,b4,b5,b6,e1,e2⟩:=Gm (M:=μ) (x:=y) (a0:=o0) (a1:=o1) (a2:=o2) (a4:=o4) (a5:=o5) (a6:=o6)
    exact⟨h2,_,μ,_,_,rfl,e1,e2 8 _ h2,⟨rs,rfl⟩,_,_,_,_,_,_,_,rfl⟩)
  (xs:=L.map D.int) (ρ:=[some (.frz (ns.map D.int)),some (.obj 1),b2,none,none,none,none]) (μ:=M5)
  ⟨h5,⟨L,rfl⟩,_,_,_,_,_,_,_,rfl⟩
 have hend:∃μ',qh [] (.ok (.bl true) M6)=.ok (.bl true) μ':=by
  rcases CS (μ:=[]) (d:=.bl true) (μ':=M6) with e|⟨e,_⟩ <;> exact⟨_,e⟩
 obtain⟨μ',hend⟩:=hend;refine⟨μ',?_⟩;have l1':([.int x0]:List D).length<=sizeLine:=by show 1<=sizeLine;decide
 have sl:∀μ,Aa (.frz (ns.map D.int)) (some 1) (some 8) μ=.ok (.obj μ.length) (μ++[.lst (xs.map D.int)]):=fun μ=>by
  unfold Aa;dsimp only;rw[hxs]
 have ad:cf (.obj MC.length) (.obj (MC++[O.lst [.int x0]]).length) (MC++[O.lst [.int x0]]++[O.lst (xs.map D.int)])=.ok (.obj 8) M5:=by
  have:=kn (μ:=MC++[O.lst [.int x0]]++[O.lst (xs.map D.int)]) (a:=6) (b:=7) rfl rfl (show ([.int x0]:List D).length+(xs.map D.int).length<=1000000 by rw[OO];simp only[PD,Ql];omega);show cf (.obj 6) (.obj 7) _=_;rw[this];simp only[M5,hL];rfl
 unfold wc;rw[cN];unfold Hs;simp only[List.replicate];rw[aH,bc];simp only[dP,dO,aq,au,bt,aa,PD,Ql,NL (PV sizeLine),NL n1,NL n2,NL n8,af,bD,aD,Sa,Sb];rw[aH,iI];simp only[bL,aK,dP,az,aq,au,bT,dq,bt,aj,ah,aa];rw[show ∀M:aw,i8 [.int 7] M=.ok (.fix (cu 0 7)) M from fun M=>fm (by decide) (by decide)];simp only[aa,aS,rE,u5];rw[KR (n:=7) (by decide) fun i M=>by unfold z5;simp only[dO,aq,au,ah,aa,PD,Ql,NL n1]];simp only[aa];rw[iS aA];simp only[aa];rw[show ∀M:aw,i8 [.int 6] M=.ok (.fix (cu 0 6)) M from fun M=>fm (by decide) (by decide)];simp only[aa,aS,rE,u5];rw[KR (n:=6) (by decide) fun i M=>by unfold zZ;simp only[dO,aq,au,ah,aa,PD,Ql,NL n1]];simp only[aa];rw[iS aA];simp only[aa,PD,Ql,NL n2];have ad0:cf (.obj 1) (.obj 4) (MB++[O.lst qB])=.ok (.obj 5) MC:=kn (μ:=MB++[O.lst qB]) (a:=1) (b:=4) (xs:=vK) (ys:=qB) rfl rfl (by decide);show qh [] ((((cf (.obj 1) (.obj 4) (MB++[O.lst qB])).bind uy).bindS fun src μ1=>gr src (ao 2) vb src.items [some (.frz (ns.map D.int)),some (.obj 1),none,none,none,none,none] μ1).bind _).out=_;rw[ad0];simp only[aa];rw[kh (show MC[5]?=some (.lst (vK++qB)) from rfl)];simp only[af,hU];rw[ef];simp only[aD];rw[aH,iI,bL,aK,dP,aq,az,aq,ah,aa,aq,bt,aa,au,aa,aa,aa,ex0,aa,au,aa,aa];simp only[NL l1',aa,B8,ah,rB,bt,ye];rw[sl,aa,ad];rw[aa,kh h5,af,hU,run3,aD,aU,bt,af,aM];exact hend
end Lw
namespace Lw
open PySem PySem.Spec PyProof.Rows L2 RS
theorem bO(P:Params)(f:Addr)(n m:Str)(t:Tok)(c:Addr)(st:Stmt)(l:(Kz P).lookup f=some (fo n st m t c))(q:W.codeIn (Kz P) (.ref c) n=true):gZ (Kz P) n n st f (W.fnOf n n (fq st) (cj st) (ar st) .none .none .none (.str m t) none (.ref c) .none):=J2 l q (by unfold W.keepIn;dsimp only;rw[l];rfl)
theorem Kl {l:W.OpenLaw}{w:World}{h:Heap}{mg:Str->Option Value}{fa:Addr} (X:(Kz w.params).In h) (G:h.Ns mainGlobals mg) (hfa:mg "law" = some (.ref fa)) :
  ∃fd:FuncData,(∀(s:Shared) (v:Value),BindsTo s fd ⟨[v],[]⟩ [("_law_script",v)])/\∀base:Heap,(Kz w.params).In base->base.Ns mainGlobals mg->qG l.prog w (Kz w.params) mg base xO 11 fa fd ["_law_script"] (En (df (Kz w.params) w) 1 wc):=by
 have e:=hfa.symm.trans (W.mg_of X G (v:=.ref 370) (by kernel_rfl));cases e;have nm:Nm mg:=⟨W.mg_none_of X G (by kernel_rfl),W.mg_none_of X G (by kernel_rfl),W.mg_none_of X G (by kernel_rfl),W.mg_none_of X G (by kernel_rfl),W.mg_none_of X G (by kernel_rfl),W.mg_none_of X G (by kernel_rfl),W.mg_none_of X G (by kernel_rfl),W.mg_none_of X G (by kernel_rfl),W.mg_none_of X G (by kernel_rfl),W.mg_none_of X G (by kernel_rfl),W.mg_none_of X G (by kernel_rfl),W.mg_none_of X G (by kernel_rfl),W.mg_none_of X G (by kernel_rfl),W.mg_none_of X G (by kernel_rfl),W.mg_none_of X G (by kernel_rfl)⟩;have c_MOST_PLACES:=W.mg_of X G (n:="MOST_PLACES") (v:=(.int 6 412)) (by kernel_rfl);have F:=bO w.params 370 "law" "law_rootwebs_k40_stars_looked_at" 496 369 jH (by kernel_rfl) (by kernel_rfl);refine⟨W.fnOf "law" "law" (fq jH) (cj jH) (ar jH) .none .none .none (.str "law_rootwebs_k40_stars_looked_at" 496) none (.ref 369) .none,fun s v=>.of_eq rfl,fun base Xb Gb=>?_⟩;have d_is_whole:=xu (P:=l.prog) (w:=w) (base:=base)  nm (bO w.params 151 "is_whole" "rootwebs.kinds" 364 150 jA (by kernel_rfl) (by kernel_rfl)) (W.mg_of X G (by kernel_rfl));have d_is_whole_from:=pb (P:=l.prog) (w:=w) (base:=base)  nm (bO w.params 158 "is_whole_from" "rootwebs.kinds" 364 157 fv (by kernel_rfl) (by kernel_rfl)) (W.mg_of X G (by kernel_rfl)) d_is_whole;have d_is_place:=xv (P:=l.prog) (w:=w) (base:=base)  nm (bO w.params 165 "is_place" "rootwebs.kinds" 364 164 jB (by kernel_rfl) (by kernel_rfl)) (W.mg_of X G (by kernel_rfl)) d_is_whole_from;have d_is_places:=vq (P:=l.prog) (w:=w) (base:=base)  nm (bO w.params 170 "is_places" "rootwebs.kinds" 364 169 gK (by kernel_rfl) (by kernel_rfl)) (W.mg_of X G (by kernel_rfl)) d_is_place;have d_is_rising:=vp (P:=l.prog) (w:=w) (base:=base)  nm (bO w.params 175 "is_rising" "rootwebs.kinds" 364 174 gJ (by kernel_rfl) (by kernel_rfl)) (W.mg_of X G (by kernel_rfl));have d_is_rising_places:=mi (P:=l.prog) (w:=w) (base:=base)  nm (bO w.params 182 "is_rising_places" "rootwebs.kinds" 364 181 dr (by kernel_rfl) (by kernel_rfl)) (W.mg_of X G (by kernel_rfl)) d_is_places d_is_rising;have d_is_many:=yG (P:=l.prog) (w:=w) (base:=base)  nm (bO w.params 189 "is_many" "rootwebs.webs" 410 188 kr (by kernel_rfl) (by kernel_rfl)) (W.mg_of X G (by kernel_rfl)) ⟨_,c_MOST_PLACES⟩ d_is_whole_from;have d_is_pair:=yF (P:=l.prog) (w:=w) (base:=base)  nm (bO w.params 196 "is_pair" "rootwebs.webs" 410 195 kq (by kernel_rfl) (by kernel_rfl)) (W.mg_of X G (by kernel_rfl)) d_is_places;have d_web_of:=AV (P:=l.prog) (w:=w) (base:=base)  nm (bO w.params 201 "web_of" "rootwebs.webs" 410 200 jS (by kernel_rfl) (by kernel_rfl)) (W.mg_of X G (by kernel_rfl)) d_is_many d_is_pair;have d_check_place:=su (P:=l.prog) (w:=w) (base:=base)  nm (bO w.params 208 "check_place" "rootwebs.webs" 410 207 gM (by kernel_rfl) (by kernel_rfl)) (W.mg_of X G (by kernel_rfl)) d_is_place;have d_next_places:=sm (P:=l.prog) (w:=w) (base:=base)  nm (bO w.params 213 "next_places" "rootwebs.webs" 410 212 dD (by kernel_rfl) (by kernel_rfl)) (W.mg_of X G (by kernel_rfl));have d_star_of:=yE (P:=l.prog) (w:=w) (base:=base)  nm (bO w.params 220 "star_of" "rootwebs.webs" 410 219 ko (by kernel_rfl) (by kernel_rfl)) (W.mg_of X G (by kernel_rfl)) d_check_place d_next_places;have d_is_even:=yH (P:=l.prog) (w:=w) (base:=base)  nm (bO w.params 230 "is_even" "rootwebs.stars" 457 229 jn (by kernel_rfl) (by kernel_rfl)) (W.mg_of X G (by kernel_rfl));have d_stars_good:=sR (P:=l.prog) (w:=w) (base:=base)  nm (bO w.params 225 "stars_good" "rootwebs.stars" 457 224 eC (by kernel_rfl) (by kernel_rfl)) (W.mg_of X G (by kernel_rfl)) d_is_many d_is_rising_places d_is_even;have d_check_stars:=sr (P:=l.prog) (w:=w) (base:=base) (a_NoRoot:=73) nm (bO w.params 237 "check_stars" "rootwebs.stars" 457 236 gL (by kernel_rfl) (by kernel_rfl)) (W.mg_of X G (by kernel_rfl)) (by kernel_rfl) (An.of (nm:="NoRoot") (q:="NoRoot") (N:=72) (bs:=[(.ref 24)]) (bm:=[(.ref 24),(.type "ValueError"),(.type "Exception"),(.type "BaseException"),(.type "object")]) (hd:=true) (sn:=[]) (sub:=[]) (ab:=false) (col:=none) (dd:=none) (k0:=some (.ref 64)) (k1:=none) (k2:=some (.str "NoRoot" 255)) (k3:=some (.str "NoRoot" 263)) (k5:=some (.bool true)) Xb Gb (by kernel_rfl) (by kernel_rfl) (by kernel_rfl) (by kernel_rfl) (by kernel_rfl)) d_stars_good;have d_stars_of:=xt (P:=l.prog) (w:=w) (base:=base)  nm (bO w.params 242 "stars_of" "rootwebs.stars" 457 241 iA (by kernel_rfl) (by kernel_rfl)) (W.mg_of X G (by kernel_rfl)) d_star_of;have d_web_by:=AW (P:=l.prog) (w:=w) (base:=base)  nm (bO w.params 247 "web_by" "rootwebs.stars" 457 246 jT (by kernel_rfl) (by kernel_rfl)) (W.mg_of X G (by kernel_rfl)) d_check_stars d_web_of;have d_joined_by:=vn (P:=l.prog) (w:=w) (base:=base)  nm (bO w.params 252 "joined_by" "rootwebs.stars" 457 251 gI (by kernel_rfl) (by kernel_rfl)) (W.mg_of X G (by kernel_rfl)) d_check_stars d_web_of;have d__law_cell_at:=p8 (P:=l.prog) (w:=w) (base:=base)  nm (bO w.params 259 "_law_cell_at" "law_rootwebs_k40_stars_looked_at" 496 258 fY (by kernel_rfl) (by kernel_rfl)) (W.mg_of X G (by kernel_rfl));have d__law_next:=vt (P:=l.prog) (w:=w) (base:=base)  nm (bO w.params 266 "_law_next" "law_rootwebs_k40_stars_looked_at" 496 265 iY (by kernel_rfl) (by kernel_rfl)) (W.mg_of X G (by kernel_rfl));have d__law_pen_of:=sA (P:=l.prog) (w:=w) (base:=base)  nm (bO w.params 273 "_law_pen_of" "law_rootwebs_k40_stars_looked_at" 496 272 gP (by kernel_rfl) (by kernel_rfl)) (W.mg_of X G (by kernel_rfl));have d__law_draw:=vv (P:=l.prog) (w:=w) (base:=base)  nm (bO w.params 280 "_law_draw" "law_rootwebs_k40_stars_looked_at" 496 279 iZ (by kernel_rfl) (by kernel_rfl)) (W.mg_of X G (by kernel_rfl)) d__law_next;have d__law_whole:=sS (P:=l.prog) (w:=w) (base:=base)  nm (bO w.params 287 "_law_whole" "law_rootwebs_k40_stars_looked_at" 496 286 ij (by kernel_rfl) (by kernel_rfl)) (W.mg_of X G (by kernel_rfl));have d__law_kind_of:=p7 (P:=l.prog) (w:=w) (base:=base) (a_NoLine:=61) (a_NoNumber:=49) (a_NoPlace:=37) (a_NoRoot:=73) (a_NoText:=123) (a_NoTree:=85) (a_NoWeb:=104) (a_TooGreat:=142) nm (bO w.params 294 "_law_kind_of" "law_rootwebs_k40_stars_looked_at" 496 293 fX (by kernel_rfl) (by kernel_rfl)) (W.mg_of X G (by kernel_rfl)) (bM.of (by kernel_rfl)) (bM.of (by kernel_rfl)) (bM.of (by kernel_rfl)) (bM.of (by kernel_rfl)) (bM.of (by kernel_rfl)) (bM.of (by kernel_rfl)) (bM.of (by kernel_rfl)) (bM.of (by kernel_rfl)) (bM.of (by kernel_rfl)) (W.mg_of X G (by kernel_rfl)) (W.mg_of X G (by kernel_rfl)) (W.mg_of X G (by kernel_rfl)) (W.mg_of X G (by kernel_rfl)) (W.mg_of X G (by kernel_rfl)) (W.mg_of X G (by kernel_rfl)) (W.mg_of X G (by kernel_rfl)) (W.mg_of X G (by kernel_rfl));have d__law_web_of:=sv (P:=l.prog) (w:=w) (base:=base)  nm (bO w.params 299 "_law_web_of" "law_rootwebs_k40_stars_looked_at" 496 298 eZ (by kernel_rfl) (by kernel_rfl)) (W.mg_of X G (by kernel_rfl));have d__law_drawn_web:=nY (P:=l.prog) (w:=w) (base:=base)  nm (bO w.params 304 "_law_drawn_web" "law_rootwebs_k40_stars_looked_at" 496 303 c8 (by kernel_rfl) (by kernel_rfl)) (W.mg_of X G (by kernel_rfl)) d__law_draw d__law_web_of;have d__law_near_of:=p6 (P:=l.prog) (w:=w) (base:=base)  nm (bO w.params 309 "_law_near_of" "law_rootwebs_k40_stars_looked_at" 496 308 d5 (by kernel_rfl) (by kernel_rfl)) (W.mg_of X G (by kernel_rfl));have d__law_two_step:=pd (P:=l.prog) (w:=w) (base:=base)  nm (bO w.params 314 "_law_two_step" "law_rootwebs_k40_stars_looked_at" 496 313 dE (by kernel_rfl) (by kernel_rfl)) (W.mg_of X G (by kernel_rfl)) d__law_near_of d__law_web_of;have d__law_any_web:=p9 (P:=l.prog) (w:=w) (base:=base)  nm (bO w.params 319 "_law_any_web" "law_rootwebs_k40_stars_looked_at" 496 318 d6 (by kernel_rfl) (by kernel_rfl)) (W.mg_of X G (by kernel_rfl)) d__law_drawn_web d__law_draw d__law_two_step d__law_web_of;have d__law_tuples_are:=nh (P:=l.prog) (w:=w) (base:=base)  nm (bO w.params 324 "_law_tuples_are" "law_rootwebs_k40_stars_looked_at" 496 323 cS (by kernel_rfl) (by kernel_rfl)) (W.mg_of X G (by kernel_rfl)) d__law_whole;have d__law_web_is:=sx (P:=l.prog) (w:=w) (base:=base)  nm (bO w.params 331 "_law_web_is" "law_rootwebs_k40_stars_looked_at" 496 330 gN (by kernel_rfl) (by kernel_rfl)) (W.mg_of X G (by kernel_rfl)) d__law_whole d__law_tuples_are;have d__law_bent:=vw (P:=l.prog) (w:=w) (base:=base)  nm (bO w.params 338 "_law_bent" "law_rootwebs_k40_stars_looked_at" 496 337 i3 (by kernel_rfl) (by kernel_rfl)) (W.mg_of X G (by kernel_rfl)) d__law_draw;have d__law_stars_like:=ni (P:=l.prog) (w:=w) (base:=base)  nm (bO w.params 343 "_law_stars_like" "law_rootwebs_k40_stars_looked_at" 496 342 bX (by kernel_rfl) (by kernel_rfl)) (W.mg_of X G (by kernel_rfl)) d__law_whole;have d__law_stars_of_of:=mj (P:=l.prog) (w:=w) (base:=base)  nm (bO w.params 348 "_law_stars_of_of" "law_rootwebs_k40_stars_looked_at" 496 347 cy (by kernel_rfl) (by kernel_rfl)) (W.mg_of X G (by kernel_rfl)) d__law_near_of;have d__law_together:=pf (P:=l.prog) (w:=w) (base:=base)  nm (bO w.params 353 "_law_together" "law_rootwebs_k40_stars_looked_at" 496 352 dF (by kernel_rfl) (by kernel_rfl)) (W.mg_of X G (by kernel_rfl)) d__law_web_of;have d__law_told_of:=pZ (P:=l.prog) (w:=w) (base:=base) (a_RootError:=24) nm (bO w.params 360 "_law_told_of" "law_rootwebs_k40_stars_looked_at" 496 359 fW (by kernel_rfl) (by kernel_rfl)) (W.mg_of X G (by kernel_rfl)) (W.mg_of X G (by kernel_rfl)) (v9.of (by kernel_rfl)) d_joined_by d_web_by d__law_kind_of;have d__law_right:=sT (P:=l.prog) (w:=w) (base:=base)  nm (bO w.params 365 "_law_right" "law_rootwebs_k40_stars_looked_at" 496 364 eD (by kernel_rfl) (by kernel_rfl)) (W.mg_of X G (by kernel_rfl)) d_stars_good d__law_stars_like d__law_told_of d__law_web_is d__law_web_of d__law_together;exact J6 nm F d__law_right d__law_cell_at d__law_pen_of d__law_any_web d__law_stars_of_of d__law_tuples_are d_stars_of d__law_bent
theorem Mu {l:W.OpenLaw}{q:Program}{loose:List Str}{XP:(Str->Option Value)->Heap->Prop}{d:DefRec} (hn:l.most=some 63) (hdf:d.params.defaults=[]) (hd:d.name = "law") :
  W.WalkO q loose XP (W.Hook.says Hz) l.row.toRowW d [] (fun f vs=>PySem.call f vs):=
 L2.walk_of (K:=Kz) (n:=63) (k:=11) (x:="_law_script") (CX:=fun _=>xO) (sp:=fun w=>En (df (Kz w.params) w) 1 wc) hn (by decide) hdf ⟨rfl,by decide,by decide,rfl⟩ (fun _ _ Y=>W.kIn_of Y) (fun _ _ _ _ X G e=>Kl X G (hd ▸ e)) (fun w H a ns hl hO hS=>D0 (IA ns) hO hS) fun _ _ _ _ _ z=>z
end Lw
open PySem PySem.W PyProof.Rows Lw
set_option maxRecDepth 100000 in
set_option maxHeartbeats 0 in
theorem PySem.Challenge.cw_rootwebs_k40_stars_looked_at_holds : PySem.Challenge.rw_rootwebs_k40_stars_looked_at.Holds := by
 w_on;refine holds_law HP fun said=>?_
 exact holds_open (Xt:=Xz) (XP:=XL Qz []) (YP:=Hook.says Hz) HQ (Hook.of Hz) (Hook.keeps Hz) (fun s e=>xl_of s (R6.mp e).1) XL.keeps (by rfl) (by rfl) (by rfl) (fun s e=>recFacts_of (R6.mp e).2) (by rfl) said (by decide +kernel) ⟨rfl,rfl,rfl,rfl,rfl,by decide +kernel⟩ (by w_witness2) (Mu rfl rfl rfl)
