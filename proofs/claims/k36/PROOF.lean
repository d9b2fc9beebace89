import PyProof.Rows.All
import Wide.All
import OpenK.AllK
import Wide.FinOn
import PyProof.EqAt
import PyProof.EqKinds
import PyProof.TupleCall
import PyProof.P3In
import PyProof.NeData
import PyProof.ConsumeS
import PyProof.WalksMore
import PyProof.ReprRoads
import PyProof.ReprLen
import PyProof.Draws
import PyProof.EnumMake
import PyProof.EnumFor
import PyProof.CallFns
import PyProof.Rows.CallKwBuiltin
import Lean
import PySem.Challenge.RW_rootwebs_k36_alike_trees
set_option Elab.async false
set_option linter.all false
set_option maxHeartbeats 1000000
set_option maxHeartbeats 2000000
set_option maxHeartbeats 400000
set_option maxHeartbeats 4000000
set_option maxRecDepth 100000
abbrev LH:=@PySem.Value.isInt_shape
abbrev LI:=@decide_eq_false
abbrev LJ:=@beq_eq_false_iff_ne
abbrev LK:=@PySem.wpAny_eqBool_int
abbrev LL:=@if_pos
abbrev LM:=@if_neg
abbrev LN:=@Option.some.inj
abbrev LO:=@PySem.Heap.lt_size
abbrev LP:=@Nat.lt_of_lt_of_le
abbrev LQ:=@Nat.lt_irrefl
abbrev LR:=@Nat.ne_of_lt
abbrev LS:=@List.mem_filter
abbrev LU:=@List.mem_range
abbrev LV:=@Nat.le_trans
abbrev LW:=@Nat.le_of_lt
abbrev LX:=@List.filterMap_cons
abbrev LY:=@List.mem_cons_self
abbrev LZ:=@List.mem_cons_of_mem
abbrev L4:=@List.mem_cons
abbrev L5:=@Ne.symm
abbrev L6:=@List.mem_append
abbrev L7:=@List.mem_append_left
abbrev L8:=@List.getElem?_eq_some_iff
abbrev L9:=@List.getElem_inj
abbrev Ma:=@List.getElem?_set_self
abbrev Mb:=@List.getElem?_set_ne
abbrev Mc:=@PySem.wpAny_mono
abbrev Md:=@PySem.wpAny_truthy_bool
abbrev Me:=@Array.length_toList
abbrev Mf:=@congrArg
abbrev Mg:=@PySem.wpAny_execs_nil
abbrev Mh:=@PySem.wpAny_bind
abbrev Mi:=@PySem.wpAny_holding
abbrev Mj:=@PySem.wpAny_standAt
abbrev Ml:=@PySem.wpAny_passesOwn
abbrev Mm:=@Bool.false_ne_true
abbrev Mn:=@Nat.ne_of_gt
abbrev Mo:=@PySem.wpAny_pure
abbrev Mp:=@PySem.wpAny_load
abbrev Mq:=@Bool.false_and
abbrev Mr:=@PySem.Heap.get?_push_of_some
abbrev Ms:=@PySem.Heap.get?_push_size
abbrev Mt:=@Nat.le_refl
abbrev Mu:=@PyProof.Rows.callWith_type1
abbrev Mv:=@List.mem_filterMap
abbrev Mw:=@List.mem_append_right
abbrev Mx:=@Bool.eq_iff_iff
abbrev My:=@PySem.sizeLine_eq
abbrev Mz:=@List.size_toArray
abbrev MC:=@List.append_nil
abbrev MD:=@PySem.wpAny_call
abbrev MF:=@PySem.codeAny_mono
abbrev MH:=@PySem.wpAny_Call_Name_kw
abbrev MJ:=@List.nodup_cons
abbrev MK:=@List.of_mem_zip
abbrev ML:=@Option.isSome_iff_exists
abbrev MM:=@List.length_take
abbrev MN:=@PySem.mem_of_lookup
abbrev MP:=@List.getElem?_append_right
abbrev MQ:=@List.getElem?_replicate
abbrev MR:=@List.getElem?_append_left
abbrev MU:=@List.getElem?_map
abbrev MV:=@List.getElem?_take_of_lt
abbrev MW:=@List.mem_of_getElem?
abbrev MX:=@List.length_append
abbrev MY:=@List.length_map
abbrev MZ:=@PySem.noFill_tuple_add
abbrev M7:=@PySem.F.slot_tuple_add
abbrev M8:=@PySem.F.entry_tuple_add
abbrev M9:=@PySem.F.args_tuple_add_2
abbrev Na:=@Int.toNat_natCast
abbrev Nb:=@Nat.min_le_right
abbrev Nd:=@if_false
abbrev Nf:=@if_true
abbrev Ng:=@PyProof.Rows.slicePart_none
abbrev Nh:=@PySem.wpAny_field
abbrev Ni:=@List.filterMap_map
abbrev Nj:=@List.length_drop
abbrev Nk:=@PySem.wpAny_sequenceKey
abbrev Nl:=@PySem.wpAny_callSpecial?_slot
abbrev Np:=@PyProof.Rows.slot_tuple_getitem
abbrev Nq:=@PySem.wpAny_call_entry
abbrev Nr:=@PyProof.Rows.entry_tuple_getitem
abbrev Nt:=@PyProof.Rows.args_tuple_getitem
abbrev Nu:=@PySem.wpAny_typeOf
abbrev Nv:=@Bool.and_eq_true
abbrev Nw:=@PySem.wpAny_newObj_type
abbrev Nx:=@List.map_nil
abbrev Ny:=@List.map_cons
abbrev Nz:=@PySem.Heap.IsSliceOf.new
abbrev NA:=@PySem.slot_list_getitem
abbrev NB:=@PySem.Heap.get?_update_self
abbrev NC:=@PySem.Heap.get?_update_other
abbrev ND:=@List.length_set
abbrev NF:=@List.all_cons
abbrev NG:=@List.reverse_cons
abbrev NH:=@List.replicate_succ
abbrev NI:=@List.flatten_cons
abbrev NJ:=@Nat.le_succ
abbrev NK:=@List.append_assoc
abbrev NL:=@List.foldl_cons
abbrev NM:=@PySem.call_meets
abbrev NN:=@List.length_singleton
abbrev NO:=@Array.getElem?_toList
abbrev NP:=@List.nil_append
abbrev NQ:=@decide_eq_true
abbrev NR:=@List.lookup_cons
abbrev NS:=@beq_self_eq_true
abbrev NT:=@Bool.false_eq_true
abbrev NU:=@List.length_cons
abbrev NV:=@Nat.lt_succ_self
abbrev NW:=@Nat.lt_succ_of_lt
abbrev NX:=@PySem.Heap.size_push
abbrev NY:=@PySem.pushCells_keeps
abbrev NZ:=@Option.bind_some
abbrev N1:=@PySem.codeAny_of_tree
abbrev N2:=@PySem.wpAny_askSetting
abbrev N3:=@PySem.wpAny_rule
abbrev N4:=@PySem.wpAny_of_eq
abbrev N5:=@Nat.zero_le
abbrev N6:=@List.mem_singleton
abbrev N7:=@List.range_succ_eq_map
abbrev N8:=@List.map_map
abbrev N9:=@List.map_congr_left
abbrev Oa:=@List.length_range
abbrev Ob:=@List.length_nil
abbrev Oc:=@List.cons.inj
abbrev Od:=@List.cons_append
abbrev Oe:=@List.pairwise_iff_getElem
abbrev Of:=@Array.getElem?_eq_some_iff
abbrev Og:=@List.take_of_length_le
abbrev Oh:=@List.mem_map
abbrev Oi:=@Classical.byContradiction
abbrev Oj:=@List.nodup_range
abbrev Ol:=@List.getElem?_of_mem
abbrev Om:=@List.mem_map_of_mem
abbrev On:=@List.take_append_drop
abbrev Oo:=@List.pairwise_cons
abbrev Oq:=@List.map_append
abbrev Os:=@List.map_take
abbrev Ot:=@List.map_drop
abbrev Ou:=@Array.getD_eq_getD_getElem?
abbrev Ov:=@Option.getD_some
abbrev Ow:=@List.getElem?_drop
abbrev Ox:=@List.mem_of_mem_take
abbrev Oy:=@Array.getElem?_eq_none_iff
abbrev Oz:=@List.nodup_nil
abbrev OA:=@Nat.sub_self
abbrev OB:=@List.pairwise_lt_range
abbrev OC:=@List.perm_ext_iff_of_nodup
abbrev OD:=@Array.getElem?_eq_getElem
abbrev OE:=@List.all_eq_true
abbrev OF:=@Int.toNat_of_nonneg
abbrev OG:=@Bool.not_true
abbrev OH:=@PySem.wpAny_seqItems
abbrev OI:=@PySem.wpAny_forIn_list
abbrev OJ:=@PySem.wpAny_setState_of
abbrev OK:=@Bool.and_self
abbrev OL:=@Array.mem_toList_iff
abbrev OM:=@List.nodup_append
abbrev ON:=@PySem.wpAny_storeSet_of
abbrev OO:=@PySem.putSet_of
abbrev OP:=@PySem.Heap.SameBut.update
abbrev OQ:=@Bool.not_false
abbrev OR:=@Bool.and_false
abbrev OS:=@List.foldl_append
abbrev OT:=@PySem.codeAny_builtin
abbrev OU:=@PySem.Around.under_plainId
abbrev OV:=@PyProof.Rows.F.plain_set_update_loop
abbrev OW:=@PySem.plainId_quiet
abbrev OX:=@PySem.isSubtype_type
abbrev OY:=@PySem.F.called_set
abbrev OZ:=@PySem.Code.quiet_builtin
abbrev O0:=@PySem.codeAny_call_builtin
abbrev O1:=@PySem.wpAny_pyIter_list
abbrev O2:=@PySem.wpAny_runValue
abbrev O3:=@List.not_mem_nil
abbrev O4:=@or_false
abbrev O5:=@PySem.Walks.list
abbrev O6:=@PySem.wpAny_pyIter_tuple
abbrev O7:=@List.take_add_one
abbrev O8:=@List.take_length
abbrev O9:=@PySem.W.KasT.kasWp_bind
abbrev Pb:=@decide_eq_decide
abbrev Pc:=@List.getD_eq_getElem?_getD
abbrev Pd:=@List.ext_getElem?
abbrev Pe:=@List.getElem?_range
abbrev Pf:=@List.getElem?_eq_none
abbrev Pg:=@List.pairwise_map
abbrev Ph:=@PyProof.Rows.listUpdate_at
abbrev Pi:=@PyProof.Rows.get?_update_seq
abbrev Pj:=@PySem.wpAny_newList
abbrev Pk:=@PyProof.Rows.size_push'
abbrev Pl:=@PySem.Heap.size_update
abbrev Pm:=@PySem.Heap.get?_update_ne
abbrev Po:=@bne_self_eq_false
abbrev Pp:=@List.getElem_mem
abbrev Pq:=@List.getElem?_eq_getElem
abbrev Pr:=@PySem.wpAny_setEntries_of
abbrev Pt:=@PySem.wpAny_setField_rec
abbrev Pu:=@PySem.Calls.call_function_entry
abbrev Pv:=@PyProof.Rows.entry_list_sort
abbrev Pw:=@beq_iff_eq
abbrev Px:=@List.getElem_of_mem
abbrev Py:=@of_eq_true
abbrev Pz:=@eq_self
abbrev PB:=@List.drop_eq_getElem_cons
abbrev PD:=@List.drop_length
abbrev PF:=@decide_eq_true_eq
abbrev PH:=@List.eq_nil_of_length_eq_zero
abbrev PJ:=@PyProof.Rows.boot_isinstance
abbrev PL:=@List.all_map
abbrev PM:=@Int.le_antisymm
abbrev PN:=@List.take_append_of_le_length
abbrev PQ:=@List.filter_cons
abbrev PR:=@PySem.F.slot_list_iadd
abbrev PU:=@PySem.F.entry_min_loop
abbrev PV:=@PySem.F.plain_min_loop
abbrev PX:=@PySem.wpAny_tryCatch
abbrev PY:=@List.length_reverse
abbrev PZ:=@PySem.PassesOwn.never
abbrev P0:=@Int.emod_nonneg
abbrev P8:=@Int.emod_lt_of_pos
abbrev P9:=@List.set_cons_succ
abbrev Qa:=@List.set_cons_zero
abbrev Qb:=@List.mem_flatMap
abbrev Qc:=@List.length_filter_le
abbrev Qd:=@List.flatMap_append
abbrev Qe:=@List.flatMap_cons
abbrev Qf:=@Bool.true_and
abbrev Qg:=@List.any_map
abbrev Qh:=@List.any_eq_true
abbrev Qi:=@of_decide_eq_true
abbrev Qj:=@List.filter_eq_self
abbrev Qk:=@Function.comp_def
abbrev Ql:=@Int.min_eq_left
abbrev Qm:=@Int.max_eq_right
abbrev Qn:=@List.cons.injEq
abbrev Qo:=@and_true
namespace L2
open PySem PySem.Spec PyProof.Rows
abbrev rQ:=Sum Int Str
def Fp:rQ->Value->Bool
 | .inl k,v=>Value.isInt k v
 | .inr x,v=>Value.isStrOf x v
def KZ (w:World):rQ->Int
 | .inl k=>hashInt k
 | .inr x=>hashStr w x
theorem cD:∀ {k:rQ}{v:Value},Fp k v=true->(∃ i t,k=Sum.inl i/\v=Value.int i t)\/(∃ x t,k=Sum.inr x/\v=Value.str x t)
 | .inl i,v,h=>by
  obtain ⟨t,e⟩:=LH (k:=i) (v:=v) h
  exact .inl ⟨i,t,rfl,e⟩
 | .inr x,v,h=>by
  obtain ⟨t,e⟩:=Value.isStrOf_shape (x:=x) (v:=v) h
  exact .inr ⟨x,t,rfl,e⟩
theorem HQ (a b:Int):decide ((Sum.inl a:rQ)=Sum.inl b)=(a == b):=by
 by_cases e:a=b
 ·subst e;simp
 ·have h : ¬ (Sum.inl a : rQ) = Sum.inl b := fun q => e (Sum.inl.inj q)
  rw [LI h]
  exact (LJ.mpr e).symm
theorem HM (a b:Str):decide ((Sum.inr a:rQ)=Sum.inr b)=decide (a=b):=by
 by_cases e:a=b
 ·subst e;simp
 ·have h : ¬ (Sum.inr a : rQ) = Sum.inr b := fun q => e (Sum.inr.inj q)
  rw [LI h,LI e]
theorem HP (a:Int) (b:Str):decide ((Sum.inl a:rQ)=Sum.inr b)=false:=LI (fun q=>nomatch q)
theorem HN (a:Str) (b:Int):decide ((Sum.inr a:rQ)=Sum.inl b)=false:=LI (fun q=>nomatch q)
def sA (prog:Program) (w:World):PySem.KeyKind prog w rQ where
 is:=Fp
 hash:=KZ w
 inj:=fun v a b ha hb=>by
  rcases cD ha with ⟨i,t,rfl,rfl⟩ | ⟨x,t,rfl,rfl⟩
  ·rcases cD hb with ⟨j, u, rfl, e⟩ | ⟨y, u, rfl, e⟩
   ·injection e with e1 _;rw [e1]
   ·exact nomatch e
  ·rcases cD hb with ⟨j, u, rfl, e⟩ | ⟨y, u, rfl, e⟩
   ·exact nomatch e
   ·injection e with e1 _;rw [e1]
 byValue:=fun k v h=>by
  rcases cD h with ⟨i,t,rfl,rfl⟩ | ⟨x,t,rfl,rfl⟩ <;> rfl
 pyHash:=fun hv h=>by
  rcases cD hv with ⟨i,t,rfl,rfl⟩ | ⟨x,t,rfl,rfl⟩
  ·exact wpAny_pyHash_int h
  ·exact wpAny_pyHash_str h
 eqBool:=fun hu hv h=>by
  rcases cD hu with ⟨i,t,rfl,rfl⟩ | ⟨x,t,rfl,rfl⟩
  ·rcases cD hv with ⟨j, u, rfl, rfl⟩ | ⟨y, u, rfl, rfl⟩
   ·rw [HQ] at h;exact LK h
   ·rw [HP] at h;exact SeqAt.EqAt.int_str i t y u _ _ _ _ h
  ·rcases cD hv with ⟨j, u, rfl, rfl⟩ | ⟨y, u, rfl, rfl⟩
   ·rw [HN] at h;exact SeqAt.EqAt.str_int x t j u _ _ _ _ h
   ·rw [HM] at h;exact wpAny_eqBool_str h
 «strs»:=fun k x t v h=>by
  rcases cD h with ⟨i,u,rfl,e⟩ | ⟨y,u,rfl,e⟩
  ·exact nomatch e
  ·injection e with e1 _
   subst e1
   cases v <;> rfl
end L2
namespace L2
open PySem PySem.Spec PyProof.Rows
inductive V where
 | non | bl (b:Bool) | int (i:Int) | str (x:Str) | byt (b:Array UInt8) | flt (b:UInt64) | ref (a:Addr) | ty (n:String)
 deriving DecidableEq
def bF:V->Value->Prop
 | .non,u=>u=Value.none
 | .bl b,u=>u=Value.bool b
 | .int i,u=>∃ t,u=Value.int i t
 | .str x,u=>∃ t,u=Value.str x t
 | .byt b,u=>∃ t,u=Value.bytes b t
 | .flt b,u=>∃ t,u=Value.float b t
 | .ref a,u=>u=Value.ref a
 | .ty n,u=>u=Value.type n
abbrev aY:List V->List Value->Prop:=Paired bF
theorem aY.length {xs:List V}{us:List Value} (r:aY xs us):xs.length=us.length:=Paired.length r
theorem aY.get:∀ {xs:List V}{us:List Value}{i:Nat}{x:V},aY xs us->xs[i]?=some x->∃ u,us[i]?=some u/\bF x u
 | _,_,_,_,.nil,e=>by simp at e
 | _,_,0,_,.cons r _,e=>by simp at e;subst e;exact ⟨_,rfl,r⟩
 | _,_,i+1,x,.cons _ t,e=>by
  obtain ⟨u,h1,h2⟩:=aY.get (i:=i) (x:=x) t (by simpa using e)
  exact ⟨u,by simpa using h1,h2⟩
theorem aY.set {x:V}{u:Value} (r:bF x u):∀ {xs:List V}{us:List Value} (i:Nat),aY xs us->aY (xs.set i x) (us.set i u)
 | _,_,_,.nil=>.nil
 | _,_,0,.cons _ t=>.cons r t
 | _,_,i+1,.cons q t=>.cons q (aY.set r i t)
theorem aY.append:∀ {xs ys:List V}{us ws:List Value},aY xs us->aY ys ws->aY (xs++ys) (us++ws)
 | _,_,_,_,.nil,s=>s
 | _,_,_,_,.cons r t,s=>.cons r (aY.append t s)
theorem aY.take:∀ {xs:List V}{us:List Value} (n:Nat),aY xs us->aY (xs.take n) (us.take n)
 | _,_,0,_=>.nil
 | _,_,_+1,.nil=>.nil
 | _,_,n+1,.cons r t=>.cons r (aY.take n t)
theorem aY.drop:∀ {xs:List V}{us:List Value} (n:Nat),aY xs us->aY (xs.drop n) (us.drop n)
 | _,_,0,r=>r
 | _,_,_+1,.nil=>.nil
 | _,_,n+1,.cons _ t=>aY.drop n t
def Je:Option V->Option Value->Prop
 | some v,some u=>bF v u
 | none,none=>True
 | _,_=>False
def KV {κ:Type}:List (κ × V)->List (κ × Value)->Prop:=Paired fun (p:κ × V) (q:κ × Value)=>p.1=q.1/\bF p.2 q.2
def kV:rQ->V
 | .inl i=>.int i
 | .inr x=>.str x
inductive HO where
 | lst (xs:List V)
 | tup (xs:List V)
 | dK (kvs:List (rQ × V)) | dT (kvs:List (List rQ × V))
 | set (S:Int->Bool) (n:Nat)
 | ins (C dx:Addr) (fs:List (Str × V))
 | own (x:Addr)
 | xd (fs:List (Str × V))
 | met (f x:Addr)
 | rng (lo hi:Int)
 | frz (o:Obj) (u:HO)
 | tbl (ps:Array Value)
 | ext (φ:Heap->Prop)
abbrev Hp:=Addr->Option HO
def cn (H:Hp) (a:Addr) (o:HO):Hp:=fun b=>if b=a then some o else H b
theorem bU {H:Hp}{a:Addr}{o:HO}:cn H a o a=some o:=by unfold cn;rw [LL rfl]
theorem br {H:Hp}{a b:Addr}{o:HO} (h:b≠a):cn H a o b=H b:=by unfold cn;rw [LM h]
theorem Al {H:Hp}{a b:Addr}{o u:HO} (h:H a=some o) (h':H b=some u) (d:o≠u):a≠b:=by
 intro e;subst e;rw [h] at h';exact d (LN h')
theorem bJ {H:Hp}{a b:Addr}{o:HO} (h:H a=some o) (h':H b=none):a≠b:=by
 intro e;subst e;rw [h] at h';cases h'
section
variable (P:Program) (w:World)
def dA (H:Hp) (h:Heap) (a:Addr):HO->Prop
 | .lst xs=>xs.length<=sizeLine/\∃ (its:List Value) (n:Nat),aY xs its/\h.get? a=some { cls:=.type "list",data:=.seq its.toArray n }
 | .tup xs=>xs.length<=sizeLine/\∃ its:List Value,aY xs its/\IsTup h a its.toArray
 | .dK kvs=>kvs.length<=sizeLine/\(a == sysModules)=false/\∃ vs,KV kvs vs/\h.DictOf (sA P w) a vs
 | .dT kvs=>kvs.length<=sizeLine/\(a == sysModules)=false/\∃ xs:List (List rQ × Addr × Value),
   Paired (fun (p:List rQ × V) (q:List rQ × Addr × Value)=>p.1=q.1/\H q.2.1=some (.tup (p.1.map kV))/\bF p.2 q.2.2) kvs xs /\
   ∃ o es ep,h.get? a=some o/\o.ExactDict/\o.data=.dict es ep/\es.toList=xs.map (entryOfKey (tupleKind (sA P w)))/\(xs.map (·.1)).Nodup
 | .set S n=>h.SetOf (intKind P w) a S n
 | .ins C dx fs=>H dx=some (.own a)/\fs.length<=1000/\dx≠a/\h.get? a=some (W.instObj C dx) /\
   ∃ mA,h.Ns1 dx mA/\(∀ f,Je (fs.lookup f) (mA f))/\PySem.Within mA (fs.map (·.1))
 | .own _=>∃ o,h.get? a=some o
 | .xd fs=>∃ mA,h.Ns1 a mA/\∀ f,Je (fs.lookup f) (mA f)
 | .rng lo hi=>∃ t u v,h.get? a=some { cls:=.type "range",data:=.fields #[.int lo t,.int hi u,.int 1 v] }
 | .frz o u=>h.get? a=some o/\dA H h a u
 | .tbl ps=>h.get? a=some { cls:=.none,data:=.fields ps }
 | .met f x=>h.get? a=some (W.methodObj (.ref f) (.ref x))
 | .ext φ=>φ h/\(∃ o,h.get? a=some o)/\∀ h1 h2:Heap,φ h1->(∀ o,h1.get? a=some o->h2.get? a=some o)->φ h2
def mi (H:Hp) (h:Heap):Prop:=∀ a o,H a=some o->dA P w H h a o
end
section
variable {P:Program}{w:World}{H H':Hp}{h h':Heap}{a:Addr}{o:HO}
theorem dA.lt (x:dA P w H h a o):a<h.objs.size:=by
 cases o with
 | lst xs=>obtain ⟨_,_,_,_,e⟩:=x;exact LO e
 | tup xs=>obtain ⟨_,_,_,p⟩:=x;exact p.lt
 | dK kvs=>obtain ⟨_,_,_,_,o,_,_,e,_⟩:=x;exact LO e
 | dT kvs=>obtain ⟨_,_,_,_,o,_,_,e,_⟩:=x;exact LO e
 | set S n=>obtain ⟨o,_,_,_,e,_⟩:=x;exact LO e
 | ins C dx fs=>obtain ⟨_,_,_,e,_⟩:=x;exact LO e
 | own y=>obtain ⟨_,e⟩:=x;exact LO e
 | xd fs=>obtain ⟨_,⟨_,_,_,e,_⟩,_⟩:=x;exact LO e
 | rng lo hi=>obtain ⟨_,_,_,e⟩:=x;exact LO e
 | frz ob u=>obtain ⟨e,_⟩:=x;exact LO e
 | tbl ps=>exact LO (show h.get? a=some _ from x)
 | met f y=>exact LO (show h.get? a=some _ from x)
 | ext φ=>obtain ⟨_,⟨_,e⟩,_⟩:=x;exact LO e
theorem nG {α β:Type}{F G:α->β->Prop}:∀ {l₁:List α}{l₂:List β},Paired F l₁ l₂->(∀ a b,F a b->G a b)->Paired G l₁ l₂
 | _,_,.nil,_=>.nil
 | _,_,.cons r t,f=>.cons (f _ _ r) (nG t f)
theorem dA.stay (x:dA P w H h a o) (k:∀ b u,(b=a\/H b=some (.own a))->h.get? b=some u->h'.get? b=some u)
  (ho:∀ b,H b=some (.own a)->H' b=some (.own a)) (ht:∀ b xs,H b=some (.tup xs)->H' b=some (.tup xs)):dA P w H' h' a o:=by
 induction o with
 | lst xs=>obtain ⟨z,its,n,r,e⟩:=x;exact ⟨z,its,n,r,k _ _ (.inl rfl) e⟩
 | tup xs=>obtain ⟨z,its,r,ob,e,c⟩:=x;exact ⟨z,its,r,ob,k _ _ (.inl rfl) e,c⟩
 | dK kvs=>obtain ⟨z,y,vs,r,ob,es,ep,e,c⟩:=x;exact ⟨z,y,vs,r,ob,es,ep,k _ _ (.inl rfl) e,c⟩
 | dT kvs=>
  obtain ⟨z,y,xs,r,ob,es,ep,e,c⟩:=x
  exact ⟨z,y,xs,nG r fun p q z=>⟨z.1,ht _ _ z.2.1,z.2.2⟩,ob,es,ep,k _ _ (.inl rfl) e,c⟩
 | set S n=>obtain ⟨ob,es,ep,t,e,c⟩:=x;exact ⟨ob,es,ep,t,k _ _ (.inl rfl) e,c⟩
 | ins C dx fs=>
  obtain ⟨d,z,ne,e,mA,⟨od,es,ep,e2,c⟩,r⟩:=x
  exact ⟨ho _ d,z,ne,k _ _ (.inl rfl) e,mA,⟨od,es,ep,k _ _ (.inr d) e2,c⟩,r⟩
 | own y=>obtain ⟨ob,e⟩:=x;exact ⟨ob,k _ _ (.inl rfl) e⟩
 | xd fs=>obtain ⟨mA,⟨od,es,ep,e,c⟩,r⟩:=x;exact ⟨mA,⟨od,es,ep,k _ _ (.inl rfl) e,c⟩,r⟩
 | rng lo hi=>obtain ⟨t,u,v,e⟩:=x;exact ⟨t,u,v,k _ _ (.inl rfl) e⟩
 | frz ob u ih=>obtain ⟨e,q⟩:=x;exact ⟨k _ _ (.inl rfl) e,ih q⟩
 | tbl ps=>
  have e:h.get? a=some { cls:=.none,data:=.fields ps }:=x
  show h'.get? a=some { cls:=.none,data:=.fields ps }
  exact k a _ (.inl rfl) e
 | met f y=>
  have e:h.get? a=some (W.methodObj (.ref f) (.ref y)):=x
  show h'.get? a=some (W.methodObj (.ref f) (.ref y))
  exact k a _ (.inl rfl) e
 | ext φ=>obtain ⟨p,⟨o,e⟩,st⟩:=x;exact ⟨st _ _ p fun o q=>k _ _ (.inl rfl) q,⟨o,k _ _ (.inl rfl) e⟩,st⟩
theorem mi.lt (x:mi P w H h) (e:H a=some o):a<h.objs.size:=(x a o e).lt
theorem mi.fresh (x:mi P w H h) (e:h.objs.size<=a):H a=none:=by
 cases q:H a with
 | none=>rfl
 | some u=>exact absurd (LP (x.lt q) e) (LQ _)
theorem mi.kept (x:mi P w H h) (k:∀ b u,h.get? b=some u->h'.get? b=some u):mi P w H h':=fun a o e=>
 (x a o e).stay (fun b u _ q=>k b u q) (fun _ q=>q) fun _ _ q=>q
theorem mi.laid (x:mi P w H h) (k:∀ b u,h.get? b=some u->h'.get? b=some u) (hp:h.objs.size<=a) (new:dA P w (cn H a o) h' a o):mi P w (cn H a o) h':=fun b u e=>by
 have hn:=x.fresh hp
 by_cases hb:b=a
 ·subst hb;rw [bU] at e;cases e;exact new
 ·rw [br hb] at e
  exact (x b u e).stay (fun c v _ q=>k c v q) (fun c q=>by rw [br (bJ q hn)];exact q) fun c xs q=>by rw [br (bJ q hn)];exact q
end
def Rd (H:Hp) (a:Addr) (u:HO):Prop:=H a=some u\/∃ o,H a=some (.frz o u)
theorem Rd.ok {P:Program}{w:World}{H:Hp}{h:Heap}{a:Addr}{u:HO} (r:Rd H a u) (x:mi P w H h):dA P w H h a u:=by
 rcases r with r | ⟨o,r⟩
 ·exact x a u r
 ·obtain ⟨_, q⟩ := x a _ r
  exact q
def Kl:Option HO->Prop
 | some (.lst _)=>True
 | some (.dK _)=>True
 | some (.dT _)=>True
 | some (.set _ _)=>True
 | some (.ins _ _ _)=>True
 | some (.ext _)=>True
 | _=>False
section
variable {P:Program}{w:World}{H:Hp}{h h':Heap}{x e:Addr}{o':HO}
theorem mi.write (ok:mi P w H h) (mu:Kl (H x)) (he:e=x\/H e=some (.own x)) (k:∀ b u,b≠e->h.get? b=some u->h'.get? b=some u) (heo:∃ u,h'.get? e=some u)
  (new:dA P w (cn H x o') h' x o'):mi P w (cn H x o') h':=fun b u q=>by
 have nown:∀ c y,H c=some (.own y)->c≠x:=fun c y r z=>by subst z;rw [r] at mu;exact mu
 have ntup:∀ c xs,H c=some (.tup xs)->c≠x:=fun c xs r z=>by subst z;rw [r] at mu;exact mu
 by_cases hb:b=x
 ·subst hb;rw [bU] at q;cases q;exact new
 ·rw [br hb] at q
  by_cases hbe:b=e
  ·have q':H b=some (.own x):=by
    rcases he with z | z
    ·exact absurd (hbe.trans z) hb
    ·rw [hbe];exact z
   rw [q] at q';cases q'
   obtain ⟨v,hv⟩:=heo
   exact ⟨v,by rw [hbe];exact hv⟩
  ·refine (ok b u q).stay (fun c v hc r => k c v ?_ r) (fun c r => by rw [br (nown c b r)]; exact r) fun c xs r => by rw [br (ntup c xs r)]; exact r
   rcases hc with rfl | hc
   ·exact hbe
   ·rintro rfl
    rcases he with z | z
    ·exact nown c b hc z
    ·rw [hc] at z;cases z;exact hb rfl
end
structure Un (fs ex:List Addr) (H H':Hp) (h h':Heap):Prop where
 keep:∀ b o,h.get? b=some o->H b=none->b ∉ fs->b ∉ ex->h'.get? b=some o
 slot:∀ b o,h.get? b=some o->H b=none->b∈fs->b ∉ ex->∃ sl,h'.get? b=some { o with slots:=sl }
 free:∀ b o,h.get? b=some o->H b=none->b ∉ ex->H' b=none
 there:∀ b o,h.get? b=some o->b ∉ ex->∃ o',h'.get? b=some o'
 tups:∀ b xs,H b=some (.tup xs)->H' b=some (.tup xs)
 frzs:∀ b o u,H b=some (.frz o u)->H' b=some (.frz o u)
 tbls:∀ b ps,H b=some (.tbl ps)->∃ more,H' b=some (.tbl (ps++more))
section
variable {fs fs' ex ex':List Addr}{H H1 H2:Hp}{h h1 h2 h':Heap}{a x e:Addr}{o:HO}
theorem Un.any (u:Un fs ex H H1 h h1) {b:Addr}{ob:Obj} (q:h.get? b=some ob) (n:H b=none) (hx:b ∉ ex):∃ sl,h1.get? b=some { ob with slots:=sl }:=by
 by_cases hb:b∈fs
 ·exact u.slot b ob q n hb hx
 ·exact ⟨ob.slots,u.keep b ob q n hb hx⟩
theorem Un.kept (k:∀ b u,h.get? b=some u->h'.get? b=some u):Un fs ex H H h h':=
 ⟨fun b ob q _ _ _=>k b ob q,fun b ob q _ _ _=>⟨ob.slots,k b ob q⟩,fun _ _ _ n _=>n,fun b ob q _=>⟨ob,k b ob q⟩,fun _ _ q=>q,fun _ _ _ q=>q,fun _ ps q=>⟨#[],by rw [q];simp⟩⟩
theorem Un.refl:Un fs ex H H h h:=Un.kept fun _ _ q=>q
theorem Un.laid (k:∀ b u,h.get? b=some u->h'.get? b=some u) (hp:h.objs.size<=a) (hn:H a=none):Un fs ex H (cn H a o) h h' where
 keep:=fun b u q _ _ _=>k b u q
 slot:=fun b u q _ _ _=>⟨u.slots,k b u q⟩
 free:=fun b u q n _=>by rw [br (LR (LP (LO q) hp))];exact n
 there:=fun b u q _=>⟨u,k b u q⟩
 tups:=fun b xs q=>by rw [br (bJ q hn)];exact q
 frzs:=fun b u xs q=>by rw [br (bJ q hn)];exact q
 tbls:=fun b ps q=>⟨#[],by rw [br (bJ q hn),q];simp⟩
theorem Un.write (mu:Kl (H x)) (he:e=x\/H e=some (.own x)) (k:∀ b u,b≠e->h.get? b=some u->h'.get? b=some u) (heo:∃ u,h'.get? e=some u):Un fs ex H (cn H x o) h h':=by
 have hx:∀ b,H b=none->b≠x:=fun b n z=>by subst z;rw [n] at mu;exact mu
 have hb:∀ b,H b=none->b≠e:=fun b n z=>by
  subst z
  rcases he with r | r
  ·exact hx b n r
  ·rw [n] at r;cases r
 have hm:∀ b u,H b=some u->¬ Kl (some u)->b≠x:=fun b u q nm z=>by subst z;rw [q] at mu;exact nm mu
 refine ⟨fun b u q n _ _=>k b u (hb b n) q,fun b u q n _ _=>⟨u.slots,k b u (hb b n) q⟩,fun b u q n _=>by rw [br (hx b n)];exact n,fun b u q _=>?_,
  fun b xs q=>by rw [br (hm b _ q fun z=>z)];exact q,fun b u xs q=>by rw [br (hm b _ q fun z=>z)];exact q,fun b ps q=>⟨#[],by rw [br (hm b _ q fun z=>z),q];simp⟩⟩
 by_cases hbe:b=e
 ·subst hbe;exact heo
 ·exact ⟨u,k b u hbe q⟩
end
def Kb (h:Heap) (H:Hp):List Addr:=(List.range h.objs.size).filter fun a=>(H a).isSome
def rS (h:Heap) (H:Hp):Heap:=W.hideAll h (Kb h H)
theorem ze (h:Heap) (H:Hp):(rS h H).objs.size=h.objs.size:=W.hideAll_size _ _
theorem B6 {h:Heap}{H:Hp}{b:Addr}{o:Obj} (e:h.get? b=some o) (n:H b=none):(rS h H).get? b=some o:=
 W.hideAll_get _ e fun hm=>by
  have q:(H b).isSome=true:=(LS.mp hm).2
  rw [n] at q;simp at q
theorem Ef {h:Heap}{H:Hp}{b:Addr}{o:Obj} (e:(rS h H).get? b=some o):h.get? b=some o/\H b=none:=by
 have e':h.get? b=some o:=W.of_hideAll (Kb h H) e
 refine ⟨e',?_⟩
 cases q:H b with
 | none=>rfl
 | some x=>
  have hm:b∈Kb h H:=LS.mpr ⟨LU.mpr (LO e'),by simp [q]⟩
  have z:(rS h H).get? b=none:=W.hideAll_none (Kb h H) hm
  rw [z] at e;cases e
end L2
namespace L2
open PySem PySem.Spec PyProof.Rows
structure Mod (K:W.Frag) (mg:Str->Option Value) (base:Heap):Prop where
 kin:K.In base
 glob:base.Ns mainGlobals mg
 blt:∃ mb,base.Ns builtinsNs mb/\∀ x:Str,x ≠ "__name__" -> mb x=bootBuiltins x
 nolimit:base.NoLimit
structure Cx where
 prog:Program
 w:World
 K:W.Frag
 mg:Str->Option Value
 base:Heap
 A:Around
 N:List Str
 s₀:Shared
 H₀:Hp
 env:Env
 outer:List Env
 stack:List Env
 ex:List Addr
 fn:Str->Bool
 calm:Bool
 pn:List (Addr × Obj)
 xe:Value->Shared->Prop
def nh (l:List Env):List Addr:=l.filterMap (·.frame)
abbrev Cx.fs (X:Cx):List Addr:=nh X.outer
def Kh (sc:Scope) (x:Str):Prop:=sc.names.lookup x=some .local\/sc.names.lookup x=some .cell\/sc.names.lookup x=some .free
def ya (sc:Scope) (x:Str):Prop:=sc.names.lookup x=some .local\/sc.names.lookup x=some .cell
def Lc (env:Env) (h:Heap) (m:Str->Option Value) (x:Str) (u:Value):Prop:=
 (env.kindOf x=some .local/\m x=some u)\/((env.kindOf x=some .cell\/env.kindOf x=some .free)/\∃ c,env.cells.lookup x=some c/\h.IsCell c (some u))
structure Cx.Ok (X:Cx):Prop where
 mod:Mod X.K X.mg X.base
 kind:X.env.scope.kind=.function
 glob:X.env.globals=mainGlobals
 blt:X.env.builtins=builtinsNs
 above:X.s₀.heap.objs.size<=X.env.locals
 inj:∀ x y c,X.env.cells.lookup x=some c->X.env.cells.lookup y=some c->x=y
 has:∀ x,(X.env.kindOf x=some .cell\/X.env.kindOf x=some .free)->∃ c,X.env.cells.lookup x=some c
 cab:∀ x c,X.fn x=true->X.env.cells.lookup x=some c->X.s₀.heap.objs.size<=c
 hd:X.calm=true->X.A.handled=none
 frames:X.A.frames=some X.stack
 stk:X.stack=X.outer\/(X.stack=X.env::X.outer/\X.env.frame=some X.env.locals)
 exf:∀ b∈X.ex,b≠X.env.locals/\∀ x c,X.env.cells.lookup x=some c->c≠b
 bs:∀ b o,X.base.get? b=some o->X.s₀.heap.get? b=some o/\X.H₀ b=none
 bsz:X.base.objs.size<=X.s₀.heap.objs.size
 noex:∀ b o,X.base.get? b=some o->b ∉ X.ex
 exfs:∀ b∈X.ex,b ∉ X.fs
 funs:X.s₀.heap.FunFrames X.base X.outer
 frf:∀ b∈X.fs,X.H₀ b=none
structure aS (X:Cx) (pins:List (Addr × Obj)) (σ:List (Option V)) (H:Hp) (s:Shared):Prop where
 ok:X.Ok
 os:s.os=X.s₀.os
 bare:AllBare s.gens
 base:Un X.fs X.ex X.H₀ H X.s₀.heap s.heap
 loc:∃ m,s.heap.Ns X.env.locals m/\∀ (i:Nat) (x:Str) (v:V),X.N[i]?=some x->σ[i]?=some (some v)->Kh X.env.scope x->∃ u,bF v u/\Lc X.env s.heap m x u
 cell:∀ x c,X.env.cells.lookup x=some c->∃ v,s.heap.IsCell c v
 free:H X.env.locals=none
 freeC:∀ x c,X.env.cells.lookup x=some c->H c=none
 pin:∀ p∈X.pn++pins,s.heap.get? p.1=some p.2/\H p.1=none/\p.1≠X.env.locals/\p.1 ∉ X.fs/\∀ v,p.2.data≠.cell v
 hok:mi X.prog X.w H s.heap
 len:σ.length=X.N.length
section
variable {X:Cx}{pins:List (Addr × Obj)}{σ:List (Option V)}{H H':Hp}{s:Shared}{h':Heap}
theorem Cx.Ok.nofr (ok:X.Ok) {b:Addr}{o:Obj} (e:X.base.get? b=some o):b ∉ X.fs:=fun hb=>by
 have:=(ok.funs.mem hb).1
 rw [e] at this;cases this
theorem aS.bs (I:aS X pins σ H s):∀ b o,X.base.get? b=some o->s.heap.get? b=some o/\H b=none:=fun b o e=>
 ⟨I.base.keep b o (I.ok.bs b o e).1 (I.ok.bs b o e).2 (I.ok.nofr e) (I.ok.noex b o e),I.base.free b o (I.ok.bs b o e).1 (I.ok.bs b o e).2 (I.ok.noex b o e)⟩
theorem aS.bk (I:aS X pins σ H s):∀ b o,X.base.get? b=some o->s.heap.get? b=some o:=fun b o e=>(I.bs b o e).1
theorem aS.mod (I:aS X pins σ H s):Mod X.K X.mg X.base:=I.ok.mod
theorem aS.kIn (I:aS X pins σ H s):X.K.In s.heap:=I.ok.mod.kin.keeps I.bk
theorem aS.lt (I:aS X pins σ H s):X.env.locals<s.heap.objs.size:=let ⟨_,hn,_⟩:=I.loc;hn.lt
theorem aS.sz (I:aS X pins σ H s):X.s₀.heap.objs.size<=s.heap.objs.size:=LV I.ok.above (LW I.lt)
theorem aS.nofs (I:aS X pins σ H s) {a:Addr} (h:s.heap.objs.size<=a):a ∉ X.fs:=fun hb=>by
 obtain ⟨_,o,ho,_⟩:=I.ok.funs.mem hb
 exact absurd (LP (LO ho) (LV I.sz h)) (LQ _)
theorem aS.cne (I:aS X pins σ H s):∀ x c,X.env.cells.lookup x=some c->c≠X.env.locals:=fun x c e z=>by
 obtain ⟨v,o,ho,hd⟩:=I.cell x c e
 obtain ⟨m,⟨o',es,ep,ho',hd',_⟩,_⟩:=I.loc
 rw [z,ho'] at ho;cases ho;rw [hd'] at hd;cases hd
theorem aS.funs (I:aS X pins σ H s):s.heap.FunFrames X.base X.outer:=by
 have all:∀ (l:List Env),(∀ b∈nh l,b∈X.fs)->X.s₀.heap.FunFrames X.base l->s.heap.FunFrames X.base l:=by
  intro l
  induction l with
  | nil=>intro _ _;trivial
  | cons env r ih=>
   intro hs hl
   obtain ⟨hk,⟨L,o,hf,hn,ho,hd⟩,hr⟩:=hl
   have hL:L∈X.fs:=hs L (by unfold nh;rw [LX,hf];exact LY)
   obtain ⟨sl,e⟩:=I.base.slot L o ho (I.ok.frf L hL) hL fun z=>I.ok.exfs L z hL
   exact ⟨hk,⟨L,_,hf,hn,e,hd⟩,ih (fun b hb=>hs b (by unfold nh;rw [LX,hf];exact LZ _ hb)) hr⟩
 exact all X.outer (fun _ hb=>hb) I.ok.funs
theorem aS.stack (I:aS X pins σ H s):s.heap.FunFrames X.base X.stack:=by
 rcases I.ok.stk with e | ⟨e,hf⟩
 ·rw [e];exact I.funs
 ·rw [e]
  obtain ⟨m,hn,_⟩:=I.loc
  refine .cons (by rw [I.ok.kind];decide) hf hn ?_ I.funs
  exact Heap.get?_none_of_le (LV I.ok.bsz I.ok.above)
theorem aS.stkSub (I:aS X pins σ H s):∀ b∈nh X.stack,b∈X.env.locals::X.fs:=fun b hb=>by
 rcases I.ok.stk with e | ⟨e,hf⟩
 ·rw [e] at hb;exact LZ _ hb
 ·rw [e] at hb
  unfold nh at hb
  rw [LX,hf] at hb
  exact hb
theorem aS.stkFree (I:aS X pins σ H s):∀ b∈nh X.stack,H b=none:=fun b hb=>by
 rcases L4.mp (I.stkSub b hb) with e | hb
 ·rw [e];exact I.free
 ·obtain ⟨_, o, ho, _⟩ := I.ok.funs.mem hb
  exact I.base.free b o ho (I.ok.frf b hb) fun z=>I.ok.exfs b z hb
theorem aS.step {g':Array GenState}{t':Nat}{d':Drawn}{ch:List Addr} (I:aS X pins σ H s)
  (hch:∀ b∈ch,(b∈X.ex\/X.s₀.heap.objs.size<=b)/\b≠X.env.locals/\(∀ x c,X.env.cells.lookup x=some c->c≠b)/\∀ p∈X.pn++pins,p.1≠b)
  (keep:∀ b o,b≠X.env.locals->b ∉ X.fs->b ∉ ch->s.heap.get? b=some o->H b=none->h'.get? b=some o)
  (slot:∀ b o,b≠X.env.locals->b∈X.fs->b ∉ ch->s.heap.get? b=some o->H b=none->∃ sl,h'.get? b=some { o with slots:=sl }) (free:∀ b o,b ∉ ch->s.heap.get? b=some o->H b=none->H' b=none)
  (there:∀ b o,b ∉ ch->s.heap.get? b=some o->∃ o',h'.get? b=some o')
  (tups:∀ b xs,H b=some (.tup xs)->H' b=some (.tup xs)) (frzs:∀ b o u,H b=some (.frz o u)->H' b=some (.frz o u)) (tbls:∀ b ps,H b=some (.tbl ps)->∃ more,H' b=some (.tbl (ps++more)))
  (ns:∀ m,s.heap.Ns X.env.locals m->h'.Ns X.env.locals m) (hok:mi X.prog X.w H' h') (hg:AllBare g') :
  aS X pins σ H' { s with heap:=h',gens:=g',drawn:=d',toks:=t' }:=by
 have neL:∀ b o,X.s₀.heap.get? b=some o->b≠X.env.locals:=fun b o e=>LR (LP (LO e) I.ok.above)
 have neC:∀ b o,X.s₀.heap.get? b=some o->b ∉ X.ex->b ∉ ch:=fun b o e hx hb=>by
  rcases (hch b hb).1 with z | z
  ·exact hx z
  ·exact absurd (LP (LO e) z) (LQ _)
 have cellK:∀ x c,X.env.cells.lookup x=some c->∀ v,s.heap.IsCell c v->h'.IsCell c v:=fun x c e v ⟨o,ho,hd⟩=>by
  have nch:c ∉ ch:=fun z=>(hch c z).2.2.1 x c e rfl
  by_cases hc:c∈X.fs
  ·obtain ⟨sl, q⟩ := slot c o (I.cne x c e) hc nch ho (I.freeC x c e)
   exact ⟨_,q,hd⟩
  ·exact ⟨o,keep c o (I.cne x c e) hc nch ho (I.freeC x c e),hd⟩
 refine ⟨I.ok,I.os,hg,⟨fun b o e n hb hx=>?_,fun b o e n hb hx=>?_,fun b o e n hx=>?_,fun b o e hx=>?_,fun b xs e=>tups b xs (I.base.tups b xs e),fun b o xs e=>frzs b o xs (I.base.frzs b o xs e),fun b ps e=>?_⟩,?_,fun x c e=>?_,?_,fun x c e=>?_,fun p hp=>?_,hok,I.len⟩
 ·exact keep b o (neL b o e) hb (neC b o e hx) (I.base.keep b o e n hb hx) (I.base.free b o e n hx)
 ·obtain ⟨sl, e1⟩ := I.base.slot b o e n hb hx
  obtain ⟨sl',e2⟩:=slot b _ (neL b o e) hb (neC b o e hx) e1 (I.base.free b o e n hx)
  exact ⟨sl',e2⟩
 ·obtain ⟨o', e1⟩ := I.base.there b o e hx
  exact free b o' (neC b o e hx) e1 (I.base.free b o e n hx)
 ·obtain ⟨o', e1⟩ := I.base.there b o e hx
  exact there b o' (neC b o e hx) e1
 ·obtain ⟨m1, e1⟩ := I.base.tbls b ps e
  obtain ⟨m2,e2⟩:=tbls b _ e1
  exact ⟨m1++m2,by rw [e2,Array.append_assoc]⟩
 ·obtain ⟨m, hn, hl⟩ := I.loc
  refine ⟨m,ns m hn,fun i x v e1 e2 e3=>?_⟩
  obtain ⟨u,r,l⟩:=hl i x v e1 e2 e3
  refine ⟨u,r,?_⟩
  rcases l with l | ⟨k,c,e,z⟩
  ·exact .inl l
  ·exact .inr ⟨k,c,e,cellK x c e _ z⟩
 ·obtain ⟨v, z⟩ := I.cell x c e
  exact ⟨v,cellK x c e v z⟩
 ·obtain ⟨m, ⟨o, _, _, ho, _⟩, _⟩ := I.loc
  exact free _ o (fun z=>(hch _ z).2.1 rfl) ho I.free
 ·obtain ⟨v, o, ho, hd⟩ := I.cell x c e
  exact free c o (fun z=>(hch c z).2.2.1 x c e rfl) ho (I.freeC x c e)
 ·obtain ⟨e, n, ne, nf, d⟩ := I.pin p hp
  have nch:p.1 ∉ ch:=fun z=>(hch p.1 z).2.2.2 p hp rfl
  exact ⟨keep p.1 p.2 ne nf nch e n,free p.1 p.2 nch e n,ne,nf,d⟩
theorem aS.un {t':Nat} (I:aS X pins σ H s) (u:Un X.fs [] H H' s.heap h') (hok:mi X.prog X.w H' h'):aS X pins σ H' { s with heap:=h',toks:=t' }:=by
 obtain ⟨m,⟨o,es,ep,ho,r⟩,_⟩:=id I.loc
 obtain ⟨sl,hL⟩:=u.any ho I.free (by simp)
 exact I.step (g':=s.gens) (d':=s.drawn) (ch:=[]) (fun _ z=>nomatch z) (fun b o _ hb _ e n=>u.keep b o e n hb (by simp)) (fun b o _ hb _ e n=>u.slot b o e n hb (by simp)) (fun b o _ e n=>u.free b o e n (by simp)) (fun b o _ e=>u.there b o e (by simp)) u.tups u.frzs u.tbls (fun m' hm=>by
  obtain ⟨o',es',ep',ho',r'⟩:=hm
  rw [ho] at ho';cases ho'
  exact ⟨_,es',ep',hL,r'⟩) hok I.bare
theorem aS.call {g':Array GenState}{t':Nat}{d':Drawn}{ch:List Addr} (I:aS X pins σ H s) (u:Un (nh X.stack) ch H H' s.heap h') (hok:mi X.prog X.w H' h') (hg:AllBare g')
  (hch:∀ b∈ch,(b∈X.ex\/X.s₀.heap.objs.size<=b)/\b≠X.env.locals/\(∀ x c,X.env.cells.lookup x=some c->c≠b)/\∀ p∈X.pn++pins,p.1≠b) :
  aS X pins σ H' { s with heap:=h',gens:=g',drawn:=d',toks:=t' }:=by
 obtain ⟨m,⟨o,es,ep,ho,r⟩,_⟩:=id I.loc
 obtain ⟨sl,hL⟩:=u.any ho I.free fun z=>(hch _ z).2.1 rfl
 exact I.step (ch:=ch) hch (fun b o hL hb hc e n=>u.keep b o e n (fun z=>(L4.mp (I.stkSub b z)).elim hL hb) hc) (fun b o _ _ hc e n=>u.any e n hc) (fun b o hc e n=>u.free b o e n hc) (fun b o hc e=>u.there b o e hc) u.tups u.frzs u.tbls (fun m' hm=>by
  obtain ⟨o',es',ep',ho',r'⟩:=hm
  rw [ho] at ho';cases ho'
  exact ⟨_,es',ep',hL,r'⟩) hok hg
theorem aS.turned {t':Nat}{it:Addr} (I:aS X pins σ H s) (k:∀ b o,b≠it->s.heap.get? b=some o->h'.get? b=some o) (hn:H it=none) (hL:it≠X.env.locals)
  (h1:it∈X.ex\/X.s₀.heap.objs.size<=it) (h2:∀ x c,X.env.cells.lookup x=some c->c≠it) (h3:∀ p∈X.pn++pins,p.1≠it):aS X pins σ H { s with heap:=h',toks:=t' }:=by
 have nit:∀ b u,H b=some u->b≠it:=fun b u e z=>by rw [z,hn] at e;cases e
 refine I.step (g':=s.gens) (d':=s.drawn) (ch:=[it]) (fun b hb=>?_) (fun b o _ _ hc e _=>k b o (fun z=>hc (by simp [z])) e) (fun b o _ _ hc e _=>⟨o.slots,k b o (fun z=>hc (by simp [z])) e⟩) (fun _ _ _ _ n=>n)
  (fun b o hc e=>⟨o,k b o (fun z=>hc (by simp [z])) e⟩) (fun _ _ e=>e) (fun _ _ _ e=>e) (fun b ps e=>⟨#[],by rw [e];simp⟩) (fun m hm=>?_) (fun b u e=>?_) I.bare
 ·have e : b = it := by simpa using hb
  subst e
  exact ⟨h1,hL,h2,h3⟩
 ·obtain ⟨o, es, ep, ho, r⟩ := hm
  exact ⟨o,es,ep,k _ o (L5 hL) ho,r⟩
 ·refine (I.hok b u e).stay (fun c v hc q => k c v ?_ q) (fun _ q => q) fun _ _ q => q
  rcases hc with z | z
  ·rw [z];exact nit b u e
  ·exact nit c _ z
theorem aS.tok (I:aS X pins σ H s) (t:Nat):aS X pins σ H { s with toks:=t }:=I.un (h':=s.heap) (t':=t) Un.refl I.hok
theorem aS.kept {t':Nat} (I:aS X pins σ H s) (k:∀ b u,s.heap.get? b=some u->h'.get? b=some u):aS X pins σ H { s with heap:=h',toks:=t' }:=I.un (Un.kept k) (I.hok.kept k)
theorem aS.laid {a:Addr}{o:HO}{t':Nat} (I:aS X pins σ H s) (k:∀ b u,s.heap.get? b=some u->h'.get? b=some u) (hp:s.heap.objs.size<=a) (new:dA X.prog X.w (cn H a o) h' a o) :
  aS X pins σ (cn H a o) { s with heap:=h',toks:=t' }:=I.un (Un.laid k hp (I.hok.fresh hp)) (I.hok.laid k hp new)
theorem aS.write {x e:Addr}{o:HO}{t':Nat} (I:aS X pins σ H s) (mu:Kl (H x)) (he:e=x\/H e=some (.own x)) (k:∀ b u,b≠e->s.heap.get? b=some u->h'.get? b=some u) (heo:∃ u,h'.get? e=some u)
  (new:dA X.prog X.w (cn H x o) h' x o):aS X pins σ (cn H x o) { s with heap:=h',toks:=t' }:=I.un (Un.write mu he k heo) (I.hok.write mu he k heo new)
theorem aS.pins_of {pins':List (Addr × Obj)} (I:aS X pins σ H s) (h:∀ p∈pins',s.heap.get? p.1=some p.2/\H p.1=none/\p.1≠X.env.locals/\p.1 ∉ X.fs/\∀ v,p.2.data≠.cell v):aS X pins' σ H s:=
 ⟨I.ok,I.os,I.bare,I.base,I.loc,I.cell,I.free,I.freeC,fun p hp=>(L6.mp hp).elim (fun z=>I.pin p (L7 _ z)) (h p),I.hok,I.len⟩
theorem uH {N:List Str} (hN:N.Nodup) {i j:Nat}{x:Str} (a:N[i]?=some x) (b:N[j]?=some x):i=j:=by
 obtain ⟨h1,e1⟩:=L8.mp a
 obtain ⟨h2,e2⟩:=L8.mp b
 exact (L9 hN).mp (e1.trans e2.symm)
theorem qN {M:Model}{A:Around}{E:Value->Shared->Prop}{i:Nat}{x:Str}{v:V}{u:Value}{Q:Unit->Shared->Prop} (I:aS X pins σ H s) (hN:X.N.Nodup) (hi:X.N[i]?=some x) (hx:ya X.env.scope x) (r:bF v u)
  (h:∀ s',aS X pins (σ.set i (some v)) H s'->(∃ a,Heap.SameBut a s.heap s'.heap/\(a=X.env.locals\/X.env.cells.lookup x=some a))->Q () s') (hf:X.fn x=true\/X.env.scope.names.lookup x=some .local:=by first | exact .inl rfl | exact .inr rfl | assumption):wpAny M A (storeName X.env x u) Q E s:=by
 obtain ⟨m,hn,hl⟩:=id I.loc
 have hcls:(X.env.scope.kind == .class || (X.env.scope.kind == .module && X.env.locals != X.env.globals))=false:=by rw [I.ok.kind];rfl
 have hiσ:i<σ.length:=by rw [I.len];exact (L8.mp hi).1
 have cne:=I.cne
 have tracked:∀ {a:Addr}{h':Heap},(∃ o,s.heap.get? a=some o/\H a=none)->Heap.SameBut a s.heap h'->mi X.prog X.w H h':=fun {a h'} ha hs b ob e=>by
  obtain ⟨_,_,hfree⟩:=ha
  refine (I.hok b ob e).stay (fun c w' hc q=>(hs.2 c ?_).trans q) (fun _ q=>q) fun _ _ q=>q
  rintro rfl
  rcases hc with rfl | hc
  ·rw [hfree] at e;cases e
  ·rw [hfree] at hc;cases hc
 rcases hx with hk | hk
 ·refine wpAny_storeName_local hk hn (fun h' hn' hs => ?_) hcls
  obtain ⟨oL,_,_,hoL,_⟩:=id hn
  refine h _ ⟨I.ok,I.os,I.bare,⟨fun b o e n hb hx=>?_,fun b o e n hb hx=>?_,I.base.free,fun b o e hx=>?_,I.base.tups,I.base.frzs,I.base.tbls⟩,⟨_,hn',fun j y v' e1 e2 e3=>?_⟩,fun y c e=>?_,I.free,I.freeC,fun p hp=>?_,tracked ⟨oL,hoL,I.free⟩ hs,by simpa using I.len⟩ ⟨_,hs,.inl rfl⟩
  ·exact (hs.2 b (LR (LP (LO e) I.ok.above))).trans (I.base.keep b o e n hb hx)
  ·obtain ⟨sl, e1⟩ := I.base.slot b o e n hb hx
   exact ⟨sl,(hs.2 b (LR (LP (LO e) I.ok.above))).trans e1⟩
  ·obtain ⟨o', e1⟩ := I.base.there b o e hx
   exact ⟨o',(hs.2 b (LR (LP (LO e) I.ok.above))).trans e1⟩
  ·by_cases hj : j = i
   ·subst hj
    rw [hi] at e1;cases e1
    rw [Ma hiσ] at e2
    cases e2
    exact ⟨u,r,.inl ⟨hk,by simp⟩⟩
   ·rw [Mb (L5 hj)] at e2
    obtain ⟨u',r',q⟩:=hl j y v' e1 e2 e3
    refine ⟨u',r',?_⟩
    rcases q with ⟨k,e⟩ | ⟨k,c,e,z⟩
    ·refine .inl ⟨k, ?_⟩
     have:y≠x:=fun e=>hj (uH hN e1 (e ▸ hi))
     simp [this,e]
    ·exact .inr ⟨k,c,e,z.sameBut hs (cne y c e)⟩
  ·obtain ⟨w', z⟩ := I.cell y c e
   exact ⟨w',z.sameBut hs (cne y c e)⟩
  ·obtain ⟨e, n, ne, nf, d⟩ := I.pin p hp
   exact ⟨(hs.2 p.1 ne).trans e,n,ne,nf,d⟩
 ·have hfn:X.fn x=true:=by
   rcases hf with z | z
   ·exact z
   ·rw [z] at hk;cases hk
  obtain ⟨c,hc⟩:=I.ok.has x (.inl hk)
  obtain ⟨w',z⟩:=I.cell x c hc
  refine wpAny_storeName_cell I.ok.kind hk hc z (fun h' hc' hs=>?_)
  obtain ⟨oc,hoc,hocd⟩:=id z
  refine h { s with heap:=h' } ⟨I.ok,I.os,I.bare,⟨fun b o e n hb hx=>?_,fun b o e n hb hx=>?_,I.base.free,fun b o e hx=>?_,I.base.tups,I.base.frzs,I.base.tbls⟩,⟨m,hn.sameBut hs (L5 (cne x c hc)),fun j y v' e1 e2 e3=>?_⟩,fun y c' e=>?_,I.free,I.freeC,fun p hp=>?_,tracked ⟨oc,hoc,I.freeC x c hc⟩ hs,by simpa using I.len⟩ ⟨c,hs,.inr hc⟩
  ·exact (hs.2 b (LR (LP (LO e) (I.ok.cab x c hfn hc)))).trans (I.base.keep b o e n hb hx)
  ·obtain ⟨sl, e1⟩ := I.base.slot b o e n hb hx
   exact ⟨sl,(hs.2 b (LR (LP (LO e) (I.ok.cab x c hfn hc)))).trans e1⟩
  ·obtain ⟨o', e1⟩ := I.base.there b o e hx
   exact ⟨o',(hs.2 b (LR (LP (LO e) (I.ok.cab x c hfn hc)))).trans e1⟩
  ·by_cases hj : j = i
   ·subst hj
    rw [hi] at e1;cases e1
    rw [Ma hiσ] at e2
    cases e2
    exact ⟨u,r,.inr ⟨.inl hk,c,hc,hc'⟩⟩
   ·rw [Mb (L5 hj)] at e2
    obtain ⟨u',r',q⟩:=hl j y v' e1 e2 e3
    refine ⟨u',r',?_⟩
    rcases q with q | ⟨k,c',e,z'⟩
    ·exact .inl q
    ·refine .inr ⟨k, c', e, z'.sameBut hs ?_⟩
     rintro rfl
     exact hj (uH hN e1 (I.ok.inj _ _ _ e hc ▸ hi))
  ·by_cases hcc : c' = c
   ·subst hcc;exact ⟨_,hc'⟩
   ·obtain ⟨w2, z2⟩ := I.cell y c' e
    exact ⟨w2,z2.sameBut hs hcc⟩
  ·obtain ⟨e, n, ne, nf, d⟩ := I.pin p hp
   refine ⟨(hs.2 p.1 ?_).trans e,n,ne,nf,d⟩
   intro q
   rw [q,hoc] at e
   have q':oc=p.2:=LN e
   exact d w' (by rw [<- q'];exact hocd)
theorem lL {M:Model}{A:Around}{E:Value->Shared->Prop}{i:Nat}{x:Str}{v:V}{u:Value}{Q:Unit->Shared->Prop} (I:aS X pins σ H s) (hN:X.N.Nodup) (hi:X.N[i]?=some x) (hx:ya X.env.scope x) (r:bF v u)
  (h:∀ s',aS X pins (σ.set i (some v)) H s'->Q () s') (hf:X.fn x=true\/X.env.scope.names.lookup x=some .local:=by first | exact .inl rfl | exact .inr rfl | assumption):wpAny M A (storeName X.env x u) Q E s:=
 qN I hN hi hx r (fun s' I' _=>h s' I') hf
theorem aS.call' {s':Shared}{ch:List Addr} (I:aS X pins σ H s) (ho:s'.os=s.os) (u:Un (nh X.stack) ch H H' s.heap s'.heap) (hok:mi X.prog X.w H' s'.heap) (hg:AllBare s'.gens)
  (hch:∀ b∈ch,(b∈X.ex\/X.s₀.heap.objs.size<=b)/\b≠X.env.locals/\(∀ x c,X.env.cells.lookup x=some c->c≠b)/\∀ p∈X.pn++pins,p.1≠b):aS X pins σ H' s':=by
 obtain ⟨h',g',d',t',o'⟩:=s'
 have e:o'=s.os:=ho
 subst e
 exact I.call (g':=g') (t':=t') (d':=d') u hok hg hch
end
abbrev XK:=Value->Option Addr->Hp->Prop
abbrev St:=List (Option V)
abbrev VK:=V->Hp->Prop
abbrev TE:=St->Hp->VK->Prop
abbrev TT:=St->Hp->(Bool->Hp->Prop)->Prop
abbrev TA:=St->Hp->(List V->Hp->Prop)->Prop
structure mv where
 nx:St->Hp->Prop
 rt:VK
 bk:St->Hp->Prop:=fun _ _=>False
 ct:St->Hp->Prop:=fun _ _=>False
abbrev TS:=mv->St->Hp->Prop
def EP (X:Cx) (pins:List (Addr × Obj)) (σ:St) (Q:VK) (u:Value) (s':Shared):Prop:=∃ v H',aS X pins σ H' s'/\bF v u/\Q v H'
def TP (X:Cx) (pins:List (Addr × Obj)) (σ:St) (Q:Bool->Hp->Prop) (b:Bool) (s':Shared):Prop:=∃ H',aS X pins σ H' s'/\Q b H'
def AP (X:Cx) (pins:List (Addr × Obj)) (σ:St) (Q:List V->Hp->Prop) (us:List Value) (s':Shared):Prop:=∃ vs H',aS X pins σ H' s'/\aY vs us/\Q vs H'
def SP (X:Cx) (pins:List (Addr × Obj)) (D:mv) (f:Flow) (s':Shared):Prop:=
 match f with
 | .next=>∃ σ' H',aS X pins σ' H' s'/\D.nx σ' H'
 | .brk=>∃ σ' H',aS X pins σ' H' s'/\D.bk σ' H'
 | .cont=>∃ σ' H',aS X pins σ' H' s'/\D.ct σ' H'
 | .ret u=>∃ v σ' H',aS X pins σ' H' s'/\bF v u/\D.rt v H'
def PE (X:Cx) (e:Expr) (t:TE):Prop:=
 ∀ (pins:List (Addr × Obj)) (s:Shared) (σ:St) (H:Hp) (Q:VK),aS X pins σ H s->t σ H Q->wpAny (model X.prog X.w) X.A (eval e X.env) (EP X pins σ Q) X.xe s
def PT (X:Cx) (e:Expr) (t:TT):Prop:=
 ∀ (pins:List (Addr × Obj)) (s:Shared) (σ:St) (H:Hp) (Q:Bool->Hp->Prop),aS X pins σ H s->t σ H Q->wpAny (model X.prog X.w) X.A (isTrue e X.env (eval e X.env)) (TP X pins σ Q) X.xe s
def PW (X:Cx) (e:Expr) (t:TT):Prop:=
 ∀ (whole:Sem Value) (pins:List (Addr × Obj)) (s:Shared) (σ:St) (H:Hp) (Q:Bool->Hp->Prop),aS X pins σ H s->t σ H Q->wpAny (model X.prog X.w) X.A (isTrue e X.env whole) (TP X pins σ Q) X.xe s
theorem PW.pt {X:Cx}{e:Expr}{t:TT} (h:PW X e t):PT X e t:=h _
def PA (X:Cx) (es:List Expr) (t:TA):Prop:=
 ∀ (pos:Pos) (pins:List (Addr × Obj)) (s:Shared) (σ:St) (H:Hp) (Q:List V->Hp->Prop),aS X pins σ H s->t σ H Q->wpAny (model X.prog X.w) X.A (spliced (backTo pos (starEach es X.env))) (AP X pins σ Q) X.xe s
def PS (X:Cx) (st:Stmt) (t:TS):Prop:=
 ∀ (pins:List (Addr × Obj)) (s:Shared) (σ:St) (H:Hp) (D:mv),aS X pins σ H s->t D σ H->wpAny (model X.prog X.w) X.A (exec st X.env) (SP X pins D) X.xe s
def iA (X:Cx) (st:List Stmt) (t:TS):Prop:=
 ∀ (pins:List (Addr × Obj)) (s:Shared) (σ:St) (H:Hp) (D:mv),aS X pins σ H s->t D σ H->wpAny (model X.prog X.w) X.A (execs st X.env) (SP X pins D) X.xe s
theorem cI {α:Type}{t:Sem α}{Q Q':α->Shared->Prop}{M:Model}{A:Around}{E:Value->Shared->Prop}{s:Shared} (h:wpAny M A t Q E s) (hQ:∀ a s,Q a s->Q' a s):wpAny M A t Q' E s:=Mc h hQ fun _ _ x=>x
end L2
namespace L2
open PySem PySem.Spec PyProof.Rows
section
variable {X:Cx}
def IJ (i:Nat):TE:=fun σ H Q=>∃ v,σ[i]?=some (some v)/\Q v H
def tC (v:V):TE:=fun _ H Q=>Q v H
theorem GY {i:Nat}{x:Str}{pos:Pos} (hN:X.N[i]?=some x) (hv:Kh X.env.scope x) (hd:(x == ("__debug__" : Str))=false:=by decide) (hcd:(x == ("__classdict__" : Str))=false:=by decide):PE X (.Name x pos) (IJ i):=by
 intro pins s σ H Q I h
 obtain ⟨v,e,h⟩:=h
 obtain ⟨m,hn,hl⟩:=I.loc
 obtain ⟨u,r,l⟩:=hl i x v hN e hv
 have fin:EP X pins σ Q u s:=⟨v,H,I,r,h⟩
 rcases l with ⟨hk,hm⟩ | ⟨hk,c,hc,hcell⟩
 ·exact wpAny_Name (wpAny_loadName_local I.ok.kind hk hn hm fin) hd
 ·rcases hk with hk | hk
  ·exact wpAny_Name (wpAny_loadName_cell I.ok.kind hk hc hcell fin) hd
  ·exact wpAny_Name (wpAny_loadName_free I.ok.kind hk hc hcell fin hcd) hd
theorem G4 {i j pos}:PE X (.Constant (.int i) j pos) (tC (.int i)):=fun _ _ _ H _ I h=>wpAny_Constant_int ⟨.int i,H,I.tok _,⟨_,rfl⟩,h⟩
theorem JR {b j pos}:PE X (.Constant (.bool b) j pos) (tC (.bl b)):=fun _ _ _ H _ I h=>Constant_bool ⟨.bl b,H,I,rfl,h⟩
theorem AJ {j pos}:PE X (.Constant .none j pos) (tC .non):=fun _ _ _ H _ I h=>Constant_none ⟨.non,H,I,rfl,h⟩
theorem G0 {x j pos}:PE X (.Constant (.str x) j pos) (tC (.str x)):=fun _ _ _ H _ I h=>Calls.Constant_str ⟨.str x,H,I.tok _,⟨_,rfl⟩,h⟩
def Gl (X:Cx) (x:Str):Prop:=X.env.kindOf x=some .globalImplicit
theorem lI {E:Value->Shared->Prop}{pins:List (Addr × Obj)}{s:Shared}{σ:St}{H:Hp}{x:Str}{u:Value}{pos:Pos}{Q:Value->Shared->Prop} (I:aS X pins σ H s) (hg:Gl X x) (hm:X.mg x=some u) (h:Q u s)
  (hd:(x == ("__debug__" : Str))=false:=by decide):wpAny (model X.prog X.w) X.A (eval (.Name x pos) X.env) Q E s:=
 Calls.Name_function_global I.ok.kind hg (Calls.loadGlobal_global (by rw [I.ok.glob];exact I.mod.glob.keeps I.bk) hm h) hd
theorem kO {E:Value->Shared->Prop}{pins:List (Addr × Obj)}{s:Shared}{σ:St}{H:Hp}{x:Str}{u:Value}{pos:Pos}{Q:Value->Shared->Prop} (I:aS X pins σ H s) (hg:Gl X x) (hm:X.mg x=none) (hv:bootBuiltins x=some u) (h:Q u s)
  (hn:x ≠ "__name__" := by decide) (hd:(x == ("__debug__" : Str))=false:=by decide):wpAny (model X.prog X.w) X.A (eval (.Name x pos) X.env) Q E s:=by
 obtain ⟨mb,h1,h2⟩:=I.mod.blt
 exact Calls.Name_function_global I.ok.kind hg (Calls.loadGlobal_builtin (by rw [I.ok.glob];exact I.mod.glob.keeps I.bk) hm (by rw [I.ok.blt];exact h1.keeps I.bk) ((h2 x hn).trans hv) h) hd
theorem xG {x:Str}{v:V}{u:Value}{pos:Pos} (hg:Gl X x) (hm:X.mg x=some u) (r:bF v u) (hd:(x == ("__debug__" : Str))=false:=by decide):PE X (.Name x pos) (tC v):=
 fun _ _ _ H _ I h=>lI I hg hm ⟨v,H,I,r,h⟩ hd
theorem xH {x:Str}{v:V}{u:Value}{pos:Pos} (hg:Gl X x) (hm:X.mg x=none) (hv:bootBuiltins x=some u) (r:bF v u) (hn:x ≠ "__name__" := by decide) (hd:(x == ("__debug__" : Str))=false:=by decide):PE X (.Name x pos) (tC v):=
 fun _ _ _ H _ I h=>kO I hg hm hv ⟨v,H,I,r,h⟩ hn hd
variable {a b:Expr}{ta tb:TE}{pos:Pos}
variable {tA tB':TT}{rest:List Expr}
def KO (t u:TT):TT:=fun σ H Q=>t σ H fun c H1=>if c=true then u σ H1 Q else Q false H1
def Ls (t u:TT):TT:=fun σ H Q=>t σ H fun c H1=>if c=true then Q true H1 else u σ H1 Q
def KG (t:TT):TT:=fun σ H Q=>t σ H fun c H1=>Q (!c) H1
theorem DJ (ha:PT X a tA):PW X (.BoolOp .And [a] pos) tA:=by
 intro wh pins s σ H Q I h
 refine isTrue_and (cI (ha pins s σ H Q I h) fun c s1 e=>?_)
 cases c with
 | true=>exact isTrue_and_nil e
 | false=>exact e
theorem GK (ha:PT X a tA):PW X (.BoolOp .Or [a] pos) tA:=by
 intro wh pins s σ H Q I h
 refine isTrue_or (cI (ha pins s σ H Q I h) fun c s1 e=>?_)
 cases c with
 | false=>exact isTrue_or_nil e
 | true=>exact e
theorem GL (ha:PT X a tA) (hb:PW X (.BoolOp .And (b::rest) pos) tB'):PW X (.BoolOp .And (a::b::rest) pos) (KO tA tB'):=by
 intro wh pins s σ H Q I h
 refine isTrue_and (cI (ha pins s σ H _ I h) fun c s1 ⟨H1,I1,q1⟩=>?_)
 cases c with
 | true=>exact hb wh pins s1 σ H1 Q I1 q1
 | false=>exact ⟨H1,I1,q1⟩
theorem JL (ha:PT X a tA) (hb:PW X (.BoolOp .Or (b::rest) pos) tB'):PW X (.BoolOp .Or (a::b::rest) pos) (Ls tA tB'):=by
 intro wh pins s σ H Q I h
 refine isTrue_or (cI (ha pins s σ H _ I h) fun c s1 ⟨H1,I1,q1⟩=>?_)
 cases c with
 | true=>exact ⟨H1,I1,q1⟩
 | false=>exact hb wh pins s1 σ H1 Q I1 q1
theorem GM (ha:PT X a tA):PT X (.UnaryOp .Not a pos) (KG tA):=by
 intro pins s σ H Q I h
 exact isTrue_not (ha pins s σ H (fun c H1=>Q (!c) H1) I h)
def Jz (ta tb:TE):TE:=fun σ H Q=>ta σ H fun x H1=>∃ c,x=.bl c/\if c=true then tb σ H1 Q else Q (.bl false) H1
def Ju (ta:TE):TE:=fun σ H Q=>ta σ H fun x H1=>∃ c,x=.bl c/\Q (.bl (!c)) H1
theorem G1 {op}{t:TE} (h:PE X a t):PE X (.BoolOp op [a] pos) t:=fun pins s σ H Q I hw=>BoolOp_one (h pins s σ H Q I hw)
theorem G5 (ha:PE X a ta) (hb:PE X (.BoolOp .And (b::rest) pos) tb):PE X (.BoolOp .And (a::b::rest) pos) (Jz ta tb):=by
 intro pins s σ H Q I h
 refine BoolOp_and (cI (ha pins s σ H _ I h) fun v s1 ⟨x,H1,I1,r1,q1⟩=>?_)
 obtain ⟨c,rfl,q1⟩:=q1
 cases r1
 refine Md ?_
 cases c with
 | true=>exact hb pins s1 σ H1 Q I1 q1
 | false=>exact ⟨.bl false,H1,I1,rfl,q1⟩
theorem G2 (ha:PE X a ta):PE X (.UnaryOp .Not a pos) (Ju ta):=by
 intro pins s σ H Q I h
 refine UnaryOp_ (cI (ha pins s σ H _ I h) fun v s1 ⟨x,H1,I1,r1,q1⟩=>?_)
 obtain ⟨c,rfl,q1⟩:=q1
 cases r1
 exact not_of (Md ⟨.bl (!c),H1,I1,rfl,q1⟩)
end
end L2
namespace L2
open PySem PySem.Spec PyProof.Rows
def fw (K:W.Frag) (H:Hp) (a:Addr) (xs:List V):Prop:=
 Rd H a (.lst xs) \/
  ∃ (o:Obj) (its:Array Value) (n:Nat),K.lookup a=some o/\o.cls=.type "list" /\ o.dict=none/\o.data=.seq its n/\its.size<=sizeLine/\aY xs its.toList
def fY (K:W.Frag) (H:Hp) (a:Addr) (xs:List V):Prop:=
 Rd H a (.tup xs) \/
  ∃ (o:Obj) (its:Array Value) (n:Nat),K.lookup a=some o/\o.cls=.type "tuple" /\ o.data=.seq its n/\its.size<=sizeLine/\aY xs its.toList
def La:Value->Option V
 | .none=>some .non
 | .bool b=>some (.bl b)
 | .int i _=>some (.int i)
 | .str x _=>some (.str x)
 | .bytes b _=>some (.byt b)
 | .float b _=>some (.flt b)
 | .ref a=>some (.ref a)
 | .type n=>some (.ty n)
 | _=>none
theorem bF.abs {x:V}{u:Value} (r:bF x u):La u=some x:=by
 cases x with
 | non=>cases r;rfl
 | bl _=>cases r;rfl
 | int _=>obtain ⟨t,rfl⟩:=r;rfl
 | str _=>obtain ⟨t,rfl⟩:=r;rfl
 | byt _=>obtain ⟨t,rfl⟩:=r;rfl
 | flt _=>obtain ⟨t,rfl⟩:=r;rfl
 | ref _=>cases r;rfl
 | ty _=>cases r;rfl
theorem bF.inj {x y:V}{u:Value} (r:bF x u) (q:bF y u):x=y:=LN (r.abs.symm.trans q.abs)
theorem aY.inj:∀ {xs ys:List V}{us:List Value},aY xs us->aY ys us->xs=ys
 | _,_,_,.nil,.nil=>rfl
 | _,_,_,.cons r t,.cons r' t'=>by rw [r.inj r',aY.inj t t']
section
variable {X:Cx}{pins:List (Addr × Obj)}{σ:St}{H:Hp}{s:Shared}{a:Addr}{xs ys:List V}
theorem fw.of {K:W.Frag} (h:H a=some (.lst xs)):fw K H a xs:=.inl (.inl h)
theorem fY.of {K:W.Frag} (h:H a=some (.tup xs)):fY K H a xs:=.inl (.inl h)
theorem aS.list (I:aS X pins σ H s) (h:fw X.K H a xs):∃ its:List Value,aY xs its/\PlainL s.heap a its.toArray/\xs.length<=sizeLine:=by
 rcases h with h | ⟨o,its,n,hk,hc,hd,hs,hz,r⟩
 ·obtain ⟨z, its, n, r, e⟩ := h.ok I.hok
  exact ⟨its,r,⟨_,n,e,rfl,rfl,rfl⟩,z⟩
 ·refine ⟨its.toList, r, ⟨o, n, I.kIn a o hk, hc, hd, by simpa using hs⟩, ?_⟩
  have e:=r.length
  simp only [Me] at e
  omega
theorem aS.tuple (I:aS X pins σ H s) (h:fY X.K H a xs):∃ its:List Value,aY xs its/\IsTup s.heap a its.toArray/\xs.length<=sizeLine:=by
 rcases h with h | ⟨o,its,n,hk,hc,hs,hz,r⟩
 ·obtain ⟨z, its, r, p⟩ := h.ok I.hok
  exact ⟨its,r,p,z⟩
 ·refine ⟨its.toList, r, ⟨o, I.kIn a o hk, hc, n, by simpa using hs⟩, ?_⟩
  have e:=r.length
  simp only [Me] at e
  omega
theorem aS.list_inj (I:aS X pins σ H s) (h:fw X.K H a xs) (h':fw X.K H a ys):xs=ys:=by
 obtain ⟨its,r,⟨o,n,e,_,_,d⟩,_⟩:=I.list h
 obtain ⟨its',r',⟨o',n',e',_,_,d'⟩,_⟩:=I.list h'
 rw [e] at e';cases e'
 rw [d] at d'
 injection d' with d1 _
 have:its=its':=by simpa using Mf Array.toList d1
 subst this
 exact r.inj r'
theorem aS.tuple_inj (I:aS X pins σ H s) (h:fY X.K H a xs) (h':fY X.K H a ys):xs=ys:=by
 obtain ⟨its,r,⟨o,e,_,n,d⟩,_⟩:=I.tuple h
 obtain ⟨its',r',⟨o',e',_,n',d'⟩,_⟩:=I.tuple h'
 rw [e] at e';cases e'
 rw [d] at d'
 injection d' with d1 _
 have:its=its':=by simpa using Mf Array.toList d1
 subst this
 exact r.inj r'
end
abbrev Cx.wish (X:Cx) (E:Value->Shared->Prop):Cx:={ X with xe:=E }
abbrev Cx.nox (X:Cx):Cx:=X.wish fun _ _=>False
theorem Cx.Ok.wish {X:Cx} (ok:X.Ok) (E:Value->Shared->Prop):(X.wish E).Ok:=
 ⟨ok.mod,ok.kind,ok.glob,ok.blt,ok.above,ok.inj,ok.has,ok.cab,ok.hd,ok.frames,ok.stk,ok.exf,ok.bs,ok.bsz,ok.noex,ok.exfs,ok.funs,ok.frf⟩
theorem Cx.Ok.unwish {X:Cx}{E:Value->Shared->Prop} (ok:(X.wish E).Ok):X.Ok:=
 ⟨ok.mod,ok.kind,ok.glob,ok.blt,ok.above,ok.inj,ok.has,ok.cab,ok.hd,ok.frames,ok.stk,ok.exf,ok.bs,ok.bsz,ok.noex,ok.exfs,ok.funs,ok.frf⟩
section
variable {X:Cx}{pins:List (Addr × Obj)}{σ:St}{H:Hp}{s:Shared}{E:Value->Shared->Prop}
theorem aS.wish (I:aS X pins σ H s) (E:Value->Shared->Prop):aS (X.wish E) pins σ H s:=⟨I.ok.wish E,I.os,I.bare,I.base,I.loc,I.cell,I.free,I.freeC,I.pin,I.hok,I.len⟩
theorem aS.unwish (I:aS (X.wish E) pins σ H s):aS X pins σ H s:=⟨I.ok.unwish,I.os,I.bare,I.base,I.loc,I.cell,I.free,I.freeC,I.pin,I.hok,I.len⟩
theorem SP.unwish {D:mv}{f:Flow}{s':Shared} (h:SP (X.wish E) pins D f s'):SP X pins D f s':=by
 cases f with
 | next=>obtain ⟨σ',H',I,q⟩:=h;exact ⟨σ',H',I.unwish,q⟩
 | brk=>obtain ⟨σ',H',I,q⟩:=h;exact ⟨σ',H',I.unwish,q⟩
 | cont=>obtain ⟨σ',H',I,q⟩:=h;exact ⟨σ',H',I.unwish,q⟩
 | ret u=>obtain ⟨v,σ',H',I,r,q⟩:=h;exact ⟨v,σ',H',I.unwish,r,q⟩
theorem iA.nox {st:List Stmt}{t:TS} (h:iA X.nox st t):iA X st t:=fun pins s σ H D I hw=>
 Mc (h pins s σ H D (I.wish _) hw) (fun _ _ q=>q.unwish) fun _ _ z=>False.elim z
end
section
variable {X:Cx}{st:Stmt}{rest:List Stmt}{t u:TS}{e:Expr}{te:TE}{pos:Pos}
def Jv:TS:=fun D σ H=>D.nx σ H
def KD (t u:TS):TS:=fun D σ H=>t { D with nx:=u D } σ H
theorem DO:iA X [] Jv:=fun _ _ σ H _ I h=>Mg ⟨σ,H,I,h⟩
theorem BD (h1:PS X st t) (h2:iA X rest u):iA X (st::rest) (KD t u):=by
 intro pins s σ H D I h
 refine wpAny_execs_cons (cI (h1 pins s σ H { D with nx:=u D } I h) fun f s1 q=>?_)
 cases f with
 | next=>
  obtain ⟨σ',H',I',q⟩:=q
  exact h2 pins s1 σ' H' D I' q
 | ret v=>exact q
 | brk=>exact q
 | cont=>exact q
theorem DN (h1:PS X st t):iA X [st] t:=by
 intro pins s σ H D I h
 refine wpAny_execs_cons (cI (h1 pins s σ H D I h) fun f s1 q=>?_)
 cases f with
 | next=>exact Mg q
 | ret v=>exact q
 | brk=>exact q
 | cont=>exact q
theorem aS.quiet {pins:List (Addr × Obj)}{σ:St}{H:Hp}{s:Shared} (I:aS X pins σ H s):interactive X.env=false:=by simp [interactive,I.ok.kind]
def Jw (te:TE):TS:=fun D σ H=>te σ H fun _ H1=>D.nx σ H1
theorem DQ (he:PE X e te) (hs:swapsWith e none pos.line X.env=pure false:=by rfl):PS X (.Expr e pos) (Jw te):=by
 intro pins s σ H D I h
 exact wpAny_Expr_any (cI (he pins s σ H _ I h) fun v s1 ⟨x,H1,I1,r1,q1⟩=>⟨σ,H1,I1,q1⟩) I.quiet hs
def KE (te:TE):TS:=fun D σ H=>te σ H D.rt
theorem GP (he:PE X e te):PS X (.Return (some e) pos) (KE te):=by
 intro pins s σ H D I h
 exact wpAny_Return_some (cI (he pins s σ H _ I h) fun v s1 ⟨x,H1,I1,r1,q1⟩=>⟨x,σ,H1,I1,r1,q1⟩)
def KL (c:TT) (t u:TS):TS:=fun D σ H=>c σ H fun b H1=>if b=true then t D σ H1 else u D σ H1
theorem JM {c:Expr}{a b:List Stmt}{tc:TT} (hc:PT X c tc) (ha:iA X a t) (hb:iA X b u):PS X (.If c a b pos) (KL tc t u):=by
 intro pins s σ H D I h
 refine wpAny_If (cI (hc pins s σ H _ I h) fun d s1 ⟨H1,I1,q1⟩=>?_)
 cases d with
 | true=>exact ha pins s1 σ H1 D I1 q1
 | false=>exact hb pins s1 σ H1 D I1 q1
end
abbrev TG:=V->St->Hp->(St->Hp->Prop)->Prop
abbrev CH:=List V->St->Hp->(St->Hp->Prop)->Prop
def PG (X:Cx) (target:Expr) (t:TG):Prop:=
 ∀ (pins:List (Addr × Obj)) (s:Shared) (σ:St) (H:Hp) (v:V) (u:Value) (Q:St->Hp->Prop),aS X pins σ H s->bF v u->t v σ H Q ->
  wpAny (model X.prog X.w) X.A (assign target X.env u) (fun _ s'=>∃ σ' H',aS X pins σ' H' s'/\Q σ' H') X.xe s
def vE (X:Cx) (ts:List Expr) (t:CH):Prop:=
 ∀ (pins:List (Addr × Obj)) (s:Shared) (σ:St) (H:Hp) (vs:List V) (us:List Value) (Q:St->Hp->Prop),aS X pins σ H s->aY vs us->t vs σ H Q ->
  wpAny (model X.prog X.w) X.A (assignInOrder ((assignEach ts X.env).map (·.2)) us) (fun _ s'=>∃ σ' H',aS X pins σ' H' s'/\Q σ' H') X.xe s
abbrev FS:=V->V->V->Hp->(Hp->Prop)->Prop
def Jf (X:Cx) (t:FS):Prop:=
 ∀ (pins:List (Addr × Obj)) (s:Shared) (σ:St) (H:Hp) (o i v:V) (ov iv u:Value) (Q:Hp->Prop),aS X pins σ H s->bF o ov->bF i iv->bF v u->t o i v H Q ->
  wpAny (model X.prog X.w) X.A (setItem ov iv u) (fun _ s'=>∃ H',aS X pins σ H' s'/\Q H') X.xe s
abbrev IG:=V->V->Hp->VK->Prop
def Kj (X:Cx) (op:Operator) (t:IG):Prop:=
 ∀ (pins:List (Addr × Obj)) (s:Shared) (σ:St) (H:Hp) (x y:V) (v u:Value) (Q:VK),aS X pins σ H s->bF x v->bF y u->t x y H Q ->
  wpAny (model X.prog X.w) X.A (inplaceOp op v u) (EP X pins σ Q) X.xe s
section
variable {X:Cx}{pos:Pos}
def t5 (i:Nat):TG:=fun v σ H Q=>Q (σ.set i (some v)) H
theorem DU {i:Nat}{x:Str} (hN:X.N.Nodup) (hi:X.N[i]?=some x) (hx:ya X.env.scope x) (hf:X.fn x=true\/X.env.scope.names.lookup x=some .local:=by first | exact .inl rfl | exact .inr rfl | assumption):PG X (.Name x pos) (t5 i):=by
 intro pins s σ H v u Q I r h
 exact wpAny_assign_Name (lL I hN hi hx r (fun s' I'=>⟨_,H,I',h⟩) hf)
def K3:CH:=fun vs σ H Q=>vs=[]/\Q σ H
def J1 (t:TG) (u:CH):CH:=fun vs σ H Q=>∃ v r,vs=v::r/\t v σ H fun σ' H'=>u r σ' H' Q
theorem DT:vE X [] K3:=by
 intro pins s σ H vs us Q I r h
 obtain ⟨e,h⟩:=h
 subst e
 cases r
 exact assignInOrder_nil ⟨σ,H,I,h⟩
theorem BH {e:Expr}{es:List Expr}{t:TG}{u:CH} (h1:PG X e t) (h2:vE X es u)
  (hs:(assignEach (e::es) X.env).map (·.2)=assign e X.env::(assignEach es X.env).map (·.2):=by rfl):vE X (e::es) (J1 t u):=by
 intro pins s σ H vs us Q I r h
 obtain ⟨v,vr,e1,h⟩:=h
 subst e1
 cases r with
 | cons r rr=>
  rw [hs]
  refine assignInOrder_cons (cI (h1 pins s σ H _ _ _ I r h) fun _ s1 ⟨σ1,H1,I1,q1⟩=>?_)
  exact h2 pins s1 σ1 H1 _ _ Q I1 rr q1
def K1 (K:W.Frag) (n:Nat) (t:CH):TG:=fun v σ H Q=>∃ a xs,v=.ref a/\fY K H a xs/\xs.length=n/\t xs σ H Q
theorem GV {es:List Expr}{k:Nat}{t:CH}{n:Nat} (hc:X.calm=true) (h:vE X es t)
  (hn:(assignEach es X.env).length=n:=by rfl) (hst:(assignEach es X.env).findIdx? (·.1)=none:=by rfl):PG X (.Tuple es k pos) (K1 X.K n t):=by
 intro pins s σ H v u Q I r hw
 obtain ⟨a,xs,e1,hq,hl,hw⟩:=hw
 subst e1
 cases r
 obtain ⟨its,rv,ht,hz⟩:=I.tuple hq
 refine assign_Tuple_tuple (I.ok.hd hc) ht (by simp [hn,<- hl,rv.length]) hst fun h' hx=>?_
 have I1:aS X pins σ H { s with heap:=h' }:=I.kept (t':=s.toks) fun b o e=>hx b o (LR (LO e)) e
 exact h pins _ σ H xs _ Q I1 (by simpa using rv) hw
def K2 (to ti:TE) (t:FS):TG:=fun v σ H Q=>to σ H fun o H1=>ti σ H1 fun i H2=>t o i v H2 fun H3=>Q σ H3
theorem GX {o i:Expr}{to ti:TE}{t:FS} (ho:PE X o to) (hi:PE X i ti) (hs:Jf X t)
  (ha : ∀ v, assign (.Subscript o i pos) X.env v = (do
   let ov <- holding [v] (eval o X.env)
   let iv <- holding [v,ov] (eval i X.env)
   standAt pos
   holding [v,ov,iv] (setItem ov iv v)
   release [v,ov,iv] []):=by intro _;rfl):PG X (.Subscript o i pos) (K2 to ti t):=by
 intro pins s σ H v u Q I r h
 rw [ha]
 refine Mh (Mi (cI (ho pins s σ H _ I h) fun ov s1 ⟨x,H1,I1,r1,q1⟩=>?_))
 refine Mh (Mi (cI (hi pins s1 σ H1 _ I1 q1) fun iv s2 ⟨y,H2,I2,r2,q2⟩=>?_))
 refine Mh (Mj (Mh (Mi (cI (hs pins s2 σ H2 x y v ov iv u _ I2 r1 r2 r q2) fun _ s3 ⟨H3,I3,q3⟩=>?_))))
 exact wpAny_release ⟨σ,H3,I3,q3⟩
def zP (te:TE) (g:TG):TS:=fun D σ H=>te σ H fun x H1=>g x σ H1 D.nx
theorem GS {tg e:Expr}{te:TE}{g:TG} (he:PE X e te) (hg:PG X tg g) (hs:swapsWithSole [tg] e pos.line X.env=pure false:=by rfl) (hw:swappedStores [tg] e X.env=pure none:=by rfl)
  (h1:(assignEach [tg] X.env).map (·.2)=[assign tg X.env]:=by rfl):PS X (.Assign [tg] e pos) (zP te g):=by
 intro pins s σ H D I h
 refine wpAny_Assign_stores (cI (he pins s σ H _ I h) fun v s1 ⟨x,H1,I1,r1,q1⟩=>?_) hs hw
 rw [h1]
 exact cI (hg pins s1 σ H1 x v _ I1 r1 q1) fun _ s2 q=>q
theorem GO {i:Nat}{x:Str}{e:Expr}{te:TE}{pos':Pos} (hN:X.N.Nodup) (hi:X.N[i]?=some x) (hx:ya X.env.scope x) (he:PE X e te) (hs:swapsWith e (some (.Name x pos')) pos.line X.env=pure false:=by rfl) (hf:X.fn x=true\/X.env.scope.names.lookup x=some .local:=by first | exact .inl rfl | exact .inr rfl | assumption) :
  PS X (.Assign [.Name x pos'] e pos) (zP te (t5 i)):=by
 intro pins s σ H D I h
 refine wpAny_Assign_Name (cI (he pins s σ H _ I h) fun v s1 ⟨y,H1,I1,r1,q1⟩=>?_) hs
 exact lL I1 hN hi hx r1 (fun s2 I2=>⟨_,H1,I2,q1⟩) hf
def KN (i:Nat) (te:TE) (ti:IG):TS:=fun D σ H=>∃ x,σ[i]?=some (some x)/\te σ H fun y H1=>ti x y H1 fun z H2=>D.nx (σ.set i (some z)) H2
theorem GR {i:Nat}{x:Str}{e:Expr}{te:TE}{op:Operator}{ti:IG}{pos':Pos} (hN:X.N.Nodup) (hi:X.N[i]?=some x) (hx:ya X.env.scope x) (he:PE X e te) (ho:Kj X op ti) (hf:X.fn x=true\/X.env.scope.names.lookup x=some .local:=by first | exact .inl rfl | exact .inr rfl | assumption) :
  PS X (.AugAssign (.Name x pos') op e pos) (KN i te ti):=by
 intro pins s σ H D I h
 obtain ⟨v,e1,h⟩:=h
 obtain ⟨m,hn,hl⟩:=I.loc
 have vis:Kh X.env.scope x:=by rcases hx with k | k;exact .inl k;exact .inr (.inl k)
 obtain ⟨u,r,l⟩:=hl i x v hi e1 vis
 refine wpAny_AugAssign_Name ?_
 have go:wpAny (model X.prog X.w) X.A (eval e X.env) (fun w s₂=>wpAny (model X.prog X.w) X.A (inplaceOp op u w) (fun r s₃=>wpAny (model X.prog X.w) X.A (storeName X.env x r) (fun _=>SP X pins D .next) X.xe s₃) X.xe s₂) X.xe s:=by
  refine cI (he pins s σ H _ I h) fun w s1 ⟨y,H1,I1,r1,q1⟩=>?_
  refine cI (ho pins s1 σ H1 v y u w _ I1 r r1 q1) fun z s2 ⟨zv,H2,I2,r2,q2⟩=>?_
  exact lL I2 hN hi hx r2 (fun s3 I3=>⟨_,H2,I3,q2⟩) hf
 rcases l with ⟨hk,hm⟩ | ⟨hk,c,hc,hcell⟩
 ·exact wpAny_loadName_local I.ok.kind hk hn hm go
 ·rcases hk with hk | hk
  ·exact wpAny_loadName_cell I.ok.kind hk hc hcell go
  ·rcases hx with k | k
   ·have : X.env.scope.names.lookup x = some .free := hk
    rw [k] at this;cases this
   ·have : X.env.scope.names.lookup x = some .free := hk
    rw [k] at this;cases this
def Ly (f:Int->Int->Int):IG:=fun x y H Q=>∃ i j,x=.int i/\y=.int j/\Q (.int (f i j)) H
theorem HX:Kj X .Add (Ly fun i j=>i+j):=by
 intro pins s σ H x y v u Q I r1 r2 h
 obtain ⟨i,j,e1,e2,q⟩:=h
 subst e1;subst e2
 obtain ⟨t,rfl⟩:=r1
 obtain ⟨t',rfl⟩:=r2
 exact iadd_int ⟨.int _,H,I.tok _,⟨_,rfl⟩,q⟩
end
section
variable {X:Cx}{pos:Pos}
def Ga (c:TT) (tb:TS):TS:=fun D σ H=>∃ W:Nat->St->Hp->Prop,(∃ m,W m σ H)/\∀ m σ H,W m σ H ->
 c σ H fun b H1=>if b=true then ∃ N:St->Hp->Prop,(∀ σ' H',N σ' H'->∃ m',m'<m/\W m' σ' H')/\tb { D with nx:=N,ct:=N,bk:=D.nx } σ H1 else D.nx σ H1
theorem BE {c:Expr}{body:List Stmt}{tc:TT}{tb:TS} (hp:PassesOwn (model X.prog X.w) X.A X.env X.xe) (hc:PT X c tc) (hb:iA X body tb):PS X (.While c body [] pos) (Ga tc tb):=by
 intro pins s σ H D I h
 obtain ⟨W,⟨m0,w0⟩,turn⟩:=h
 refine wpAny_While (codeAny_whileLoop (fun n s'=>∃ σ' H',aS X pins σ' H' s'/\W n σ' H') ?_ m0 ⟨σ,H,I,w0⟩)
 rintro n s1 ⟨σ1,H1,I1,w1⟩
 refine Ml hp (cI (hc pins s1 σ1 H1 _ I1 (turn n σ1 H1 w1)) fun b s2 ⟨H2,I2,q2⟩=>?_)
 cases b with
 | true=>
  obtain ⟨N,hN,q2⟩:=q2
  rw [LL rfl]
  refine Ml hp (cI (hb pins s2 σ1 H2 _ I2 q2) fun f s3 q3=>?_)
  cases f with
  | next=>
   obtain ⟨σ3,H3,I3,n3⟩:=q3
   obtain ⟨m',hm,w3⟩:=hN σ3 H3 n3
   exact ⟨m',hm,σ3,H3,I3,w3⟩
  | cont=>
   obtain ⟨σ3,H3,I3,n3⟩:=q3
   obtain ⟨m',hm,w3⟩:=hN σ3 H3 n3
   exact ⟨m',hm,σ3,H3,I3,w3⟩
  | brk=>exact q3
  | ret v=>exact q3
 | false=>
  rw [LM Mm]
  exact Mg ⟨σ1,H2,I2,q2⟩
end
structure It where
 go:Nat->Hp->Prop
 yld:Nat->Hp->V->Hp->Prop
 stop:Nat->Hp->Prop
def nM (X:Cx) (pins:List (Addr × Obj)) (H:Hp) (b:Addr):Prop:=
 H b=none/\b≠X.env.locals/\b ∉ X.fs/\(b∈X.ex\/X.s₀.heap.objs.size<=b)/\(∀ x c,X.env.cells.lookup x=some c->c≠b)/\∀ p∈X.pn++pins,p.1≠b
theorem aS.fpOk {X:Cx}{pins:List (Addr × Obj)}{σ:St}{H H':Hp}{s:Shared}{b:Addr} (I:aS X pins σ H s) (hb:s.heap.objs.size<=b) (hn:H' b=none):nM X pins H' b:=by
 refine ⟨hn,Mn (LP I.lt hb),I.nofs hb,.inr (LV I.sz hb),fun x c e z=>?_,fun p hp z=>?_⟩
 ·obtain ⟨v, q⟩ := I.cell x c e
  exact absurd (LP q.lt (by rw [z];exact hb)) (LQ _)
 ·exact absurd (LP (LO (I.pin p hp).1) (by rw [z];exact hb)) (LQ _)
structure z5 (P:Program) (w:World) (K:W.Frag) (tg:Expr) (J:It) (fp:List Addr) (it:Addr) (tn:Nat->Heap->Prop):Prop where
 mem:it∈fp
 obj:∀ i h,tn i h->∀ b∈fp,∃ o,h.get? b=some o/\∀ v,o.data≠.cell v
 keep:∀ i h h',tn i h->(∀ b∈fp,∀ o,h.get? b=some o->h'.get? b=some o)->tn i h'
 item:∀ (X:Cx),X.prog=P->X.w=w->X.K=K->X.calm=true->∀ (i:Nat) (pins:List (Addr × Obj)) (s:Shared) (σ:St) (H:Hp) (E:Value->Shared->Prop),aS X pins σ H s->(∀ b∈fp,nM X pins H b)->tn i s.heap->J.go i H ->
  wpAny (model P w) X.A (pyNext (.ref it)) (fun r s1=>∃ u,r=some u /\
   wpAny (model P w) X.A (letOwnedTupleGo tg (.ref it) u) (fun _ s2=>∃ x H',aS X pins σ H' s2/\bF x u/\J.yld i H x H'/\tn (i+1) s2.heap/\∀ b∈fp,H' b=none) E s1) E s
 done:∀ (X:Cx),X.prog=P->X.w=w->X.K=K->X.calm=true->∀ (i:Nat) (pins:List (Addr × Obj)) (s:Shared) (σ:St) (H:Hp) (E:Value->Shared->Prop),aS X pins σ H s->(∀ b∈fp,nM X pins H b)->tn i s.heap->J.stop i H ->
  wpAny (model P w) X.A (pyNext (.ref it)) (fun r s1=>r=none/\aS X pins σ H s1) E s
 self:∀ (A:Around) (i:Nat) (s:Shared) (Q:Value->Shared->Prop) (E:Value->Shared->Prop),tn i s.heap->Q (.ref it) s->wpAny (model P w) A (pyIter (.ref it)) Q E s
abbrev TI:=St->Hp->(It->Hp->Prop)->Prop
def Li (X:Cx) (pins:List (Addr × Obj)) (σ:St) (tg:Expr) (R:It->Hp->Prop) (itv:Value) (s2:Shared):Prop:=
 ∃ (it:Addr) (fp:List Addr) (tn:Nat->Heap->Prop) (J:It) (H':Hp),itv=.ref it/\aS X pins σ H' s2/\z5 X.prog X.w X.K tg J fp it tn/\tn 0 s2.heap/\(∀ b∈fp,nM X pins H' b)/\R J H'
def PI (X:Cx) (tg iter:Expr) (wi:TI):Prop:=
 ∀ (pins:List (Addr × Obj)) (s:Shared) (σ:St) (H:Hp) (R:It->Hp->Prop),aS X pins σ H s->wi σ H R ->
  wpAny (model X.prog X.w) X.A (eval iter X.env) (fun v s1=>wpAny (model X.prog X.w) X.A (pyIter v) (Li X pins σ tg R) X.xe s1) X.xe s
theorem Am {M:Model}{A:Around}{E:Value->Shared->Prop}{s:Shared}{tg:Expr}{it:Addr}{u:Value}{o:Obj}{n:String}{vs:Array Value}{Q:Unit->Shared->Prop} (ho:s.heap.get? it=some o) (hc:o.cls=.type n) (hd:o.data=.fields vs)
  (hn:["enumerate", "zip", "dict_itemiterator", "dict_reverseitemiterator", "odict_iterator", "itertools.zip_longest", "itertools.pairwise"].contains n=false) (hQ:Q () s):wpAny M A (letOwnedTupleGo tg (.ref it) u) Q E s:=by
 unfold letOwnedTupleGo
 cases tg <;> first
  | exact Mo hQ
  | (cases u <;> first
    | exact Mo hQ
    | (refine Mh (Mp ho ?_)
       rw [hc,hd]
       show wpAny M A (if (["enumerate", "zip", "dict_itemiterator", "dict_reverseitemiterator", "odict_iterator", "itertools.zip_longest", "itertools.pairwise"].contains n && vs[0]? == some (rawInt _))=true then _ else _) Q E s
       rw [LM (by intro h;rw [hn,Mq] at h;cases h)]
       exact Mo hQ))
def Ko (K:W.Frag) (a:Addr):It:=
 ⟨fun i H=>∃ xs x,fw K H a xs/\xs[i]?=some x,fun i H x H'=>H'=H/\∀ xs,fw K H a xs->xs[i]?=some x,fun i H=>∃ xs,fw K H a xs/\xs.length<=i⟩
def Kx (K:W.Frag) (a:Addr):It:=
 ⟨fun i H=>∃ xs x,fY K H a xs/\xs[i]?=some x,fun i H x H'=>H'=H/\∀ xs,fY K H a xs->xs[i]?=some x,fun i H=>∃ xs,fY K H a xs/\xs.length<=i⟩
def IC (lo:Int) (n:Nat):It:=⟨fun i _=>i<n,fun i H x H'=>H'=H/\x=.int (lo+i),fun i _=>n<=i⟩
theorem yo {P:Program}{w:World}{K:W.Frag}{tg:Expr} (a it:Addr):z5 P w K tg (Ko K a) [it] it (fun i h=>h.IsListIter it a i) where
 mem:=by simp
 obj:=fun i h st b hb=>by
  have e:b=it:=by simpa using hb
  subst e
  obtain ⟨o,e,c,d⟩:=st
  exact ⟨o,e,fun v z=>by rw [d] at z;cases z⟩
 keep:=fun i h h' st k=>st.at fun o e=>k it (by simp) o e
 item:=by
  intro X hP hw hK hc i pins s σ H E I hf st hg
  subst hP hw hK
  obtain ⟨xs,x,hq,hx⟩:=hg
  obtain ⟨its,rv,p,hz⟩:=I.list hq
  obtain ⟨u,hu,ru⟩:=rv.get hx
  obtain ⟨f0,f1,f2,f3,f4,f5⟩:=hf it (by simp)
  refine wpAny_pyNext_list_item st p.isList (x:=u) (by simpa using hu) fun h' st' sb=>?_
  have I1:aS X pins σ H { s with heap:=h' }:=I.turned (t':=s.toks) (fun b o hb e=>(sb.2 b hb).trans e) f0 f1 f3 f4 f5
  obtain ⟨o,e,c,d⟩:=id st'
  exact ⟨u,rfl,Am (s:={ s with heap:=h' }) e c d (by decide) ⟨x,H,I1,ru,⟨rfl,fun ys hy=>by rw [I.list_inj hy hq];exact hx⟩,st',fun b hb=>(hf b hb).1⟩⟩
 done:=by
  intro X hP hw hK hc i pins s σ H E I hf st hg
  subst hP hw hK
  obtain ⟨xs,hq,hx⟩:=hg
  obtain ⟨its,rv,p,hz⟩:=I.list hq
  obtain ⟨f0,f1,f2,f3,f4,f5⟩:=hf it (by simp)
  have hl:=rv.length
  exact wpAny_pyNext_list_end (I.ok.hd hc) st p.isList (by simp;omega) fun h' eb=>⟨rfl,I.turned (t':=s.toks) (fun b o hb e=>eb b o hb e) f0 f1 f3 f4 f5⟩
 self:=fun _ _ _ _ _ st h=>wpAny_pyIter_listiter st h
theorem wc {P:Program}{w:World}{K:W.Frag}{tg:Expr} (a it:Addr):z5 P w K tg (Kx K a) [it] it (fun i h=>h.IsTupleIter it a i) where
 mem:=by simp
 obj:=fun i h st b hb=>by
  have e:b=it:=by simpa using hb
  subst e
  obtain ⟨o,e,c,d⟩:=st
  exact ⟨o,e,fun v z=>by rw [d] at z;cases z⟩
 keep:=fun i h h' st k=>st.at fun o e=>k it (by simp) o e
 item:=by
  intro X hP hw hK hc i pins s σ H E I hf st hg
  subst hP hw hK
  obtain ⟨xs,x,hq,hx⟩:=hg
  obtain ⟨its,rv,p,hz⟩:=I.tuple hq
  obtain ⟨u,hu,ru⟩:=rv.get hx
  obtain ⟨f0,f1,f2,f3,f4,f5⟩:=hf it (by simp)
  refine wpAny_pyNext_tuple_item st (show s.heap.IsTuple a its.toArray from p) (x:=u) (by simpa using hu) fun h' st' sb=>?_
  have I1:aS X pins σ H { s with heap:=h' }:=I.turned (t':=s.toks) (fun b o hb e=>(sb.2 b hb).trans e) f0 f1 f3 f4 f5
  obtain ⟨o,e,c,d⟩:=id st'
  exact ⟨u,rfl,Am (s:={ s with heap:=h' }) e c d (by decide) ⟨x,H,I1,ru,⟨rfl,fun ys hy=>by rw [I.tuple_inj hy hq];exact hx⟩,st',fun b hb=>(hf b hb).1⟩⟩
 done:=by
  intro X hP hw hK hc i pins s σ H E I hf st hg
  subst hP hw hK
  obtain ⟨xs,hq,hx⟩:=hg
  obtain ⟨its,rv,p,hz⟩:=I.tuple hq
  obtain ⟨f0,f1,f2,f3,f4,f5⟩:=hf it (by simp)
  have hl:=rv.length
  exact wpAny_pyNext_tuple_end (I.ok.hd hc) st (show s.heap.IsTuple a its.toArray from p) (by simp;omega) fun h' eb=>⟨rfl,I.turned (t':=s.toks) (fun b o hb e=>eb b o hb e) f0 f1 f3 f4 f5⟩
 self:=fun _ _ _ _ _ st h=>wpAny_pyIter_tupleiter st h
theorem wd {P:Program}{w:World}{K:W.Frag}{tg:Expr} (it:Addr) (lo:Int) (n:Nat):z5 P w K tg (IC lo n) [it] it (fun i h=>IsRangeIter h it (lo+(i:Nat) * 1) ((n:Int) - (i:Nat)) 1) where
 mem:=by simp
 obj:=fun i h st b hb=>by
  have e:b=it:=by simpa using hb
  subst e
  exact ⟨_,st,fun v z=>by
   have z':Data.fields _=Data.cell v:=z
   cases z'⟩
 keep:=fun i h h' st k=>k it (by simp) _ st
 item:=by
  intro X hP hw hK hc i pins s σ H E I hf st hg
  subst hP hw hK
  obtain ⟨f0,f1,f2,f3,f4,f5⟩:=hf it (by simp)
  have W:=Walks.range (prog:=X.prog) (w:=X.w) (I.ok.hd hc) it lo 1 n
  refine W.item i s _ _ hg st fun v h' tk hv st' kk=>?_
  obtain ⟨t,rfl⟩:=hv
  have I1:aS X pins σ H { s with heap:=h',toks:=tk }:=I.turned (fun b o hb e=>kk b o (by simpa using hb) e) f0 f1 f3 f4 f5
  refine ⟨_,rfl,Am (s:={ s with heap:=h',toks:=tk }) (n:="range_iterator") st' rfl rfl (by decide) ⟨.int (lo+i),H,I1,⟨t,?_⟩,⟨rfl,rfl⟩,st',fun b hb=>(hf b hb).1⟩⟩
  rw [Int.mul_one]
 done:=by
  intro X hP hw hK hc i pins s σ H E I hf st hg
  subst hP hw hK
  obtain ⟨f0,f1,f2,f3,f4,f5⟩:=hf it (by simp)
  exact wpAny_pyNext_range_end (I.ok.hd hc) st (by have:n<=i:=hg;omega) fun h' eb=>⟨rfl,I.turned (t':=s.toks) (fun b o hb e=>eb b o hb e) f0 f1 f3 f4 f5⟩
 self:=fun _ _ _ _ _ st h=>wpAny_pyIter_rangeiter st h
end L2
namespace L2
open PySem PySem.Spec PyProof.Rows
section
variable {X:Cx}{tg:Expr}
theorem uy {pins:List (Addr × Obj)}{σ:St}{H:Hp}{s:Shared}{R:It->Hp->Prop}{E:Value->Shared->Prop}{lo hi:Int}{t u v:Tok}{tk:Nat} (I:aS X pins σ H s) (h1:-(2 ^ 62)<=lo) (h2:lo<2 ^ 62) (h3:-(2 ^ 62)<=hi) (h4:hi<2 ^ 62)
  (q:R (IC lo (hi - lo).toNat) H):wpAny (model X.prog X.w) X.A (pyIter (.ref s.heap.objs.size)) (Li X pins σ tg R) E { s with heap:=s.heap.push { cls:=.type "range",data:=.fields #[.int lo t,.int hi u,.int 1 v] },toks:=tk }:=by
 refine wpAny_pyIter_range (IsRange.new ..) (small_one h1 h2 h3 h4) ?_
 have I1:aS X pins σ H { s with heap:=s.heap.push { cls:=.type "range",data:=.fields #[.int lo t,.int hi u,.int 1 v] },toks:=tk }:=I.kept fun b o e=>Mr _ e
 refine ⟨(s.heap.push { cls:=.type "range",data:=.fields #[.int lo t,.int hi u,.int 1 v] }).objs.size,[(s.heap.push { cls:=.type "range",data:=.fields #[.int lo t,.int hi u,.int 1 v] }).objs.size],_,_,H,rfl,
  I1.kept (t':=tk) fun b o e=>Mr _ e,wd _ lo (hi - lo).toNat,?_,fun b hb=>?_,q⟩
 ·have e1 : lo + ((0 : Nat) : Int) * 1 = lo := by simp
  have e2:(((hi - lo).toNat:Nat):Int) - ((0:Nat):Int)=Builtin.Range.rangeSize lo hi 1:=by rw [rangeSize_one];split <;> omega
  show IsRangeIter _ _ (lo+((0:Nat):Int) * 1) ((((hi - lo).toNat:Nat):Int) - ((0:Nat):Int)) 1
  rw [e1,e2]
  exact Ms _ rfl
 ·have e : b = (s.heap.push { cls := .type "range", data := .fields #[.int lo t, .int hi u, .int 1 v] }).objs.size := by simpa using hb
  subst e
  exact I1.fpOk (Mt _) (I1.hok.fresh (Mt _))
def JZ (ta:TA):TI:=fun σ H R=>ta σ H fun vs H1=>∃ j:Int,vs=[.int j]/\-(2 ^ 62)<=j/\j<2 ^ 62/\R (IC 0 j.toNat) H1
def JY (ta:TA):TI:=fun σ H R=>ta σ H fun vs H1=>∃ i j:Int,vs=[.int i,.int j]/\(-(2 ^ 62)<=i/\i<2 ^ 62/\-(2 ^ 62)<=j/\j<2 ^ 62)/\R (IC i (j - i).toNat) H1
theorem yO {a:Expr}{ta:TA}{p pos:Pos} (hg:Gl X "range") (hm:X.mg "range" = none) (ha:PA X [a] ta) (hs:starEach [a] X.env=[(false,eval a X.env)]:=by rfl):PI X tg (.Call (.Name "range" p) [a] [] pos) (JZ ta):=by
 intro pins s σ H R I h
 refine Call_ (kO I hg hm boot_range (Mu (cI (ha pos pins s σ H _ I h) fun us s1 ⟨vs,H1,I1,r1,q1⟩=>?_) hs rfl))
 obtain ⟨j,e,q1,q2,q⟩:=q1
 subst e
 cases r1 with
 | cons r rr=>
  cases rr
  obtain ⟨t,rfl⟩:=r
  exact call_range_1 (uy I1 (by omega) (by omega) q1 q2 (by simpa using q))
theorem yN {a b:Expr}{ta:TA}{p pos:Pos} (hg:Gl X "range") (hm:X.mg "range" = none) (ha:PA X [a,b] ta) (hs:starEach [a,b] X.env=[(false,eval a X.env),(false,eval b X.env)]:=by rfl) (hs2:starEach [b] X.env=[(false,eval b X.env)]:=by rfl) :
  PI X tg (.Call (.Name "range" p) [a,b] [] pos) (JY ta):=by
 intro pins s σ H R I h
 refine Call_ (kO I hg hm boot_range (Mu (cI (ha pos pins s σ H _ I h) fun us s1 ⟨vs,H1,I1,r1,q1⟩=>?_) (by rw [hs,hs2]) (by rw [hs2];rfl)))
 obtain ⟨i,j,e,⟨q1,q2,q3,q4⟩,q⟩:=q1
 subst e
 cases r1 with
 | cons r rr=>
  cases rr with
  | cons r' rr=>
   cases rr
   obtain ⟨t,rfl⟩:=r
   obtain ⟨t',rfl⟩:=r'
   exact call_range_2 (uy I1 q1 q2 q3 q4 q)
def KM (wi:TI) (g:TG) (tb:TS):TS:=fun D σ H=>wi σ H fun J H1=>∃ W:Nat->Nat->St->Hp->Prop,(∃ m,W 0 m σ H1)/\∀ i m σ H,W i m σ H ->
 (J.stop i H/\D.nx σ H)\/(J.go i H/\∃ N:St->Hp->Prop,(∀ σ' H',N σ' H'->∃ m',m'<m/\W (i+1) m' σ' H')/\∀ x H',J.yld i H x H'->g x σ H' fun σ2 H2=>tb { D with nx:=N,ct:=N,bk:=D.nx } σ2 H2)
def oQ (fp:List Addr) (h:Heap):List (Addr × Obj):=fp.filterMap fun b=>(h.get? b).map fun o=>(b,o)
theorem i7 {fp:List Addr}{h:Heap}{b:Addr}{o:Obj} (hb:b∈fp) (e:h.get? b=some o):(b,o)∈oQ fp h:=Mv.mpr ⟨b,hb,by rw [e];rfl⟩
theorem yZ {fp:List Addr}{h:Heap}{p:Addr × Obj} (hp:p∈oQ fp h):p.1∈fp/\h.get? p.1=some p.2:=by
 obtain ⟨b,hb,e⟩:=Mv.mp hp
 cases q:h.get? b with
 | none=>rw [q] at e;cases e
 | some o=>
  rw [q] at e
  have e':(b,o)=p:=LN e
  subst e'
  exact ⟨hb,q⟩
theorem aS.pinned {pins:List (Addr × Obj)}{σ:St}{H:Hp}{s:Shared}{fp:List Addr} (I:aS X pins σ H s) (hf:∀ b∈fp,nM X pins H b) (ho:∀ b∈fp,∃ o,s.heap.get? b=some o/\∀ v,o.data≠.cell v):aS X (pins++oQ fp s.heap) σ H s:=
 I.pins_of fun p hp=>(L6.mp hp).elim (fun z=>I.pin p (Mw _ z)) fun z=>by
  obtain ⟨hb,e⟩:=yZ z
  obtain ⟨f0,f1,f2,_⟩:=hf p.1 hb
  obtain ⟨o,e',d⟩:=ho p.1 hb
  rw [e] at e';cases e'
  exact ⟨e,f0,f1,f2,d⟩
theorem aS.unpinned {pins pl:List (Addr × Obj)}{σ:St}{H:Hp}{s:Shared} (I:aS X (pins++pl) σ H s):aS X pins σ H s:=I.pins_of fun p hp=>I.pin p (Mw _ (L7 _ hp))
theorem GQ {iter:Expr}{body:List Stmt}{wi:TI}{g:TG}{tb:TS}{pos:Pos} (hp:PassesOwn (model X.prog X.w) X.A X.env X.xe) (hc:X.calm=true) (hi:PI X tg iter wi) (hg:PG X tg g) (hb:iA X body tb)
  (hs:∀ x,foldedSetIterable iter X.env x=pure x:=by intro _;rfl):PS X (.For tg iter body [] pos) (KM wi g tb):=by
 intro pins s σ H D I h
 refine wpAny_For (cI (hi pins s σ H _ I h) fun v s1 h1=>cI h1 fun itv s2 h2=>?_) hs
 obtain ⟨it,fp,tn,J,H2,e,I2,T,st2,f2,W,⟨m0,w0⟩,turn⟩:=h2
 subst e
 have stat:∀ {H':Hp},(∀ b∈fp,H' b=none)->∀ b∈fp,nM X pins H' b:=fun hn b hb=>⟨hn b hb,(f2 b hb).2⟩
 refine codeAny_forLoop_any (fun n s'=>∃ i σ' H',aS X pins σ' H' s'/\tn i s'.heap/\(∀ b∈fp,H' b=none)/\W i n σ' H') ?_ m0 ⟨0,σ,H2,I2,st2,fun b hb=>(f2 b hb).1,w0⟩
 rintro n s3 ⟨i,σ3,H3,I3,st3,fr3,w3⟩
 rcases turn i n σ3 H3 w3 with ⟨stop,qn⟩ | ⟨go,N,hN,step⟩
 ·refine Ml hp (cI (T.done X rfl rfl rfl hc i pins s3 σ3 H3 X.xe I3 (stat fr3) st3 stop) fun r s4 ⟨hr, I4⟩ => ?_)
  subst hr
  exact Mg ⟨σ3,H3,I4,qn⟩
 ·refine Ml hp (cI (T.item X rfl rfl rfl hc i pins s3 σ3 H3 X.xe I3 (stat fr3) st3 go) fun r s4 ⟨u, hr, h4⟩ => ?_)
  subst hr
  refine Ml hp (cI h4 fun _ s5 ⟨x,H5,I5,r5,y5,st5,fr5⟩=>?_)
  have I5':=I5.pinned (stat fr5) (T.obj _ _ st5)
  refine Ml hp (cI (hg _ s5 σ3 H5 x u _ I5' r5 (step x H5 y5)) fun _ s6 ⟨σ6,H6,I6,q6⟩=>?_)
  refine Ml hp (cI (hb _ s6 σ6 H6 _ I6 q6) fun f s7 q7=>?_)
  have again:∀ {σ7:St}{H7:Hp},aS X (pins++oQ fp s5.heap) σ7 H7 s7->N σ7 H7->∃ m,m<n/\∃ i σ' H',aS X pins σ' H' s7/\tn i s7.heap/\(∀ b∈fp,H' b=none)/\W i m σ' H':=fun {σ7 H7} I7 n7=>by
   obtain ⟨m',hm,w7⟩:=hN σ7 H7 n7
   refine ⟨m',hm,i+1,σ7,H7,I7.unpinned,T.keep _ _ _ st5 fun b hb o e=>(I7.pin (b,o) (Mw _ (Mw _ (i7 hb e)))).1,fun b hb=>?_,w7⟩
   obtain ⟨o,e,d⟩:=T.obj _ _ st5 b hb
   exact (I7.pin (b,o) (Mw _ (Mw _ (i7 hb e)))).2.1
  cases f with
  | next=>obtain ⟨σ7,H7,I7,n7⟩:=q7;exact again I7 n7
  | cont=>obtain ⟨σ7,H7,I7,n7⟩:=q7;exact again I7 n7
  | brk=>obtain ⟨σ7,H7,I7,q7⟩:=q7;exact ⟨σ7,H7,I7.unpinned,q7⟩
  | ret v=>obtain ⟨x7,σ7,H7,I7,r7,q7⟩:=q7;exact ⟨x7,σ7,H7,I7.unpinned,r7,q7⟩
end
end L2
namespace L2
open PySem PySem.Spec PyProof.Rows
abbrev R2:=V->V->Hp->VK->Prop
def ig (X:Cx) (f:Value->Value->Sem Value) (r:R2):Prop:=
 ∀ (pins:List (Addr × Obj)) (s:Shared) (σ:St) (H:Hp) (x y:V) (v u:Value) (Q:VK),aS X pins σ H s->bF x v->bF y u->r x y H Q ->
  wpAny (model X.prog X.w) X.A (f v u) (EP X pins σ Q) X.xe s
def Ki (X:Cx) (f:Value->Sem Value) (r:V->Hp->VK->Prop):Prop:=
 ∀ (pins:List (Addr × Obj)) (s:Shared) (σ:St) (H:Hp) (x:V) (v:Value) (Q:VK),aS X pins σ H s->bF x v->r x H Q ->
  wpAny (model X.prog X.w) X.A (f v) (EP X pins σ Q) X.xe s
def cj (X:Cx) (f:Value) (r:List V->Hp->VK->Prop):Prop:=
 ∀ (pins:List (Addr × Obj)) (s:Shared) (σ:St) (H:Hp) (xs:List V) (us:List Value) (Q:VK),aS X pins σ H s->aY xs us->r xs H Q ->
  wpAny (model X.prog X.w) X.A (call f us) (EP X pins σ Q) X.xe s
def Lb (X:Cx) (r:V->Hp->(Bool->Hp->Prop)->Prop):Prop:=
 ∀ (pins:List (Addr × Obj)) (s:Shared) (σ:St) (H:Hp) (x:V) (v:Value) (Q:Bool->Hp->Prop),aS X pins σ H s->bF x v->r x H Q ->
  wpAny (model X.prog X.w) X.A (truthy v) (TP X pins σ Q) X.xe s
def Kc (r:R2) (ta tb:TE):TE:=fun σ H Q=>ta σ H fun x H1=>tb σ H1 fun y H2=>r x y H2 Q
def Lq (r:V->Hp->VK->Prop) (ta:TE):TE:=fun σ H Q=>ta σ H fun x H1=>r x H1 Q
def rI (C:Int->Int->Prop) (g:Int->Int->V):R2:=fun x y H Q=>∃ i j,x=.int i/\y=.int j/\C i j/\Q (g i j) H
def IE (g:Int->Int->V):R2:=fun x y H Q=>∃ i j,x=.int i/\y=.int j/\Q (g i j) H
def rU (g:Int->V):V->Hp->VK->Prop:=fun x H Q=>∃ i,x=.int i/\Q (g i) H
section
variable {X:Cx}{a b c:Expr}{ta tb tc:TE}{pos:Pos}
theorem FQ (ha:PE X a ta) (hb:PE X b tb) {pins:List (Addr × Obj)}{s:Shared}{σ:St}{H:Hp}{R:V->V->Hp->Prop} (I:aS X pins σ H s)
  (h:ta σ H fun x H1=>tb σ H1 fun y H2=>R x y H2) {Q:Value->Shared->Prop}{f:Value->Value->Sem Value}
  (hf:∀ v u s2 x y H2,aS X pins σ H2 s2->bF x v->bF y u->R x y H2->wpAny (model X.prog X.w) X.A (f v u) Q X.xe s2) :
  wpAny (model X.prog X.w) X.A (eval a X.env) (fun v s₁=>wpAny (model X.prog X.w) X.A (eval b X.env) (fun u s₂=>wpAny (model X.prog X.w) X.A (f v u) Q X.xe s₂) X.xe s₁) X.xe s:=by
 refine cI (ha pins s σ H _ I h) fun v s1 ⟨x,H1,I1,r1,q1⟩=>?_
 refine cI (hb pins s1 σ H1 _ I1 q1) fun u s2 ⟨y,H2,I2,r2,q2⟩=>?_
 exact hf v u s2 x y H2 I2 r1 r2 q2
theorem JO {op:Operator}{r:R2} (ho:ig X (binaryOp op) r) (ha:PE X a ta) (hb:PE X b tb):PE X (.BinOp a op b pos) (Kc r ta tb):=by
 intro pins s σ H Q I h
 exact wpAny_BinOp (FQ ha hb I h fun v u s2 x y H2 I2 rx ry q=>ho pins s2 σ H2 x y v u Q I2 rx ry q)
theorem JN {op:UnaryOp}{r:V->Hp->VK->Prop} (ho:Ki X (unaryOp op) r) (ha:PE X a ta):PE X (.UnaryOp op a pos) (Lq r ta):=by
 intro pins s σ H Q I h
 exact UnaryOp_ (cI (ha pins s σ H _ I h) fun v s1 ⟨x,H1,I1,r1,q1⟩=>ho pins s1 σ H1 x v Q I1 r1 q1)
theorem Ke {f:Value->Value->Sem Value}{C:Int->Int->Prop}{g:Int->Int->Int}
  (rule:∀ (i j:Int) (t u:Tok) (s:Shared) (Q:Value->Shared->Prop) (E:Value->Shared->Prop),C i j->Q (.int (g i j) s.toks) { s with toks:=s.toks+1 }->wpAny (model X.prog X.w) X.A (f (.int i t) (.int j u)) Q E s) :
  ig X f (rI C fun i j=>.int (g i j)):=by
 intro pins s σ H x y v u Q I rx ry h
 obtain ⟨i,j,rfl,rfl,hc,q⟩:=h
 obtain ⟨t,rfl⟩:=rx
 obtain ⟨t',rfl⟩:=ry
 exact rule i j t t' s _ _ hc ⟨.int (g i j),H,I.tok _,⟨_,rfl⟩,q⟩
theorem IY {f:Value->Value->Sem Value}{g:Int->Int->Int}
  (rule:∀ (i j:Int) (t u:Tok) (s:Shared) (Q:Value->Shared->Prop) (E:Value->Shared->Prop),Q (.int (g i j) s.toks) { s with toks:=s.toks+1 }->wpAny (model X.prog X.w) X.A (f (.int i t) (.int j u)) Q E s) :
  ig X f (IE fun i j=>.int (g i j)):=by
 intro pins s σ H x y v u Q I rx ry h
 obtain ⟨i,j,rfl,rfl,q⟩:=h
 obtain ⟨t,rfl⟩:=rx
 obtain ⟨t',rfl⟩:=ry
 exact rule i j t t' s _ _ ⟨.int (g i j),H,I.tok _,⟨_,rfl⟩,q⟩
def CW (i j:Int):Prop:=0<j/\j<1073741824
def FV (i j:Int):Prop:=0<=j/\j<=1000000/\i.natAbs<2 ^ 64
def tV (i j:Int):Prop:=(-(2 ^ 64)<i/\i<2 ^ 64)\/(-(2 ^ 64)<j/\j<2 ^ 64)
theorem tV.ok {i j:Int} (h:tV i j):IntMulOk i j:=by
 rcases h with ⟨h1,h2⟩ | ⟨h1,h2⟩
 ·exact .of_left (intBits_le_64 h1 h2)
 ·exact .of_right (intBits_le_64 h1 h2)
theorem Hi:ig X (binaryOp .Add) (IE fun i j=>.int (i+j)):=IY fun _ _ _ _ _ _ _ q=>add_int q
theorem G7:ig X (binaryOp .Sub) (IE fun i j=>.int (i - j)):=IY fun _ _ _ _ _ _ _ q=>sub_int q
theorem Hc:ig X (binaryOp .Mult) (rI tV fun i j=>.int (i * j)):=Ke fun _ _ _ _ _ _ _ hc q=>mul_int q hc.ok
theorem D4:ig X (binaryOp .FloorDiv) (rI CW fun i j=>.int (i / j)):=Ke fun i j _ _ _ _ _ hc q=>by
 have h1:(0:Int)<j:=hc.1
 have h2:j<1073741824:=hc.2
 exact floordiv_int (by omega) (by rw [Int.fdiv_eq_ediv_of_nonneg i (by omega)];exact q) (.inl (PyProof.noPylong_small (by omega)))
theorem Hd:ig X (binaryOp .Mod) (rI (fun _ j=>0<j) fun i j=>.int (i % j)):=Ke fun i j _ _ _ _ _ hc q=>by
 have h1:(0:Int)<j:=hc
 exact mod_int' (by omega) (by rw [Int.fmod_eq_emod_of_nonneg i (by omega)];exact q)
theorem G9:ig X (binaryOp .Pow) (rI FV fun i j=>.int (i ^ j.toNat)):=Ke fun _ _ _ _ _ _ _ hc q=>pow_int_small hc.1 hc.2.1 hc.2.2 q
theorem Lp {f:Value->Sem Value}{g:Int->Int}
  (rule:∀ (i:Int) (t:Tok) (s:Shared) (Q:Value->Shared->Prop) (E:Value->Shared->Prop),Q (.int (g i) s.toks) { s with toks:=s.toks+1 }->wpAny (model X.prog X.w) X.A (f (.int i t)) Q E s) :
  Ki X f (rU fun i=>.int (g i)):=by
 intro pins s σ H x v Q I rx h
 obtain ⟨i,rfl,q⟩:=h
 obtain ⟨t,rfl⟩:=rx
 exact rule i t s _ _ ⟨.int (g i),H,I.tok _,⟨_,rfl⟩,q⟩
theorem F6:Ki X (unaryOp .USub) (rU fun i=>.int (-i)):=Lp fun _ _ _ _ _ q=>neg_int q
end
def KR:V->V->Bool
 | .non,.non=>true | .non,.int _=>true | .int _,.non=>true | .non,.bl _=>true | .bl _,.non=>true | .non,.str _=>true | .str _,.non=>true
 | .int _,.int _=>true | .bl _,.bl _=>true | .str _,.str _=>true | .byt _,.byt _=>true
 | .int _,.str _=>true | .str _,.int _=>true | .bl _,.str _=>true | .str _,.bl _=>true
 | _,_=>false
def Kw:R2:=fun x y H Q=>KR x y=true/\Q (.bl (!decide (x=y))) H
theorem ET {i j:Int}:decide (V.int i=V.int j)=(i == j):=by
 rw [Mx]
 simp
theorem Ir {i j:Bool}:decide (V.bl i=V.bl j)=(i == j):=by
 rw [Mx]
 simp
theorem ES {i j:Str}:decide (V.str i=V.str j)=(i == j):=by
 rw [Mx]
 simp
theorem EU {i j:Array UInt8}:decide (V.byt i=V.byt j)=(i.toList == j.toList):=by
 rw [Mx]
 cases i
 cases j
 simp
section
variable {X:Cx}{a b c:Expr}{ta tb tc:TE}{pos:Pos}
theorem dW {pins:List (Addr × Obj)}{σ:St}{H:Hp}{s:Shared}{Q:VK}{k k':Bool} (I:aS X pins σ H s) (q:Q (.bl k) H) (e:k=k'):EP X pins σ Q (.bool k') s:=by
 subst e
 exact ⟨.bl k,H,I,rfl,q⟩
theorem JT:ig X (compareOp .NotEq) Kw:=by
 intro pins s σ H x y v u Q I rx ry h
 obtain ⟨hs,q⟩:=h
 cases x with
 | non=>
  cases rx
  cases y with
  | non=>cases ry;exact PySem.EqNone.ne_none_none (dW I q (by simp))
  | bl j=>cases ry;exact PySem.EqNone.ne_none_bool (dW I q (by simp))
  | int j=>obtain ⟨t',rfl⟩:=ry;exact PySem.EqNone.ne_none_int (dW I q (by simp))
  | str j=>obtain ⟨t',rfl⟩:=ry;exact PySem.EqNone.ne_none_str (dW I q (by simp))
  | _=>exact absurd (show false=true from hs) Mm
 | bl i=>
  cases rx
  cases y with
  | non=>cases ry;exact PySem.EqNone.ne_bool_none (dW I q (by simp))
  | bl j=>cases ry;exact ne_bool (dW I q (Mf not Ir))
  | str j=>obtain ⟨t',rfl⟩:=ry;exact PySem.EqMixed.ne_bool_str (dW I q (by simp))
  | _=>exact absurd (show false=true from hs) Mm
 | int i=>
  obtain ⟨t,rfl⟩:=rx
  cases y with
  | non=>cases ry;exact PySem.EqNone.ne_int_none (dW I q (by simp))
  | int j=>obtain ⟨t',rfl⟩:=ry;exact ne_int (dW I q (Mf not ET))
  | str j=>obtain ⟨t',rfl⟩:=ry;exact PySem.EqMixed.ne_int_str (dW I q (by simp))
  | _=>exact absurd (show false=true from hs) Mm
 | str i=>
  obtain ⟨t,rfl⟩:=rx
  cases y with
  | non=>cases ry;exact PySem.EqNone.ne_str_none (dW I q (by simp))
  | bl j=>cases ry;exact PySem.EqMixed.ne_str_bool (dW I q (by simp))
  | int j=>obtain ⟨t',rfl⟩:=ry;exact PySem.EqMixed.ne_str_int (dW I q (by simp))
  | str j=>obtain ⟨t',rfl⟩:=ry;exact ne_str (dW I q (Mf not ES))
  | _=>exact absurd (show false=true from hs) Mm
 | byt i=>
  obtain ⟨t,rfl⟩:=rx
  cases y with
  | byt j=>obtain ⟨t',rfl⟩:=ry;exact W.ne_bytes (dW I q (Mf not EU))
  | _=>exact absurd (show false=true from hs) Mm
 | _=>cases y <;> exact absurd (show false=true from hs) Mm
theorem He:ig X (compareOp .Is) (fun x y H Q=>y=.non/\Q (.bl (decide (x=.non))) H):=by
 intro pins s σ H x y v u Q I rx ry h
 obtain ⟨rfl,q⟩:=h
 cases ry
 refine is_none_gen (dW I q ?_)
 cases x <;> first
  | (cases rx;rfl)
  | (obtain ⟨t,rfl⟩:=rx;rfl)
theorem ig.or {f:Value->Value->Sem Value}{r r':R2} (h:ig X f r) (h':ig X f r'):ig X f (fun x y H Q=>r x y H Q\/r' x y H Q):=by
 intro pins s σ H x y v u Q I rx ry q
 rcases q with q | q
 ·exact h pins s σ H x y v u Q I rx ry q
 ·exact h' pins s σ H x y v u Q I rx ry q
theorem D0 {op:CmpOp}{r:R2} (ho:ig X (compareOp op) r) (ha:PE X a ta) (hb:PE X b tb) (hm:behindInMarks op b=false):PE X (.Compare a [op] [b] pos) (Kc r ta tb):=by
 intro pins s σ H Q I h
 exact wpAny_Compare1 (FQ ha hb I h fun v u s2 x y H2 I2 rx ry q=>ho pins s2 σ H2 x y v u Q I2 rx ry q) hm
def Ab (t:TE):TT:=fun σ H Q=>t σ H fun x H'=>∃ k,x=.bl k/\Q k H'
theorem DM {op:CmpOp}{r:R2} (ho:ig X (compareOp op) r) (ha:PE X a ta) (hb:PE X b tb) (hm:behindInMarks op b=false):PT X (.Compare a [op] [b] pos) (Ab (Kc r ta tb)):=by
 intro pins s σ H Q I h
 refine wpAny_isTrue_Compare1 (cI (ha pins s σ H _ I h) fun v s1 ⟨x,H1,I1,r1,q1⟩=>cI (hb pins s1 σ H1 _ I1 q1) fun u s2 ⟨y,H2,I2,r2,q2⟩=>
  cI (ho pins s2 σ H2 x y v u _ I2 r1 r2 q2) fun c s3 ⟨z,H3,I3,r3,k,e,q3⟩=>?_) hm
 subst e
 cases r3
 exact Md ⟨H3,I3,q3⟩
def vQ (r r':R2) (ta tb tc:TE):TE:=fun σ H Q=>ta σ H fun x H1=>tb σ H1 fun y H2=>r x y H2 fun z H3=>∃ k,z=.bl k /\
 (if k=true then tc σ H3 fun w' H4=>r' y w' H4 Q else Q (.bl false) H3)
theorem BK {op op':CmpOp}{r r':R2} (ho:ig X (compareOp op) r) (ho':ig X (compareOp op') r') (ha:PE X a ta) (hb:PE X b tb) (hc:PE X c tc)
  (hm:lastMarks [op,op'] [b,c]=false:=by with_unfolding_all rfl):PE X (.Compare a [op,op'] [b,c] pos) (vQ r r' ta tb tc):=by
 intro pins s σ H Q I h
 refine Compare_chain (cI (ha pins s σ H _ I h) fun v s1 ⟨x,H1,I1,r1,q1⟩=>chain_link (cI (hb pins s1 σ H1 _ I1 q1) fun u s2 ⟨y,H2,I2,r2,q2⟩=>
  cI (ho pins s2 σ H2 x y v u _ I2 r1 r2 q2) fun d s3 ⟨z,H3,I3,r3,k,e,q3⟩=>?_)) hm
 subst e
 cases r3
 refine Md ?_
 cases k with
 | false=>exact ite_ff ⟨.bl false,H3,I3,rfl,q3⟩
 | true=>exact ite_tt (chain_last (cI (hc pins s3 σ H3 _ I3 q3) fun w' s4 ⟨z',H4,I4,r4,q4⟩=>ho' pins s4 σ H4 y z' u w' Q I4 r2 r4 q4))
theorem BC {op op':CmpOp}{r r':R2} (ho:ig X (compareOp op) r) (ho':ig X (compareOp op') r') (ha:PE X a ta) (hb:PE X b tb) (hc:PE X c tc)
  (hm:lastMarks [op,op'] [b,c]=false:=by with_unfolding_all rfl):PT X (.Compare a [op,op'] [b,c] pos) (Ab (vQ r r' ta tb tc)):=by
 intro pins s σ H Q I h
 refine isTrue_chain (cI (ha pins s σ H _ I h) fun v s1 ⟨x,H1,I1,r1,q1⟩=>test_link (cI (hb pins s1 σ H1 _ I1 q1) fun u s2 ⟨y,H2,I2,r2,q2⟩=>
  cI (ho pins s2 σ H2 x y v u _ I2 r1 r2 q2) fun d s3 ⟨z,H3,I3,r3,k,e,q3⟩=>?_)) hm
 subst e
 cases r3
 refine Md ?_
 cases k with
 | false=>
  obtain ⟨k',e',q'⟩:=q3
  cases e'
  exact ite_ff ⟨H3,I3,q'⟩
 | true=>
  refine ite_tt (test_last (cI (hc pins s3 σ H3 _ I3 q3) fun w' s4 ⟨z',H4,I4,r4,q4⟩=>cI (ho' pins s4 σ H4 y z' u w' _ I4 r2 r4 q4) fun d' s5 ⟨z2,H5,I5,r5,k2,e2,q5⟩=>?_))
  subst e2
  cases r5
  exact Md ⟨H5,I5,q5⟩
def FR (K:W.Frag) (x:V) (H:Hp) (k:Bool):Prop:=
 match x with
 | .non=>k=false
 | .bl b=>k=b
 | .int i=>k=(i != 0)
 | .str y=>y.length<=sizeLine/\k=((y.length:Int) != 0)
 | .byt y=>y.size<=sizeLine/\k=((y.size:Int) != 0)
 | .ref p=>(∃ xs,fw K H p xs/\k=!xs.isEmpty)\/(∃ xs,fY K H p xs/\k=!xs.isEmpty)\/∃ kvs,H p=some (.dK kvs)/\k=!kvs.isEmpty
 | _=>False
theorem wK {κ:Type}{kvs:List (κ × V)}{vs:List (κ × Value)} (r:KV kvs vs):(!vs.isEmpty)=!kvs.isEmpty:=by
 cases r <;> rfl
theorem pO {xs:List V}{its:List Value} (r:aY xs its):(!its.toArray.isEmpty)=!xs.isEmpty:=by
 cases r <;> simp
theorem mz:(sizeLine:Nat)<2 ^ 63:=by rw [My];decide
theorem F9:Lb X (fun x H Q=>∃ k,FR X.K x H k/\Q k H):=by
 intro pins s σ H x v Q I rx h
 obtain ⟨k,e,q⟩:=h
 have hl:=mz
 have hs:sizeLine=16777216:=My
 cases x with
 | non=>
  cases rx
  have e':k=false:=e
  subst e'
  exact truthy_none ⟨H,I,q⟩
 | bl b=>
  cases rx
  have e':k=b:=e
  subst e'
  exact Md ⟨H,I,q⟩
 | int i=>
  obtain ⟨t,rfl⟩:=rx
  have e':k=(i != 0):=e
  subst e'
  exact PySem.P.truthy_int ⟨H,I,q⟩
 | str y=>
  obtain ⟨t,rfl⟩:=rx
  obtain ⟨hy,e'⟩:y.length<=sizeLine/\k=((y.length:Int) != 0):=e
  subst e'
  exact PySem.P.truthy_str (by omega) ⟨H,I.tok _,q⟩
 | byt y=>
  obtain ⟨t,rfl⟩:=rx
  obtain ⟨hy,e'⟩:y.size<=sizeLine/\k=((y.size:Int) != 0):=e
  subst e'
  exact W.truthy_bytes (by omega) ⟨H,I.tok _,q⟩
 | ref p=>
  cases rx
  have e':(∃ xs,fw X.K H p xs/\k=!xs.isEmpty)\/(∃ xs,fY X.K H p xs/\k=!xs.isEmpty)\/∃ kvs,H p=some (.dK kvs)/\k=!kvs.isEmpty:=e
  rcases e' with ⟨xs,hx,e'⟩ | ⟨xs,hx,e'⟩ | ⟨kvs,hx,e'⟩
  ·subst e'
   obtain ⟨its,r,pl,hz⟩:=I.list hx
   have hlen:=r.length
   exact wpAny_truthy_list pl.isList (by simp only [Mz];omega) ⟨H,I.tok _,by rw [pO r];exact q⟩
  ·subst e'
   obtain ⟨its,r,pl,hz⟩:=I.tuple hx
   have hlen:=r.length
   exact truthy_tuple pl (by simp only [Mz];omega) ⟨H,I.tok _,by rw [pO r];exact q⟩
  ·subst e'
   obtain ⟨hz,hS,vs,r,m⟩:kvs.length<=sizeLine/\(p == sysModules)=false/\∃ vs,KV kvs vs/\s.heap.DictOf (sA X.prog X.w) p vs:=I.hok p _ hx
   have hlen:kvs.length=vs.length:=Paired.length r
   exact wpAny_truthy_dict hS m (by omega) ⟨H,I.tok _,by rw [wK r];exact q⟩
 | _=>exact (show False from e).elim
theorem BB (ha:PE X a ta) (he:∀ whole,isTrue a X.env whole=(do let v <- whole;standAt a.pos;holding [v] (truthy v))) :
  PT X a (fun σ H Q=>ta σ H fun x H'=>∃ k,FR X.K x H' k/\Q k H'):=by
 intro pins s σ H Q I h
 exact isTrue_plain (cI (ha pins s σ H _ I h) fun v s1 ⟨x,H1,I1,r1,q1⟩=>F9 pins s1 σ H1 x v Q I1 r1 q1) (he _)
theorem wC:ig X (binaryOp .Add) (fun x y H Q=>∃ i j,x=.str i/\y=.str j/\i.length+j.length<=sizeLine/\Q (.str (i++j)) H):=by
 intro pins s σ H x y v u Q I rx ry h
 obtain ⟨i,j,rfl,rfl,hz,q⟩:=h
 obtain ⟨t,rfl⟩:=rx
 obtain ⟨t',rfl⟩:=ry
 exact add_str (fun t' tk=>⟨.str (i++j),H,I.tok _,⟨_,rfl⟩,q⟩) hz
theorem eQ {x:V}{us:List Value} (r:aY [x] us):∃ u,us=[u]/\bF x u:=by
 cases r with
 | cons r1 r2=>cases r2;exact ⟨_,rfl,r1⟩
theorem z7 {x y:V}{us:List Value} (r:aY [x,y] us):∃ u w',us=[u,w']/\bF x u/\bF y w':=by
 cases r with
 | cons r1 r2=>
  cases r2 with
  | cons r3 r4=>cases r4;exact ⟨_,_,rfl,r1,r3⟩
theorem zz (hc:X.calm=true):cj X (.builtin "max") (fun xs H Q=>∃ i j,xs=[.int i,.int j]/\Q (.int (if j > i then j else i)) H):=by
 intro pins s σ H xs us Q I r h
 obtain ⟨i,j,rfl,q⟩:=h
 obtain ⟨u,w',rfl,⟨t,rfl⟩,⟨t',rfl⟩⟩:=z7 r
 refine max_two_ints (I.ok.hd hc) fun h' tk k=>⟨_,H,I.kept k,?_,q⟩
 by_cases hj:j > i
 ·rw [LL hj,LL hj];exact ⟨_,rfl⟩
 ·rw [LM hj,LM hj];exact ⟨_,rfl⟩
theorem zx (hc:X.calm=true):cj X (.builtin "min") (fun xs H Q=>∃ i j,xs=[.int i,.int j]/\Q (.int (if j<i then j else i)) H):=by
 intro pins s σ H xs us Q I r h
 obtain ⟨i,j,rfl,q⟩:=h
 obtain ⟨u,w',rfl,⟨t,rfl⟩,⟨t',rfl⟩⟩:=z7 r
 refine min_two_ints (I.ok.hd hc) fun h' tk k=>⟨_,H,I.kept k,?_,q⟩
 by_cases hj:j<i
 ·rw [LL hj,LL hj];exact ⟨_,rfl⟩
 ·rw [LM hj,LM hj];exact ⟨_,rfl⟩
theorem zD:cj X (.type "int") (fun xs H Q=>(∃ i,xs=[.int i]/\Q (.int i) H)\/∃ k,xs=[.bl k]/\Q (.int (if k then 1 else 0)) H):=by
 intro pins s σ H xs us Q I r h
 rcases h with ⟨i,rfl,q⟩ | ⟨k,rfl,q⟩
 ·obtain ⟨u, rfl, t, rfl⟩ := eQ r
  exact call_int_int ⟨.int i,H,I,⟨_,rfl⟩,q⟩
 ·obtain ⟨u, rfl, r1⟩ := eQ r
  cases r1
  exact call_int_bool ⟨.int (if k then 1 else 0),H,I.tok _,⟨_,rfl⟩,q⟩
def FU (K:W.Frag) (x:V) (H:Hp) (n:Nat):Prop:=
 match x with
 | .str y=>y.length<=sizeLine/\n=y.length
 | .byt y=>y.size<=sizeLine/\n=y.size
 | .ref p=>(∃ xs,fw K H p xs/\n=xs.length)\/∃ xs,fY K H p xs/\n=xs.length
 | _=>False
theorem Co:cj X (.builtin "len") (fun xs H Q=>∃ x n,xs=[x]/\FU X.K x H n/\Q (.int n) H):=by
 intro pins s σ H xs us Q I r h
 obtain ⟨x,n,rfl,e,q⟩:=h
 obtain ⟨u,rfl,rx⟩:=eQ r
 have hl:=mz
 have hs:sizeLine=16777216:=My
 cases x with
 | str y=>
  obtain ⟨t,rfl⟩:=rx
  obtain ⟨hy,e'⟩:y.length<=sizeLine/\n=y.length:=e
  subst e'
  exact len_str (by omega) ⟨.int _,H,I.tok _,⟨_,rfl⟩,q⟩
 | byt y=>
  obtain ⟨t,rfl⟩:=rx
  obtain ⟨hy,e'⟩:y.size<=sizeLine/\n=y.size:=e
  subst e'
  exact W.len_bytes (by omega) ⟨.int _,H,I.tok _,⟨_,rfl⟩,q⟩
 | ref p=>
  cases rx
  have e':(∃ xs,fw X.K H p xs/\n=xs.length)\/∃ xs,fY X.K H p xs/\n=xs.length:=e
  rcases e' with ⟨xs,hx,e'⟩ | ⟨xs,hx,e'⟩
  ·subst e'
   obtain ⟨its,r',pl,hz⟩:=I.list hx
   have hlen:=r'.length
   exact Calls.call_len_list pl.isList (by simp only [Mz];omega) ⟨.int xs.length,H,I.tok _,⟨_,by simp only [Mz];rw [hlen]⟩,q⟩
  ·subst e'
   obtain ⟨its,r',pl,hz⟩:=I.tuple hx
   have hlen:=r'.length
   exact len_tuple pl (by simp only [Mz];omega) ⟨.int xs.length,H,I.tok _,⟨_,by simp only [Mz];rw [hlen]⟩,q⟩
 | _=>exact (show False from e).elim
end
end L2
namespace L2
open PySem PySem.Spec PyProof.Rows
structure LC (h:Heap) (x dx C:Addr) (mA:Str->Option Value):Prop where
 obj:h.get? x=some (W.instObj C dx)
 ns:h.Ns1 dx mA
 ne:dx≠x
section
variable {prog:Program}{w:World}{A:Around}{E:Value->Shared->Prop}{s:Shared}{K:W.Frag}{x dx C f:Addr}{mA:Str->Option Value}{name:Str}{v:Value}
end
section
variable {P:Program}{w:World}{H H':Hp}{h h':Heap}{a C dx:Addr}{fs fs':List (Str × V)}
end
structure LB (K:W.Frag) (C:Addr):Prop where
 pg:W.plainGet K C Str.empty=true
 hd:W.hasDictIn K C=true
 po:W.plainOver K C=true
 sa:W.findIn K (.ref C) "__setattr__" = some (some (.builtin "object.__setattr__"))
structure LG (K:W.Frag) (C:Addr) (f:Str) (v:V) (u:Value):Prop where
 at_:W.findIn K (.ref C) f=some (some u)
 rel:bF v u
 get:W.specialIn K u "__get__" = some none
 cp:W.copiedNames.contains f=false
structure LD (K:W.Frag) (C:Addr) (m:Str) (f:Addr):Prop where
 at_:W.findIn K (.ref C) m=some (some (.ref f))
 fn:W.isFn K (.ref f)=true
 kp:W.keepIn K (.ref f)=true
section
variable {X:Cx}{pins:List (Addr × Obj)}{σ:St}{H:Hp}{s:Shared}{a C dx:Addr}{fs:List (Str × V)}{f:Str}{v:V}{A:Around}{E:Value->Shared->Prop}
end
section
variable {X:Cx}{o e value:Expr}{f:Str}{pos pos' tpos:Pos}{ta tv:TE}
end
section
variable {X:Cx}{pins:List (Addr × Obj)}{σ:St}{H:Hp}{s:Shared}{A:Around}{E:Value->Shared->Prop}{Q:Value->Shared->Prop}{c:Value}{b:Bool}
inductive oC (K:W.Frag) (H:Hp):V->Value->Prop where
 | non:oC K H .non (.type "NoneType")
 | bl (x:Bool):oC K H (.bl x) (.type "bool")
 | int (i:Int):oC K H (.int i) (.type "int")
 | str (x:Str):oC K H (.str x) (.type "str")
 | flt (x:UInt64):oC K H (.flt x) (.type "float")
 | lst {a:Addr}{xs:List V} (e:H a=some (.lst xs)):oC K H (.ref a) (.type "list")
 | frz {a:Addr}{o:Obj}{xs:List V} (e:H a=some (.frz o (.lst xs))):oC K H (.ref a) (.type "list")
 | tup {a:Addr}{xs:List V} (e:H a=some (.tup xs)):oC K H (.ref a) (.type "tuple")
 | dK {a:Addr}{kvs:List (rQ × V)} (e:H a=some (.dK kvs)):oC K H (.ref a) (.type "dict")
 | dT {a:Addr}{kvs:List (List rQ × V)} (e:H a=some (.dT kvs)):oC K H (.ref a) (.type "dict")
 | ins {a C dx:Addr}{fs:List (Str × V)} (e:H a=some (.ins C dx fs)) (cl:LB K C) (ha:W.findIn K (.ref C) "__class__" = some (some (.builtin "object.__class__")))
   (hn:W.specialIn K (.builtin "object.__class__") "__get__" = some (some (.builtin "getset_descriptor.__get__"))) (htk:W.takesIn K (.builtin "object.__class__")=some true)
   (hm:W.mroIn K C (.type "object")=some true):oC K H (.ref a) (.ref C)
end
end L2
namespace L2
open PySem PySem.Spec PyProof.Rows
structure fD (k:Nat) (A:Around):Prop where
 hd:A.handled=none
 dp:A.depth+3 * k+5<recursionLimit
 un:A.units+16 * k+200<cLine
 gd:A.guards=some []
theorem fD.mono {j k:Nat}{A:Around} (r:fD k A) (h:j<=k):fD j A:=⟨r.hd,by have:=r.dp;omega,by have:=r.un;omega,r.gd⟩
theorem fD.deeper {k:Nat}{A:Around} (r:fD (k+1) A) (env:Env):fD k (A.deeper env):=
 ⟨r.hd,by have:=r.dp;show A.depth+1+3 * k+5<_;omega,by have:=r.un;show A.units+3+16 * k+200<_;omega,r.gd⟩
theorem fD.depth {k:Nat}{A:Around} (r:fD k A):A.depth<recursionLimit:=by have:=r.dp;omega
theorem fD.units {k:Nat}{A:Around} (r:fD k A):A.units+64<cLine:=by have:=r.un;omega
def KH:TA:=fun _ H Q=>Q [] H
def Jy (ta:TE) (tr:TA):TA:=fun σ H Q=>ta σ H fun x H1=>tr σ H1 fun xs H2=>Q (x::xs) H2
section
variable {X:Cx}{e:Expr}{es:List Expr}{te:TE}{t:TA}{pos:Pos}
theorem oR:PA X [] KH:=fun _ _ _ _ H Q I h=>Calls.spliced_nil ⟨[],H,I,.nil,h⟩
theorem ik (ha:PE X e te) (hr:PA X es t) (hs:starEach (e::es) X.env=(false,eval e X.env)::starEach es X.env:=by rfl):PA X (e::es) (Jy te t):=by
 intro pos pins s σ H Q I h
 rw [hs]
 show wpAny _ _ (spliced ((false,eval e X.env)::backTo pos (starEach es X.env))) _ _ s
 refine Calls.spliced_cons (cI (ha pins s σ H _ I h) fun u s1 ⟨x,H1,I1,r1,q1⟩=>?_)
 exact cI (hr pos pins s1 σ H1 _ I1 q1) fun us s2 ⟨xs,H2,I2,r2,q2⟩=>⟨x::xs,H2,I2,.cons r1 r2,q2⟩
def KC (t:TA):TE:=fun σ H Q=>t σ H fun xs H1=>xs.length<=sizeLine/\∀ p,H1 p=none->Q (.ref p) (cn H1 p (.tup xs))
def KJ (t:TA):TE:=fun σ H Q=>t σ H fun xs H1=>xs.length<=sizeLine/\∀ p,H1 p=none->Q (.ref p) (cn H1 p (.lst xs))
theorem GZ {x1} (h:PA X es t):PE X (.Tuple es x1 pos) (KC t):=by
 intro pins s σ H Q I hq
 refine wpAny_Tuple_spliced (cI (h pos pins s σ H _ I hq) fun us s1 ⟨xs,H1,I1,r,z,q⟩=>⟨by rw [<- r.length];exact z,?_⟩)
 have hf:H1 s1.heap.objs.size=none:=I1.hok.fresh (Mt _)
 refine ⟨.ref s1.heap.objs.size,cn H1 s1.heap.objs.size (.tup xs),I1.laid (t':=s1.toks) (fun b u e=>Mr _ e) (Mt _) ?_,rfl,q _ hf⟩
 exact ⟨z,us,r,⟨_,Ms _ rfl,rfl,_,rfl⟩⟩
theorem G3 (h:PA X es t):PE X (.List es pos) (KJ t):=by
 intro pins s σ H Q I hq
 refine wpAny_List_spliced (cI (h pos pins s σ H _ I hq) fun us s1 ⟨xs,H1,I1,r,z,q⟩=>⟨by rw [<- r.length];exact z,?_⟩)
 have hf:H1 s1.heap.objs.size=none:=I1.hok.fresh (Mt _)
 refine ⟨.ref s1.heap.objs.size,cn H1 s1.heap.objs.size (.lst xs),I1.laid (t':=s1.toks) (fun b u e=>Mr _ e) (Mt _) ?_,rfl,q _ hf⟩
 exact ⟨z,us,0,r,Ms _ rfl⟩
end
abbrev Sp:=List V->Hp->VK->XK->Prop
abbrev tI:=List Env->Hp->Shared->XK->Value->Shared->Prop
structure yj (P:Program) (w:World) (K:W.Frag) (mg:Str->Option Value) (base:Heap) (A:Around) (outer:List Env) (s:Shared) (H:Hp):Prop where
 frames:A.frames=some outer
 mod:Mod K mg base
 bs:∀ b o,base.get? b=some o->s.heap.get? b=some o/\H b=none
 bsz:base.objs.size<=s.heap.objs.size
 funs:s.heap.FunFrames base outer
 frf:∀ b∈nh outer,H b=none
 hok:mi P w H s.heap
 bare:AllBare s.gens
def CE (outer:List Env) (P:Program) (w:World) (H:Hp) (s:Shared) (Q:VK) (u:Value) (s':Shared):Prop:=
 ∃ v H',s'.os=s.os/\AllBare s'.gens/\Un (nh outer) [] H H' s.heap s'.heap/\mi P w H' s'.heap/\bF v u/\Q v H'
def CR (CX:tI) (outer:List Env) (P:Program) (w:World) (H:Hp) (s:Shared) (Q:VK) (E:XK) (r:Result) (s':Shared):Prop:=
 match r with
 | .ok (.ret u)=>CE outer P w H s Q u s'
 | .ok _=>False
 | .error e=>CX outer H s E e s'
structure oD (P:Program) (w:World) (K:W.Frag) (mg:Str->Option Value) (base:Heap) (CX:tI) (k:Nat) (f:Addr) (fd:FuncData) (ps:List Str) (sp:Sp):Prop where
 len:∀ vs H Q E,sp vs H Q E->vs.length=ps.length
 run:∀ (A:Around) (outer:List Env) (s:Shared) (H:Hp) (args:Args) (us:List Value) (vs:List V) (Q:VK) (E:XK),fD k A->yj P w K mg base A outer s H->BindsTo s fd args (ps.zip us)->aY vs us->sp vs H Q E ->
  codeAny (model P w) A (.call (.ref f) args) (CR CX outer P w H s Q E) s
section
variable {X:Cx}{pins:List (Addr × Obj)}{σ:St}{H:Hp}{s s':Shared}
theorem aS.env0 (I:aS X pins σ H s):yj X.prog X.w X.K X.mg X.base X.A X.stack s H:=
 ⟨I.ok.frames,I.ok.mod,I.bs,LV I.ok.bsz I.sz,I.stack,I.stkFree,I.hok,I.bare⟩
theorem aS.after {Q:VK}{u:Value} (I:aS X pins σ H s) (h:CE X.stack X.prog X.w H s Q u s'):EP X pins σ Q u s':=by
 obtain ⟨v,H',os,bare,un,hok,r,q⟩:=h
 obtain ⟨hh,g,d,t,os'⟩:=s'
 obtain rfl:os'=s.os:=os
 exact ⟨v,H',I.call (h':=hh) (g':=g) (d':=d) (t':=t) (ch:=[]) un hok bare (fun b z=>absurd z (by simp)),r,q⟩
end
def E5 (sp:Sp) (dvs:List V) (E:XK) (t:TA):TE:=fun σ H Q=>t σ H fun vs H1=>sp (vs++dvs) H1 Q E
def f7 (K:W.Frag) (fd:FuncData) (ps:List Str) (ds:List Value):Prop:=
 ∀ (s:Shared) (us:List Value),K.In s.heap->(us++ds).length=ps.length->BindsTo s fd ⟨us,[]⟩ (ps.zip (us++ds))
theorem f7.all {K:W.Frag}{fd:FuncData}{ps:List Str} (h:∀ us:List Value,us.length=ps.length->bindArgs fd ⟨us,[]⟩=pure (ps.zip us)):f7 K fd ps []:=fun s us _ hl=>by
 rw [MC] at hl ⊢
 exact .of_eq (h us hl)
def jJ (CX:tI) (X:Cx) (E:XK):Prop:=∀ (pins:List (Addr × Obj)) (σ:St) (H:Hp) (s:Shared) (e:Value) (s':Shared),aS X pins σ H s->CX X.stack H s E e s'->X.xe e s'
section
variable {X:Cx}{CX:tI}{k:Nat}{f C:Addr}{fd:FuncData}{ps:List Str}{sp:Sp}{dvs:List V}{ds:List Value}{E:XK}{x m:Str}{p pos apos:Pos}{e o:Expr}{es:List Expr}{ta:TE}{t:TA}
theorem GH {pins:List (Addr × Obj)}{σ:St}{H:Hp}{s:Shared}{Q:VK}{us:List Value}{vs:List V} (F:oD X.prog X.w X.K X.mg X.base CX k f fd ps sp) (hr:fD k X.A) (hb:f7 X.K fd ps ds) (hd:aY dvs ds) (hx:jJ CX X E)
  (I:aS X pins σ H s) (r:aY vs us) (h:sp (vs++dvs) H Q E):wpAny (model X.prog X.w) X.A (call (.ref f) us) (EP X pins σ Q) X.xe s:=by
 have r2:aY (vs++dvs) (us++ds):=r.append hd
 have hl:(us++ds).length=ps.length:=by rw [<- r2.length];exact F.len _ _ _ _ h
 refine MD (MF (F.run X.A X.stack s H ⟨us,[]⟩ (us++ds) (vs++dvs) Q E hr I.env0 (hb s us I.kIn hl) r2 h) fun r s' hq=>?_)
 cases r with
 | error e=>exact hx pins σ H s e s' I hq
 | ok fl=>
  cases fl with
  | ret u=>exact I.after hq
  | next=>exact False.elim hq
  | brk=>exact False.elim hq
  | cont=>exact False.elim hq
theorem sx (F:oD X.prog X.w X.K X.mg X.base CX k f fd ps sp) (hr:fD k X.A) (hg:Gl X x) (hm:X.mg x=some (.ref f)) (hk:W.keepIn X.K (.ref f)=true) (hb:f7 X.K fd ps ds) (hd:aY dvs ds) (hx:jJ CX X E)
  (ha:PA X (e::es) t) (hdb:(x == ("__debug__" : Str))=false:=by decide) (he:starEach (e::es) X.env=(false,eval e X.env)::starEach es X.env:=by rfl) (hpl:(backTo pos (starEach es X.env)).any (·.1)=false:=by rfl) :
  PE X (.Call (.Name x p) (e::es) [] pos) (E5 sp dvs E t):=by
 intro pins s σ H Q I h
 refine MH (lI I hg hm ?_ hdb)
 refine W.callWith_K (h₀:=X.base) I.ok.mod.kin hk (cI (ha pos pins s σ H _ I h) fun us s1 ⟨vs,H1,I1,r,q⟩=>⟨I1.kIn,?_⟩) he hpl
 exact GH F hr hb hd hx I1 r q
structure Mk (K:W.Frag) (C f:Addr):Prop where
 makes:W.makesIn K C=true
 init:W.findIn K (.ref C) "__init__" = some (some (.ref f))
 fn:W.isFn K (.ref f)=true
 kp:W.keepIn K (.ref C)=true
end
section
variable {X:Cx}{CX:tI}{k:Nat}{f C:Addr}{fd:FuncData}{ps ks:List Str}{sp:Sp}{E:XK}{x m:Str}{p pos apos kpos:Pos}{e o:Expr}{es:List Expr}{kws:List Keyword}{te ta:TE}{t tk:TA}{nm:Option Str}
structure Le (K:W.Frag) (fd:FuncData) (ps ks:List Str) (g:List Value->List Value->List Value) (gV:List V->List V->List V):Prop where
 to:∀ (s:Shared) (us ws:List Value),K.In s.heap->(g us ws).length=ps.length->BindsTo s fd ⟨us,ks.zip ws⟩ (ps.zip (g us ws))
 rel:∀ {vs:List V}{us:List Value}{zs:List V}{ws:List Value},aY vs us->aY zs ws->aY (gV vs zs) (g us ws)
variable {g:List Value->List Value->List Value}{gV:List V->List V->List V}
end
structure aR (N P:List Str) (sc:Scope):Prop where
 kind:sc.kind=.function
 co:sc.isCoroutine=false
 gen:sc.isGenerator=false
 nd:N.Nodup
 pre:N.take P.length=P
 par:∀ x∈P,sc.names.lookup x=some .local\/sc.names.lookup x=some .cell
 nofree:∀ y∈sc.names,y.2≠.free
theorem rK {kindOf:Str->Option NameKind}{x:Str}:∀ {binds:List (Str × Value)}{m:Str->Option Value},(∀ v,(x,v) ∉ binds)->bindL kindOf binds m x=m x
 | [],_,_=>rfl
 | (n,v)::r,m,h=>by
  unfold bindL
  rw [rK fun w hw=>h w (LZ _ hw)]
  split
  ·have : x ≠ n := by rintro rfl; exact h v LY
   simp [this]
  ·rfl
theorem rL {kindOf:Str->Option NameKind}{x:Str}:∀ {binds:List (Str × Value)}{m:Str->Option Value},(∀ v,(x,v) ∉ binds)->bindC kindOf binds m x=m x
 | [],_,_=>rfl
 | (n,v)::r,m,h=>by
  unfold bindC
  rw [rL fun w hw=>h w (LZ _ hw)]
  split
  ·rfl
  ·have : x ≠ n := by rintro rfl; exact h v LY
   simp [this]
theorem mU {kindOf:Str->Option NameKind}{x:Str}{v:Value}:∀ {P:List Str}{vs:List Value}{i:Nat}{m:Str->Option Value},P.Nodup->P[i]?=some x->vs[i]?=some v->kindOf x=some .local ->
  bindL kindOf (P.zip vs) m x=some v
 | [],_,_,_,_,h,_,_=>by simp at h
 | _::_,[],_,_,_,_,h,_=>by simp at h
 | p::P,w::vs,0,m,nd,h1,h2,hk=>by
  simp at h1 h2;subst h1;subst h2
  show bindL kindOf ((p,w)::P.zip vs) m p=_
  unfold bindL
  rw [rK fun v hv=>(MJ.mp nd).1 (MK hv).1,LL hk]
  simp
 | p::P,w::vs,i+1,m,nd,h1,h2,hk=>by
  show bindL kindOf ((p,w)::P.zip vs) m x=_
  unfold bindL
  exact mU (i:=i) (MJ.mp nd).2 (by simpa using h1) (by simpa using h2) hk
theorem mV {kindOf:Str->Option NameKind}{x:Str}{v:Value}:∀ {P:List Str}{vs:List Value}{i:Nat}{m:Str->Option Value},P.Nodup->P[i]?=some x->vs[i]?=some v->kindOf x≠some .local ->
  bindC kindOf (P.zip vs) m x=some v
 | [],_,_,_,_,h,_,_=>by simp at h
 | _::_,[],_,_,_,_,h,_=>by simp at h
 | p::P,w::vs,0,m,nd,h1,h2,hk=>by
  simp at h1 h2;subst h1;subst h2
  show bindC kindOf ((p,w)::P.zip vs) m p=_
  unfold bindC
  rw [rL fun v hv=>(MJ.mp nd).1 (MK hv).1,LM hk]
  simp
 | p::P,w::vs,i+1,m,nd,h1,h2,hk=>by
  show bindC kindOf ((p,w)::P.zip vs) m x=_
  unfold bindC
  exact mV (i:=i) (MJ.mp nd).2 (by simpa using h1) (by simpa using h2) hk
def start (N:List Str) (vs:List V):St:=vs.map some++List.replicate (N.length - vs.length) none
def oB (CX:tI) (P:Program) (w:World) (K:W.Frag) (mg:Str->Option Value) (base:Heap) (N:List Str) (qual:Str) (scope:Scope) (f:Addr) (cd:Value) (A:Around) (outer:List Env) (s:Shared) (H:Hp) (E:XK):Cx where
 prog:=P
 w:=w
 K:=K
 mg:=mg
 base:=base
 A:=A.deeper (envOfC qual scope s.heap.objs.size f cd)
 N:=N
 s₀:=s
 H₀:=H
 env:=envOfC qual scope s.heap.objs.size f cd
 outer:=outer
 stack:=envOfC qual scope s.heap.objs.size f cd::outer
 ex:=[]
 calm:=true
 fn:=fun _=>true
 pn:=[]
 xe:=fun e s'=>wpAny (model P w) (A.deeper (envOfC qual scope s.heap.objs.size f cd)) (leaving (envOfC qual scope s.heap.objs.size f cd) e) (fun _ s''=>CX outer H s E e s'') (fun e' s''=>CX outer H s E e' s'') s'
theorem lR {sc:Scope}{n:Nat}{x:Str} (h:sc.names.lookup x=some .cell):∃ c,(cellsFrom n sc.names []).lookup x=some c:=by
 have q:=W.cellsFrom_some sc.names n [] (.inl h)
 exact ML.mp q
theorem zc {CX:tI}{P:Program}{w:World}{K:W.Frag}{mg:Str->Option Value}{base:Heap}{N ps:List Str}{qual:Str}{scope:Scope}{f:Addr}{cd:Value}{A:Around}{outer:List Env}{s s1:Shared}{H:Hp}{E:XK}{us:List Value}{vs:List V}
  (S:aR N ps scope) (hd:A.handled=none) (e0:yj P w K mg base A outer s H) (hl:vs.length=ps.length) (r:aY vs us)
  (x:InCallC s s.heap.objs.size (bindL (envOfC qual scope s.heap.objs.size f cd).kindOf (ps.zip us) fun _=>none) (cellsFrom (s.heap.objs.size+1) scope.names []) (bindC (envOfC qual scope s.heap.objs.size f cd).kindOf (ps.zip us) fun _=>none) s1) :
  aS (oB CX P w K mg base N qual scope f cd A outer s H E) [] (start N vs) H s1:=by
 have hpl:ps.length<=N.length:=by have:=Mf List.length S.pre;rw [MM] at this;omega
 obtain ⟨h1,tk,rfl,hk⟩:=x.done
 have noA:∀ b:Addr,b ∉ (oB CX P w K mg base N qual scope f cd A outer s H E).ex:=fun b z=>absurd (show b∈([]:List Addr) from z) (by simp)
 refine ⟨⟨e0.mod,S.kind,rfl,rfl,Mt _,fun y z c h1 h2=>?_,fun y hy=>?_,fun y c _ h=>?_,fun _=>hd,Around.frames_deeper e0.frames,.inr ⟨rfl,rfl⟩,fun b z=>absurd z (noA b),e0.bs,e0.bsz,fun b _ _=>noA b,fun b z=>absurd z (noA b),e0.funs,e0.frf⟩,
  rfl,e0.bare,Un.kept hk,⟨_,x.toInCall.ns,fun i y v h1 h2 h3=>?_⟩,fun y c h=>⟨_,x.cell y c h⟩,e0.hok.fresh (Mt _),fun y c h=>?_,fun p hp=>absurd (show p∈([]:List (Addr × Obj)) from hp) (by simp),e0.hok.kept hk,?_⟩
 ·exact name_of_addr x.apart (MN h1) (MN h2)
 ·have hy : scope.names.lookup y = some .cell \/ scope.names.lookup y = some .free := hy
  rcases hy with hy | hy
  ·exact lR hy
  ·exact absurd rfl (S.nofree _ (MN hy))
 ·exact LW (x.above y c (MN h))
 ·have hi:i<vs.length:=by
   unfold start at h2
   by_cases hi:i<vs.length
   ·exact hi
   ·rw [MP (by simpa using hi)] at h2
    rw [MQ] at h2
    split at h2 <;> cases h2
  have ha:vs[i]?=some v:=by
   unfold start at h2
   rw [MR (by simpa using hi),MU] at h2
   cases e:vs[i]? with
   | none=>rw [e] at h2;cases h2
   | some a=>rw [e] at h2;cases h2;rfl
  obtain ⟨u,hu,rv⟩:=r.get ha
  have hp:ps[i]?=some y:=by
   rw [<- S.pre,MV (by omega)];exact h1
  have ndP:ps.Nodup:=by rw [<- S.pre];exact S.nd.sublist (List.take_sublist _ _)
  refine ⟨u,rv,?_⟩
  rcases S.par y (MW hp) with k | k
  ·exact .inl ⟨k,mU ndP hp hu k⟩
  ·obtain ⟨c, e⟩ := lR (n := s.heap.objs.size + 1) k
   refine .inr ⟨.inl k,c,e,?_⟩
   have q:=x.cell y c e
   rw [mV ndP hp hu (by show scope.names.lookup y≠_;rw [k];decide)] at q
   exact q
 ·exact e0.hok.fresh (LW (x.above y c (MN h)))
 ·unfold start
  show _=N.length
  rw [MX,MY,List.length_replicate]
  omega
theorem Ft {CX:tI}{P:Program}{w:World}{K:W.Frag}{mg:Str->Option Value}{base:Heap}{k:Nat}{f:Addr}{name qual:Str}{params:Arguments}{body:List Stmt}{scope:Scope}{dV kV doc pm cdv ct oc:Value}{an od:Option Addr}
  {osl:Array (Option Value)}{N ps:List Str}{sp:Sp} (lk:K.lookup f=some ⟨oc,od,.func (W.fnOf name qual params body scope dV kV doc pm an cdv ct),osl⟩) (hcd:W.codeIn K cdv qual=true) (S:aR N ps scope)
  (len:∀ vs H Q E,sp vs H Q E->vs.length=ps.length)
  (hbody : ∀ (A : Around) (outer : List Env) (s : Shared) (H : Hp) (vs : List V) (Q : VK) (E : XK), fD k (A.deeper (envOfC qual scope s.heap.objs.size f cdv)) -> sp vs H Q E ->
   ∃ t,iA (oB CX P w K mg base N qual scope f cdv A outer s H E) body t/\t { nx:=fun _ H'=>Q .non H',rt:=Q } (start N vs) H) :
  oD P w K mg base CX (k+1) f (W.fnOf name qual params body scope dV kV doc pm an cdv ct) ps sp:=by
 refine ⟨len,fun A outer s H args us vs Q E hr e0 hb r hsp=>?_⟩
 have hl:=len _ _ _ _ hsp
 have KX:K.In s.heap:=e0.mod.kin.keeps fun b o e=>(e0.bs b o e).1
 have lim:s.heap.NoLimit:=e0.mod.nolimit.keeps fun b o e=>(e0.bs b o e).1
 have hkind:∀ y∈ps.zip us,scope.names.lookup y.1=some .local\/(scope.names.lookup y.1=some .cell/\((cellsFrom (s.heap.objs.size+1) scope.names []).lookup y.1).isSome=true):=fun ⟨n,v⟩ hy=>by
  rcases S.par n (MK hy).1 with q | q
  ·exact .inl q
  ·exact .inr ⟨q,W.cellsFrom_some _ _ _ (.inl q)⟩
 refine codeAny_call_function hr.depth (KX _ _ lk) rfl S.co S.gen rfl (W.codeRec_of KX hcd) (hb _ _ _ _ ?_)
 refine wpAny_newFunctionEnv_cells S.kind hkind fun env he s1 x=>?_
 subst he
 refine ⟨lim.keeps x.toInCall.keep,codeAny_func ?_⟩
 obtain ⟨t,ht,hq⟩:=hbody A outer s H vs Q E (hr.deeper _) hsp
 have I:aS (oB CX P w K mg base N qual scope f cdv A outer s H E) [] (start N vs) H s1:=zc S hr.hd e0 hl r x
 refine Mc (ht [] s1 (start N vs) H _ I hq) (fun fl s' hs=>?_) fun e s' hs=>hs
 have fin:∀ {σ':St}{H':Hp}{v:V}{u:Value},aS (oB CX P w K mg base N qual scope f cdv A outer s H E) [] σ' H' s'->bF v u->Q v H'->CE outer P w H s Q u s':=
  fun {σ' H' v u} J rv q=>⟨v,H',J.os,J.bare,J.base,J.hok,rv,q⟩
 cases fl with
 | ret u=>
  obtain ⟨v,σ',H',J,rv,q⟩:=hs
  exact fin J rv q
 | next=>
  obtain ⟨σ',H',J,q⟩:=hs
  exact fin (v:=V.non) (u:=Value.none) J rfl q
 | brk=>
  obtain ⟨_,_,_,q⟩:=hs
  exact False.elim q
 | cont=>
  obtain ⟨_,_,_,q⟩:=hs
  exact False.elim q
end L2
namespace L2
open PySem PySem.Spec PyProof.Rows
section
variable {X:Cx}{x:Str}{p pos:Pos}{e:Expr}{es:List Expr}{t:TA}{id T:String}{r:List V->Hp->VK->Prop}
def Kv (r:List V->Hp->VK->Prop) (t:TA):TE:=fun σ H Q=>t σ H fun vs H1=>r vs H1 Q
theorem lO (hc:cj X (.builtin id) r) (hg:Gl X x) (hm:X.mg x=none) (hv:bootBuiltins x=some (.builtin id)) (ha:PA X (e::es) t) (hn:x ≠ "__name__" := by decide) (hdb:(x == ("__debug__" : Str))=false:=by decide)
  (he:starEach (e::es) X.env=(false,eval e X.env)::starEach es X.env:=by rfl) (hpl:(backTo pos (starEach es X.env)).any (·.1)=false:=by rfl):PE X (.Call (.Name x p) (e::es) [] pos) (Kv r t):=by
 intro pins s σ H Q I h
 refine MH (kO I hg hm hv ?_ hn hdb)
 exact PyProof.Rows.callWith_builtin1 (cI (ha pos pins s σ H _ I h) fun us s1 ⟨vs,H1,I1,r1,q1⟩=>hc pins s1 σ H1 vs us Q I1 r1 q1) he hpl
theorem qX (hc:cj X (.type T) r) (hg:Gl X x) (hm:X.mg x=none) (hv:bootBuiltins x=some (.type T)) (ha:PA X (e::es) t) (hn:x ≠ "__name__" := by decide) (hdb:(x == ("__debug__" : Str))=false:=by decide)
  (he:starEach (e::es) X.env=(false,eval e X.env)::starEach es X.env:=by rfl) (hpl:(backTo pos (starEach es X.env)).any (·.1)=false:=by rfl):PE X (.Call (.Name x p) (e::es) [] pos) (Kv r t):=by
 intro pins s σ H Q I h
 refine MH (kO I hg hm hv ?_ hn hdb)
 exact Mu (cI (ha pos pins s σ H _ I h) fun us s1 ⟨vs,H1,I1,r1,q1⟩=>hc pins s1 σ H1 vs us Q I1 r1 q1) he hpl
end
end L2
namespace HT
open PySem PyProof.Rows
section
open PySem.SeqAt
open PySem.AutoSeq1 (wpAny_loadPart')
open PySem.MeetsSeq PySem.MeetsSeq2 PySem.MeetsSeq3
end
section
variable {prog:Program}{w:World}{A:Around}{E:Value->Shared->Prop}{s:Shared}
theorem cat_tup {t b:Addr}{vs ws:List Value}{Q:Value->Shared->Prop} (ht:IsTup s.heap t vs.toArray) (hb:IsTup s.heap b ws.toArray) (hv:vs≠[])
  (h1:ws=[]->Q (.ref t) s) (h2:ws≠[]->Q (.ref s.heap.objs.size) { s with heap:=s.heap.push { cls:=.type "tuple",data:=.seq (vs++ws).toArray } })
  (hsz:vs.length+ws.length<=sizeLine):wpAny (model prog w) A (binaryOp .Add (.ref t) (.ref b)) Q E s:=by
 obtain ⟨⟨cls,dd,data,sl⟩,ho,hc,n,hd⟩:=id ht
 obtain ⟨⟨cls2,dd2,data2,sl2⟩,ho2,hc2,n2,hd2⟩:=id hb
 simp only at hc hd hc2 hd2
 subst hc hd hc2 hd2
 have e:vs.toArray++ws.toArray=(vs++ws).toArray:=by simp
 by_cases hw:ws=[]
 ·exact concat_meets ⟨_,ho,rfl⟩ ⟨_,ho2,rfl⟩ MZ seq_tuple_add M7 M8 (M9 _ _)
   (tuple_addW1 t b vs.toArray ws.toArray n n2 dd dd2 sl sl2 (by simpa using hv) (by simp [hw])) ⟨ho,ho2,h1 hw⟩
 ·refine concat_meets ⟨_,ho,rfl⟩ ⟨_,ho2,rfl⟩ MZ seq_tuple_add M7 M8 (M9 _ _)
   (tuple_addW2 t b vs.toArray ws.toArray n n2 dd dd2 sl sl2 (by simpa using hv) (by simpa using hw) (by rw [Mz,Mz];exact hsz)) ⟨ho,ho2,?_⟩
  rw [e]
  exact h2 hw
def sIx (n d:Nat):Option Int->Nat
 | none=>d
 | some v=>if v<0 then (v+(n:Int)).toNat else min v.toNat n
theorem sIx_none (n d:Nat):sIx n d none=d:=rfl
theorem sIx_nat (n d k:Nat):sIx n d (some (k:Int))=min k n:=by
 show (if (k:Int)<0 then ((k:Int)+(n:Int)).toNat else min (k:Int).toNat n)=min k n
 rw [LM (by omega),Na]
theorem GG (n d:Nat) (hd:d<=n) (o:Option Int):sIx n d o<=n:=by
 cases o with
 | none=>exact hd
 | some v=>
  show (if v<0 then (v+(n:Int)).toNat else min v.toNat n)<=n
  by_cases hv:v<0
  ·rw [LL hv];omega
  ·rw [LM hv];exact Nb _ _
theorem xW (v:Int) (n d:Nat):(if v<0 then max (v+(n:Int)) 0 else min v (n:Int))=((sIx n d (some v):Nat):Int):=by
 show (if v<0 then max (v+(n:Int)) 0 else min v (n:Int))=(((if v<0 then (v+(n:Int)).toNat else min v.toNat n):Nat):Int)
 by_cases hv:v<0
 ·simp only [LL hv];omega
 ·simp only [LM hv];omega
theorem w9 (lo hi:Option Int) (n:Nat):Builtin.Slice.sliceAdjust lo hi 1 (n:Int)=(((sIx n 0 lo:Nat):Int),((sIx n n hi:Nat):Int)):=by
 have h1:¬ ((1:Int)<0):=by omega
 unfold Builtin.Slice.sliceAdjust
 simp only [h1,Nd]
 refine Prod.ext ?_ ?_
 ·cases lo with
  | none=>rfl
  | some v=>exact xW v n 0
 ·cases hi with
  | none=>rfl
  | some v=>exact xW v n n
theorem wA (i j:Nat):Builtin.Slice.slicePlaces (i:Int) (j:Int) 1=j - i:=by
 unfold Builtin.Slice.slicePlaces
 have h1:(1:Int) > 0:=by omega
 simp only [h1,Nf,Int.ediv_one]
 split <;> omega
theorem pK {v:Value}{o:Option Int}{Q:Option Int->Shared->Prop} (p:IsPart v o) (h:Q o s):wpAny (model prog w) A (Builtin.Slice.slicePartIndex v) Q E s:=by
 cases p with
 | none=>exact Ng h
 | int i t=>exact slicePart_int h
theorem sliceApplied_gen {sl:Addr}{vl vu:Value}{lo hi:Option Int}{n:Nat}{Q:Int × Int × Nat->Shared->Prop} (hs:s.heap.IsSliceOf sl vl vu .none) (pl:IsPart vl lo) (pu:IsPart vu hi)
  (h:Q (((sIx n 0 lo:Nat):Int),1,sIx n n hi - sIx n 0 lo) s):wpAny (model prog w) A (Builtin.Slice.sliceApplied (.ref sl) (pure (n:Int))) Q E s:=by
 obtain ⟨os,hos,hcs,hds⟩:=id hs
 unfold Builtin.Slice.sliceApplied Builtin.Slice.sliceFields
 refine Mh (Mh (Nh hos hds (x:=vl) rfl (Mh (Nh hos hds (x:=vu) rfl (Mh (Nh hos hds (x:=.none) rfl (Mo ?_)))))))
 refine Mh (Ng ?_)
 show wpAny _ _ (if ((1:Int) == 0)=true then _ else _) _ _ s
 rw [LM (by decide)]
 refine Mh (pK pl (Mh (pK pu (Mh (Mo ?_)))))
 show wpAny _ _ (match Builtin.Slice.sliceAdjust lo hi 1 (n:Int) with | (lo,hi)=>pure (lo,(1:Int),Builtin.Slice.slicePlaces lo hi 1)) _ _ s
 rw [w9 lo hi n]
 show wpAny _ _ (pure (((sIx n 0 lo:Nat):Int),(1:Int),Builtin.Slice.slicePlaces ((sIx n 0 lo:Nat):Int) ((sIx n n hi:Nat):Int) 1)) _ _ s
 rw [wA]
 exact Mo h
theorem BG (xs:Array Value) (i k:Nat):((List.range k).filterMap fun (m:Nat)=>xs[((i:Int)+(m:Int) * 1).toNat]?).toArray=((xs.toList.drop i).take k).toArray:=by
 have e:(fun (m:Nat)=>xs[((i:Int)+(m:Int) * 1).toNat]?)=fun m=>xs[i+m]?:=by
  funext m
  have:((i:Int)+(m:Int) * 1).toNat=i+m:=by omega
  rw [this]
 rw [e]
 have:=pick_run xs i k
 rw [Ni] at this
 have e2:((fun x=>xs[x]?) ∘ fun x=>i+x)=fun m=>xs[i+m]?:=rfl
 rw [e2] at this
 rw [this]
theorem getItem_tuple_cut {t sl:Addr}{items:Array Value}{vl vu:Value}{lo hi:Option Int}{Q:Value->Shared->Prop} (ht:IsTup s.heap t items) (hs:s.heap.IsSliceOf sl vl vu .none) (pl:IsPart vl lo) (pu:IsPart vu hi)
  (hw:¬ (sIx items.size 0 lo=0/\sIx items.size items.size hi=items.size))
  (h:Q (.ref s.heap.objs.size) { s with heap:=s.heap.push { cls:=.type "tuple",data:=.seq ((items.toList.drop (sIx items.size 0 lo)).take (sIx items.size items.size hi - sIx items.size 0 lo)).toArray } })
  (hsz:items.size<=sizeLine):wpAny (model prog w) A (getItem (.ref t) (.ref sl)) Q E s:=by
 have htake:sizeOk (.seq ((items.toList.drop (sIx items.size 0 lo)).take (sIx items.size items.size hi - sIx items.size 0 lo)).toArray):=by
  show ((items.toList.drop (sIx items.size 0 lo)).take (sIx items.size items.size hi - sIx items.size 0 lo)).toArray.size<=sizeLine
  rw [Mz,MM,Nj,Me]
  omega
 have hj:sIx items.size items.size hi<=items.size:=GG _ _ (Mt _) hi
 obtain ⟨os,hos,hcs,hds⟩:=id hs
 have hTs:s.TypeIs (.ref sl) "slice" := ⟨os,hos,hcs⟩
 unfold getItem
 try with_reducible refine Mi ?_
 first | refine Mh (Mo ?_) | skip
 refine Mh (Nk ht.typeIs (by decide) ?_)
 refine Mh (Nl (name:=Str.ofString "__getitem__") ht.typeIs Np
  (Nq Np ht.typeIs Nr ?_ (Nt _ _)))
 show wpAny _ _ (Builtin.Tuple.tupleItemsOf (.ref t) >>= _) _ _ s
 refine Mh (tupleItemsOf_ ht ?_)
 refine Mh (Nu hTs ?_)
 rw [LL (by decide)]
 refine Mh (sliceApplied_gen hs pl pu ?_)
 have hno:¬ ((((sIx items.size 0 lo:Nat):Int) == 0 && (1:Int) == 1 && (sIx items.size items.size hi - sIx items.size 0 lo) == items.size)=true):=by
  intro q
  rw [Nv,Nv] at q
  have q1:((sIx items.size 0 lo:Nat):Int)=0:=eq_of_beq q.1.1
  have q2:sIx items.size items.size hi - sIx items.size 0 lo=items.size:=eq_of_beq q.2
  exact hw ⟨by omega,by omega⟩
 show wpAny _ _ (if (((sIx items.size 0 lo:Nat):Int) == 0 && (1:Int) == 1 && (sIx items.size items.size hi - sIx items.size 0 lo) == items.size)=true then _ else _) _ _ s
 rw [LM hno,BG]
 first
  | exact Mh (m:=Builtin.Tuple.tupleExact _) (Nw (Mo ⟨_,rfl,Mo h⟩) htake)
  | exact Mh (m:=Builtin.Tuple.tupleExact _) (Nw (Mh (Mo (Mo ⟨_,rfl,Mo h⟩))) htake)
  | exact Mh (Mh (m:=Builtin.Tuple.tupleExact _) (Nw (Mo (Mo ⟨_,rfl,Mo h⟩)) htake))
  | exact Mh (Mh (m:=Builtin.Tuple.tupleExact _) (Nw (Mo ⟨_,rfl,Mo h⟩) htake))
end
end HT
namespace L2
open PySem PySem.Spec PyProof.Rows
abbrev TO:=St->Hp->(Option Int->Hp->Prop)->Prop
def PO (X:Cx) (e:Option Expr) (t:TO):Prop:=
 ∀ (pins:List (Addr × Obj)) (s:Shared) (σ:St) (H:Hp) (Q:Option Int->Hp->Prop),aS X pins σ H s->t σ H Q ->
  wpAny (model X.prog X.w) X.A (evalPart e X.env) (fun u s'=>∃ o H',aS X pins σ H' s'/\IsPart u o/\Q o H') X.xe s
def C9:TO:=fun _ H Q=>Q none H
def Jt (t:TE):TO:=fun σ H Q=>t σ H fun x H1=>∃ i,x=.int i/\Q (some i) H1
theorem eN {ns:List Int}:∀ {us:List Value},aY (ns.map V.int) us->IntsAre us ns:=by
 induction ns with
 | nil=>intro us r;rw [Nx] at r;cases r;exact .nil
 | cons n ns ih=>
  intro us r
  rw [Ny] at r
  cases r with
  | cons r1 r2=>
   obtain ⟨t,e⟩:=r1
   subst e
   exact .cons n t (ih r2)
section
variable {X:Cx}{e:Expr}{te:TE}{lo hi:Option Expr}{tl th:TO}{pos p2:Pos}
theorem DS:PO X none C9:=by
 intro pins s σ H Q I h
 rw [evalPart_none]
 exact Mo ⟨none,H,I,.none,h⟩
theorem DR (h:PE X e te):PO X (some e) (Jt te):=by
 intro pins s σ H Q I hw
 rw [evalPart_some]
 refine cI (h pins s σ H _ I hw) fun u s1 ⟨x,H1,I1,r1,q1⟩=>?_
 obtain ⟨i,rfl,q⟩:=q1
 obtain ⟨t,rfl⟩:=r1
 exact ⟨some i,H1,I1,.int i t,q⟩
def CI (X:Cx) (r:V->Option Int->Option Int->Hp->VK->Prop):Prop:=
 ∀ (pins:List (Addr × Obj)) (s:Shared) (σ:St) (H:Hp) (x:V) (v vl vu:Value) (lo hi:Option Int) (sl:Addr) (Q:VK),aS X pins σ H s->bF x v->s.heap.IsSliceOf sl vl vu .none->IsPart vl lo->IsPart vu hi->r x lo hi H Q ->
  ∃ T id,typeLookup (.type T) "__getitem__" = pure (some (.builtin id))/\s.TypeIs v T/\wpAny (model X.prog X.w) X.A (getItem v (.ref sl)) (EP X pins σ Q) X.xe s
theorem CI.or {r r':V->Option Int->Option Int->Hp->VK->Prop} (h:CI X r) (h':CI X r'):CI X (fun x lo hi H Q=>r x lo hi H Q\/r' x lo hi H Q):=by
 intro pins s σ H x v vl vu lo hi sl Q I rx hs pl pu q
 rcases q with q | q
 ·exact h pins s σ H x v vl vu lo hi sl Q I rx hs pl pu q
 ·exact h' pins s σ H x v vl vu lo hi sl Q I rx hs pl pu q
def Lr (r:V->Option Int->Option Int->Hp->VK->Prop) (te:TE) (tl th:TO):TE:=fun σ H Q=>te σ H fun x H1=>tl σ H1 fun l H2=>th σ H2 fun u H3=>r x l u H3 Q
theorem BI {r:V->Option Int->Option Int->Hp->VK->Prop} (hr:CI X r) (he:PE X e te) (hl:PO X lo tl) (hu:PO X hi th):PE X (.Subscript e (.Slice lo hi none p2) pos) (Lr r te tl th):=by
 intro pins s σ H Q I h
 refine Subscript_ (cI (he pins s σ H _ I h) fun v s1 ⟨x,H1,I1,r1,q1⟩=>?_)
 refine wpAny_Slice (cI (hl pins s1 σ H1 _ I1 q1) fun vl s2 ⟨l,H2,I2,pl,q2⟩=>cI (hu pins s2 σ H2 _ I2 q2) fun vu s3 ⟨u,H3,I3,pu,q3⟩=>?_)
 rw [evalPart_none]
 refine Mo ?_
 have I4:aS X pins σ H3 { s3 with heap:=s3.heap.push { cls:=.type "slice",data:=.fields #[vl,vu,.none] } }:=I3.kept (t':=s3.toks) fun b ob q=>Mr _ q
 obtain ⟨T,id,hT,ht,hg⟩:=hr pins { s3 with heap:=s3.heap.push { cls:=.type "slice",data:=.fields #[vl,vu,.none] } } σ H3 x v vl vu l u s3.heap.objs.size Q I4 r1 (Nz ..) pl pu q3
 show wpAny (model X.prog X.w) X.A (subscriptTail e (.Slice lo hi none p2) v (.ref s3.heap.objs.size)) (EP X pins σ Q) X.xe { s3 with heap:=s3.heap.push { cls:=.type "slice",data:=.fields #[vl,vu,.none] } }
 exact tail_any (ops:=[.ref s3.heap.objs.size,v]) ht hT hg (by with_unfolding_all rfl)
def tR (xs:List V) (lo hi:Option Int):List V:=(xs.drop (HT.sIx xs.length 0 lo)).take (HT.sIx xs.length xs.length hi - HT.sIx xs.length 0 lo)
theorem nB (xs:List V) (lo hi:Option Int):(tR xs lo hi).length<=xs.length:=by
 unfold tR
 rw [MM,Nj]
 omega
def IL (K:W.Frag):V->Option Int->Option Int->Hp->VK->Prop:=fun x lo hi H Q=>∃ a xs,x=.ref a/\fY K H a xs /\
 ¬ (HT.sIx xs.length 0 lo=0/\HT.sIx xs.length xs.length hi=xs.length)/\∀ p,H p=none->Q (.ref p) (cn H p (.tup (tR xs lo hi)))
theorem Gs:CI X (IL X.K):=by
 intro pins s σ H x v vl vu lo hi sl Q I rx hs pl pu h
 obtain ⟨a,xs,rfl,hx,hw,q⟩:=h
 cases rx
 obtain ⟨its,r,ht,hz⟩:=I.tuple hx
 have hlen:its.toArray.size=xs.length:=by rw [Mz];exact r.length.symm
 refine ⟨"tuple",_,Np.lookup,ht.typeIs,?_⟩
 refine HT.getItem_tuple_cut ht hs pl pu (by rw [hlen];exact hw) ?_ (by rw [hlen];exact hz)
 rw [hlen]
 refine ⟨.ref s.heap.objs.size,_,I.laid (t':=s.toks) (o:=.tup (tR xs lo hi)) (fun b ob q=>Mr _ q) (Mt _) ?_,rfl,q _ (I.hok.fresh (Mt _))⟩
 exact ⟨LV (nB xs lo hi) hz,_,(r.drop (HT.sIx xs.length 0 lo)).take (HT.sIx xs.length xs.length hi - HT.sIx xs.length 0 lo),IsTup.new _ _⟩
def JK (K:W.Frag):R2:=fun x y H Q=>∃ a b xs ys,x=.ref a/\y=.ref b/\fY K H a xs/\fY K H b ys/\xs≠[]/\xs.length+ys.length<=sizeLine /\
 (ys=[]->Q (.ref a) H)/\(ys≠[]->∀ p,H p=none->Q (.ref p) (cn H p (.tup (xs++ys))))
theorem aY.nil_iff {xs:List V}{us:List Value} (r:aY xs us):us=[]↔xs=[]:=by
 cases r with
 | nil=>simp
 | cons _ _=>simp
theorem D6:ig X (binaryOp .Add) (JK X.K):=by
 intro pins s σ H x y v u Q I rx ry h
 obtain ⟨a,b,xs,ys,rfl,rfl,ha,hb,hx,hz,q1,q2⟩:=h
 cases rx
 cases ry
 obtain ⟨its,r1,p1,_⟩:=I.tuple ha
 obtain ⟨its2,r2,p2,_⟩:=I.tuple hb
 refine HT.cat_tup p1 p2 (fun z=>hx (r1.nil_iff.mp z)) (fun z=>⟨.ref a,H,I,rfl,q1 (r2.nil_iff.mp z)⟩) (fun z=>?_) (by rw [<- r1.length,<- r2.length];exact hz)
 refine ⟨.ref s.heap.objs.size,_,I.laid (t':=s.toks) (o:=.tup (xs++ys)) (fun b ob q=>Mr _ q) (Mt _) ?_,rfl,q2 (fun w=>z (r2.nil_iff.mpr w)) _ (I.hok.fresh (Mt _))⟩
 exact ⟨by rw [MX];exact hz,_,r1.append r2,IsTup.new _ _⟩
end
end L2
namespace L2
open PySem PySem.Spec PyProof.Rows
def xc (n:Nat) (i:Int):Option Nat:=if 0<=i then (if i<n then some i.toNat else none) else if -(n:Int)<=i then some (i+n).toNat else none
def atI {α:Type} (xs:List α) (i:Int):Option α:=(xc xs.length i).bind fun j=>xs[j]?
theorem sD {n:Nat}{i:Int}{j:Nat} (h:xc n i=some j):seqIndex? i n=some j/\j<n/\-(n:Int)<=i/\i<n:=by
 unfold xc at h
 by_cases h0:0<=i
 ·rw [LL h0] at h
  by_cases h1:i<n
  ·rw [LL h1] at h
   have e:i.toNat=j:=LN h
   exact ⟨by rw [seqIndex_of h0 h1,e],by omega,by omega,h1⟩
  ·rw [LM h1] at h;cases h
 ·rw [LM h0] at h
  by_cases h1:-(n:Int)<=i
  ·rw [LL h1] at h
   have e:(i+n).toNat=j:=LN h
   exact ⟨by rw [seqIndex_neg (by omega) h1,e],by omega,h1,by omega⟩
  ·rw [LM h1] at h;cases h
theorem sJ {α:Type}{xs:List α}{i:Int}{v:α} (h:atI xs i=some v):∃ j,seqIndex? i xs.length=some j/\xs[j]?=some v/\j<xs.length/\-(xs.length:Int)<=i/\i<xs.length:=by
 unfold atI at h
 cases e:xc xs.length i with
 | none=>rw [e] at h;cases h
 | some j=>
  rw [e] at h
  obtain ⟨h1,h2,h3,h4⟩:=sD e
  exact ⟨j,h1,h,h2,h3,h4⟩
theorem iZ {α:Type}{xs:List α}{j:Nat}{v:α} (h:xs[j]?=some v):atI xs (j:Int)=some v:=by
 have hj:j<xs.length:=(L8.mp h).1
 have e:xc xs.length (j:Int)=some j:=by
  unfold xc
  rw [LL (by omega),LL (by omega)];simp
 unfold atI;rw [e];exact h
def sM (b:Expr):Prop:=∀ o i,subscripted b false o i=operate [o,i] (getItem o i)
def CL (X:Cx) (r:R2):Prop:=
 ∀ (value slice:Expr) (pins:List (Addr × Obj)) (s:Shared) (σ:St) (H:Hp) (x y:V) (v u:Value) (Q:VK),aS X pins σ H s->bF x v->bF y u->r x y H Q ->
  subscripted slice false v u=operate [v,u] (getItem v u)->wpAny (model X.prog X.w) X.A (subscriptTail value slice v u) (EP X pins σ Q) X.xe s
def Lk (X:Cx) (id:String) (r:V->List V->Hp->VK->Prop):Prop:=
 ∀ (pins:List (Addr × Obj)) (s:Shared) (σ:St) (H:Hp) (x:V) (xs:List V) (v:Value) (us:List Value) (Q:VK),aS X pins σ H s->bF x v->aY xs us->r x xs H Q ->
  wpAny (model X.prog X.w) X.A (call (.builtin id) (v::us)) (EP X pins σ Q) X.xe s
section
variable {X:Cx}{a b:Expr}{ta tb:TE}{pos:Pos}
theorem CL.or {r r':R2} (h:CL X r) (h':CL X r'):CL X (fun x y H Q=>r x y H Q\/r' x y H Q):=by
 intro value slice pins s σ H x y v u Q I rx ry q hs
 rcases q with q | q
 ·exact h value slice pins s σ H x y v u Q I rx ry q hs
 ·exact h' value slice pins s σ H x y v u Q I rx ry q hs
theorem JP {r:R2} (hr:CL X r) (ha:PE X a ta) (hb:PE X b tb) (hs:sM b):PE X (.Subscript a b pos) (Kc r ta tb):=by
 intro pins s σ H Q I h
 exact Subscript_ (FQ ha hb I h fun v u s2 x y H2 I2 rx ry q=>hr a b pins s2 σ H2 x y v u Q I2 rx ry q (hs _ _))
def IT (K:W.Frag):R2:=fun x y H Q=>∃ p xs i v,x=.ref p/\y=.int i/\fw K H p xs/\atI xs i=some v/\Q v H
def IR (K:W.Frag):R2:=fun x y H Q=>∃ p xs i v,x=.ref p/\y=.int i/\fY K H p xs/\atI xs i=some v/\Q v H
def IS:R2:=fun x y H Q=>∃ z i c,x=.str z/\y=.int i/\z.length<=sizeLine/\atI z.cps.toList i=some c/\Q (.str ⟨#[c]⟩) H
theorem Ez:CL X (IT X.K):=by
 intro value slice pins s σ H x y v u Q I rx ry h hs
 obtain ⟨p,xs,i,z,rfl,rfl,hq,he,q⟩:=h
 cases rx
 obtain ⟨t,rfl⟩:=ry
 obtain ⟨its,r,pl,hz⟩:=I.list hq
 obtain ⟨j,h1,h2,h3,h4,h5⟩:=sJ he
 obtain ⟨w,ew,rw'⟩:=r.get h2
 have hl:=r.length
 have hn:=mz
 have fin:EP X pins σ Q w s:=⟨z,H,I,rw',q⟩
 by_cases h0:0<=i
 ·have hj:i.toNat=j:=by
   rw [seqIndex_of h0 h5] at h1
   exact LN h1
  exact item_listR pl.isList h0 (by omega) (by rw [hj];simpa using ew) fin hs
 ·have hj:(i+(its.toArray.size:Int)).toNat=j:=by
   rw [seqIndex_neg (by omega) h4] at h1
   rw [Mz,<- hl]
   exact LN h1
  exact subscriptTail_builtinR (x:=w) pl.isList.typeIs NA.lookup
   (wpAny_getItem_list_neg (Q:=fun r s'=>r=w/\EP X pins σ Q r s') pl.isList (by omega) (by rw [Mz] <;> omega) (by omega) (by rw [hj];simpa using ew) ⟨rfl,fin⟩) hs
theorem HR:CL X (IR X.K):=by
 intro value slice pins s σ H x y v u Q I rx ry h hs
 obtain ⟨p,xs,i,z,rfl,rfl,hq,he,q⟩:=h
 cases rx
 obtain ⟨t,rfl⟩:=ry
 obtain ⟨its,r,pl,hz⟩:=I.tuple hq
 obtain ⟨j,h1,h2,h3,h4,h5⟩:=sJ he
 obtain ⟨w,ew,rw'⟩:=r.get h2
 have hl:=r.length
 have hn:=mz
 have fin:EP X pins σ Q w s:=⟨z,H,I,rw',q⟩
 exact subscriptTail_builtinR (x:=w) pl.typeIs slot_tuple_getitem.lookup
  (getItem_tuple (j:=j) (Q:=fun r s'=>r=w/\EP X pins σ Q r s') pl (by omega) (by omega) (by rw [Mz,<- hl];exact h1) (by simpa using ew) ⟨rfl,fin⟩) hs
theorem HS:CL X IS:=by
 intro value slice pins s σ H x y v u Q I rx ry h hs
 obtain ⟨z,i,c,rfl,rfl,hz,he,q⟩:=h
 obtain ⟨t,rfl⟩:=rx
 obtain ⟨t',rfl⟩:=ry
 obtain ⟨j,h1,h2,h3,h4,h5⟩:=sJ he
 have hl:z.cps.toList.length=z.length:=by simp [Str.length]
 rw [hl] at h1 h4 h5
 have hn:=mz
 exact tail_any (typeIs_str s z t) slot_str_getitem.lookup (getItem_str (c:=c) (by
  have e1:decide (i < -(2 ^ 63:Int))=false:=LI (by omega)
  have e2:decide (i ≥ 2 ^ 63)=false:=LI (by omega)
  rw [e1,e2,Bool.or_false]) (by rw [h1];simpa using h2) ⟨.str ⟨#[c]⟩,H,I.tok _,⟨_,rfl⟩,q⟩) hs
def Lg (K:W.Frag):R2:=fun x y H Q=>IT K x y H Q\/IR K x y H Q\/IS x y H Q
theorem HU:CL X (Lg X.K):=Ez.or (HR.or HS)
theorem wI (its:List Value) (n j:Nat) (u:Value):Obj.mapSeq (·.setIfInBounds j u) { cls:=.type "list",data:=.seq its.toArray n }={ cls:=.type "list",data:=.seq (its.set j u).toArray n }:=by
 simp [Obj.mapSeq]
theorem aS.lst {pins:List (Addr × Obj)}{σ:St}{H:Hp}{s:Shared}{p:Addr}{xs:List V} (I:aS X pins σ H s) (h:H p=some (.lst xs)) :
  ∃ (its:List Value) (n:Nat),aY xs its/\s.heap.get? p=some { cls:=.type "list",data:=.seq its.toArray n }/\xs.length<=sizeLine:=by
 obtain ⟨z,its,n,r,e⟩:=I.hok p _ h
 exact ⟨its,n,r,e,z⟩
theorem aS.lstUpd {pins:List (Addr × Obj)}{σ:St}{H:Hp}{s:Shared}{p:Addr}{xs ys:List V}{its its':List Value}{n n':Nat}{f:Obj->Obj} (I:aS X pins σ H s) (h:H p=some (.lst xs))
  (ho:s.heap.get? p=some { cls:=.type "list",data:=.seq its.toArray n }) (hf:f { cls:=.type "list",data:=.seq its.toArray n }={ cls:=.type "list",data:=.seq its'.toArray n' }) (r:aY ys its') (hz:ys.length<=sizeLine) (t:Nat) :
  aS X pins σ (cn H p (.lst ys)) { s with heap:=s.heap.update p f,toks:=t }:=by
 have e:(s.heap.update p f).get? p=some { cls:=.type "list",data:=.seq its'.toArray n' }:=by
  rw [NB f ho (by rw [hf] <;> rfl),hf]
 refine I.write (x:=p) (e:=p) (by rw [h];trivial) (.inl rfl) (fun b u hb q=>(NC _ _ (L5 hb)).trans q) ⟨_,e⟩ ?_
 exact ⟨hz,its',n',r,e⟩
def E8:V->V->V->Hp->(Hp->Prop)->Prop:=fun o i v H Q=>∃ p xs k j,o=.ref p/\i=.int k/\H p=some (.lst xs)/\xc xs.length k=some j/\Q (cn H p (.lst (xs.set j v)))
theorem Bm:Jf X E8:=by
 intro pins s σ H o i v ov iv u Q I ro ri rv h
 obtain ⟨p,xs,k,j,rfl,rfl,hp,hj,q⟩:=h
 cases ro
 obtain ⟨t,rfl⟩:=ri
 obtain ⟨its,n,r,ho,hz⟩:=I.lst hp
 obtain ⟨h1,h2,h3,h4⟩:=sD hj
 have hl:=r.length
 have hn:=mz
 have I':aS X pins σ (cn H p (.lst (xs.set j v))) { s with heap:=s.heap.update p (Obj.mapSeq (·.setIfInBounds j u)) }:=
  I.lstUpd hp ho (wI its n j u) (r.set rv j) (by rw [ND];exact hz) s.toks
 by_cases h0:0<=k
 ·have hk:k.toNat=j:=by
   rw [seqIndex_of h0 h4] at h1
   exact LN h1
  exact W.ki_setAt ho h0 (by omega) (by rw [Mz,<- hl];exact h4) (by rw [hk];exact ⟨_,I',q⟩)
 ·have hk:(k+(its.toArray.size:Int)).toNat=j:=by
   rw [seqIndex_neg (by omega) h3] at h1
   rw [Mz,<- hl]
   exact LN h1
  exact W.ki_setBack ho (by omega) (by rw [Mz,<- hl];exact h3) (by omega) (by rw [hk];exact ⟨_,I',q⟩)
theorem sP (lo hi:Option Int) (n:Nat):(sliceBounds lo hi none n).1=((HT.sIx n 0 lo:Nat):Int)/\(sliceBounds lo hi none n).2.1=((HT.sIx n n hi:Nat):Int)/\(sliceBounds lo hi none n).2.2=1:=by
 refine ⟨?_,?_,rfl⟩
 ·cases lo with
  | none=>simp [sliceBounds,HT.sIx]
  | some i=>
   simp only [sliceBounds,HT.sIx,Option.getD_none,show (1:Int) > 0 by decide,Nf]
   by_cases h:i<0
   ·simp only [h,Nf] <;> omega
   ·simp only [h,Nd] <;> omega
 ·cases hi with
  | none=>simp [sliceBounds,HT.sIx]
  | some i=>
   simp only [sliceBounds,HT.sIx,Option.getD_none,show (1:Int) > 0 by decide,Nf]
   by_cases h:i<0
   ·simp only [h,Nf] <;> omega
   ·simp only [h,Nd] <;> omega
theorem ql (its:List Value) (lo hi:Option Int):slicePick its.toArray lo hi none=((its.drop (HT.sIx its.length 0 lo)).take (HT.sIx its.length its.length hi - HT.sIx its.length 0 lo)).toArray:=by
 obtain ⟨h1,h2,h3⟩:=sP lo hi its.toArray.size
 unfold slicePick
 rw [h1,h2,h3]
 simp only [sliceRange_one,pick_run,Mz] <;> rfl
def IM (K:W.Frag):V->Option Int->Option Int->Hp->VK->Prop:=fun x lo hi H Q=>∃ a xs,x=.ref a/\fw K H a xs/\∀ p,H p=none->Q (.ref p) (cn H p (.lst (tR xs lo hi)))
theorem Ds:CI X (IM X.K):=by
 intro pins s σ H x v vl vu lo hi sl Q I rx hs pl pu h
 obtain ⟨a,xs,rfl,hx,q⟩:=h
 cases rx
 obtain ⟨its,r,ht,hz⟩:=I.list hx
 have hlen:=r.length
 refine ⟨"list",_,NA.lookup,ht.isList.typeIs,?_⟩
 refine wpAny_getItem_list_slice ht.isList hs pl pu .none (by simp) ?_ (by rw [Mz] <;> omega)
 rw [ql,<- hlen]
 refine ⟨.ref s.heap.objs.size,_,I.laid (t':=s.toks) (o:=.lst (tR xs lo hi)) (fun b ob q=>Mr _ q) (Mt _) ?_,rfl,q _ (I.hok.fresh (Mt _))⟩
 exact ⟨LV (nB xs lo hi) hz,_,0,(r.drop (HT.sIx xs.length 0 lo)).take (HT.sIx xs.length xs.length hi - HT.sIx xs.length 0 lo),Ms _ rfl⟩
def jF:V->Bool
 | .non=>true
 | .bl _=>true
 | .int _=>true
 | .str _=>true
 | _=>false
def xf:V->V->Bool
 | .non,.non=>true
 | .bl a,.bl b=>a == b
 | .bl a,.int b=>(if a then 1 else 0) == b
 | .int a,.bl b=>a == (if b then 1 else 0)
 | .int a,.int b=>a == b
 | .str a,.str b=>a == b
 | _,_=>false
theorem Im {A:Around}{s:Shared}{y x:V}{u v:Value} (ry:bF y u) (rx:bF x v) (fy:jF y=true) (fx:jF x=true):SeqAt.EqAt A s u v (xf y x):=by
 cases y with
 | non=>
  cases ry
  cases x with
  | non=>cases rx;exact SeqAt.EqAt.same _
  | bl b=>cases rx;exact SeqAt.EqAt.none_bool b
  | int b=>obtain ⟨t,rfl⟩:=rx;exact SeqAt.EqAt.none_int b t
  | str b=>obtain ⟨t,rfl⟩:=rx;exact SeqAt.EqAt.none_str b t
  | _=>exact absurd (show false=true from fx) Mm
 | bl a=>
  cases ry
  cases x with
  | non=>cases rx;exact SeqAt.EqAt.bool_none a
  | bl b=>cases rx;exact SeqAt.EqAt.bool_bool a b
  | int b=>obtain ⟨t,rfl⟩:=rx;exact SeqAt.EqAt.bool_int a b t
  | str b=>obtain ⟨t,rfl⟩:=rx;exact SeqAt.EqAt.bool_str a b t
  | _=>exact absurd (show false=true from fx) Mm
 | int a=>
  obtain ⟨t',rfl⟩:=ry
  cases x with
  | non=>cases rx;exact SeqAt.EqAt.int_none a t'
  | bl b=>cases rx;exact SeqAt.EqAt.int_bool a t' b
  | int b=>obtain ⟨t,rfl⟩:=rx;exact SeqAt.EqAt.int_int a t' b t
  | str b=>obtain ⟨t,rfl⟩:=rx;exact SeqAt.EqAt.int_str a t' b t
  | _=>exact absurd (show false=true from fx) Mm
 | str a=>
  obtain ⟨t',rfl⟩:=ry
  cases x with
  | non=>cases rx;exact SeqAt.EqAt.str_none a t'
  | bl b=>cases rx;exact SeqAt.EqAt.str_bool a t' b
  | int b=>obtain ⟨t,rfl⟩:=rx;exact SeqAt.EqAt.str_int a t' b t
  | str b=>obtain ⟨t,rfl⟩:=rx;exact SeqAt.EqAt.str_str a t' b t
  | _=>exact absurd (show false=true from fx) Mm
 | _=>exact absurd (show false=true from fy) Mm
def FF (x:V) (u:Value):Bool:=match u with
 | .none=>xf .non x
 | .bool b=>xf (.bl b) x
 | .int i _=>xf (.int i) x
 | .str z _=>xf (.str z) x
 | _=>false
theorem v5 {x y:V}{u:Value} (r:bF y u) (f:jF y=true):FF x u=xf y x:=by
 cases y with
 | non=>cases r;rfl
 | bl b=>cases r;rfl
 | int i=>obtain ⟨t,rfl⟩:=r;rfl
 | str z=>obtain ⟨t,rfl⟩:=r;rfl
 | _=>exact absurd (show false=true from f) Mm
theorem pq {A:Around}{s:Shared}{x:V}{v:Value} (rx:bF x v) (fx:jF x=true):∀ {xs:List V}{us:List Value},aY xs us->xs.all jF=true->∀ u∈us,SeqAt.EqAt A s u v (FF x u)
 | _,_,.nil,_=>fun u hu=>by cases hu
 | y::xs,u::us,.cons r t,f=>fun u' hu=>by
  rw [NF,Nv] at f
  rcases L4.mp hu with rfl | hu
  ·rw [v5 r f.1];exact Im r rx f.1 fx
  ·exact pq rx fx t f.2 u' hu
theorem cj.or {f:Value}{r r':List V->Hp->VK->Prop} (h:cj X f r) (h':cj X f r'):cj X f (fun xs H Q=>r xs H Q\/r' xs H Q):=by
 intro pins s σ H xs us Q I rs q
 rcases q with q | q
 ·exact h pins s σ H xs us Q I rs q
 ·exact h' pins s σ H xs us Q I rs q
theorem tx:cj X (.type "list") (fun xs H Q=>∃ p ys,xs=[.ref p]/\(fw X.K H p ys\/fY X.K H p ys)/\∀ l,H l=none->Q (.ref l) (cn H l (.lst ys))):=by
 intro pins s σ H xs us Q I r h
 obtain ⟨p,ys,rfl,hq,q⟩:=h
 obtain ⟨u,rfl,rx⟩:=eQ r
 cases rx
 have fin:∀ (its:List Value),aY ys its->ys.length<=sizeLine->∀ (h':Heap) (c':Nat),(∀ b o',s.heap.get? b=some o'->h'.get? b=some o') ->
   h'.get? s.heap.objs.size=some { cls:=.type "list",dict:=none,data:=.seq its.toArray c',slots:=#[] }->EP X pins σ Q (.ref s.heap.objs.size) { s with heap:=h' }:=fun its r' hz h' c' kp e=>
  ⟨.ref s.heap.objs.size,_,I.laid (t':=s.toks) kp (Mt _) (show dA X.prog X.w _ h' _ (.lst ys) from ⟨hz,its,c',r',e⟩),rfl,q _ (I.hok.fresh (Mt _))⟩
 rcases hq with hq | hq
 ·obtain ⟨its, r', pl, hz⟩ := I.list hq
  have hlen:=r'.length
  obtain ⟨o,ho,hc,n,hd⟩:=pl.isList
  exact call_list_seq p (.inl rfl) ho hc hd (fun h' c' kp e=>fin its r' hz h' c' kp e) (by simp only [Mz] <;> omega)
 ·obtain ⟨its, r', pl, hz⟩ := I.tuple hq
  have hlen:=r'.length
  obtain ⟨o,ho,hc,n,hd⟩:=pl
  exact call_list_seq p (.inr rfl) ho hc hd (fun h' c' kp e=>fin its r' hz h' c' kp e) (by simp only [Mz] <;> omega)
theorem qB:cj X (.type "tuple") (fun xs H Q=>∃ p ys,xs=[.ref p]/\((fw X.K H p ys/\∀ l,H l=none->Q (.ref l) (cn H l (.tup ys)))\/(fY X.K H p ys/\Q (.ref p) H))):=by
 intro pins s σ H xs us Q I r h
 obtain ⟨p,ys,rfl,h⟩:=h
 obtain ⟨u,rfl,rx⟩:=eQ r
 cases rx
 rcases h with ⟨hq,q⟩ | ⟨hq,q⟩
 ·obtain ⟨its, r', pl, hz⟩ := I.list hq
  have hlen:=r'.length
  refine call_tuple_list pl.isList (fun h' kp=>?_) (by simp only [Mz] <;> omega)
  have I1:aS X pins σ H { s with heap:=h' }:=I.kept (t':=s.toks) kp
  have I2:aS X pins σ (cn H h'.objs.size (.tup ys)) { s with heap:=h'.push { cls:=.type "tuple",data:=.seq its.toArray } }:=
   I1.laid (t':=s.toks) (fun b o e=>Mr _ e) (Mt _) (show dA X.prog X.w _ _ _ (.tup ys) from ⟨hz,its,r',IsTup.new _ _⟩)
  exact ⟨.ref h'.objs.size,_,I2,rfl,q _ (I1.hok.fresh (Mt _))⟩
 ·obtain ⟨its, r', pl, hz⟩ := I.tuple hq
  exact call_tuple_same pl ⟨.ref p,H,I,rfl,q⟩
def Ku (K:W.Frag) (T:String) (x:V) (H:Hp):Prop:=match x with
 | .str _=>T = "str"
 | .int _=>T = "int"
 | .ref p=>(T = "list" /\ ∃ xs,fw K H p xs)\/(T = "tuple" /\ ∃ o,K.lookup p=some o/\o.cls=.type "tuple" /\ o.dict=none) \/
   (T = "dict" /\ ((∃ kvs,H p=some (.dK kvs))\/∃ kvs,H p=some (.dT kvs)))\/(T = "set" /\ ∃ S n,H p=some (.set S n))
 | _=>False
theorem F7 {pins:List (Addr × Obj)}{σ:St}{H:Hp}{s:Shared}{T:String}{x:V}{v:Value} (I:aS X pins σ H s) (r:bF x v) (ty:Ku X.K T x H) :
  s.TypeIs v T/\∀ a,v=.ref a->∃ ob,s.heap.get? a=some ob/\ob.dict=none:=by
 cases x with
 | str z=>
  obtain ⟨t,rfl⟩:=r
  cases (show T = "str" from ty)
  exact ⟨typeIs_str s z t,fun _ e=>nomatch e⟩
 | int i=>
  obtain ⟨t,rfl⟩:=r
  cases (show T = "int" from ty)
  exact ⟨typeIs_int s i t,fun _ e=>nomatch e⟩
 | ref p=>
  cases r
  rcases ty with ⟨rfl,xs,hq⟩ | ⟨rfl,o,hk,hc,hd⟩ | ⟨rfl,hk⟩ | ⟨rfl,S,n,hk⟩
  ·obtain ⟨its, _, pl, _⟩ := I.list hq
   refine ⟨pl.isList.typeIs,fun a e=>?_⟩
   cases e
   obtain ⟨o,n,e,c,hd,_⟩:=pl
   exact ⟨o,e,hd⟩
  ·refine ⟨⟨o, I.kIn p o hk, hc⟩, fun a e => ?_⟩
   cases e
   exact ⟨o,I.kIn _ o hk,hd⟩
  ·have z:∃ o,s.heap.get? p=some o/\o.ExactDict:=by
    rcases hk with ⟨kvs,hk⟩ | ⟨kvs,hk⟩
    ·obtain ⟨_, _, _, _, o, _, _, e, ex, _⟩ := I.hok p _ hk
     exact ⟨o,e,ex⟩
    ·obtain ⟨_, _, _, _, o, _, _, e, ex, _⟩ := I.hok p _ hk
     exact ⟨o,e,ex⟩
   obtain ⟨o,e,ex⟩:=z
   refine ⟨⟨o,e,ex.1⟩,fun a e2=>?_⟩
   cases e2
   exact ⟨o,e,ex.2.1⟩
  ·obtain ⟨o, _, _, _, e, ex, _⟩ := I.hok p _ hk
   refine ⟨⟨o,e,ex.1⟩,fun a e2=>?_⟩
   cases e2
   exact ⟨o,e,ex.2.1⟩
 | _=>exact False.elim ty
def Lu (K:W.Frag) (T:String) (r:V->List V->Hp->VK->Prop) (to:TE) (t:TA):TE:=fun σ H Q=>to σ H fun x H1=>Ku K T x H1/\t σ H1 fun xs H2=>r x xs H2 Q
variable {o e:Expr}{es:List Expr}{to:TE}{t:TA}{name:Str}{apos cpos:Pos}{T id:String}{r:V->List V->Hp->VK->Prop}
theorem JQ (pa:PlainAttrs T) (slot:Slot T name id) (hty:typeOf (.builtin id)=pure (.type "method_descriptor")) (hm:Lk X id r) (ho:PE X o to) (ha:PA X (e::es) t)
  (hbase:attributeBase o name X.env (eval o X.env)=eval o X.env:=by rfl)
  (hfew : ((backTo cpos (starEach (e :: es) X.env)).all (fun x => !x.1) && (backToKw cpos (keywordEach [] X.env)).all (fun x => x.1.isSome)
   && decide ((e::es).length+([]:List Keyword).length+(if ([]:List Keyword).isEmpty then 0 else 1)<30))=true:=by rfl)
  (hline:(apos.endLine == cpos.line)=true:=by rfl) (hs:starEach (e::es) X.env=(false,eval e X.env)::starEach es X.env:=by rfl) (hplain:(backTo cpos (starEach es X.env)).any (·.1)=false:=by rfl) :
  PE X (.Call (.Attribute o name apos) (e::es) [] cpos) (Lu X.K T r to t):=by
 intro pins s σ H Q I h
 refine wpAny_Call_method_late hbase hfew hline rfl (cI (ho pins s σ H _ I h) fun v s1 ⟨x,H1,I1,r1,ty,q1⟩=>?_)
 obtain ⟨h1,h2⟩:=F7 I1 r1 ty
 refine ⟨T,id,pa,slot,hty,h1,h2,?_⟩
 have hA:=ha cpos pins s1 σ H1 _ I1 q1
 rw [hs] at hA ⊢
 refine Calls.callWith_builtin (by show (false || (backTo cpos (starEach es X.env)).any (·.1))=false;rw [hplain] <;> rfl) (Calls.evalArgs_plain ?_)
 exact cI hA fun us s2 ⟨vs,H2,I2,r2,q2⟩=>hm pins s2 σ H2 x vs v us Q I2 r1 r2 q2
end
end L2
namespace L2
open PySem PySem.Spec PyProof.Rows
def Km (X:Cx) (id:String) (r:V->List V->Hp->VK->Prop):Prop:=
 ∀ (pins:List (Addr × Obj)) (s:Shared) (σ:St) (H:Hp) (x:V) (xs:List V) (v:Value) (us:List Value) (Q:VK),aS X pins σ H s->bF x v->aY xs us->r x xs H Q ->
  wpAny (model X.prog X.w) X.A (call (.builtin id) (v::us)) (EP X pins σ Q) X.xe s
theorem aY.one:∀ {x:V}{us:List Value},aY [x] us->∃ u,us=[u]/\bF x u
 | _,_,.cons r .nil=>⟨_,rfl,r⟩
theorem aY.eraseIdx:∀ {xs:List V}{us:List Value} (i:Nat),aY xs us->aY (xs.eraseIdx i) (us.eraseIdx i)
 | _,_,_,.nil=>.nil
 | _,_,0,.cons _ t=>t
 | _,_,i+1,.cons r t=>.cons r (aY.eraseIdx i t)
theorem aY.reverse {xs:List V}{us:List Value} (h:aY xs us):aY xs.reverse us.reverse:=by
 induction h with
 | nil=>exact .nil
 | cons r t ih=>rw [NG,NG];exact aY.append ih (.cons r .nil)
theorem aY.rep {xs:List V}{us:List Value} (h:aY xs us):∀ k:Nat,aY (List.replicate k xs).flatten (List.replicate k us).flatten
 | 0=>.nil
 | k+1=>by
  rw [NH,NH,NI,NI]
  exact aY.append h (aY.rep h k)
theorem rj {α:Type}:∀ (l:List α) (i:Nat),(l.eraseIdx i).length<=l.length
 | [],_=>Mt _
 | _::_,0=>NJ _
 | _::r,i+1=>Nat.succ_le_succ (rj r i)
theorem rD (its:List Value):∀ (k:Nat) (acc:List Value),
  List.foldl (fun x1 x2=>x1++x2) acc.toArray (List.replicate k its.toArray)=(acc++(List.replicate k its).flatten).toArray
 | 0,acc=>by simp
 | k+1,acc=>by
  have e:acc.toArray++its.toArray=(acc++its).toArray:=by simp
  have e2:(acc++its)++(List.replicate k its).flatten=acc++(List.replicate (k+1) its).flatten:=by
   rw [NH,NI,NK]
  rw [<- e2,<- rD its k (acc++its),<- e,NH,NL]
section
variable {X:Cx}{pins:List (Addr × Obj)}{σ:St}{H:Hp}{s:Shared}{l b:Addr}{xs ys zs:List V}
theorem aS.lset {its its':List Value}{n:Nat}{f:Array Value->Array Value}{t':Nat} (I:aS X pins σ H s) (hH:H l=some (.lst xs))
  (e:s.heap.get? l=some { cls:=.type "list",data:=.seq its.toArray n }) (hf:f its.toArray=its'.toArray) (hv:aY ys its') (hz:ys.length<=sizeLine) :
  aS X pins σ (cn H l (.lst ys)) { s with heap:=s.heap.update l (Obj.mapSeq f),toks:=t' }:=by
 have q:=PySem.IsL.update e f
 rw [hf] at q
 refine I.write (x:=l) (e:=l) (by rw [hH];exact trivial) (.inl rfl) (fun b' u hb hu=>(NC s.heap (Obj.mapSeq f) (L5 hb)).trans hu) ⟨_,q⟩ ?_
 exact ⟨hz,its',_,hv,q⟩
theorem aS.lnew {its:List Value}{t':Nat} (I:aS X pins σ H s) (hv:aY ys its) (hz:ys.length<=sizeLine) :
  aS X pins σ (cn H s.heap.objs.size (.lst ys)) { s with heap:=s.heap.push { cls:=.type "list",data:=.seq its.toArray },toks:=t' }:=
 I.laid (fun _ _ q=>Mr _ q) (Mt _) ⟨hz,its,0,hv,Ms _ rfl⟩
theorem aS.fresh (I:aS X pins σ H s):H s.heap.objs.size=none:=I.hok.fresh (Mt _)
theorem aS.lstM (I:aS X pins σ H s) (hH:H l=some (.lst xs)):xs.length<=sizeLine/\∃ (its:List Value) (n:Nat),aY xs its/\xs.length=its.length/\s.heap.get? l=some { cls:=.type "list",data:=.seq its.toArray n }:=by
 obtain ⟨z,its,n,r,e⟩:=I.hok l _ hH
 exact ⟨z,its,n,r,r.length,e⟩
theorem uG {n:Nat} (h:n<=sizeLine):Builtin.List.listTooLong n=false:=by
 unfold Builtin.List.listTooLong
 exact LI (by omega)
end
section
variable {X:Cx}
def xD:V->List V->Hp->VK->Prop:=fun x vs H Q=>∃ l xs y,x=.ref l/\vs=[y]/\H l=some (.lst xs)/\xs.length<sizeLine/\Q .non (cn H l (.lst (xs++[y])))
theorem qZ:Km X "list.append" xD:=by
 intro pins s σ H x vs v us Q I rx rv h
 obtain ⟨l,xs,y,rfl,rfl,hH,hz,q⟩:=h
 cases rx
 obtain ⟨u,rfl,ru⟩:=rv.one
 obtain ⟨z,its,n,r,hl,e⟩:=I.lstM hH
 refine NM F.slot_list_append ⟨_,e,rfl⟩ F.entry_list_append (F.args_list_append_2 _ _) (PySem.list_append l its.toArray n u (by rw [Mz];omega)) ⟨e,?_⟩
 refine ⟨.non,_,I.lset (its':=its++[u]) hH e (by simp) (r.append (.cons ru .nil)) ?_,rfl,q⟩
 rw [MX,NN]
 omega
def AG:V->List V->Hp->VK->Prop:=fun x vs H Q=>∃ l xs i k y,x=.ref l/\vs=[.int i]/\H l=some (.lst xs)/\-(2 ^ 63)<=i/\i<2 ^ 63/\seqIndex? i xs.length=some k/\xs[k]?=some y/\Q y (cn H l (.lst (xs.eraseIdx k)))
theorem BW:Km X "list.pop" AG:=by
 intro pins s σ H x vs v us Q I rx rv h
 obtain ⟨l,xs,i,k,y,rfl,rfl,hH,h1,h2,hk,hy,q⟩:=h
 cases rx
 obtain ⟨u,rfl,ru⟩:=rv.one
 obtain ⟨t,rfl⟩:=ru
 obtain ⟨z,its,n,r,hl,e⟩:=I.lstM hH
 obtain ⟨w,hw,rw'⟩:=r.get hy
 refine NM F.slot_list_pop ⟨_,e,rfl⟩ F.entry_list_pop (F.args_list_pop_2 _ _)
  (MeetsSeq.list_pop_at l its.toArray n i t k w (fitsIndex_both h1 h2) (by rw [Mz,<- hl];exact hk) (by rw [<- NO];exact hw) (by rw [Mz];omega)) ⟨e,?_⟩
 refine ⟨y,_,I.lset (its':=its.eraseIdx k) hH e ?_ (r.eraseIdx k) ?_,rw',q⟩
 ·show its.toArray.eraseIdxIfInBounds k = (its.eraseIdx k).toArray
  rw [List.eraseIdxIfInBounds_toArray]
 ·have := rj xs k
  omega
def IW:R2:=fun x y H Q=>∃ l b xs zs,x=.ref l/\y=.ref b/\H l=some (.lst xs)/\H b=some (.lst zs)/\xs.length+zs.length<=sizeLine/\∀ p,H p=none->Q (.ref p) (cn H p (.lst (xs++zs)))
theorem Hh:ig X (binaryOp .Add) IW:=by
 intro pins s σ H x y v u Q I rx ry h
 obtain ⟨l,b,xs,zs,rfl,rfl,hH,hB,hz,q⟩:=h
 cases rx
 cases ry
 obtain ⟨z,its,n,r,hl,e⟩:=I.lstM hH
 obtain ⟨z2,its2,n2,r2,hl2,e2⟩:=I.lstM hB
 refine PySem.P.add_list e e2 ?_ (by rw [Mz,Mz];omega)
 have ea:its.toArray++its2.toArray=(its++its2).toArray:=by simp
 rw [ea]
 exact ⟨.ref _,_,I.lnew (t':=s.toks) (r.append r2) (by rw [MX];omega),rfl,q _ I.fresh⟩
def IQ:R2:=fun x y H Q=>∃ l k xs,x=.ref l/\y=.int k/\H l=some (.lst xs)/\-(2 ^ 63)<=k/\k<2 ^ 63/\xs.length * k.toNat<=sizeLine /\
 ∀ p,H p=none->Q (.ref p) (cn H p (.lst (List.replicate k.toNat xs).flatten))
theorem Eu {α:Type} (xs:List α) (k:Nat):(List.replicate k xs).flatten.length=k * xs.length:=by
 induction k with
 | zero=>simp
 | succ k ih=>rw [NH,NI,MX,ih,Nat.succ_mul,Nat.add_comm]
theorem G8:ig X (binaryOp .Mult) IQ:=by
 intro pins s σ H x y v u Q I rx ry h
 obtain ⟨l,k,xs,rfl,rfl,hH,h1,h2,hz,q⟩:=h
 cases rx
 obtain ⟨t,rfl⟩:=ry
 obtain ⟨z,its,n,r,hl,e⟩:=I.lstM hH
 have hlen:its.toArray.size * k.toNat<=sizeLine:=by rw [Mz,<- hl];exact hz
 have hcap:¬ its.toArray.size * k.toNat > (2 ^ 63 - 1) / 8:=by
  have:(sizeLine:Nat)<=(2 ^ 63 - 1) / 8:=by decide
  omega
 have hfit:¬ (!Builtin.List.listFitsIndex k)=true:=by
  rw [fitsIndex_both h1 h2]
  exact Mm
 have hlong:¬ Builtin.List.listTooLong (its.toArray.size * k.toNat)=true:=by
  rw [uG hlen]
  exact Mm
 have hnew:List.foldl (fun x1 x2=>x1++x2) #[] (List.replicate (if its.toArray.isEmpty=true then 0 else k.toNat) its.toArray)=(List.replicate k.toNat its).flatten.toArray:=by
  have f0:∀ m:Nat,List.foldl (fun x1 x2=>x1++x2) #[] (List.replicate m its.toArray)=(List.replicate m its).flatten.toArray:=fun m=>by
   have:=rD its m []
   rw [NP] at this
   exact this
  rw [f0]
  cases its with
  | nil=>simp
  | cons a r'=>rw [LM (by simp)]
 refine wpAny_binaryOp_repeat_ref (T:="list") (U:="int") (by decide) ⟨_,e,rfl⟩ (fun s'=>typeIs_int s' k t) noFill_list_mul F.fills_int_mul F.slot_int_rmul repeat_list F.slot_int_index.lookup
  (NM F.slot_int_rmul (typeIs_int s k t) F.entry_int_rmul (F.args_int_rmul_2 _ _) (int___rmul___int_list k t l its.toArray n)
   ⟨e,rfl,⟨_,e,rfl⟩,NM F.slot_list_mul ⟨_,e,rfl⟩ F.entry_list_mul (F.args_list_mul_2 _ _) (AutoListH.list___mul___list_int_3 l its.toArray n k t hfit hcap hlong) ⟨e,?_⟩⟩)
 rw [hnew]
 exact ⟨.ref _,_,I.lnew (t':=s.toks) (r.rep k.toNat) (by rw [Eu,Nat.mul_comm];exact hz),rfl,q _ I.fresh⟩
end
section
variable {prog:Program}{w:World}{A:Around}{E:Value->Shared->Prop}{s:Shared}
end
section
variable {X:Cx}
end
end L2
namespace Att
open PySem PySem.W PySem.Calls PyProof.Rows
theorem nY {P:Params}{h:Heap}:∀ (ns:List Int) (vs:List Value),WellAll P h vs (ns.map WData.int)->IntsAre vs ns:=by
 intro ns
 induction ns with
 | nil=>
  intro vs w
  rw [Nx] at w
  cases w
  exact .nil
 | cons n ns ih=>
  intro vs w
  rw [Ny] at w
  cases w with
  | cons a b=>
   cases a
   exact .cons _ _ (ih _ b)
theorem yH {l:OpenLaw}{n:Nat} (hn:l.most=some n) {P:Params}{h:Heap}{args:List WData}{vals:List Value}
  (hpre:l.row.toRowW.claim.pre args=true) (hwl:WellAll P h vals args) :
  ∃ a vs ns,vals=[Value.ref a]/\args=[WData.list (ns.map WData.int)]/\h.get? a=some { cls:=.type "list",data:=.seq vs.toArray }/\IntsAre vs ns/\ns.length<=n:=by
 have hsh:WShape.hasAll [] args [.list .int]=true:=(pre_splitW hpre).1
 have hc:l.pre.holds [] { args:=args }=true:=(pre_splitW hpre).2
 obtain ⟨d,r,rfl,h1,h2⟩:=hasAllW_cons hsh
 obtain rfl:=hasAllW_nil h2
 obtain ⟨xs,rfl,h3⟩:=hasW_list h1
 obtain ⟨ns,rfl⟩:=items_int h3
 have hlen:ns.length<=n:=by
  unfold OpenLaw.pre at hc
  have h4:(WTm.not (.lt (.lit (.int (n:Int))) (.len (.arg 0)))).holds [] { args:=[.list (ns.map .int)] }=true:=by
   have h4:=(holds_andW hc).1
   rw [hn] at h4
   exact h4
  have h5:=condW_of h4 (w_not (w_lt w_lit (w_len_list (w_arg rfl))))
  rw [MY] at h5
  refine Nat.le_of_not_lt fun q=>?_
  have q':(n:Int)<((ns.length:Nat):Int):=by omega
  first
   | (rw [NQ q'] at h5;exact absurd h5 (by decide))
   | (simp at h5;omega)
 cases hwl with
 | cons w1 w2=>
  cases w2
  cases w1 with
  | list ho hall=>exact ⟨_,_,ns,rfl,rfl,ho,nY ns _ hall,hlen⟩
theorem yL (l:OpenLaw) (args:List WData):l.row.toRowW.claim.post args (.bool true) args=true:=
 postW_of (r:=l.row.toRowW) (X:=(true == true))
  (show WShape.has [] (.bool true) .bool=true by first | rfl | decide | simp [WShape.has,WShape.arms,WShape.armsAll])
  (show (WTm.eq .res (.lit (.bool true))).value [] { args:=args,res:=some (.bool true),after:=args }=some (.bool (true == true)) from w_eq_bool (w_res rfl) w_lit) rfl
theorem attach_call {l:OpenLaw}{n:Nat}{q:Program}{loose:List Str}{XP:(Str->Option Value)->Heap->Prop}{YP:World->Heap->Prop}{d:DefRec}
  (hn:l.most=some n) (hdf:d.params.defaults=[])
  (call : ∀ (w : World) (s₀ s₁ : Shared) (mg mb : Str -> Option Value) (fa : Addr) (o : Obj) (pm cd doc : Value) (a : Addr) (vs : List Value) (ns : List Int),
   Ground q loose [] XP w s₀ mg mb s₁.heap->YP w s₁.heap ->
   s₁.heap.get? fa=some o->o.data=.func (docDef d.name d.params d.body d.scope pm cd doc)->s₁.heap.CodeRec cd d.name->mg d.name=some (.ref fa) ->
   s₁.heap.get? a=some { cls:=.type "list",data:=.seq vs.toArray }->IntsAre vs ns->ns.length<=n->s₁.gens=#[] ->
   codeAny (model l.prog w) callerA (.call (.ref fa) ⟨[.ref a],[]⟩) (fun r s'=>r=.ok (.ret (.bool true))/\OldK s₁.heap s'.heap/\s'.os=s₁.os/\AllBare s'.gens) s₁) :
  WalkO q loose XP YP l.row.toRowW d [] (fun f vs=>PySem.call f vs):=by
 intro w s₀ s₁ mg mb G Y fa o pm cd doc dV kV ho hd hcd hD hmg hg args vals as hpre hlay hrd hwl hlo
 obtain rfl:dV=.none:=Dflts.none hD hdf
 obtain rfl:kV=.none:=Dflts.noKw hD
 obtain ⟨a,vs,ns,rfl,rfl,hobj,hints,hlen⟩:=yH hn hpre hwl
 refine enter_call (MF (call w s₀ s₁ mg mb fa o pm cd doc a vs ns G Y ho (fd_plain hd) hcd hmg hobj hints hlen hg) fun r s' hq=>?_)
 obtain ⟨rfl,h2,h3,h4⟩:=hq
 exact ⟨.inl ⟨.bool true,.bool true,[],rfl,fun _=>rfl,.bool true,yL l _,fun _=>⟨List.Pairwise.nil,fun _ hm=>(nomatch hm)⟩⟩,h2,h3,h4⟩
section
variable {prog:Program}{w:World}{A:Around}{E:Value->Shared->Prop}{s:Shared}{K:Frag}
end
end Att
namespace L2
open PySem PySem.Spec PyProof.Rows
theorem qM:∀ {vs:List Value}{ns:List Int},IntsAre vs ns->aY (ns.map V.int) vs
 | _,_,.nil=>.nil
 | _,_,.cons n t h=>.cons ⟨t,rfl⟩ (qM h)
def CT (H:Hp):Prop:=∀ b,H b=none\/∃ o xs,H b=some (.frz o (.lst xs))
theorem B1 {P:Program}{w:World}{K:W.Frag}{mg mb:Str->Option Value}{CX:tI}{k:Nat}{fa a:Addr}{fd:FuncData}{x:Str}{sp:Sp}{s₁:Shared}{vs:List Value}{ns:List Int}
  (KX:K.In s₁.heap) (hns:s₁.heap.Ns mainGlobals mg) (hb:s₁.heap.Ns builtinsNs mb) (hbb:∀ x:Str,x ≠ "__name__" -> mb x=bootBuiltins x) (hlim:s₁.heap.NoLimit) (hg:s₁.gens=#[])
  (ha:s₁.heap.get? a=some { cls:=.type "list",data:=.seq vs.toArray }) (hi:IntsAre vs ns) (hl:ns.length<=sizeLine) (hr:fD k callerA)
  (F:∀ base:Heap,K.In base->base.Ns mainGlobals mg->oD P w K mg base CX k fa fd [x] sp) (hbind:∀ (s:Shared) (u:Value),BindsTo s fd ⟨[u],[]⟩ [(x,u)])
  (hsp:∀ H:Hp,CT H->fw K H a (ns.map V.int)->sp [.ref a] H (fun v _=>v=.bl true) fun _ _ _=>False)
  (hCX:∀ H e s',CX [] H s₁ (fun _ _ _=>False) e s'->False) :
  codeAny (model P w) callerA (.call (.ref fa) ⟨[.ref a],[]⟩) (fun r s'=>r=.ok (.ret (.bool true))/\OldK s₁.heap s'.heap/\s'.os=s₁.os/\AllBare s'.gens) s₁:=by
 have rv:=qM hi
 have lenV:=hi.length
 have core:∀ H:Hp,CT H->fw K H a (ns.map V.int)->mi P w H s₁.heap->(∀ b,H b≠none->b=a)->(H a≠none->K.lookup a=none) ->
   codeAny (model P w) callerA (.call (.ref fa) ⟨[.ref a],[]⟩) (fun r s'=>r=.ok (.ret (.bool true))/\OldK s₁.heap s'.heap/\s'.os=s₁.os/\AllBare s'.gens) s₁:=by
  intro H hO hS hok hA hK
  have base_of:∀ {b:Addr}{o:Obj},s₁.heap.get? b=some o->H b=none->(rS s₁.heap H).get? b=some o:=fun e n=>B6 e n
  have noA:∀ {b:Addr}{o:Obj}{es:Array DictEntry}{ep:Nat},s₁.heap.get? b=some o->o.data=.dict es ep->H b=none:=fun {b o es ep} e d=>by
   cases q:H b with
   | none=>rfl
   | some u=>
    have e':b=a:=hA b (by rw [q];simp)
    subst e'
    rw [ha] at e;cases e
    have d':Data.seq vs.toArray _=Data.dict es ep:=d
    cases d'
  have nsK:∀ {b:Addr}{m:Str->Option Value},s₁.heap.Ns b m->(rS s₁.heap H).Ns b m:=fun {b m} ⟨o,es,ep,e,d,r⟩=>⟨o,es,ep,base_of e (noA e d),d,r⟩
  have hKb:K.In (rS s₁.heap H):=fun b o e=>base_of (KX b o e) (by
   cases q:H b with
   | none=>rfl
   | some u=>
    have e':b=a:=hA b (by rw [q];simp)
    subst e'
    rw [hK (by rw [q];simp)] at e;cases e)
  have hM:Mod K mg (rS s₁.heap H):=⟨hKb,nsK hns,⟨mb,nsK hb,hbb⟩,let ⟨mc,h1,h2⟩:=hlim;⟨mc,nsK h1,h2⟩⟩
  have e0:yj P w K mg (rS s₁.heap H) callerA [] s₁ H:=⟨rfl,hM,fun b o e=>Ef e,Nat.le_of_eq (ze _ _),trivial,fun b hb=>absurd (show b∈([]:List Addr) from hb) (by simp),hok,.of_eq hg⟩
  refine MF ((F _ hKb (nsK hns)).run callerA [] s₁ H ⟨[.ref a],[]⟩ [.ref a] [.ref a] _ _ hr e0 (hbind s₁ (.ref a)) (.cons rfl .nil) (hsp H hO hS)) fun r s' h=>?_
  cases r with
  | error e=>exact (hCX H e s' h).elim
  | ok fl=>
   cases fl with
   | next=>exact False.elim h
   | brk=>exact False.elim h
   | cont=>exact False.elim h
   | ret u=>
    obtain ⟨v,H',os,bare,un,hok',r',q⟩:=h
    have q':v=.bl true:=q
    subst q'
    obtain rfl:u=Value.bool true:=r'
    refine ⟨rfl,OldK.of_keep fun b o e=>?_,os,bare⟩
    cases q:H b with
    | none=>exact un.keep b o e q (by intro z;exact absurd (show b∈([]:List Addr) from z) (by simp)) (by simp)
    | some u=>
     rcases hO b with z | ⟨ob,xs,z⟩
     ·rw [q] at z;cases z
     ·have z2 := un.frzs b ob _ z
      obtain ⟨e1,_⟩:=hok b _ z
      obtain ⟨e2,_⟩:=hok' b _ z2
      rw [e] at e1;cases e1
      exact e2
 cases hk:K.lookup a with
 | some o=>
  have e:=KX a o hk
  rw [ha] at e
  cases e
  refine core (fun _=>none) (fun _=>.inl rfl) (.inr ⟨_,vs.toArray,_,hk,rfl,rfl,rfl,by rw [Mz,lenV];exact hl,by simpa using rv⟩) (fun b u z=>by have z':(none:Option HO)=some u:=z;cases z') (fun b z=>absurd rfl z) fun z=>absurd rfl z
 | none=>
  refine core (fun b=>if b=a then some (.frz { cls:=.type "list",data:=.seq vs.toArray } (.lst (ns.map V.int))) else none) (fun b=>?_) (.inl (.inr ⟨{ cls:=.type "list",data:=.seq vs.toArray },LL rfl⟩)) (fun b u z=>?_) (fun b z=>?_) fun _=>hk
  ·by_cases hb : b = a
   ·exact .inr ⟨_,_,LL hb⟩
   ·exact .inl (LM hb)
  ·by_cases hb : b = a
   ·have z' := (LL hb).symm.trans z
    cases z'
    subst hb
    exact ⟨ha,by rw [MY];exact hl,vs,_,rv,ha⟩
   ·have z' := (LM hb).symm.trans z
    cases z'
  ·by_cases hb : b = a
   ·exact hb
   ·exact absurd (LM hb) z
end L2
namespace L2
open PySem PySem.Spec PyProof.Rows
theorem walk_of {l:W.OpenLaw}{n k:Nat}{q:Program}{loose:List Str}{XP:(Str->Option Value)->Heap->Prop}{YP:World->Heap->Prop}{d:DefRec}{K:Params->W.Frag}{CX:World->tI}{sp:World->Sp}{x:Str}
  (hn:l.most=some n) (hn2:n<=sizeLine) (hdf:d.params.defaults=[]) (hr:fD k callerA)
  (hY:∀ (w:World) (h:Heap),YP w h->(K w.params).In h)
  (F : ∀ (w : World) (mg : Str -> Option Value) (fa : Addr) (h : Heap), (K w.params).In h -> h.Ns mainGlobals mg -> mg d.name = some (.ref fa) ->
   ∃ fd:FuncData,(∀ (s:Shared) (u:Value),BindsTo s fd ⟨[u],[]⟩ [(x,u)]) /\
    ∀ base:Heap,(K w.params).In base->base.Ns mainGlobals mg->oD l.prog w (K w.params) mg base (CX w) k fa fd [x] (sp w))
  (hsp:∀ (w:World) (H:Hp) (a:Addr) (ns:List Int),ns.length<=n->CT H->fw (K w.params) H a (ns.map V.int)->sp w [.ref a] H (fun v _=>v=.bl true) fun _ _ _=>False)
  (hCX:∀ (w:World) (H:Hp) (s:Shared) (e:Value) (s':Shared),CX w [] H s (fun _ _ _=>False) e s'->False) :
  W.WalkO q loose XP YP l.row.toRowW d [] (fun f vs=>PySem.call f vs):=by
 refine Att.attach_call hn hdf fun w s₀ s₁ mg mb fa o pm cd doc a vs ns G Y ho hd hcd hmg hobj hints hlen hg=>?_
 have KX:=hY w _ Y
 obtain ⟨fd,hb,hF⟩:=F w mg fa _ KX G.T.g hmg
 exact B1 KX G.T.g G.T.b G.T.builtins G.T.nolimit hg hobj hints (LV hlen hn2) hr hF hb (fun H hO hS=>hsp w H a ns hlen hO hS) fun H e s'=>hCX w H s₁ e s'
end L2
namespace L2
open PySem PySem.Spec PyProof.Rows
def dM (s:Stmt):Arguments:=match s with
 | .FunctionDef _ a _ _ _ _ _ _ _ _=>a
 | _=>{ posonlyargs:=[],args:=[],vararg:=none,kwonlyargs:=[],kw_defaults:=[],kwarg:=none,defaults:=[] }
def bQ (s:Stmt):List Stmt:=match s with
 | .FunctionDef _ _ b _ _ _ _ _ _ _=>b
 | _=>[]
def av (s:Stmt):Scope:=match s with
 | .FunctionDef _ _ _ _ _ _ sc _ _ _=>sc
 | _=>{ kind:=.function,names:=[],isGenerator:=false,isCoroutine:=false }
abbrev vG:tI:=fun _ _ _ _ _ _=>False
abbrev E0:XK:=fun _ _ _=>False
theorem Aj {X:Cx}:jJ vG X E0:=fun _ _ _ _ _ _ _ h=>h.elim
structure gk (K:W.Frag) (x qual:Str) (st:Stmt) (f:Addr) (fd:FuncData):Prop where
 ex:∃ (oc:Value) (od:Option Addr) (kV doc pm:Value) (an:Option Addr) (cdv ct:Value) (osl:Array (Option Value)),
  fd=W.fnOf x qual (dM st) (bQ st) (av st) .none kV doc pm an cdv ct/\K.lookup f=some ⟨oc,od,.func fd,osl⟩/\W.codeIn K cdv qual=true
 kp:W.keepIn K (.ref f)=true
section
variable {P:Program}{w:World}{K:W.Frag}{mg:Str->Option Value}{base:Heap}
theorem gk.ok {x qual:Str}{st:Stmt}{f:Addr}{fd:FuncData}{N ps:List Str}{k:Nat}{sp:Sp} (F:gk K x qual st f fd) (S:aR N ps (av st)) (len:∀ vs H Q E,sp vs H Q E->vs.length=ps.length)
  (hbody : ∀ (cdv : Value) (A : Around) (outer : List Env) (s : Shared) (H : Hp) (vs : List V) (Q : VK) (E : XK), fD k (A.deeper (envOfC qual (av st) s.heap.objs.size f cdv)) -> sp vs H Q E ->
   ∃ t,iA (oB vG P w K mg base N qual (av st) f cdv A outer s H E).nox (bQ st) t/\t { nx:=fun _ H'=>Q .non H',rt:=Q } (start N vs) H):oD P w K mg base vG (k+1) f fd ps sp:=by
 obtain ⟨oc,od,kV,doc,pm,an,cdv,ct,osl,rfl,lk,hcd⟩:=F.ex
 refine Ft lk hcd S len fun A outer s H vs Q E hr hsp=>?_
 obtain ⟨t,h,q⟩:=hbody cdv A outer s H vs Q E hr hsp
 exact ⟨t,h.nox,q⟩
theorem gk.binds {x qual:Str}{st:Stmt}{f:Addr}{fd:FuncData}{ps:List Str} (F:gk K x qual st f fd)
  (h:∀ (kV doc pm:Value) (an:Option Addr) (cdv ct:Value) (us:List Value),us.length=ps.length->bindArgs (W.fnOf x qual (dM st) (bQ st) (av st) .none kV doc pm an cdv ct) ⟨us,[]⟩=pure (ps.zip us)):f7 K fd ps []:=by
 obtain ⟨oc,od,kV,doc,pm,an,cdv,ct,osl,rfl,lk,hcd⟩:=F.ex
 exact .all (h kV doc pm an cdv ct)
theorem Ib {x qual:Str}{st:Stmt}{f:Addr}{oc:Value}{od an:Option Addr}{osl:Array (Option Value)}{kV doc pm cdv ct:Value} (l:K.lookup f=some ⟨oc,od,.func (W.fnOf x qual (dM st) (bQ st) (av st) .none kV doc pm an cdv ct),osl⟩)
  (c:W.codeIn K cdv qual=true) (k:W.keepIn K (.ref f)=true):gk K x qual st f (W.fnOf x qual (dM st) (bQ st) (av st) .none kV doc pm an cdv ct):=⟨⟨oc,od,kV,doc,pm,an,cdv,ct,osl,rfl,l,c⟩,k⟩
end
section
variable {X:Cx}
end
theorem Jb {A B:Prop} (h:B):if false=true then A else B:=by
 rw [LM Mm]
 exact h
theorem Ja {A B:Prop} (h:A):if true=true then A else B:=by
 rw [LL rfl]
 exact h
end L2
namespace Lw
open PySem PySem.Spec PyProof.Rows L2
def top (i:Nat):Stmt:=PySem.Challenge.pw_rootwebs_k36_alike_trees.main.body.getD i (.Pass ⟨0,0,0,0⟩)
abbrev ir:Stmt:=top 11
abbrev dO:Stmt:=top 12
abbrev iu:Stmt:=top 13
abbrev eZ:Stmt:=top 14
abbrev eY:Stmt:=top 15
abbrev i6:Stmt:=top 19
abbrev i4:Stmt:=top 22
abbrev kj:Stmt:=top 21
abbrev hX:Stmt:=top 20
abbrev iq:Stmt:=top 18
abbrev i3:Stmt:=top 23
abbrev cL:Stmt:=top 25
abbrev e9:Stmt:=top 24
abbrev gK:Stmt:=top 27
abbrev fT:Stmt:=top 28
abbrev d5:Stmt:=top 30
abbrev cM:Stmt:=top 29
abbrev eE:Stmt:=top 32
abbrev gN:Stmt:=top 33
abbrev fj:Stmt:=top 34
abbrev gO:Stmt:=top 35
abbrev fU:Stmt:=top 36
abbrev eD:Stmt:=top 37
abbrev dg:Stmt:=top 38
abbrev cP:Stmt:=top 39
abbrev gb:Stmt:=top 40
abbrev c8:Stmt:=top 44
abbrev eC:Stmt:=top 45
abbrev c9:Stmt:=top 46
abbrev gM:Stmt:=top 47
abbrev d6:Stmt:=top 48
abbrev gL:Stmt:=top 49
abbrev kN:Stmt:=top 50
noncomputable def en (P:Params) (n:Str) (t:Tok) (v:Value):DictEntry:=⟨PyData.keyHash P n,.str n t,v⟩
noncomputable def fo (n:Str) (st:Stmt) (m:Str) (t:Tok) (c:Addr):Obj:=⟨.type "function",none,.func (W.fnOf n n (dM st) (bQ st) (av st) .none .none .none (.str m t) none (.ref c) .none),#[]⟩
noncomputable def co (n:Str) (t:Tok) (l k i:Int) (a:Addr) (p:Bool) (u:Nat):Obj:=⟨.type "code",none,.fields #[.str n t,.str n (t+1),.str "/claim/cut.py" (t+2),.int l 0,.int k 0,.int 0 0,.int 0 0,.int 3 0,.ref a,.bool true,.int i 0,.ref (a+1),.none,bif p then .ref (a+2) else .none,bif p then .ref (a+3) else .none,.ref (bif p then a+4 else a+2),.int u 0,.int l 0,.str "/claim/cut.py" (u+1)],#[]⟩
noncomputable def Kz (P:Params):W.Frag:=[(3,⟨.type "dict",none,.dict #[en P "__name__" 165 (.str "law_rootwebs_k36_alike_trees" 493),en P "__doc__" 166 .none,en P "__package__" 167 .none,en P "__loader__" 168 (.builtin "__main__.__loader__#opaque"),en P "__spec__" 169 .none,en P "__annotations__" 170 (.ref 6),en P "__builtins__" 171 (.ref 4),en P "__file__" 173 (.str "/claim/cut.py" 172),en P "__cached__" 174 .none,en P "RootError" 206 (.ref 24),en P "NoPlace" 222 (.ref 37),en P "NoNumber" 238 (.ref 49),en P "NoLine" 254 (.ref 61),en P "NoRoot" 270 (.ref 73),en P "NoTree" 286 (.ref 85),en P "NoWeb" 311 (.ref 104),en P "NoText" 336 (.ref 123),en P "TooGreat" 363 (.ref 142),en P "is_whole" 372 (.ref 151),en P "is_whole_from" 381 (.ref 158),en P "is_place" 389 (.ref 165),en P "is_places" 395 (.ref 170),en P "is_rising" 401 (.ref 175),en P "MOST_PLACES" 405 (.int 6 404),en P "web_good" 414 (.ref 182),en P "is_many" 421 (.ref 189),en P "is_ties" 427 (.ref 194),en P "is_tie" 435 (.ref 201),en P "is_pair" 443 (.ref 208),en P "is_tied" 452 (.ref 215),en P "fars_from" 458 (.ref 220),en P "next_places" 464 (.ref 225),en P "tree_good" 473 (.ref 232),en P "check_tree" 480 (.ref 239),en P "alike_trees" 486 (.ref 244),en P "keeps_last" 492 (.ref 249),en P "_law_cell_at" 502 (.ref 256),en P "_law_next" 509 (.ref 263),en P "_law_pen_of" 517 (.ref 270),en P "_law_draw" 526 (.ref 277),en P "_law_whole" 533 (.ref 284),en P "_law_kind_of" 541 (.ref 291),en P "_law_named" 547 (.ref 296),en P "_law_names_by" 553 (.ref 301),en P "_law_far" 559 (.ref 306),en P "_law_steps" 565 (.ref 311),en P "_law_sparse_by" 571 (.ref 316),en P "_law_web_by" 583 (.ref 323),en P "_law_tree_by" 589 (.ref 328),en P "_law_no_tree" 601 (.ref 335),en P "_law_is_tree" 607 (.ref 340),en P "_law_tied" 616 (.ref 347),en P "_law_first" 622 (.ref 352),en P "_law_told" 631 (.ref 359),en P "law" 645 (.ref 366)] 55,#[]⟩),
 (23,⟨.type "dict",none,.dict #[en P "__module__" 196 (.str "rootwebs.errors" 187),en P "__firstlineno__" 200 (.int 2 199),en P "__static_attributes__" 201 (.ref 22),en P "__weakref__" 203 (.ref 25),en P "__doc__" 204 .none] 3,#[]⟩),
 (24,⟨.type "type",none,.cls ⟨"RootError",[(.type "ValueError")],[(.ref 24),(.type "ValueError"),(.type "Exception"),(.type "BaseException"),(.type "object")],23, "RootError",true,[],[(.ref 37),(.ref 49),(.ref 61),(.ref 73),(.ref 85),(.ref 104),(.ref 123),(.ref 142)],false,none,false⟩,#[some (.ref 15),none,some (.str "RootError" 189),some (.str "RootError" 197),some (.builtin "ValueError.__new__"),some (.bool true)]⟩),
 (36,⟨.type "dict",none,.dict #[en P "__module__" 214 (.str "rootwebs.errors" 187),en P "__firstlineno__" 218 (.int 4 217),en P "__static_attributes__" 219 (.ref 35),en P "__doc__" 220 .none] 2,#[]⟩),
 (37,⟨.type "type",none,.cls ⟨"NoPlace",[(.ref 24)],[(.ref 37),(.ref 24),(.type "ValueError"),(.type "Exception"),(.type "BaseException"),(.type "object")],36, "NoPlace",true,[],[],false,none,false⟩,#[some (.ref 28),none,some (.str "NoPlace" 207),some (.str "NoPlace" 215),some (.builtin "ValueError.__new__"),some (.bool true)]⟩),
 (48,⟨.type "dict",none,.dict #[en P "__module__" 230 (.str "rootwebs.errors" 187),en P "__firstlineno__" 234 (.int 6 233),en P "__static_attributes__" 235 (.ref 47),en P "__doc__" 236 .none] 2,#[]⟩),
 (49,⟨.type "type",none,.cls ⟨"NoNumber",[(.ref 24)],[(.ref 49),(.ref 24),(.type "ValueError"),(.type "Exception"),(.type "BaseException"),(.type "object")],48, "NoNumber",true,[],[],false,none,false⟩,#[some (.ref 40),none,some (.str "NoNumber" 223),some (.str "NoNumber" 231),some (.builtin "ValueError.__new__"),some (.bool true)]⟩),
 (60,⟨.type "dict",none,.dict #[en P "__module__" 246 (.str "rootwebs.errors" 187),en P "__firstlineno__" 250 (.int 8 249),en P "__static_attributes__" 251 (.ref 59),en P "__doc__" 252 .none] 2,#[]⟩),
 (61,⟨.type "type",none,.cls ⟨"NoLine",[(.ref 24)],[(.ref 61),(.ref 24),(.type "ValueError"),(.type "Exception"),(.type "BaseException"),(.type "object")],60, "NoLine",true,[],[],false,none,false⟩,#[some (.ref 52),none,some (.str "NoLine" 239),some (.str "NoLine" 247),some (.builtin "ValueError.__new__"),some (.bool true)]⟩),
 (72,⟨.type "dict",none,.dict #[en P "__module__" 262 (.str "rootwebs.errors" 187),en P "__firstlineno__" 266 (.int 10 265),en P "__static_attributes__" 267 (.ref 71),en P "__doc__" 268 .none] 2,#[]⟩),
 (73,⟨.type "type",none,.cls ⟨"NoRoot",[(.ref 24)],[(.ref 73),(.ref 24),(.type "ValueError"),(.type "Exception"),(.type "BaseException"),(.type "object")],72, "NoRoot",true,[],[],false,none,false⟩,#[some (.ref 64),none,some (.str "NoRoot" 255),some (.str "NoRoot" 263),some (.builtin "ValueError.__new__"),some (.bool true)]⟩),
 (84,⟨.type "dict",none,.dict #[en P "__module__" 278 (.str "rootwebs.errors" 187),en P "__firstlineno__" 282 (.int 12 281),en P "__static_attributes__" 283 (.ref 83),en P "__doc__" 284 .none] 2,#[]⟩),
 (85,⟨.type "type",none,.cls ⟨"NoTree",[(.ref 24)],[(.ref 85),(.ref 24),(.type "ValueError"),(.type "Exception"),(.type "BaseException"),(.type "object")],84, "NoTree",true,[],[],false,none,false⟩,#[some (.ref 76),none,some (.str "NoTree" 271),some (.str "NoTree" 279),some (.builtin "ValueError.__new__"),some (.bool true)]⟩),
 (103,⟨.type "dict",none,.dict #[en P "__module__" 294 (.str "rootwebs.errors" 187),en P "__firstlineno__" 298 (.int 14 297),en P "__init__" 306 (.ref 101),en P "__static_attributes__" 308 (.ref 102),en P "__doc__" 309 .none] 2,#[]⟩),
 (104,⟨.type "type",none,.cls ⟨"NoWeb",[(.ref 24)],[(.ref 104),(.ref 24),(.type "ValueError"),(.type "Exception"),(.type "BaseException"),(.type "object")],103, "NoWeb",true,[],[],false,none,false⟩,#[some (.ref 88),none,some (.str "NoWeb" 287),some (.str "NoWeb" 295),some (.builtin "ValueError.__new__"),some (.bool true)]⟩),
 (122,⟨.type "dict",none,.dict #[en P "__module__" 319 (.str "rootwebs.errors" 187),en P "__firstlineno__" 323 (.int 18 322),en P "__init__" 331 (.ref 120),en P "__static_attributes__" 333 (.ref 121),en P "__doc__" 334 .none] 2,#[]⟩),
 (123,⟨.type "type",none,.cls ⟨"NoText",[(.ref 24)],[(.ref 123),(.ref 24),(.type "ValueError"),(.type "Exception"),(.type "BaseException"),(.type "object")],122, "NoText",true,[],[],false,none,false⟩,#[some (.ref 107),none,some (.str "NoText" 312),some (.str "NoText" 320),some (.builtin "ValueError.__new__"),some (.bool true)]⟩),
 (141,⟨.type "dict",none,.dict #[en P "__module__" 344 (.str "rootwebs.errors" 187),en P "__firstlineno__" 348 (.int 22 347),en P "__init__" 357 (.ref 139),en P "__static_attributes__" 360 (.ref 140),en P "__doc__" 361 .none] 2,#[]⟩),
 (142,⟨.type "type",none,.cls ⟨"TooGreat",[(.ref 24)],[(.ref 142),(.ref 24),(.type "ValueError"),(.type "Exception"),(.type "BaseException"),(.type "object")],141, "TooGreat",true,[],[],false,none,false⟩,#[some (.ref 126),none,some (.str "TooGreat" 337),some (.str "TooGreat" 345),some (.builtin "ValueError.__new__"),some (.bool true)]⟩),
 (150,co "is_whole" 366 28 1 181 145 true 370),
 (151,fo "is_whole" ir "rootwebs.kinds" 364 150),
 (157,co "is_whole_from" 373 30 3 181 152 true 379),
 (158,fo "is_whole_from" dO "rootwebs.kinds" 364 157),
 (164,co "is_place" 382 32 2 181 159 true 387),
 (165,fo "is_place" iu "rootwebs.kinds" 364 164),
 (169,co "is_places" 390 34 2 181 166 false 393),
 (170,fo "is_places" eZ "rootwebs.kinds" 364 169),
 (174,co "is_rising" 396 36 1 181 171 false 399),
 (175,fo "is_rising" eY "rootwebs.kinds" 364 174),
 (181,co "web_good" 406 40 1 181 176 true 412),
 (182,fo "web_good" iq "rootwebs.webs" 402 181),
 (188,co "is_many" 415 45 1 181 183 true 419),
 (189,fo "is_many" i6 "rootwebs.webs" 402 188),
 (193,co "is_ties" 422 47 2 181 190 false 425),
 (194,fo "is_ties" hX "rootwebs.webs" 402 193),
 (200,co "is_tie" 428 49 2 181 195 true 433),
 (201,fo "is_tie" kj "rootwebs.webs" 402 200),
 (207,co "is_pair" 436 51 2 181 202 true 441),
 (208,fo "is_pair" i4 "rootwebs.webs" 402 207),
 (214,co "is_tied" 444 53 3 181 209 true 450),
 (215,fo "is_tied" i3 "rootwebs.webs" 402 214),
 (219,co "fars_from" 453 55 2 181 216 false 456),
 (220,fo "fars_from" e9 "rootwebs.webs" 402 219),
 (224,co "next_places" 459 67 2 181 221 false 462),
 (225,fo "next_places" cL "rootwebs.webs" 402 224),
 (231,co "tree_good" 467 70 1 181 226 true 471),
 (232,fo "tree_good" gK "rootwebs.trees" 465 231),
 (238,co "check_tree" 474 72 1 181 233 true 478),
 (239,fo "check_tree" fT "rootwebs.trees" 465 238),
 (243,co "alike_trees" 481 75 2 181 240 false 484),
 (244,fo "alike_trees" cM "rootwebs.trees" 465 243),
 (248,co "keeps_last" 487 86 3 181 245 false 490),
 (249,fo "keeps_last" d5 "rootwebs.trees" 465 248),
 (255,co "_law_cell_at" 495 90 2 181 250 true 500),
 (256,fo "_law_cell_at" eE "law_rootwebs_k36_alike_trees" 493 255),
 (262,co "_law_next" 503 94 1 181 257 true 507),
 (263,fo "_law_next" gN "law_rootwebs_k36_alike_trees" 493 262),
 (269,co "_law_pen_of" 510 97 1 181 264 true 515),
 (270,fo "_law_pen_of" fj "law_rootwebs_k36_alike_trees" 493 269),
 (276,co "_law_draw" 518 100 2 181 271 true 524),
 (277,fo "_law_draw" gO "law_rootwebs_k36_alike_trees" 493 276),
 (283,co "_law_whole" 527 107 1 181 278 true 531),
 (284,fo "_law_whole" fU "law_rootwebs_k36_alike_trees" 493 283),
 (290,co "_law_kind_of" 534 109 1 181 285 true 539),
 (291,fo "_law_kind_of" eD "law_rootwebs_k36_alike_trees" 493 290),
 (295,co "_law_named" 542 115 2 181 292 false 545),
 (296,fo "_law_named" dg "law_rootwebs_k36_alike_trees" 493 295),
 (300,co "_law_names_by" 548 118 2 181 297 false 551),
 (301,fo "_law_names_by" cP "law_rootwebs_k36_alike_trees" 493 300),
 (305,co "_law_far" 554 121 1 181 302 false 557),
 (306,fo "_law_far" gb "law_rootwebs_k36_alike_trees" 493 305),
 (327,co "_law_tree_by" 584 170 1 181 324 false 587),
 (328,fo "_law_tree_by" c8 "law_rootwebs_k36_alike_trees" 493 327),
 (334,co "_law_no_tree" 590 174 2 181 329 true 599),
 (335,fo "_law_no_tree" eC "law_rootwebs_k36_alike_trees" 493 334),
 (339,co "_law_is_tree" 602 181 1 181 336 false 605),
 (340,fo "_law_is_tree" c9 "law_rootwebs_k36_alike_trees" 493 339),
 (346,co "_law_tied" 608 189 3 181 341 true 614),
 (347,fo "_law_tied" gM "law_rootwebs_k36_alike_trees" 493 346),
 (351,co "_law_first" 617 191 2 181 348 false 620),
 (352,fo "_law_first" d6 "law_rootwebs_k36_alike_trees" 493 351),
 (358,co "_law_told" 623 204 2 181 353 true 629),
 (359,fo "_law_told" gL "law_rootwebs_k36_alike_trees" 493 358),
 (365,co "law" 632 209 1 181 360 true 643),
 (366,fo "law" kN "law_rootwebs_k36_alike_trees" 493 365)]
noncomputable def Qz:Program:=W.view PySem.Challenge.pw_rootwebs_k36_alike_trees [1,2,3,4,5,6,7,8,9,11,12,13,14,15,17,18,19,20,21,22,23,24,25,27,28,29,30,32,33,34,35,36,37,38,39,40,41,42,43,44,45,46,47,48,49,50]
noncomputable abbrev Hz:W.Hook:=W.kHook Kz [3,23,24,36,37,48,49,60,61,72,73,84,85,103,104,122,123,141,142,150,151,157,158,164,165,169,170,174,175,181,182,188,189,193,194,200,201,207,208,214,215,219,220,224,225,231,232,238,239,243,244,248,249,255,256,262,263,269,270,276,277,283,284,290,291,295,296,300,301,305,306,327,328,334,335,339,340,346,347,351,352,358,359,365,366] fun _=>by kernel_rfl
theorem FW:PySem.Challenge.rw_rootwebs_k36_alike_trees.wellSaid=true:=by kernel_rfl
noncomputable abbrev Xz (s:Shared):Bool:=W.xlAt Qz [] s && W.recOk (W.RowW.records (W.OpenRow.toRowW (W.OpenLaw.row PySem.Challenge.rw_rootwebs_k36_alike_trees))) s
theorem we {σ α β γ δ ε:Type _}{o:Option σ} (F:σ->α × β × γ × δ) (G:σ->ε) (g:α × β × γ × δ) (v:ε)
  (h1:o.map (fun s=>(F s).1)=some g.1) (h2:o.map (fun s=>((F s).2.1,(F s).2.2.1))=some (g.2.1,g.2.2.1)) (h3:o.map (fun s=>(F s).2.2.2)=some g.2.2.2)
  (h4:o.map G=some v):o.map (fun s=>(F s,G s))=some (g,v):=by
 cases o with
 | none=>cases h4
 | some s=>
  have e1:(F s).1=g.1:=LN h1
  have e2:((F s).2.1,(F s).2.2.1)=(g.2.1,g.2.2.1):=LN h2
  have e3:(F s).2.2.2=g.2.2.2:=LN h3
  have e4:G s=v:=LN h4
  have e5:(F s).2.1=g.2.1:=(Prod.mk.inj e2).1
  have e6:(F s).2.2.1=g.2.2.1:=(Prod.mk.inj e2).2
  have e:F s=g:=Prod.ext e1 (Prod.ext e5 (Prod.ext e6 e3))
  show some (F s,G s)=some (g,v)
  rw [e,e4]
theorem C2:∀ w,(W.openEnds PySem.treeTable PySem.Challenge.rw_rootwebs_k36_alike_trees.row.prog w 6278).map (fun s=>(W.openSeen Qz [] (PySem.importedModules PySem.Challenge.rw_rootwebs_k36_alike_trees.row.prog.main.body) Xz true s).1)=some (W.openGood Qz []).1:=fun w=>by kernel_rfl
theorem C1:∀ w,(W.openEnds PySem.treeTable PySem.Challenge.rw_rootwebs_k36_alike_trees.row.prog w 6278).map (fun s=>((W.openSeen Qz [] (PySem.importedModules PySem.Challenge.rw_rootwebs_k36_alike_trees.row.prog.main.body) Xz true s).2.1,(W.openSeen Qz [] (PySem.importedModules PySem.Challenge.rw_rootwebs_k36_alike_trees.row.prog.main.body) Xz true s).2.2.1))=some ((W.openGood Qz []).2.1,(W.openGood Qz []).2.2.1):=fun w=>by kernel_rfl
theorem C0:∀ w,(W.openEnds PySem.treeTable PySem.Challenge.rw_rootwebs_k36_alike_trees.row.prog w 6278).map (fun s=>(W.openSeen Qz [] (PySem.importedModules PySem.Challenge.rw_rootwebs_k36_alike_trees.row.prog.main.body) Xz true s).2.2.2)=some (W.openGood Qz []).2.2.2:=fun w=>by kernel_rfl
theorem CZ:∀ w,(W.openEnds PySem.treeTable PySem.Challenge.rw_rootwebs_k36_alike_trees.row.prog w 6278).map (W.Hook.obs Hz)=some (W.Hook.val Hz w):=fun w=>by kernel_rfl
theorem FX:W.LeftO PySem.Challenge.rw_rootwebs_k36_alike_trees.row.prog Qz [] Xz (W.Hook.obs Hz) (W.Hook.val Hz) 6278:=fun w=>we (W.openSeen Qz [] (PySem.importedModules PySem.Challenge.rw_rootwebs_k36_alike_trees.row.prog.main.body) Xz true) (W.Hook.obs Hz) (W.openGood Qz []) (W.Hook.val Hz w) (C2 w) (C1 w) (C0 w) (CZ w)
end Lw
namespace L2
open PySem PySem.Spec PyProof.Rows
theorem eF {x:Str}:∀ {names:List (Str × NameKind)}{k:NameKind},names.lookup x=some k->(x,k)∈names
 | [],_,h=>by simp at h
 | (n,j)::r,k,h=>by
  rw [NR] at h
  cases hx:x == n with
  | true=>
   rw [hx] at h
   have e:x=n:=eq_of_beq hx
   cases h
   rw [e];exact LY
  | false=>rw [hx] at h;exact LZ _ (eF h)
theorem j5 {env:Env}{x:Str}:∀ {names:List (Str × NameKind)},
  (names.map fun (n, k) => if (k == NameKind.free && env.scope.kind == .function && env.kindOf n == some .cell) then (n, NameKind.cell) else (n, k)).lookup x =
   (names.lookup x).map fun k=>if (k == NameKind.free && env.scope.kind == .function && env.kindOf x == some .cell) then NameKind.cell else k
 | []=>rfl
 | (n,k)::r=>by
  have ih:=j5 (env:=env) (x:=x) (names:=r)
  rw [Ny]
  show List.lookup x ((if (k == NameKind.free && env.scope.kind == .function && env.kindOf n == some .cell)=true then (n,NameKind.cell) else (n,k))::_)=_
  cases hx:x == n with
  | true=>
   have e:x=n:=eq_of_beq hx
   subst e
   by_cases hc:(k == NameKind.free && env.scope.kind == .function && env.kindOf x == some .cell)=true
   ·rw [LL hc,NR,hx,NR,hx];show some NameKind.cell=some (if _ then _ else _);rw [LL hc]
   ·rw [LM hc,NR,hx,NR,hx];show some k=some (if _ then _ else _);rw [LM hc]
  | false=>
   by_cases hc:(k == NameKind.free && env.scope.kind == .function && env.kindOf n == some .cell)=true
   ·rw [LL hc,NR,hx,NR,hx];exact ih
   ·rw [LM hc,NR,hx,NR,hx];exact ih
theorem kX {env:Env}{f:Str × NameKind->List (Str × Addr)->Sem (ForInStep (List (Str × Addr)))}
  (h1:∀ n c acc,env.cells.lookup n=some c->f (n,.free) acc=pure (.yield ((n,c)::acc))) (h2:∀ n k acc,k≠.free->f (n,k) acc=pure (.yield acc)) :
  ∀ (names:List (Str × NameKind)) (acc:List (Str × Addr)),(∀ y∈names,y.2=.free->∃ c,env.cells.lookup y.1=some c)->(∀ x c,acc.lookup x=some c->env.cells.lookup x=some c) ->
   ∃ cl,forIn names acc f=(pure cl:Sem (List (Str × Addr)))/\(∀ x c,cl.lookup x=some c->env.cells.lookup x=some c)/\(∀ x,(acc.lookup x).isSome=true->(cl.lookup x).isSome=true)/\(∀ y∈names,y.2=.free->(cl.lookup y.1).isSome=true)
 | [],acc,_,ha=>⟨acc,rfl,ha,fun _ h=>h,fun y hy=>by simp at hy⟩
 | (n,k)::r,acc,hn,ha=>by
  by_cases hk:k=.free
  ·subst hk
   obtain ⟨c,hc⟩:=hn (n,.free) LY rfl
   obtain ⟨cl,e1,e2,e3,e4⟩:=kX h1 h2 r ((n,c)::acc) (fun y hy=>hn y (LZ _ hy)) (fun x d h=>by
    rw [NR] at h
    cases hx:x == n with
    | true=>rw [hx] at h;cases h;rw [eq_of_beq hx];exact hc
    | false=>rw [hx] at h;exact ha x d h)
   refine ⟨cl,?_,e2,fun x h=>e3 x ?_,fun y hy hf=>?_⟩
   ·rw [List.forIn_cons,h1 n c acc hc];exact e1
   ·rw [NR];cases hx:x == n <;> simp [h]
   ·rcases L4.mp hy with z | z
    ·subst z;exact e3 n (by simp [NR])
    ·exact e4 y z hf
  ·obtain ⟨cl, e1, e2, e3, e4⟩ := kX h1 h2 r acc (fun y hy => hn y (LZ _ hy)) ha
   refine ⟨cl,?_,e2,e3,fun y hy hf=>?_⟩
   ·rw [List.forIn_cons,h2 n k acc hk];exact e1
   ·rcases L4.mp hy with z | z
    ·subst z;exact absurd hf hk
    ·exact e4 y z hf
theorem vx {env:Env}{n:Str}{c:Addr} (h:env.cells.lookup n=some c):cellOf env n=pure c:=by
 unfold cellOf;rw [h]
def xl (env:Env) (x:Str × NameKind) (r:List (Str × Addr)):Sem (ForInStep (List (Str × Addr))):=
 match x with | (name,kind)=>if kind == .free then do let c <- cellOf env name;pure (.yield ((name,c)::r)) else pure (.yield r)
theorem wV {scope:Scope}{env:Env} (hn:∀ y∈scope.names,y.2=.free->∃ c,env.cells.lookup y.1=some c) :
  ∃ cl,closureFor scope env=pure cl/\(∀ x c,cl.lookup x=some c->env.cells.lookup x=some c)/\(∀ y∈scope.names,y.2=.free->(cl.lookup y.1).isSome=true):=by
 obtain ⟨cl,e1,e2,_,e4⟩:=kX (env:=env) (f:=xl env)
  (fun n c acc h=>by unfold xl;simp only [NS,Nf];rw [vx h];rfl)
  (fun n k acc h => by
   unfold xl
   have:(k == NameKind.free)=false:=by simpa using h
   simp only [this,NT,Nd]) scope.names [] hn (fun x c h=>by simp at h)
 refine ⟨cl,?_,e2,e4⟩
 show (forIn scope.names [] (xl env) >>= fun s=>pure s)=pure cl
 rw [e1];rfl
def iI (X:Cx) (Nc:List Str) (scope:Scope) (cl:List (Str × Addr)) (C:Addr) (s:Shared) (H:Hp) (fp:List Addr):Cx where
 prog:=X.prog
 w:=X.w
 K:=X.K
 mg:=X.mg
 base:=X.base
 A:=X.A
 N:=Nc
 s₀:=s
 H₀:=H
 env:=compEnvC scope (cellsFrom (C+1) scope.names cl) C X.env
 outer:=X.stack
 stack:=X.stack
 ex:=fp
 fn:=fun x=>scope.names.lookup x == some .cell
 calm:=X.calm
 pn:=[]
 xe:=fun _ _=>False
def oO (cap:List (Option Nat)) (σ:St):St:=cap.map fun o=>o.bind fun j=>(σ[j]?).join
def fG (N:List Str) (env:Env) (scope:Scope):List Str->List (Option Nat)->Bool
 | [],[]=>true
 | _::Nc,none::cap=>fG N env scope Nc cap
 | x::Nc,some j::cap=>(N[j]? == some x) && (scope.names.lookup x == some .free) && fG N env scope Nc cap
 | _,_=>false
theorem mS {N:List Str}{env:Env}{scope:Scope}:∀ {Nc:List Str}{cap:List (Option Nat)},fG N env scope Nc cap=true->cap.length=Nc.length
 | [],[],_=>rfl
 | [],_::_,h=>by simp [fG] at h
 | _::_,[],h=>by simp [fG] at h
 | _::Nc,none::cap,h=>by rw [NU,NU,mS (Nc:=Nc) (cap:=cap) h]
 | x::Nc,some j::cap,h=>by
  have h':fG N env scope Nc cap=true:=by unfold fG at h;simp only [Nv] at h;exact h.2
  rw [NU,NU,mS h']
theorem pD {N:List Str}{env:Env}{scope:Scope}:∀ {Nc:List Str}{cap:List (Option Nat)}{i j:Nat}{x:Str},fG N env scope Nc cap=true->cap[i]?=some (some j)->Nc[i]?=some x->N[j]?=some x/\scope.names.lookup x=some .free
 | [],_,_,_,_,_,_,e=>by simp at e
 | _::_,[],_,_,_,h,_,_=>by simp [fG] at h
 | y::Nc,none::cap,0,j,x,h,e,_=>by simp at e
 | y::Nc,some k::cap,0,j,x,h,e,e2=>by
  simp at e e2;subst e;subst e2
  unfold fG at h;simp only [Nv] at h
  exact ⟨eq_of_beq h.1.1,eq_of_beq h.1.2⟩
 | y::Nc,none::cap,i+1,j,x,h,e,e2=>pD (Nc:=Nc) (cap:=cap) (i:=i) h (by simpa using e) (by simpa using e2)
 | y::Nc,some k::cap,i+1,j,x,h,e,e2=>by
  have h':fG N env scope Nc cap=true:=by unfold fG at h;simp only [Nv] at h;exact h.2
  exact pD (Nc:=Nc) (cap:=cap) (i:=i) h' (by simpa using e) (by simpa using e2)
structure bR (N:List Str) (env:Env) (scope:Scope) (Nc:List Str) (cap:List (Option Nat)):Prop where
 kind:scope.kind=.function
 nd:∀ y∈scope.names,scope.names.lookup y.1=some y.2
 free:∀ y∈scope.names,y.2=.free->env.kindOf y.1=some .cell\/env.kindOf y.1=some .free
 cap:fG N env scope Nc cap=true
theorem km {n0:Nat}{x:Str}{c:Addr}:∀ {names:List (Str × NameKind)}{cl:List (Str × Addr)}{n:Nat},n0<=n->((x,NameKind.cell)∈names\/∃ c',cl.lookup x=some c'/\n0<=c')->(cellsFrom n names cl).lookup x=some c->n0<=c
 | [],cl,n,_,h,e=>by
  rcases h with z | ⟨c',z1,z2⟩
  ·simp at z
  ·have e' : cl.lookup x = some c := e
   rw [z1] at e';cases e';exact z2
 | (y,k)::r,cl,n,hn,h,e=>by
  unfold cellsFrom at e
  split at e
  ·rename_i hk
   refine km (n:=n+1) (by omega) ?_ e
   cases hx:x == y with
   | true=>exact .inr ⟨n,by rw [NR,hx],hn⟩
   | false=>
    rcases h with z | ⟨c',z1,z2⟩
    ·rcases L4.mp z with q | q
     ·have : x = y := Mf Prod.fst q
      rw [this] at hx;simp at hx
     ·exact .inl q
    ·exact .inr ⟨c',by rw [NR,hx];exact z1,z2⟩
  ·rename_i hk
   refine km hn ?_ e
   rcases h with z | z
   ·rcases L4.mp z with q | q
    ·have : k = .cell := (Mf Prod.snd q).symm
     exact absurd (by rw [this];rfl) hk
    ·exact .inl q
   ·exact .inr z
theorem iP {x:Str}:∀ {names:List (Str × NameKind)}{cl:List (Str × Addr)}{n:Nat},(x,NameKind.cell) ∉ names->(cellsFrom n names cl).lookup x=cl.lookup x
 | [],cl,n,_=>rfl
 | (y,k)::r,cl,n,hn=>by
  unfold cellsFrom
  have hr:(x,NameKind.cell) ∉ r:=fun z=>hn (LZ _ z)
  split
  ·rename_i hk
   rw [iP hr,NR]
   cases hx:x == y with
   | true=>exact absurd (by rw [eq_of_beq hx,(eq_of_beq hk:k=.cell)];exact LY) hn
   | false=>rfl
  ·exact iP hr
theorem mR {n0:Nat}:∀ {names:List (Str × NameKind)}{cl:List (Str × Addr)}{n:Nat},n0<=n->(∀ x y c,cl.lookup x=some c->cl.lookup y=some c->n0<=c->x=y)->(∀ x c,cl.lookup x=some c->c<n) ->
  ∀ x y c,(cellsFrom n names cl).lookup x=some c->(cellsFrom n names cl).lookup y=some c->n0<=c->x=y
 | [],cl,n,_,h,_=>h
 | (z,k)::r,cl,n,hn,h,hb=>by
  unfold cellsFrom
  split
  ·refine mR (n := n + 1) (by omega) (fun x y c e1 e2 hc => ?_) (fun x c e => ?_)
   ·rw [NR] at e1 e2
    cases hx:x == z with
    | true=>
     cases hy:y == z with
     | true=>rw [eq_of_beq hx,eq_of_beq hy]
     | false=>
      rw [hx] at e1;rw [hy] at e2
      cases e1
      exact absurd (hb y _ e2) (LQ _)
    | false=>
     cases hy:y == z with
     | true=>
      rw [hx] at e1;rw [hy] at e2
      cases e2
      exact absurd (hb x _ e1) (LQ _)
     | false=>rw [hx] at e1;rw [hy] at e2;exact h x y c e1 e2 hc
   ·rw [NR] at e
    cases hx:x == z with
    | true=>rw [hx] at e;cases e;exact NV _
    | false=>rw [hx] at e;exact NW (hb x c e)
  ·exact mR hn h hb
theorem jV {x:Str}{c:Addr}:∀ {names:List (Str × NameKind)}{cl:List (Str × Addr)}{h:Heap},(cellsFrom h.objs.size names cl).lookup x=some c->cl.lookup x=some c\/(pushCells h names).IsCell c none
 | [],cl,h,e=>.inl e
 | (y,k)::r,cl,h,e=>by
  unfold cellsFrom at e
  unfold pushCells
  split at e
  ·rename_i hk
   rw [LL hk]
   have e':(cellsFrom (h.push { cls:=.type "cell",data:=.cell none }).objs.size r ((y,h.objs.size)::cl)).lookup x=some c:=by rw [NX];exact e
   rcases jV e' with q | q
   ·rw [NR] at q
    cases hx:x == y with
    | true=>
     rw [hx] at q;cases q
     exact .inr ⟨_,NY _ _ _ _ (Ms _ rfl),rfl⟩
    | false=>rw [hx] at q;exact .inl q
   ·exact .inr q
  ·rename_i hk
   rw [LM hk]
   exact jV e
theorem zd {X:Cx}{pins:List (Addr × Obj)}{σ:St}{H:Hp}{s:Shared}{h':Heap}{t':Nat}{fp:List Addr}{Nc:List Str}{scope:Scope}{cl:List (Str × Addr)}{cap:List (Option Nat)}
  (I:aS X pins σ H s) (hf:∀ b∈fp,nM X pins H b) (hfs:∀ b∈fp,b<s.heap.objs.size) (S:bR X.N X.env scope Nc cap)
  (hcl:∀ x c,cl.lookup x=some c->X.env.cells.lookup x=some c) (hall:∀ y∈scope.names,y.2=.free->(cl.lookup y.1).isSome=true)
  (hn:h'.Ns s.heap.objs.size (fun _=>none)) (hk:∀ b o,s.heap.get? b=some o->h'.get? b=some o) (hce:∀ x c,(cellsFrom (s.heap.objs.size+1) scope.names cl).lookup x=some c->cl.lookup x=some c\/h'.IsCell c none) :
  aS (iI X Nc scope cl s.heap.objs.size s H fp) [] (oO cap σ) H { s with heap:=h',toks:=t' }:=by
 have hrl:∀ x,(iI X Nc scope cl s.heap.objs.size s H fp).env.kindOf x=(scope.names.lookup x).map fun k=>if (k == NameKind.free && X.env.scope.kind == .function && X.env.kindOf x == some .cell) then NameKind.cell else k:=fun x=>j5
 have hcf:∀ x,((iI X Nc scope cl s.heap.objs.size s H fp).env.kindOf x=some .cell\/(iI X Nc scope cl s.heap.objs.size s H fp).env.kindOf x=some .free)->scope.names.lookup x=some .free\/scope.names.lookup x=some .cell:=fun x hx=>by
  rw [hrl] at hx
  cases e:scope.names.lookup x with
  | none=>rw [e] at hx;rcases hx with z | z <;> cases z
  | some k=>
   rw [e] at hx
   by_cases hkf:k=.free
   ·rw [hkf];exact .inl rfl
   ·have : (k == NameKind.free) = false := by simpa using hkf
    simp only [this,Mq,Option.map_some] at hx
    rcases hx with z | z
    ·have z' : k = .cell := by simpa using z
     rw [z'];exact .inr rfl
    ·have z' : k = .free := by simpa using z
     exact absurd z' hkf
 have hclx:∀ x,scope.names.lookup x=some .free->∃ c,cl.lookup x=some c:=fun x e=>ML.mp (hall (x,.free) (eF e) rfl)
 have hcb:∀ x c,cl.lookup x=some c->c<s.heap.objs.size:=fun x c e=>by
  obtain ⟨v,q⟩:=I.cell x c (hcl x c e)
  exact q.lt
 have hcell:∀ x c,(cellsFrom (s.heap.objs.size+1) scope.names cl).lookup x=some c->(cl.lookup x=some c/\c<s.heap.objs.size)\/(s.heap.objs.size+1<=c/\h'.IsCell c none):=fun x c e=>by
  by_cases hm:(x,NameKind.cell)∈scope.names
  ·have h1 := km (Mt _) (.inl hm) e
   rcases hce x c e with z | z
   ·have := hcb x c z
    exact absurd (LP (NW this) h1) (LQ _)
   ·exact .inr ⟨h1,z⟩
  ·rw [iP hm] at e
   exact .inl ⟨e,hcb x c e⟩
 have hinj:∀ x y c,(cellsFrom (s.heap.objs.size+1) scope.names cl).lookup x=some c->(cellsFrom (s.heap.objs.size+1) scope.names cl).lookup y=some c->x=y:=fun x y c e1 e2=>by
  rcases hcell x c e1 with ⟨a1,a2⟩ | ⟨a1,a2⟩
  ·rcases hcell y c e2 with ⟨b1, b2⟩ | ⟨b1, b2⟩
   ·exact I.ok.inj x y c (hcl x c a1) (hcl y c b1)
   ·exact absurd (LP (NW a2) b1) (LQ _)
  ·exact mR (Mt _) (fun x y c q _ hc=>absurd (LP (NW (hcb x c q)) hc) (LQ _)) (fun x c q=>NW (hcb x c q)) x y c e1 e2 a1
 refine ⟨⟨I.ok.mod,S.kind,I.ok.glob,I.ok.blt,Mt _,fun x y c e1 e2=>hinj x y c e1 e2,fun x hx=>?_,fun x c e e2=>?_,I.ok.hd,I.ok.frames,.inl rfl,
  fun b hb=>⟨LR (hfs b hb),fun x c e=>?_⟩,I.bs,LV I.ok.bsz I.sz,fun b o e hb=>?_,fun b hb z=>?_,I.stack,I.stkFree⟩,
  rfl,I.bare,Un.kept hk,⟨_,hn,fun i x v e1 e2 e3=>?_⟩,fun x c e=>?_,I.hok.fresh (Mt _),fun x c e=>?_,fun p hp=>absurd (show p∈([]:List (Addr × Obj)) from hp) (by simp),I.hok.kept hk,?_⟩
 ·rcases hcf x hx with q | q
  ·by_cases hm : (x, NameKind.cell) ∈ scope.names
   ·rcases ML.mp (W.cellsFrom_some scope.names (s.heap.objs.size + 1) cl (.inl (S.nd (x, .cell) hm))) with ⟨c, e⟩
    exact ⟨c,e⟩
   ·obtain ⟨c, e⟩ := hclx x q
    exact ⟨c,(iP hm).trans e⟩
  ·obtain ⟨c, e⟩ := ML.mp (W.cellsFrom_some scope.names (s.heap.objs.size + 1) cl (.inl q))
   exact ⟨c,e⟩
 ·have hm : (x, NameKind.cell) ∈ scope.names := eF (eq_of_beq (show (scope.names.lookup x == some .cell) = true from e))
  exact Nat.le_of_succ_le (km (Mt _) (.inl hm) e2)
 ·rcases hcell x c e with ⟨a1, a2⟩ | ⟨a1, a2⟩
  ·exact (hf b hb).2.2.2.2.1 x c (hcl x c a1)
  ·exact fun z=>absurd (LP (NW (hfs b hb)) (by rw [<- z];exact a1)) (LQ _)
 ·rcases (hf b hb).2.2.2.1 with z | z
  ·exact I.ok.noex b o e z
  ·exact absurd (LP (LP (LO e) I.ok.bsz) z) (LQ _)
 ·rcases L4.mp (I.stkSub b z) with q | q
  ·exact (hf b hb).2.1 q
  ·exact (hf b hb).2.2.1 q
 ·have e2':∃ j,cap[i]?=some (some j)/\σ[j]?=some (some v):=by
   unfold oO at e2
   rw [MU] at e2
   cases hc:cap[i]? with
   | none=>rw [hc] at e2;cases e2
   | some o=>
    rw [hc] at e2
    cases o with
    | none=>cases e2
    | some j=>
     refine ⟨j,rfl,?_⟩
     simp only [Option.map_some,NZ] at e2
     cases hj:σ[j]? with
     | none=>rw [hj] at e2;cases e2
     | some q=>
      rw [hj] at e2
      simp only [Option.join_some] at e2
      rw [LN e2]
  obtain ⟨j,hj,hv⟩:=e2'
  obtain ⟨hN,hx⟩:=pD S.cap hj e1
  have hkx:=S.free (x,.free) (eF hx) rfl
  obtain ⟨m,hm,hl⟩:=I.loc
  obtain ⟨u,r,l⟩:=hl j x v hN hv (hkx.elim (fun z=>.inr (.inl z)) (fun z=>.inr (.inr z)))
  refine ⟨u,r,.inr ⟨?_,?_⟩⟩
  ·rw [hrl, hx]
   show some (if _ then _ else _)=_\/some (if _ then _ else _)=_
   by_cases hc:(NameKind.free == NameKind.free && X.env.scope.kind == .function && X.env.kindOf x == some .cell)=true
   ·rw [LL hc];exact .inl rfl
   ·rw [LM hc];exact .inr rfl
  ·obtain ⟨c, ec⟩ := hclx x hx
   have hm:(x,NameKind.cell) ∉ scope.names:=fun z=>by
    have:=S.nd (x,.cell) z
    rw [hx] at this;cases this
   refine ⟨c,(iP hm).trans ec,?_⟩
   rcases l with ⟨k,_⟩ | ⟨k,c',ec',z⟩
   ·rcases hkx with q | q <;> (rw [k] at q;cases q)
   ·have q := hcl x c ec
    rw [ec'] at q;cases q
    obtain ⟨o,ho,hd⟩:=z
    exact ⟨o,hk _ o ho,hd⟩
 ·rcases hcell x c e with ⟨a1, a2⟩ | ⟨a1, a2⟩
  ·obtain ⟨v, o, ho, hd⟩ := I.cell x c (hcl x c a1)
   exact ⟨v,o,hk _ o ho,hd⟩
  ·exact ⟨none,a2⟩
 ·rcases hcell x c e with ⟨a1, a2⟩ | ⟨a1, a2⟩
  ·exact I.freeC x c (hcl x c a1)
  ·exact I.hok.fresh (Nat.le_of_succ_le a1)
 ·show (cap.map _).length = Nc.length
  rw [MY,mS S.cap]
abbrev tK:Value->Shared->Prop:=fun _ _=>False
def sr (ifs:List Expr) (env:Env):Sem Bool:=forIn ifs true fun c r=>if r=true then do let ok <- isTrue c env (eval c env);pure (ForInStep.yield ok) else pure (ForInStep.yield r)
def qf (X:Cx) (ifs:List Expr) (t:TT):Prop:=
 ∀ (pins:List (Addr × Obj)) (s:Shared) (σ:St) (H:Hp) (Q:Bool->Hp->Prop),aS X pins σ H s->t σ H Q->wpAny (model X.prog X.w) X.A (sr ifs X.env) (TP X pins σ Q) X.xe s
def Jq:TT:=fun _ H Q=>Q true H
theorem DL {X:Cx}:qf X [] Jq:=fun _ _ _ H _ I h=>Mo ⟨H,I,h⟩
theorem DK {X:Cx}{c:Expr}{t:TT} (h:PT X c t):qf X [c] t:=fun pins s σ H Q I q=>wpAny_tests_one (h pins s σ H Q I q)
def Ip (e:Expr) (acc:Value) (env:Env):Sem Unit:=match e with
 | .ListComp elt _ _ _=>do let _ <- call (.builtin "list.append") [acc,<- eval elt env]
 | .SetComp elt _ _ _=>do let v <- eval elt env;standAt elt.pos;let _ <- call (.builtin "set.add") [acc,v]
 | _=>unsupported "internal:not-a-comprehension"
def kP:Expr->Bool
 | .ListComp ..=>true
 | .SetComp ..=>true
 | _=>false
def lG (M:Model) (A:Around) (e:Expr) (k:Nat) (acc:Value) (env:Env) (C:Shared->Prop) (E:Value->Shared->Prop) (s:Shared):Prop:=match (clausesOf e)[k]? with
 | some g=>wpAny M A (eval g.iter env) (fun x s1=>wpAny M A (foldedSetIterable g.iter env x) (fun x s2=>wpAny M A (pyIter x) (fun it s3=>
   codeAny M A (.compStart e k it acc env) (fun r s4=>(∃ f,r=.ok f)/\C s4) s3) E s2) E s1) E s
 | none=>wpAny M A (Ip e acc env) (fun _ s1=>C s1) E s
theorem u9 {M:Model}{A:Around}{e:Expr}{k:Nat}{acc:Value}{env:Env}{C C':Shared->Prop}{E:Value->Shared->Prop}{s:Shared} (hC:∀ s,C s->C' s) (h:lG M A e k acc env C tK s):lG M A e k acc env C' E s:=by
 unfold lG at h ⊢
 split at h
 ·exact Mc h (fun _ _ h=>Mc h (fun _ _ h=>Mc h (fun _ _ h=>MF h fun _ _ h=>⟨h.1,hC _ h.2⟩) fun _ _ z=>z.elim) fun _ _ z=>z.elim) fun _ _ z=>z.elim
 ·exact Mc h (fun _ _ h=>hC _ h) fun _ _ z=>z.elim
theorem C3 {M:Model}{A:Around}{E:Value->Shared->Prop}{s:Shared}{e:Expr}{d:Nat}{g:Comprehension}{it acc:Value}{env:Env}{Q:Fin->Shared->Prop} (he:kP e=true) (hz:∀ g∈clausesOf e,g.is_async=0) (hg:(clausesOf e)[d]?=some g)
  (h : wpAny M A (pyNext it) (fun r s₁ => match r with
   | none=>Q (.done .next) s₁
   | some v=>wpAny M A (letOwnedTupleGo g.target it v) (fun _ s₁'=>wpAny M A (assign g.target env v) (fun _ s₂=>wpAny M A (sr g.ifs env) (fun ok s₃=>
     if ok=true then lG M A e (d+1) acc env (fun s₄=>wpAny M A (again (.compLoop e d it acc env)) Q E s₄) E s₃ else wpAny M A (again (.compLoop e d it acc env)) Q E s₃) E s₂) E s₁') E s₁) E s) :
  wpAny M A (compTurn e d it acc env) Q E s:=by
 have h0:=hz g (MW hg)
 have h1:∀ g',(clausesOf e)[d+1]?=some g'->g'.is_async=0:=fun g' h=>hz g' (MW h)
 unfold compTurn
 cases e <;> first
  | exact absurd (show false=true from he) Mm
  | (rename_i elt gens sc pos
     have hg':gens[d]?=some g:=hg
     have h1':∀ g',gens[d+1]?=some g'->g'.is_async=0:=h1
     dsimp only
     rw [hg']
     dsimp only
     rw [h0]
     refine Mh (Mj ?_)
     show wpAny M A (pyNext it >>= _) Q E s
     refine Mh (Mc h (fun r s₁ h₁=>?_) fun _ _ z=>z)
     cases r with
     | none=>exact Mo h₁
     | some v=>
      refine Mh (Mc h₁ (fun _ s₁' h₁'=>?_) fun _ _ z=>z)
      refine Mh (Mc h₁' (fun _ s₂ h₂=>?_) fun _ _ z=>z)
      refine Mh (Mc h₂ (fun ok s₃ h₃=>?_) fun _ _ z=>z)
      cases ok with
      | false=>exact h₃
      | true=>
       simp only [Nf] at h₃ ⊢
       unfold lG at h₃
       dsimp only [clausesOf] at h₃
       cases e2:gens[d+1]? with
       | none=>
        rw [e2] at h₃
        exact Mh h₃
       | some g'=>
        rw [e2] at h₃
        have e3:=h1' g' e2
        simp only [e3]
        refine Mh (Mc h₃ (fun x s₄ h₄=>?_) fun _ _ z=>z)
        refine Mh (Mj ?_)
        show wpAny M A (foldedSetIterable g'.iter env x >>= _) Q E s₄
        refine Mh (Mc h₄ (fun x s₅ h₅=>?_) fun _ _ z=>z)
        refine Mh (Mi ?_)
        show wpAny M A (pyIter x) _ E s₅
        refine Mc h₅ (fun it' s₆ h₆=>?_) fun _ _ z=>z
        refine Mh (wpAny_runOwn (MF h₆ fun r s₇ h₇=>?_))
        obtain ⟨⟨f,rfl⟩,hc⟩:=h₇
        exact hc)
section
variable {prog:Program}{w:World}{A:Around}{R:Result->Shared->Prop}{s:Shared}
theorem qO {e:Expr}{k:Nat}{g:Comprehension}{it acc:Value}{env:Env} (he:kP e=true) (hz:∀ g∈clausesOf e,g.is_async=0) (hg:(clausesOf e)[k]?=some g)
  (h0:codeAny (model prog w) A (.compLoop e k it acc env) R s) (h:wpAny (model prog w) A (pyIter it) (fun it' s'=>codeAny (model prog w) A (.compLoop e k it' acc env) R s') tK s) :
  codeAny (model prog w) A (.compStart e k it acc env) R s:=by
 have ha:=hz g (MW hg)
 cases e <;> first
  | exact absurd (show false=true from he) Mm
  | (refine N1 ?_
     show wpAny _ _ ((compStart _ k it acc env).onRaise (fun x=>do noteFrame x env;standAt theWindowsPlace)) _ _ s
     refine wpAny_notedAt ?_
     unfold compStart
     rw [hg]
     have e1:((some g).elim false fun x=>x.is_async != 0)=false:=by show (g.is_async != 0)=false;rw [ha];rfl
     rw [e1]
     simp only [NT,Nd]
     refine Mh (N2 (wpAny_ite ?_))
     split
     ·exact Mo (And.intro rfl h0)
     ·refine Mh (N3 ?_)
      refine Mh (Mj ?_)
      exact Mh (Mc h (fun it' s' h'=>Mo (And.intro rfl h')) fun _ _ z=>z.elim))
theorem y8 {e:Expr}{d:Nat}{g:Comprehension}{it acc:Value}{env:Env} (he:kP e=true) (hz:∀ g∈clausesOf e,g.is_async=0) (hg:(clausesOf e)[d]?=some g) (I:Nat->Shared->Prop)
  (turn : ∀ n s, I n s -> wpAny (model prog w) A (pyNext it) (fun r s₁ => match r with
   | none=>R (.ok .next) s₁
   | some v=>wpAny (model prog w) A (letOwnedTupleGo g.target it v) (fun _ s₁'=>wpAny (model prog w) A (assign g.target env v) (fun _ s₂=>
     wpAny (model prog w) A (sr g.ifs env) (fun ok s₃=>
      if ok=true then lG (model prog w) A e (d+1) acc env (fun s₅=>∃ m,m<n/\I m s₅) tK s₃
      else ∃ m,m<n/\I m s₃) tK s₂) tK s₁') tK s₁) tK s)
  (n:Nat) (h:I n s):codeAny (model prog w) A (.compLoop e d it acc env) R s:=by
 refine codeAny_loop (by cases e <;> first | exact absurd (show false=true from he) Mm | rfl) I (fun n s hI=>?_) n h
 cases e <;> first
  | exact absurd (show false=true from he) Mm
  | (show wpAny _ A ((compTurn _ d it acc env).onRaise (fun x => do noteFrame x env; theTreesLotGoes x)) _ _ s
     refine wpAny_noted (C3 he hz hg (Mc (turn n s hI) (fun r s₁ h₁=>?_) fun _ _ z=>z.elim))
     cases r with
     | none=>exact h₁
     | some v=>
      refine Mc h₁ (fun _ s₂ h₂=>Mc h₂ (fun _ s₃ h₃=>Mc h₃ (fun ok s₄ h₄=>?_) fun _ _ z=>z.elim) fun _ _ z=>z.elim) fun _ _ z=>z.elim
      cases ok with
      | false=>exact Mo ⟨rfl,h₄⟩
      | true=>
       simp only [Nf] at h₄ ⊢
       exact u9 (fun s₅ h₅=>Mo ⟨rfl,h₅⟩) h₄)
end
abbrev Cz:=St->Hp->(St->Hp->Prop)->Prop
def vF (X:Cx) (e:Expr) (k:Nat) (acc:Addr) (t:Cz):Prop:=
 ∀ (pins:List (Addr × Obj)) (s:Shared) (σ:St) (H:Hp) (N:St->Hp->Prop),aS X pins σ H s->t σ H N->lG (model X.prog X.w) X.A e k (.ref acc) X.env (fun s'=>∃ σ' H',aS X pins σ' H' s'/\N σ' H') tK s
def Kd (J:It) (g:TG) (tt:TT) (tb:Cz) (N:St->Hp->Prop) (σ:St) (H:Hp):Prop:=∃ W:Nat->Nat->St->Hp->Prop,(∃ m,W 0 m σ H)/\∀ i m σ1 H,W i m σ1 H ->
 (J.stop i H/\N σ1 H)\/(J.go i H/\∃ N':St->Hp->Prop,(∀ σ' H',N' σ' H'->∃ m',m'<m/\W (i+1) m' σ' H')/\∀ x H',J.yld i H x H'->g x σ1 H' fun σ2 H2=>tt σ2 H2 fun b H3=>if b=true then tb σ2 H3 N' else N' σ2 H3)
section
variable {X:Cx}{e:Expr}{d:Nat}{cl:Comprehension}{g:TG}{tt:TT}{tb:Cz}{acc:Addr}
theorem nD {J:It}{fp:List Addr}{it:Addr}{tn:Nat->Heap->Prop}{pins:List (Addr × Obj)}{N:St->Hp->Prop}{σ:St}{H:Hp}{s:Shared} (he:kP e=true) (hz:∀ g∈clausesOf e,g.is_async=0) (hg:(clausesOf e)[d]?=some cl) (hxe:X.xe=tK) (hc:X.calm=true)
  (T:z5 X.prog X.w X.K cl.target J fp it tn) (hgc:PG X cl.target g) (htc:qf X cl.ifs tt) (hb:vF X e (d+1) acc tb) (I:aS X pins σ H s) (st:tn 0 s.heap) (fr:∀ b∈fp,nM X pins H b) (h:Kd J g tt tb N σ H) :
  codeAny (model X.prog X.w) X.A (.compLoop e d (.ref it) (.ref acc) X.env) (fun r s'=>r=.ok .next/\∃ σ' H',aS X pins σ' H' s'/\N σ' H') s:=by
 obtain ⟨W,⟨m0,w0⟩,turn⟩:=h
 have stat:∀ {H':Hp},(∀ b∈fp,H' b=none)->∀ b∈fp,nM X pins H' b:=fun hn b hb=>⟨hn b hb,(fr b hb).2⟩
 refine y8 he hz hg (fun n s'=>∃ i σ' H',aS X pins σ' H' s'/\tn i s'.heap/\(∀ b∈fp,H' b=none)/\W i n σ' H') ?_ m0 ⟨0,_,_,I,st,fun b hb=>(fr b hb).1,w0⟩
 rintro n s5 ⟨i,σ5,H5,I5,st5,fr5,w5⟩
 rcases turn i n σ5 H5 w5 with ⟨stop,qn⟩ | ⟨go,N',hN,step⟩
 ·refine cI (T.done X rfl rfl rfl hc i pins s5 σ5 H5 tK I5 (stat fr5) st5 stop) fun r s6 ⟨hr, I6⟩ => ?_
  subst hr
  exact ⟨rfl,_,_,I6,qn⟩
 ·refine cI (T.item X rfl rfl rfl hc i pins s5 σ5 H5 tK I5 (stat fr5) st5 go) fun r s6 ⟨u, hr, h6⟩ => ?_
  subst hr
  refine cI h6 fun _ s7 ⟨x,H7,I7,r7,y7,st7,fr7⟩=>?_
  have I7':=I7.pinned (stat fr7) (T.obj _ _ st7)
  have z1:=hgc _ s7 σ5 H7 x u _ I7' r7 (step x H7 y7)
  rw [hxe] at z1
  refine cI z1 fun _ s8 ⟨σ8,H8,I8,q8⟩=>?_
  have z2:=htc _ s8 σ8 H8 _ I8 q8
  rw [hxe] at z2
  refine cI z2 fun b s9 ⟨H9,I9,q9⟩=>?_
  have again:∀ {σa:St}{Ha:Hp}{sa:Shared},aS X (pins++oQ fp s7.heap) σa Ha sa->N' σa Ha->∃ m,m<n/\∃ i σ' H',aS X pins σ' H' sa/\tn i sa.heap/\(∀ b∈fp,H' b=none)/\W i m σ' H':=fun {σa Ha sa} Ia na=>by
   obtain ⟨m',hm,wa⟩:=hN σa Ha na
   refine ⟨m',hm,i+1,σa,Ha,Ia.unpinned,T.keep _ _ _ st7 fun b hb o e=>(Ia.pin (b,o) (Mw _ (Mw _ (i7 hb e)))).1,fun b hb=>?_,wa⟩
   obtain ⟨o,e,d⟩:=T.obj _ _ st7 b hb
   exact (Ia.pin (b,o) (Mw _ (Mw _ (i7 hb e)))).2.1
  cases b with
  | false=>
   rw [LM Mm] at q9 ⊢
   exact again I9 q9
  | true=>
   rw [LL rfl] at q9 ⊢
   exact u9 (fun s' ⟨σ',H',I',n'⟩=>again I' n') (hb _ s9 σ8 H9 _ I9 q9)
def Ay (wi:TI) (g:TG) (tt:TT) (tb:Cz):Cz:=fun σ H N=>wi σ H fun J H1=>Kd J g tt tb N σ H1
theorem yR {wi:TI} (he:kP e=true) (hz:∀ g∈clausesOf e,g.is_async=0) (hg:(clausesOf e)[d]?=some cl) (hxe:X.xe=tK) (hc:X.calm=true) (hi:PI X cl.target cl.iter wi) (hgc:PG X cl.target g) (htc:qf X cl.ifs tt) (hb:vF X e (d+1) acc tb)
  (hs:∀ x,foldedSetIterable cl.iter X.env x=pure x):vF X e d acc (Ay wi g tt tb):=by
 intro pins s σ H N I h
 unfold lG
 rw [hg]
 have z:=hi pins s σ H _ I h
 rw [hxe] at z
 refine cI z fun v s1 h1=>N4 (hs v) (cI h1 fun itv s2 h2=>?_)
 obtain ⟨it,fp,tn,J,H2,e',I2,T,st2,f2,rd⟩:=h2
 subst e'
 have loop:=nD he hz hg hxe hc T hgc htc hb I2 st2 f2 rd
 exact qO he hz hg (MF loop fun r s' ⟨h1,h2⟩=>⟨⟨_,h1⟩,h2⟩) (T.self _ 0 _ _ _ st2 (MF loop fun r s' ⟨h1,h2⟩=>⟨⟨_,h1⟩,h2⟩))
def Ac (te:TE) (acc:Addr):Cz:=fun σ H N=>te σ H fun y H4=>∃ ys,H4 acc=some (.lst ys)/\ys.length<sizeLine/\N σ (cn H4 acc (.lst (ys++[y])))
theorem ph {te:TE}{elt:Expr}{gens:List Comprehension}{scope:Scope}{pos:Pos} (hg:gens[d]?=none) (hxe:X.xe=tK) (hel:PE X elt te):vF X (.ListComp elt gens scope pos) d acc (Ac te acc):=by
 intro pins s σ H N I h
 unfold lG
 show (match gens[d]? with | some g=>_ | none=>_:Prop)
 rw [hg]
 show wpAny _ _ (do let _ <- call (.builtin "list.append") [.ref acc,<- eval elt X.env]) _ _ _
 have z:=hel pins s σ H _ I h
 rw [hxe] at z
 refine Mh (cI z fun v10 s10 ⟨y,H10,I10,r10,ys,hy,hz,nn⟩=>?_)
 have z4:=qZ (X:=X) pins s10 σ H10 (.ref acc) [y] (.ref acc) [v10] (fun _ H'=>N σ H') I10 rfl (.cons r10 .nil) ⟨_,ys,y,rfl,rfl,hy,hz,nn⟩
 rw [hxe] at z4
 exact Mh (cI z4 fun v11 s11 ⟨y',H11,I11,r11,n11⟩=>Mo ⟨_,_,I11,n11⟩)
end
theorem Ci {M:Model}{A:Around}{E:Value->Shared->Prop}{s:Shared}{scope:Scope}{cl:List (Str × Addr)}{env:Env}{Q:Env->Shared->Prop}
  (hQ : ∀ h', h'.Ns s.heap.objs.size (fun _ => none) -> (∀ b o, s.heap.get? b = some o -> h'.get? b = some o) -> (∀ x c, (cellsFrom (s.heap.objs.size + 1) scope.names cl).lookup x = some c -> cl.lookup x = some c \/ h'.IsCell c none) ->
   ∀ cenv:Env,({ cenv with scope:=relabel scope env }:Env)=compEnvC scope (cellsFrom (s.heap.objs.size+1) scope.names cl) s.heap.objs.size env->cenv.locals=s.heap.objs.size->Q cenv { s with heap:=h' }) :
  wpAny M A (newFunctionEnv scope env.globals cl [] env.qual none .none (some env)) Q E s:=by
 simp only [newFunctionEnv,Option.isSome_some,Nf]
 refine Mh (wpAny_alloc ?_)
 refine Mh (wpAny_layCells _ (fun name kind cells=>by cases hkc:kind == NameKind.cell <;> simp [hkc]) _ _ _ _ ?_)
 have hsz:(s.heap.push { cls:=.type "dict",data:=.dict #[] }).objs.size=s.heap.objs.size+1:=NX ..
 refine Mh (Mo (Mo ?_))
 show Q _ { s with heap:=pushCells (s.heap.push { cls:=.type "dict",data:=.dict #[] }) scope.names }
 refine hQ _ ((Heap.Ns.new s.heap (.type "dict")).keeps (NY _ _)) (fun b o e=>NY _ _ b o (Mr _ e)) (fun x c e=>?_) _ ?_ rfl
 ·rw [<- hsz] at e
  exact jV e
 ·show _ = _
  unfold compEnvC
  rw [<- hsz]
def oP (o0:Addr->HO) (wi:TI) (cap:List (Option Nat)) (g:TG) (tt:TT) (tb:Addr->Cz):TE:=fun σ H Q=>wi σ H fun J H1=>∀ acc,H1 acc=none->Kd J g tt (tb acc) (fun _ H'=>Q (.ref acc) H') (oO cap σ) (cn H1 acc (o0 acc))
def Ad (wi:TI) (cap:List (Option Nat)) (g:TG) (tt:TT) (te:TE):TE:=oP (fun _=>.lst []) wi cap g tt (Ac te)
def Ll (X:Cx) (newAcc:Sem Value) (o0:Addr->HO):Prop:=∀ (pins:List (Addr × Obj)) (s:Shared) (σ:St) (H:Hp) (Q:Value->Shared->Prop),aS X pins σ H s ->
 (∀ s',aS X pins σ (cn H s.heap.objs.size (o0 s.heap.objs.size)) s'->(∀ b o,s.heap.get? b=some o->s'.heap.get? b=some o)->s.heap.objs.size<s'.heap.objs.size->Q (.ref s.heap.objs.size) s')->wpAny (model X.prog X.w) X.A newAcc Q X.xe s
theorem uI {X:Cx}:Ll X (newList []) (fun _=>.lst []):=fun pins s σ H Q I h=>
 Nw (h _ (I.lnew (t':=s.toks) (ys:=[]) (its:=[]) .nil (N5 _)) (fun b o e=>Mr _ e) (by rw [NX];exact NV _))
section
variable {X:Cx}{e:Expr}{cl0:Comprehension}{rest:List Comprehension}{scope:Scope}{Nc:List Str}{cap:List (Option Nat)}{wi:TI}{g:TG}{tt:TT}{tb:Addr->Cz}{pos':Pos}{o0:Addr->HO}{newAcc:Sem Value}
theorem rJ {use:Option (Value->Sem Unit)}{pins:List (Addr × Obj)}{s:Shared}{σ:St}{H:Hp}{Q:VK}{QQ:Value->Shared->Prop}
  (he:kP e=true) (hz:∀ g∈clausesOf e,g.is_async=0) (hcl0:clausesOf e=cl0::rest) (hmk:Ll X newAcc o0)
  (hc:X.calm=true) (S:bR X.N X.env scope Nc cap) (hi:PI X cl0.target cl0.iter wi)
  (hg:∀ cl C s H fp,PG (iI X Nc scope cl C s H fp) cl0.target g) (ht:∀ cl C s H fp,qf (iI X Nc scope cl C s H fp) cl0.ifs tt) (hb:∀ cl C s H fp acc,vF (iI X Nc scope cl C s H fp) e 1 acc (tb acc))
  (I:aS X pins σ H s) (h:oP o0 wi cap g tt tb σ H Q)
  (hfin:∀ C acc s' H',aS X pins σ H' s'->nM X pins H' C->(∃ m,s'.heap.Ns C m)->Q (.ref acc) H'->compPost (model X.prog X.w) X.A X.xe use QQ (.ref acc) C (.ok .next) s')
  (hs:∀ x,foldedSetIterable cl0.iter X.env x=pure x) :
  wpAny (model X.prog X.w) X.A (comprehension e scope X.env pos' newAcc false (eval cl0.iter X.env) use) QQ X.xe s:=by
 obtain ⟨cl,hclos,hcl,hall⟩:=wV (scope:=scope) (env:=X.env) (fun y hy hf=>I.ok.has y.1 (S.free y hy hf))
 have hg0:(clausesOf e)[0]?=some cl0:=by rw [hcl0];rfl
 refine wpAny_comprehension_free hcl0 hs hclos S.kind (fun x hx e=>by rw [S.nd x hx,e]) ?_
 refine cI (hi pins s σ H _ I h) fun v s1 h1=>cI h1 fun itv s2 h2=>?_
 obtain ⟨it,fp,tn,J,H2,e',I2,T,st2,f2,rd⟩:=h2
 subst e'
 have rd:=rd _ I2.fresh
 refine hmk pins s2 σ H2 _ I2 fun s3 I3 hk3 hsz3=>?_
 have st3:tn 0 s3.heap:=T.keep _ _ _ st2 fun b _ o e=>hk3 b o e
 have fpn:∀ b∈fp,b≠s2.heap.objs.size:=fun b hb=>by
  obtain ⟨o,eo,_⟩:=T.obj _ _ st2 b hb
  exact LR (LO eo)
 have f3:∀ b∈fp,nM X pins (cn H2 s2.heap.objs.size (o0 s2.heap.objs.size)) b:=fun b hb=>⟨by rw [br (fpn b hb)];exact (f2 b hb).1,(f2 b hb).2⟩
 have hfs:∀ b∈fp,b<s3.heap.objs.size:=fun b hb=>by
  obtain ⟨o,eo,_⟩:=T.obj _ _ st3 b hb
  exact LO eo
 refine Ci fun h1 hns1 hk1 hce cenv ecenv elc=>?_
 rw [ecenv]
 have IB:aS (iI X Nc scope cl s3.heap.objs.size s3 (cn H2 s2.heap.objs.size (o0 s2.heap.objs.size)) fp) [] (oO cap σ) (cn H2 s2.heap.objs.size (o0 s2.heap.objs.size)) { s3 with heap:=h1,toks:=s3.toks }:=
  zd I3 f3 hfs S hcl hall hns1 hk1 hce
 have stB:tn 0 h1:=T.keep _ _ _ st3 fun b _ o e=>hk1 b o e
 rw [elc]
 have frB:∀ b∈fp,nM (iI X Nc scope cl s3.heap.objs.size s3 (cn H2 s2.heap.objs.size (o0 s2.heap.objs.size)) fp) [] (cn H2 s2.heap.objs.size (o0 s2.heap.objs.size)) b:=fun b hb=>
  ⟨(f3 b hb).1,(IB.ok.exf b hb).1,IB.ok.exfs b hb,.inl hb,(IB.ok.exf b hb).2,fun p hp=>absurd (show p∈([]:List (Addr × Obj)) from hp) (by simp)⟩
 have loop:=nD (X:=iI X Nc scope cl s3.heap.objs.size s3 (cn H2 s2.heap.objs.size (o0 s2.heap.objs.size)) fp) he hz hg0 rfl hc T (hg _ _ _ _ _) (ht _ _ _ _ _) (hb _ _ _ _ _ _) IB stB frB rd
 have fin:∀ r s',(r=.ok .next/\∃ σ' H',aS (iI X Nc scope cl s3.heap.objs.size s3 (cn H2 s2.heap.objs.size (o0 s2.heap.objs.size)) fp) [] σ' H' s'/\Q (.ref s2.heap.objs.size) H')->compPost (model X.prog X.w) X.A X.xe use QQ (.ref s2.heap.objs.size) s3.heap.objs.size r s':=by
  rintro r s' ⟨rfl,σ',H',J',q⟩
  have I5:aS X pins σ H' s':=I3.call' (ch:=fp) J'.os J'.base J'.hok J'.bare fun b hbf=>⟨(f3 b hbf).2.2.2.1,(f3 b hbf).2.1,(f3 b hbf).2.2.2.2.1,(f3 b hbf).2.2.2.2.2⟩
  obtain ⟨mm,hnn,_⟩:=J'.loc
  exact hfin _ _ s' H' I5 (I3.fpOk (Mt _) J'.free) ⟨mm,hnn⟩ q
 exact qO he hz hg0 (MF loop fin) (T.self _ 0 _ _ _ stB (MF loop fin))
variable {elt:Expr}{pos:Pos}
theorem BJ (hc:X.calm=true) (hz:∀ g∈cl0::rest,g.is_async=0) (S:bR X.N X.env scope Nc cap) (hi:PI X cl0.target cl0.iter wi)
  (hg:∀ cl C s H fp,PG (iI X Nc scope cl C s H fp) cl0.target g) (ht:∀ cl C s H fp,qf (iI X Nc scope cl C s H fp) cl0.ifs tt) (hb:∀ cl C s H fp acc,vF (iI X Nc scope cl C s H fp) (.ListComp elt (cl0::rest) scope pos) 1 acc (tb acc))
  (hs:∀ x,foldedSetIterable cl0.iter X.env x=pure x):PE X (.ListComp elt (cl0::rest) scope pos) (oP (fun _=>.lst []) wi cap g tt tb):=by
 intro pins s σ H Q I h
 have h0:=hz cl0 LY
 obtain ⟨tg0,it0,if0,as0⟩:=cl0
 have h0':as0=0:=h0
 subst h0'
 rw [arm_eval_ListComp]
 refine rJ (e:=.ListComp elt (_::rest) scope pos) (Q:=Q) rfl hz rfl uI hc S hi hg ht hb I h (fun C acc s' H' I' hf hn q=>?_) hs
 obtain ⟨m,hn⟩:=hn
 refine ⟨m,hn,fun h' sb=>⟨.ref acc,H',?_,rfl,q⟩⟩
 exact I'.turned (t':=s'.toks) (it:=C) (fun b o hb e=>(sb.2 b hb).trans e) hf.1 hf.2.1 hf.2.2.2.1 hf.2.2.2.2.1 hf.2.2.2.2.2
theorem uB {i:Nat}{x:Str}{pos1:Pos}{pos2:Pos} (hc:X.calm=true) (hz:∀ g∈cl0::rest,g.is_async=0) (hN:X.N.Nodup) (hix:X.N[i]?=some x) (hx:X.env.scope.names.lookup x=some .local) (S:bR X.N X.env scope Nc cap) (hi:PI X cl0.target cl0.iter wi)
  (hg:∀ cl C s H fp,PG (iI X Nc scope cl C s H fp) cl0.target g) (ht:∀ cl C s H fp,qf (iI X Nc scope cl C s H fp) cl0.ifs tt) (hb:∀ cl C s H fp acc,vF (iI X Nc scope cl C s H fp) (.ListComp elt (cl0::rest) scope pos) 1 acc (tb acc))
  (hsw:swapsWith (.ListComp elt (cl0::rest) scope pos) (some (.Name x pos1)) pos2.line X.env=pure true) (hs:∀ x,foldedSetIterable cl0.iter X.env x=pure x) :
  PS X (.Assign [.Name x pos1] (.ListComp elt (cl0::rest) scope pos) pos2) (zP (oP (fun _=>.lst []) wi cap g tt tb) (t5 i)):=by
 intro pins s σ H D I h
 have h0:=hz cl0 LY
 obtain ⟨tg0,it0,if0,as0⟩:=cl0
 have h0':as0=0:=h0
 subst h0'
 rw [exec_Assign_Name_used _ _ _ _ hsw]
 refine Mh (Mj (Mh ?_))
 show wpAny _ X.A (do let _ <- comprehension (.ListComp elt (⟨tg0,it0,if0,0⟩::rest) scope pos) scope X.env _ (newList []) false (eval it0 X.env) (some (assign (.Name x pos1) X.env))) _ _ s
 refine Mh (Mc (rJ (e:=.ListComp elt (_::rest) scope pos) (use:=some (assign (.Name x pos1) X.env)) (Q:=fun v H1=>D.nx (σ.set i (some v)) H1) (QQ:=fun _ s'=>SP X pins D .next s') rfl hz rfl uI hc S hi hg ht hb I h (fun C acc s' H' I' hf hn q=>?_) hs)
  (fun _ s' hq=>Mo (Mo hq)) fun _ _ e=>e)
 obtain ⟨m,hn⟩:=hn
 show wpAny _ X.A (assign (.Name x pos1) X.env (.ref acc)) _ _ _
 refine wpAny_assign_Name (qN I' hN hix (.inl hx) (show bF (.ref acc) (.ref acc) from rfl) (fun s'' I'' hsb=>?_) (.inr hx))
 obtain ⟨a,sb,ha⟩:=hsb
 have hCa:C≠a:=by
  rcases ha with z | z
  ·rw [z];exact hf.2.1
  ·exact fun e=>hf.2.2.2.2.1 x a z e.symm
 refine ⟨m,hn.sameBut sb hCa,fun h' sb'=>⟨_,H',?_,q⟩⟩
 exact I''.turned (t':=s''.toks) (it:=C) (fun b o hb e=>(sb'.2 b hb).trans e) hf.1 hf.2.1 hf.2.2.2.1 hf.2.2.2.2.1 hf.2.2.2.2.2
variable {tg iter:Expr}{ifs:List Expr}{te:TE}
theorem qY:∀ g∈([⟨tg,iter,ifs,0⟩]:List Comprehension),g.is_async=0:=fun g hg=>by rw [N6.mp hg]
theorem DZ (hc:X.calm=true) (S:bR X.N X.env scope Nc cap) (hi:PI X tg iter wi)
  (hg:∀ cl C s H fp,PG (iI X Nc scope cl C s H fp) tg g) (ht:∀ cl C s H fp,qf (iI X Nc scope cl C s H fp) ifs tt) (he:∀ cl C s H fp,PE (iI X Nc scope cl C s H fp) elt te)
  (hs:∀ x,foldedSetIterable iter X.env x=pure x:=by intro _;rfl):PE X (.ListComp elt [⟨tg,iter,ifs,0⟩] scope pos) (Ad wi cap g tt te):=
 BJ (cl0:=⟨tg,iter,ifs,0⟩) hc qY S hi hg ht (fun cl C s H fp acc=>ph rfl rfl (he cl C s H fp)) hs
theorem DP {i:Nat}{x:Str}{pos1:Pos}{pos2:Pos} (hc:X.calm=true) (hN:X.N.Nodup) (hix:X.N[i]?=some x) (hx:X.env.scope.names.lookup x=some .local) (S:bR X.N X.env scope Nc cap) (hi:PI X tg iter wi)
  (hg:∀ cl C s H fp,PG (iI X Nc scope cl C s H fp) tg g) (ht:∀ cl C s H fp,qf (iI X Nc scope cl C s H fp) ifs tt) (he:∀ cl C s H fp,PE (iI X Nc scope cl C s H fp) elt te)
  (hsw:swapsWith (.ListComp elt [⟨tg,iter,ifs,0⟩] scope pos) (some (.Name x pos1)) pos2.line X.env=pure true) (hs:∀ x,foldedSetIterable iter X.env x=pure x:=by intro _;rfl) :
  PS X (.Assign [.Name x pos1] (.ListComp elt [⟨tg,iter,ifs,0⟩] scope pos) pos2) (zP (Ad wi cap g tt te) (t5 i)):=
 uB (cl0:=⟨tg,iter,ifs,0⟩) hc qY hN hix hx S hi hg ht (fun cl C s H fp acc=>ph rfl rfl (he cl C s H fp)) hsw hs
end
end L2
namespace RS
open PySem PySem.W PyProof.Rows
open AutoSeq1 (wpAny_loadPart')
section
variable {prog:Program}{w:World}{A:Around}{E:Value->Shared->Prop}{s:Shared}
end
section
variable {prog:Program}{w:World}{A:Around}{E:Value->Shared->Prop}{s:Shared}
end
end RS
namespace L2
open PySem PySem.Spec PyProof.Rows RS
section
variable {X:Cx}{tg:Expr}
end
end L2
namespace RS
open PySem
def x9 (mask:Nat):Nat->Nat->Nat->List Nat
 | 0,_,_=>[]
 | n+1,i,pe=>(List.range (SetTable.runEnd mask i+1 - i)).map (i+·)++x9 mask n (SetTable.leap mask i pe).1 (SetTable.leap mask i pe).2
def cw (mask:Nat) (h:Int):List Nat:=x9 mask (SetTable.turns mask) (SetTable.bits h % (mask+1)) (SetTable.bits h)
def gY (t:SetTable):Nat->SetTable.Probe->List Nat
 | 0,_=>[]
 | n+1,p=>p.j::gY t n (t.advance p)
def lH (mask i pe:Nat) (d:Option Nat):SetTable.Probe:={ j:=i,more:=SetTable.runEnd mask i - i,i,perturb:=pe,dummy:=d }
theorem uj (t:SetTable):∀ (m n:Nat) (p:SetTable.Probe),p.more=m ->
  gY t (m+1+n) p=(List.range (m+1)).map (p.j+·)++gY t n (lH t.mask (SetTable.leap t.mask p.i p.perturb).1 (SetTable.leap t.mask p.i p.perturb).2 p.dummy)
 | 0,n,p,h=>by
  have e:0+1+n=n+1:=by omega
  rw [e]
  show p.j::gY t n (t.advance p)=_
  have ea:t.advance p=lH t.mask (SetTable.leap t.mask p.i p.perturb).1 (SetTable.leap t.mask p.i p.perturb).2 p.dummy:=by
   unfold SetTable.advance
   rw [LM (by omega)]
   rfl
  rw [ea]
  simp
 | m+1,n,p,h=>by
  have e:m+1+1+n=(m+1+n)+1:=by omega
  rw [e]
  show p.j::gY t (m+1+n) (t.advance p)=_
  have ea:t.advance p={ p with j:=p.j+1,more:=p.more - 1 }:=by
   unfold SetTable.advance
   rw [LL (by omega)]
  rw [ea,uj t m n { p with j:=p.j+1,more:=p.more - 1 } (by show p.more - 1=m;omega)]
  rw [N7 (n:=m+1),Ny,N8]
  show p.j::((List.range (m+1)).map (p.j+1+·)++_)=(p.j+0)::(List.map _ _)++_
  rw [Nat.add_zero]
  show p.j::(_++_)=p.j::(_++_)
  congr 2
  apply N9
  intro a _
  show p.j+1+a=p.j+(a+1)
  omega
theorem AA (mask i:Nat):i<=SetTable.runEnd mask i/\SetTable.runEnd mask i<=i+9:=by
 unfold SetTable.runEnd;split <;> omega
theorem oY (t:SetTable):∀ (n i pe:Nat) (d:Option Nat),gY t (x9 t.mask n i pe).length (lH t.mask i pe d)=x9 t.mask n i pe
 | 0,_,_,_=>rfl
 | n+1,i,pe,d=>by
  have hr:=AA t.mask i
  show gY t ((List.range (SetTable.runEnd t.mask i+1 - i)).map (i+·)++_).length _=_
  rw [MX,MY,Oa]
  have e:SetTable.runEnd t.mask i+1 - i=(SetTable.runEnd t.mask i - i)+1:=by omega
  rw [e,uj t (SetTable.runEnd t.mask i - i) _ (lH t.mask i pe d) rfl]
  show _++gY t (x9 t.mask n (SetTable.leap t.mask i pe).1 (SetTable.leap t.mask i pe).2).length (lH t.mask (SetTable.leap t.mask i pe).1 (SetTable.leap t.mask i pe).2 d)=_
  rw [oY t n]
  show _=(List.range (SetTable.runEnd t.mask i+1 - i)).map (i+·)++_
  rw [e];rfl
theorem su (mask:Nat):∀ (n i pe:Nat),(x9 mask n i pe).length<=10 * n
 | 0,_,_=>N5 _
 | n+1,i,pe=>by
  have hr:=AA mask i
  have ih:=su mask n (SetTable.leap mask i pe).1 (SetTable.leap mask i pe).2
  show ((List.range (SetTable.runEnd mask i+1 - i)).map (i+·)++_).length<=_
  rw [MX,MY,Oa]
  omega
theorem sE (t:SetTable) (hashAt:Nat->Int) (h:Int):∀ (pre:List Nat) (j:Nat) (post:List Nat) (fuel:Nat) (p:SetTable.Probe),gY t (pre.length+1+post.length) p=pre++j::post->pre.length<fuel->p.dummy=none ->
  (∀ k∈pre,∃ i,t.slot k=.live i/\hashAt i≠h) ->
  (t.slot j=.empty->SetTable.probe.go t hashAt h fuel p=some (.empty j none))/\(∀ i,t.slot j=.live i->hashAt i=h->∃ nx,SetTable.probe.go t hashAt h fuel p=some (.candidate j i nx))
 | [],j,post,0,p,_,hf,_,_=>by simp at hf
 | [],j,post,fuel+1,p,hw,_,hd,_=>by
  have ew:gY t (([]:List Nat).length+1+post.length) p=p.j::gY t post.length (t.advance p):=by
   rw [Ob,show 0+1+post.length=post.length+1 from by omega];rfl
  rw [ew,NP] at hw
  have ej:p.j=j:=(Oc hw).1
  refine ⟨fun he=>?_,fun i hl hh=>?_⟩
  ·show (match t.slot p.j with | .empty => _ | .dummy => _ | .live i => _) = _
   rw [ej,he,hd]
  ·refine ⟨t.advance p, ?_⟩
   show (match t.slot p.j with | .empty=>_ | .dummy=>_ | .live i=>_)=_
   rw [ej,hl]
   show (if (hashAt i == h)=true then _ else _)=_
   rw [LL (by simpa using hh)]
 | x::pre,j,post,0,p,_,hf,_,_=>by simp at hf
 | x::pre,j,post,fuel+1,p,hw,hf,hd,hp=>by
  have ew:gY t ((x::pre).length+1+post.length) p=p.j::gY t (pre.length+1+post.length) (t.advance p):=by
   rw [NU,show pre.length+1+1+post.length=(pre.length+1+post.length)+1 from by omega];rfl
  rw [ew,Od] at hw
  have ej:p.j=x:=(Oc hw).1
  have er:=(Oc hw).2
  obtain ⟨i,hl,hne⟩:=hp x LY
  have hda:(t.advance p).dummy=none:=by
   unfold SetTable.advance
   split
   ·exact hd
   ·exact hd
  have ih:=sE t hashAt h pre j post fuel (t.advance p) er (by rw [NU] at hf;omega) hda (fun k hk=>hp k (LZ _ hk))
  have eg:SetTable.probe.go t hashAt h (fuel+1) p=SetTable.probe.go t hashAt h fuel (t.advance p):=by
   show (match t.slot p.j with | .empty=>_ | .dummy=>_ | .live i=>_)=_
   rw [ej,hl]
   show (if (hashAt i == h)=true then _ else _)=_
   rw [LM (by simpa using hne)]
  rw [eg]
  exact ih
def CA (xs:List Nat):Prop:=xs.Pairwise (·<·)
theorem pF (xs:Array Nat) (j:Nat):∀ (fuel lo hi:Nat),lo<=hi->hi<=xs.size->hi - lo<=fuel->(∀ i k,i<k->k<xs.size->xs.getD i j<xs.getD k j)->(∀ i,i<lo->xs.getD i j<j)->(∀ i,hi<=i->i<xs.size->j<=xs.getD i j) ->
  let b:=SetTable.below.go xs j fuel lo hi
  b<=xs.size/\(∀ i,i<b->xs.getD i j<j)/\(∀ i,b<=i->i<xs.size->j<=xs.getD i j)
 | 0,lo,hi,h1,h2,h3,hr,ha,hb=>by
  have e:lo=hi:=by omega
  subst e
  exact ⟨h2,ha,hb⟩
 | fuel+1,lo,hi,h1,h2,h3,hr,ha,hb=>by
  by_cases hlt:lo<hi
  ·simp only [SetTable.below.go, hlt, Nf]
   by_cases hc:xs.getD ((lo+hi) / 2) j<j
   ·rw [LL hc]
    refine pF xs j fuel _ hi (by omega) h2 (by omega) hr (fun i hi'=>?_) hb
    by_cases e:i=(lo+hi) / 2
    ·rw [e];exact hc
    ·have := hr i ((lo + hi) / 2) (by omega) (by omega)
     omega
   ·rw [LM hc]
    refine pF xs j fuel lo _ (by omega) (by omega) (by omega) hr ha (fun i hi' hs=>?_)
    by_cases e:i=(lo+hi) / 2
    ·rw [e];omega
    ·have := hr ((lo + hi) / 2) i (by omega) hs
     omega
  ·have e : lo = hi := by omega
   subst e
   simp only [SetTable.below.go,hlt,Nd]
   exact ⟨h2,ha,hb⟩
theorem sv {xs:Array Nat} (h:CA xs.toList) (j:Nat):∀ i k,i<k->k<xs.size->xs.getD i j<xs.getD k j:=fun i k hik hk=>by
 have hi:i<xs.size:=by omega
 have:=Oe.mp h i k (by simpa using hi) (by simpa using hk) hik
 simpa [Array.getD,hi,hk] using this
theorem kZ {xs:Array Nat} (h:CA xs.toList) (j:Nat):SetTable.below xs j<=xs.size/\(∀ i,i<SetTable.below xs j->xs.getD i j<j)/\(∀ i,SetTable.below xs j<=i->i<xs.size->j<=xs.getD i j):=
 pF xs j xs.size 0 xs.size (N5 _) (Mt _) (by omega) (sv h j) (fun i hi=>by omega) (fun i h1 h2=>by omega)
theorem zH {xs:Array Nat} (h:CA xs.toList) {i j:Nat} (e:xs[i]?=some j):SetTable.below xs j=i:=by
 obtain ⟨h1,h2,h3⟩:=kZ h j
 have hi:i<xs.size:=by
  rcases Of.mp e with ⟨q,_⟩;exact q
 have ei:xs.getD i j=j:=by
  rcases Of.mp e with ⟨q,z⟩
  simp [Array.getD,hi,z]
 by_cases hlt:SetTable.below xs j<i
 ·have a := h3 (SetTable.below xs j) (Mt _) (by omega)
  have b:=sv h j (SetTable.below xs j) i hlt hi
  omega
 ·by_cases hgt : i < SetTable.below xs j
  ·have:=h2 i hgt;omega
  ·omega
theorem jm {α:Type} (xs:Array α) (p:Nat) (x:α):(SetTable.insertAt xs p x).toList=xs.toList.take p++x::xs.toList.drop p:=by
 unfold SetTable.insertAt
 simp [Og]
theorem i8 {α:Type} (p:α->Prop):∀ (l:List α),(∃ x∈l,p x)->∃ pre x post,l=pre++x::post/\p x/\∀ y∈pre,¬ p y
 | [],h=>by obtain ⟨x,hx,_⟩:=h;simp at hx
 | a::l,h=>by
  by_cases ha:p a
  ·exact ⟨[],a,l,rfl,ha,fun y hy=>by simp at hy⟩
  ·obtain ⟨x, hx, px⟩ := h
   rcases L4.mp hx with z | z
   ·rw [z] at px;exact absurd px ha
   ·obtain ⟨pre, y, post, e, py, hp⟩ := i8 p l ⟨x, z, px⟩
    refine ⟨a::pre,y,post,by rw [e];rfl,py,fun w hw=>?_⟩
    rcases L4.mp hw with q | q
    ·rw [q];exact ha
    ·exact hp w q
structure qE (t:SetTable) (es:Array (Int × Value)) (Z:List (Nat × Int × Value)):Prop where
 place:t.place.toList=Z.map (·.1)
 ents:es.toList=Z.map (·.2)
 ris:CA (Z.map (·.1))
 top:∀ z∈Z,z.1<=t.mask
 dum:t.dummies=#[]
 reach:∀ z∈Z,∃ pre post,cw t.mask z.2.1=pre++z.1::post/\∀ k∈pre,k∈Z.map (·.1)
theorem qE.size {t:SetTable}{es:Array (Int × Value)}{Z:List (Nat × Int × Value)} (T:qE t es Z):t.place.size=Z.length/\es.size=Z.length:=by
 have a:=Mf List.length T.place
 have b:=Mf List.length T.ents
 simp at a b
 exact ⟨a,b⟩
theorem qE.fill {t:SetTable}{es:Array (Int × Value)}{Z:List (Nat × Int × Value)} (T:qE t es Z):t.fill=Z.length:=by
 unfold SetTable.fill;rw [T.size.1,T.dum];rfl
theorem rp (j:Nat):SetTable.has #[] j=false:=by
 unfold SetTable.has;simp
theorem qE.slot_empty {t:SetTable}{es:Array (Int × Value)}{Z:List (Nat × Int × Value)} (T:qE t es Z) {j:Nat} (h:j ∉ Z.map (·.1)):t.slot j=.empty:=by
 unfold SetTable.slot
 have hn:¬ (t.place[SetTable.below t.place j]? == some j)=true:=by
  intro e
  have e':t.place[SetTable.below t.place j]?=some j:=by simpa using e
  apply h
  rw [<- T.place]
  rw [<- NO] at e'
  exact MW e'
 simp only [hn,T.dum,rp]
 rfl
theorem qE.slot_live {t:SetTable}{es:Array (Int × Value)}{Z:List (Nat × Int × Value)} (T:qE t es Z) {i:Nat}{z:Nat × Int × Value} (h:Z[i]?=some z):t.slot z.1=.live i:=by
 have e:t.place[i]?=some z.1:=by
  rw [<- NO,T.place,MU,h];rfl
 have r:CA t.place.toList:=by rw [T.place];exact T.ris
 have eb:=zH r e
 unfold SetTable.slot
 have hc:(t.place[SetTable.below t.place z.1]? == some z.1)=true:=by rw [eb,e];simp
 simp only [hc,Nf]
 rw [eb]
theorem qE.hashAt {t:SetTable}{es:Array (Int × Value)}{Z:List (Nat × Int × Value)} (T:qE t es Z) {i:Nat}{z:Nat × Int × Value} (h:Z[i]?=some z):es[i]?=some z.2:=by
 rw [<- NO,T.ents,MU,h];rfl
theorem iJ {α:Type}:∀ {l1 l2:List α},l1.Nodup->(∀ x∈l1,x∈l2)->l1.length<=l2.length
 | [],_,_,_=>N5 _
 | a::r,l2,hn,hs=>by
  obtain ⟨s,t,e⟩:=List.append_of_mem (hs a LY)
  have hn':=MJ.mp hn
  have ih:=iJ (l1:=r) (l2:=s++t) hn'.2 (fun x hx=>by
   have hx2:=hs x (LZ _ hx)
   rw [e] at hx2
   rcases L6.mp hx2 with q | q
   ·exact L7 _ q
   ·rcases L4.mp q with q | q
    ·rw [q] at hx;exact absurd hx hn'.1
    ·exact Mw _ q)
  rw [e,MX,NU,NU]
  rw [MX] at ih
  omega
theorem xr (mask:Nat):∀ (n i pe:Nat),i<=mask->∀ j∈x9 mask n i pe,j<=mask
 | 0,_,_,_,j,h=>by simp [x9] at h
 | n+1,i,pe,hi,j,h=>by
  rcases L6.mp h with q | q
  ·obtain ⟨k, hk, e⟩ := Oh.mp q
   have hk':=LU.mp hk
   have:SetTable.runEnd mask i<=mask:=by unfold SetTable.runEnd;split <;> omega
   have e':i+k=j:=e
   omega
  ·refine xr mask n _ _ ?_ j q
   show (i * 5+1+pe / 32) % (mask+1)<=mask
   exact Nat.le_of_lt_succ (Nat.mod_lt _ (Nat.succ_pos mask))
theorem iN {mask:Nat}{h:Int}{j:Nat} (e:j∈cw mask h):j<=mask:=by
 refine xr mask _ _ _ ?_ j e
 exact Nat.le_of_lt_succ (Nat.mod_lt _ (Nat.succ_pos mask))
theorem rA {m:Nat}{l:List Nat} (h:l.length<=m):∃ j,j<=m/\j ∉ l:=by
 refine Oi fun hn=>?_
 have hall:∀ j∈List.range (m+1),j∈l:=fun j hj=>by
  refine Oi fun hj'=>hn ⟨j,?_,hj'⟩
  have:=LU.mp hj;omega
 have:=iJ (Oj (n:=m+1)) hall
 rw [Oa] at this
 omega
theorem qE.search {t:SetTable}{es:Array (Int × Value)}{Z:List (Nat × Int × Value)} (T:qE t es Z) {h:Int} (cov:∀ j,j<=t.mask->j∈cw t.mask h) (hz:Z.length<=t.mask) (hA:Nat->Int) (hAe:∀ i z,Z[i]?=some z->hA i=z.2.1) :
  (∃ i z nx,Z[i]?=some z/\z.2.1=h/\t.probe hA h (t.probeStart h)=some (.candidate z.1 i nx)) \/
  ((∀ z∈Z,z.2.1≠h)/\∃ j pre post,t.probe hA h (t.probeStart h)=some (.empty j none)/\j<=t.mask/\j ∉ Z.map (·.1)/\cw t.mask h=pre++j::post/\∀ k∈pre,k∈Z.map (·.1)):=by
 obtain ⟨j0,hj0,hn0⟩:=rA (m:=t.mask) (l:=Z.map (·.1)) (by rw [MY];exact hz)
 obtain ⟨pre,j,post,e,hs,hp⟩:=i8 (fun j=>j ∉ Z.map (·.1)\/∃ z∈Z,z.1=j/\z.2.1=h) (cw t.mask h) ⟨j0,cov j0 hj0,.inl hn0⟩
 have hw:gY t (pre.length+1+post.length) (t.probeStart h)=pre++j::post:=by
  have q:=oY t (SetTable.turns t.mask) (SetTable.bits h % (t.mask+1)) (SetTable.bits h) none
  have el:(x9 t.mask (SetTable.turns t.mask) (SetTable.bits h % (t.mask+1)) (SetTable.bits h)).length=pre.length+1+post.length:=by
   show (cw t.mask h).length=_
   rw [e,MX,NU];omega
  rw [el] at q
  exact q.trans e
 have hlen:pre.length<10 * SetTable.turns t.mask:=by
  have q:=su t.mask (SetTable.turns t.mask) (SetTable.bits h % (t.mask+1)) (SetTable.bits h)
  have el:(x9 t.mask (SetTable.turns t.mask) (SetTable.bits h % (t.mask+1)) (SetTable.bits h)).length=pre.length+1+post.length:=by
   show (cw t.mask h).length=_
   rw [e,MX,NU];omega
  omega
 have occ:∀ k∈pre,k∈Z.map (·.1):=fun k hk=>by
  refine Oi fun q=>hp k hk (.inl q)
 have hpre:∀ k∈pre,∃ i,t.slot k=.live i/\hA i≠h:=fun k hk=>by
  obtain ⟨z,hzm,ez⟩:=Oh.mp (occ k hk)
  obtain ⟨i,hi⟩:=Ol hzm
  refine ⟨i,ez ▸ T.slot_live hi,fun q=>hp k hk (.inr ⟨z,hzm,ez,?_⟩)⟩
  rw [<- hAe i z hi];exact q
 obtain ⟨g1,g2⟩:=sE t hA h pre j post (10 * SetTable.turns t.mask) (t.probeStart h) hw hlen rfl hpre
 by_cases hany:∃ z∈Z,z.2.1=h
 ·obtain ⟨z, hzm, ez⟩ := hany
  obtain ⟨pz,qz,ezz,hoz⟩:=T.reach z hzm
  rw [ez] at ezz
  have hjo:j∈Z.map (·.1):=by
   have e2:pre++j::post=pz++z.1::qz:=by rw [<- e,<- ezz]
   rcases List.append_eq_append_iff.mp e2 with ⟨a,h1,h2⟩ | ⟨c,h1,h2⟩
   ·cases a with
    | nil=>
     simp only [NP] at h2
     rw [(Oc h2).1];exact Om hzm
    | cons x a=>
     rw [Od] at h2
     have:j∈pz:=by rw [h1,(Oc h2).1];simp
     exact hoz j this
   ·cases c with
    | nil=>
     simp only [NP] at h2
     rw [<- (Oc h2).1];exact Om hzm
    | cons x c=>
     rw [Od] at h2
     have:z.1∈pre:=by rw [h1,(Oc h2).1];simp
     exact absurd (.inr ⟨z,hzm,rfl,ez⟩) (hp z.1 this)
  rcases hs with q | ⟨z',hz',e1,e2⟩
  ·exact absurd hjo q
  ·obtain ⟨i, hi⟩ := Ol hz'
   obtain ⟨nx,en⟩:=g2 i (e1 ▸ T.slot_live hi) (by rw [hAe i z' hi];exact e2)
   exact .inl ⟨i,z',nx,hi,e2,by rw [e1];exact en⟩
 ·have hno : ∀ z ∈ Z, z.2.1 ≠ h := fun z hz' e' => hany ⟨z, hz', e'⟩
  rcases hs with q | ⟨z',hz',e1,e2⟩
  ·have hjm : j <= t.mask := iN (h := h) (by rw [e]; simp)
   exact .inr ⟨hno,j,pre,post,g1 (T.slot_empty q),hjm,q,e,occ⟩
  ·exact absurd e2 (hno z' hz')
theorem wy {l:List Nat}{j p:Nat} (h:CA l) (h1:∀ x∈l.take p,x<j) (h2:∀ x∈l.drop p,j<x):CA (l.take p++j::l.drop p):=by
 unfold CA at *
 have h':(l.take p++l.drop p).Pairwise (·<·):=by rw [On];exact h
 rw [List.pairwise_append] at h' ⊢
 refine ⟨h'.1,Oo.mpr ⟨fun x hx=>h2 x hx,h'.2.1⟩,fun a ha b hb=>?_⟩
 rcases L4.mp hb with q | q
 ·rw [q];exact h1 a ha
 ·exact h'.2.2 a ha b q
theorem qE.put {t:SetTable}{es:Array (Int × Value)}{Z:List (Nat × Int × Value)} (T:qE t es Z) {j:Nat}{h:Int}{x:Value}{pre post:List Nat} (hj:j<=t.mask) (hn:j ∉ Z.map (·.1)) (e:cw t.mask h=pre++j::post) (hp:∀ k∈pre,k∈Z.map (·.1)) :
  ∃ Z',qE (t.put j).1 (SetTable.insertAt es (t.put j).2 (h,x)) Z'/\Z'.Perm ((j,h,x)::Z)/\(t.put j).1={ t with place:=SetTable.insertAt t.place (SetTable.below t.place j) j }:=by
 have e1:(t.put j).1={ t with place:=SetTable.insertAt t.place (SetTable.below t.place j) j }:=by
  unfold SetTable.put
  simp only [T.dum,rp]
  rw [LM Mm]
 have e2:(t.put j).2=SetTable.below t.place j:=rfl
 have r:CA t.place.toList:=by rw [T.place];exact T.ris
 obtain ⟨b1,b2,b3⟩:=kZ r j
 generalize hb:SetTable.below t.place j=p at *
 refine ⟨Z.take p++(j,h,x)::Z.drop p,⟨?_,?_,?_,fun z hz=>?_,by rw [e1];exact T.dum,fun z hz=>?_⟩,?_,e1⟩
 ·rw [e1]
  show (SetTable.insertAt t.place p j).toList=_
  rw [jm,T.place,Oq,Ny,Os,Ot]
 ·rw [e2,jm,T.ents,Oq,Ny,Os,Ot]
 ·rw [Oq, Ny, Os, Ot]
  have hlen:t.place.size=(Z.map (·.1)).length:=by rw [<- T.place];simp
  refine wy T.ris (fun y hy=>?_) (fun y hy=>?_)
  ·obtain ⟨i, hi⟩ := Ol hy
   rw [List.getElem?_take] at hi
   split at hi
   ·rename_i hlt
    have q:=b2 i hlt
    rw [<- T.place,NO] at hi
    simp only [Ou,hi,Ov] at q
    exact q
   ·cases hi
  ·obtain ⟨i, hi⟩ := Ol hy
   rw [Ow] at hi
   have hmem:y∈Z.map (·.1):=MW hi
   rw [<- T.place,NO] at hi
   have hlt:p+i<t.place.size:=(Of.mp hi).1
   have q:=b3 (p+i) (by omega) hlt
   simp only [Ou,hi,Ov] at q
   have:y≠j:=fun ey=>hn (ey ▸ hmem)
   omega
 ·rw [e1]
  show z.1<=t.mask
  rcases L6.mp hz with q | q
  ·exact T.top z (Ox q)
  ·rcases L4.mp q with q | q
   ·rw [q];exact hj
   ·exact T.top z (List.mem_of_mem_drop q)
 ·rw [e1]
  show ∃ pre post,cw t.mask z.2.1=pre++z.1::post/\_
  have sub:∀ k∈Z.map (·.1),k∈(Z.take p++(j,h,x)::Z.drop p).map (·.1):=fun k hk=>by
   rw [<- On p Z,Oq] at hk
   rw [Oq,Ny]
   rcases L6.mp hk with q | q
   ·exact L7 _ q
   ·exact Mw _ (LZ _ q)
  have old:∀ z∈Z,∃ pre post,cw t.mask z.2.1=pre++z.1::post/\∀ k∈pre,k∈(Z.take p++(j,h,x)::Z.drop p).map (·.1):=fun z hz=>by
   obtain ⟨a,b,c,d⟩:=T.reach z hz
   exact ⟨a,b,c,fun k hk=>sub k (d k hk)⟩
  rcases L6.mp hz with q | q
  ·exact old z (Ox q)
  ·rcases L4.mp q with q | q
   ·rw [q];exact ⟨pre,post,e,fun k hk=>sub k (hp k hk)⟩
   ·exact old z (List.mem_of_mem_drop q)
 ·have q : (Z.take p ++ (j, h, x) :: Z.drop p).Perm ((j, h, x) :: (Z.take p ++ Z.drop p)) := List.perm_middle
  rw [On] at q
  exact q
theorem rB (mask:Nat) (owner:Array (Option Nat)):∀ (n i pe:Nat),
  SetTable.layClean.free mask owner n i pe=(x9 mask n i pe).find? fun j=>(owner.getD j (some 0)).isNone
 | 0,_,_=>rfl
 | n+1,i,pe=>by
  show (match (List.range (SetTable.runEnd mask i+1 - i)).find? fun k=>(owner.getD (i+k) (some 0)).isNone with | some k=>_ | none=>_)=_
  show _=((List.range (SetTable.runEnd mask i+1 - i)).map (i+·)++x9 mask n (SetTable.leap mask i pe).1 (SetTable.leap mask i pe).2).find? _
  rw [List.find?_append,List.find?_map,<- rB mask owner n]
  have ec:((fun j=>(owner.getD j (some 0)).isNone) ∘ fun x=>i+x)=fun k=>(owner.getD (i+k) (some 0)).isNone:=rfl
  rw [ec]
  cases (List.range (SetTable.runEnd mask i+1 - i)).find? fun k=>(owner.getD (i+k) (some 0)).isNone with
  | some k=>rfl
  | none=>rfl
structure FH (mask:Nat) (hs:List Int) (owner:Array (Option Nat)):Prop where
 size:owner.size=mask+1
 all:∀ (i:Nat) (h:Int),hs[i]?=some h->∃ j:Nat,j<=mask/\owner[j]?=some (some i)/\∃ pre post,cw mask h=pre++j::post/\∀ k∈pre,∃ i':Nat,owner[k]?=some (some i')
 lt:∀ (j i:Nat),owner[j]?=some (some i)->i<hs.length
 inj:∀ (j j' i:Nat),owner[j]?=some (some i)->owner[j']?=some (some i)->j=j'
theorem D2 (mask:Nat):FH mask [] (Array.replicate (mask+1) none):=by
 have hno:∀ (j i:Nat),(Array.replicate (mask+1) (none:Option Nat))[j]?≠some (some i):=fun j i e=>by
  rw [Array.getElem?_replicate] at e
  split at e <;> cases e
 exact ⟨by simp,fun i h e=>by simp at e,fun j i e=>absurd e (hno j i),fun j j' i e=>absurd e (hno j i)⟩
theorem BO {mask:Nat}{hs:List Int}{owner:Array (Option Nat)} (O:FH mask hs owner) (hl:hs.length<=mask):∃ j,j<=mask/\owner[j]?=some none:=by
 refine Oi fun hn=>?_
 have hall:∀ j,j<=mask->∃ i,owner[j]?=some (some i):=fun j hj=>by
  have hs':j<owner.size:=by rw [O.size];omega
  cases e:owner[j]? with
  | none=>rw [Oy] at e;omega
  | some o=>
   cases o with
   | none=>exact absurd ⟨j,hj,e⟩ hn
   | some i=>exact ⟨i,rfl⟩
 have key:∀ n,n<=mask+1->∃ l:List Nat,l.length=n/\l.Nodup/\(∀ i∈l,i<hs.length)/\∀ i∈l,∃ j,j<n/\owner[j]?=some (some i):=by
  intro n
  induction n with
  | zero=>exact fun _=>⟨[],rfl,Oz,fun _ h=>by simp at h,fun _ h=>by simp at h⟩
  | succ n ih=>
   intro hn'
   obtain ⟨l,h1,h2,h3,h4⟩:=ih (by omega)
   obtain ⟨i,hi⟩:=hall n (by omega)
   refine ⟨i::l,by rw [NU,h1],MJ.mpr ⟨fun hm=>?_,h2⟩,fun x hx=>?_,fun x hx=>?_⟩
   ·obtain ⟨j, hj, ej⟩ := h4 i hm
    have:=O.inj j n i ej hi
    omega
   ·rcases L4.mp hx with q | q
    ·rw [q];exact O.lt n i hi
    ·exact h3 x q
   ·rcases L4.mp hx with q | q
    ·rw [q];exact ⟨n,by omega,hi⟩
    ·obtain ⟨j, hj, ej⟩ := h4 x q
     exact ⟨j,by omega,ej⟩
 obtain ⟨l,h1,h2,h3,_⟩:=key (mask+1) (Mt _)
 have:=iJ h2 (l2:=List.range hs.length) (fun x hx=>LU.mpr (h3 x hx))
 rw [Oa,h1] at this
 omega
theorem BN {mask:Nat}{hs:List Int}{owner:Array (Option Nat)}{h:Int} (O:FH mask hs owner) (hl:hs.length<=mask) (cov:∀ j,j<=mask->j∈cw mask h) :
  ∃ j,SetTable.layClean.free mask owner (SetTable.turns mask) (SetTable.bits h % (mask+1)) (SetTable.bits h)=some j/\FH mask (hs++[h]) (owner.setIfInBounds j (some hs.length)):=by
 obtain ⟨j0,hj0,e0⟩:=BO O hl
 have none_iff:∀ j,((owner.getD j (some 0)).isNone=true)↔owner[j]?=some none:=fun j=>by
  rw [Ou]
  cases owner[j]? with
  | none=>simp
  | some o=>cases o <;> simp
 obtain ⟨pre,j,post,e,hs',hp⟩:=i8 (fun j=>owner[j]?=some none) (cw mask h) ⟨j0,cov j0 hj0,e0⟩
 have hjm:j<=mask:=iN (h:=h) (by rw [e];simp)
 have hjs:j<owner.size:=by rw [O.size];omega
 have hocc:∀ k∈pre,∃ i',owner[k]?=some (some i'):=fun k hk=>by
  have hkm:k<=mask:=iN (h:=h) (by rw [e];simp [hk])
  cases q:owner[k]? with
  | none=>
   rw [Oy,O.size] at q
   omega
  | some o=>
   cases o with
   | none=>exact absurd q (hp k hk)
   | some i=>exact ⟨i,rfl⟩
 have hset:∀ k,(owner.setIfInBounds j (some hs.length))[k]?=if j=k then some (some hs.length) else owner[k]?:=fun k=>by
  rw [Array.getElem?_setIfInBounds]
  by_cases q:j=k
  ·rw [LL q,LL q,LL hjs]
  ·rw [LM q,LM q]
 have keep:∀ k i',owner[k]?=some (some i')->(owner.setIfInBounds j (some hs.length))[k]?=some (some i'):=fun k i' q=>by
  rw [hset,LM]
  ·exact q
  ·intro ej;rw [<- ej,hs'] at q;cases q
 refine ⟨j,?_,by simp [O.size],fun i h' ei=>?_,fun k i ei=>?_,fun k k' i e1 e2=>?_⟩
 ·rw [rB]
  show (cw mask h).find? _=some j
  rw [e,List.find?_append]
  have e1:pre.find? (fun j=>(owner.getD j (some 0)).isNone)=none:=by
   rw [List.find?_eq_none]
   intro k hk q
   exact hp k hk ((none_iff k).mp q)
  simp only [e1,Option.none_or,List.find?_cons,(none_iff j).mpr hs']
 ·by_cases hi : i < hs.length
  ·rw [MR hi] at ei
   obtain ⟨j',a1,a2,pr,po,a3,a4⟩:=O.all i h' ei
   exact ⟨j',a1,keep j' i a2,pr,po,a3,fun k hk=>(a4 k hk).elim fun i' q=>⟨i',keep k i' q⟩⟩
  ·have hi':i=hs.length:=by
    have:=(L8.mp ei).1
    simp at this;omega
   subst hi'
   rw [MP (Mt _),OA] at ei
   have eh:h=h':=by simpa using ei
   subst eh
   exact ⟨j,hjm,by rw [hset,LL rfl],pre,post,e,fun k hk=>(hocc k hk).elim fun i' q=>⟨i',keep k i' q⟩⟩
 ·rw [hset] at ei
  rw [MX,NN]
  split at ei
  ·cases ei;omega
  ·have:=O.lt k i ei;omega
 ·rw [hset] at e1 e2
  split at e1
  ·rename_i q1
   cases e1
   split at e2
   ·rename_i q2;rw [<- q1,q2]
   ·have:=O.lt k' _ e2;omega
  ·split at e2
   ·cases e2
    have:=O.lt k _ e1;omega
   ·exact O.inj k k' i e1 e2
theorem uD {mask:Nat}:∀ (hs0 hs1:List Int) (owner:Array (Option Nat)),FH mask hs0 owner->hs0.length+hs1.length<=mask+1->(∀ h∈hs1,∀ j,j<=mask->j∈cw mask h) ->
  ∃ owner',hs1.foldl (fun (acc:Option (Array (Option Nat) × Nat)) h=>do
   let (owner,k) <- acc
   let j <- SetTable.layClean.free mask owner (SetTable.turns mask) (SetTable.bits h % (mask+1)) (SetTable.bits h)
   pure (owner.setIfInBounds j (some k),k+1)) (some (owner,hs0.length))=some (owner',(hs0++hs1).length)/\FH mask (hs0++hs1) owner'
 | hs0,[],owner,O,_,_=>⟨owner,by simp,by simpa using O⟩
 | hs0,h::hs1,owner,O,hl,cov=>by
  rw [NU] at hl
  obtain ⟨j,ej,O'⟩:=BN (h:=h) O (by omega) (cov h LY)
  obtain ⟨ow,e1,e2⟩:=uD (hs0++[h]) hs1 _ O' (by rw [MX,NN];omega) (fun x hx=>cov x (LZ _ hx))
  rw [NK,List.singleton_append] at e1 e2
  refine ⟨ow,?_,e2⟩
  rw [NL]
  show List.foldl _ ((SetTable.layClean.free mask owner (SetTable.turns mask) (SetTable.bits h % (mask+1)) (SetTable.bits h)).bind fun j=>some (owner.setIfInBounds j (some hs0.length),hs0.length+1)) hs1=_
  rw [ej]
  show List.foldl _ (some (owner.setIfInBounds j (some hs0.length),hs0.length+1)) hs1=_
  rw [MX,NN] at e1
  exact e1
theorem uz {α:Type}:∀ l:List α,(List.range l.length).filterMap (fun i=>l[i]?)=l
 | []=>rfl
 | a::l=>by
  rw [NU,N7,LX]
  show a::List.filterMap _ _=_
  rw [Ni]
  show a::List.filterMap (fun i=>l[i]?) _=_
  rw [uz l]
theorem Ew {mask:Nat}{hs:List Int} (hl:hs.length<=mask+1) (cov:∀ h∈hs,∀ j,j<=mask->j∈cw mask h):∃ owner,SetTable.layClean mask hs.toArray=some owner/\FH mask hs owner:=by
 obtain ⟨ow,e1,e2⟩:=uD [] hs _ (D2 mask) (by rw [Ob,Nat.zero_add];exact hl) cov
 refine ⟨ow,?_,by simpa using e2⟩
 unfold SetTable.layClean
 rw [List.foldl_toArray']
 ·show Option.map (·.1) (hs.foldl _ (some (Array.replicate (mask + 1) none, ([] : List Int).length))) = _
  rw [e1];rfl
 ·simp
theorem pL {t:SetTable}{es:Array (Int × Value)}{wanted mask:Nat} (hm:SetTable.sizeAbove wanted - 1=mask) (hl:es.size<=mask) (cov:∀ e∈es.toList,∀ j,j<=mask->j∈cw mask e.1) :
  ∃ t' order Z',t.relaid (es.map (·.1)) wanted=some (t',order)/\qE t' (order.filterMap (es[·]?)) Z'/\(Z'.map (·.2)).Perm es.toList/\t'.mask=mask/\t'.led=t.led/\t'.plain=t.plain/\order.toList.Perm (List.range es.size):=by
 have ea:es.map (·.1)=(es.toList.map (·.1)).toArray:=by rw [<- Array.toList_map]
 obtain ⟨ow,e1,O⟩:=Ew (mask:=mask) (hs:=es.toList.map (·.1)) (by simp;omega) (fun h hh=>by
  obtain ⟨e,he,q⟩:=Oh.mp hh
  rw [<- q];exact cov e he)
 let live:List (Nat × Nat):=(List.range (mask+1)).filterMap fun j=>(ow.getD j none).map (j,·)
 have hlive:∀ j i,(j,i)∈live↔(j<=mask/\ow[j]?=some (some i)):=fun j i=>by
  simp only [live,Mv,LU]
  constructor
  ·rintro ⟨k, hk, q⟩
   rw [Ou] at q
   cases e:ow[k]? with
   | none=>rw [e] at q;cases q
   | some o=>
    rw [e] at q
    cases o with
    | none=>cases q
    | some i'=>
     simp only [Ov,Option.map_some,Option.some.injEq,Prod.mk.injEq] at q
     obtain ⟨q1,q2⟩:=q
     subst q1;subst q2
     exact ⟨by omega,e⟩
  ·rintro ⟨hj, e⟩
   refine ⟨j,by omega,?_⟩
   rw [Ou,e];rfl
 have hfst:(live.map (·.1)).Pairwise (·<·):=by
  have gen:∀ (l:List Nat),l.Pairwise (·<·)->((l.filterMap fun j=>(ow.getD j none).map (j,·)).map (·.1)).Pairwise (·<·)/\∀ x∈((l.filterMap fun j=>(ow.getD j none).map (j,·)).map (·.1)),x∈l:=by
   intro l
   induction l with
   | nil=>intro _;exact ⟨List.Pairwise.nil,fun x hx=>by simp at hx⟩
   | cons a l ih=>
    intro hp
    obtain ⟨h1,h2⟩:=Oo.mp hp
    obtain ⟨i1,i2⟩:=ih h2
    rw [LX]
    cases q:(ow.getD a none).map (a,·) with
    | none=>exact ⟨i1,fun x hx=>LZ _ (i2 x hx)⟩
    | some p=>
     have ep:p.1=a:=by
      cases hq:ow.getD a none with
      | none=>rw [hq] at q;cases q
      | some i=>rw [hq] at q;cases q;rfl
     show (p.1::List.map _ _).Pairwise _/\∀ x∈p.1::List.map _ _,x∈a::l
     rw [ep]
     exact ⟨Oo.mpr ⟨fun x hx=>h1 x (i2 x hx),i1⟩,fun x hx=>by
      rcases L4.mp hx with z | z
      ·rw [z];exact LY
      ·exact LZ _ (i2 x z)⟩
  exact (gen _ OB).1
 have hnd:live.Nodup:=by
  have:=hfst.imp (fun h=>LR h)
  exact List.Pairwise.of_map (·.1) (fun a b h e=>h (by rw [e])) this
 have hsz:∀ j i,(j,i)∈live->i<es.size:=fun j i h=>by
  have:=O.lt j i ((hlive j i).mp h).2
  simpa using this
 have hsnd:(live.map (·.2)).Perm (List.range es.size):=by
  refine (OC ?_ Oj).mpr fun i=>?_
  ·refine List.Pairwise.map _ (fun a b h => ?_) (List.Pairwise.and_mem.mp hnd)
   obtain ⟨ha,hb,hne⟩:=h
   intro e
   have q1:=((hlive a.1 a.2).mp ha).2
   have q2:=((hlive b.1 b.2).mp hb).2
   rw [<- e] at q2
   exact hne (Prod.ext (O.inj _ _ _ q1 q2) e)
  ·rw [LU, Oh]
   constructor
   ·rintro ⟨p,hp,e⟩;rw [<- e];exact hsz p.1 p.2 hp
   ·intro hi
    obtain ⟨j,hj,q,_⟩:=O.all i (es[i].1) (by rw [MU,NO,OD hi];rfl)
    exact ⟨(j,i),(hlive j i).mpr ⟨hj,q⟩,rfl⟩
 let Z':List (Nat × Int × Value):=live.filterMap fun p=>(es[p.2]?).map fun e=>(p.1,e)
 have hZ1:Z'.map (·.1)=live.map (·.1):=by
  have gen:∀ l:List (Nat × Nat),(∀ p∈l,p.2<es.size)->(l.filterMap fun p=>(es[p.2]?).map fun e=>(p.1,e)).map (·.1)=l.map (·.1):=by
   intro l
   induction l with
   | nil=>intro _;rfl
   | cons p l ih=>
    intro h
    rw [LX,OD (h p LY)]
    show p.1::List.map _ _=p.1::List.map _ _
    rw [ih fun q hq=>h q (LZ _ hq)]
  exact gen live fun p hp=>hsz p.1 p.2 hp
 have hZ2:Z'.map (·.2)=(live.map (·.2)).filterMap (es[·]?):=by
  have gen:∀ l:List (Nat × Nat),(l.filterMap fun p=>(es[p.2]?).map fun e=>(p.1,e)).map (·.2)=(l.map (·.2)).filterMap (es[·]?):=by
   intro l
   induction l with
   | nil=>rfl
   | cons p l ih=>
    rw [LX,Ny,LX]
    cases es[p.2]? with
    | none=>exact ih
    | some e=>show e::List.map _ _=e::_;rw [ih]
  exact gen live
 have hes:(List.range es.size).filterMap (es[·]?)=es.toList:=by
  have q:=uz es.toList
  rw [Me] at q
  simpa only [NO] using q
 refine ⟨{ mask,place:=(live.map (·.1)).toArray,dummies:=#[],finger:=t.finger,led:=t.led,moves:=t.movedTo mask,plain:=t.plain },(live.map (·.2)).toArray,Z',?_,⟨?_,?_,?_,fun z hz=>?_,rfl,fun z hz=>?_⟩,?_,rfl,rfl,rfl,hsnd⟩
 ·unfold SetTable.relaid SetTable.laid
  rw [hm,ea,e1]
  rfl
 ·show (live.map (·.1))=_;rw [hZ1]
 ·rw [hZ2];simp
 ·rw [hZ1];exact hfst
 ·have : z.1 ∈ live.map (·.1) := by rw [<- hZ1]; exact Om hz
  obtain ⟨p,hp,q⟩:=Oh.mp this
  rw [<- q];exact ((hlive p.1 p.2).mp hp).1
 ·obtain ⟨p, hp, q⟩ := Mv.mp hz
  rw [OD (hsz p.1 p.2 hp)] at q
  have ez:z=(p.1,es[p.2]'(hsz p.1 p.2 hp)):=(LN q).symm
  obtain ⟨hj,ho⟩:=(hlive p.1 p.2).mp hp
  obtain ⟨j,a1,a2,pre,post,a3,a4⟩:=O.all p.2 (es[p.2]'(hsz p.1 p.2 hp)).1 (by rw [MU,NO,OD (hsz p.1 p.2 hp)];rfl)
  have ejp:j=p.1:=O.inj _ _ _ a2 ho
  refine ⟨pre,post,by rw [ez];rw [ejp] at a3;exact a3,fun k hk=>?_⟩
  obtain ⟨i',hi'⟩:=a4 k hk
  rw [hZ1]
  have hkm:k<=mask:=iN (h:=(es[p.2]'(hsz p.1 p.2 hp)).1) (by rw [a3];simp [hk])
  exact Oh.mpr ⟨(k,i'),(hlive k i').mpr ⟨hkm,hi'⟩,rfl⟩
 ·rw [hZ2, <- hes]
  exact hsnd.filterMap _
def prs:List (List Int):=((List.range 36).filter fun n=>n / 6<n % 6).map fun n=>[((n / 6:Nat):Int),((n % 6:Nat):Int)]
def hsh (ks:List Int):Int:=reduceHash (Builtin.Tuple.tupleHashOf (ks.map hashInt))
theorem HZ {prog:Program}{w:World} (ks:List Int):tupleKeyHash (intKind prog w) ks=hsh ks:=rfl
def FP (mask:Nat):Bool:=prs.all fun ks=>(List.range (mask+1)).all fun j=>(cw mask (hsh ks)).contains j
theorem K6:FP 7=true:=by decide +kernel
theorem Fw:FP 31=true:=by decide +kernel
theorem JX:(prs.map hsh).Nodup:=by decide +kernel
theorem xF:prs.length=15:=by decide +kernel
theorem v7 {mask:Nat} (h:FP mask=true) {ks:List Int} (hk:ks∈prs):∀ j,j<=mask->j∈cw mask (hsh ks):=fun j hj=>by
 have a:=OE.mp h ks hk
 have b:=OE.mp a j (LU.mpr (by omega))
 simpa using b
theorem HY {l:List (List Int)} (h:(l.map hsh).Nodup) {a b:List Int} (ha:a∈l) (hb:b∈l) (e:hsh a=hsh b):a=b:=by
 induction l with
 | nil=>simp at ha
 | cons c l ih=>
  rw [Ny] at h
  obtain ⟨h1,h2⟩:=MJ.mp h
  rcases L4.mp ha with qa | qa <;> rcases L4.mp hb with qb | qb
  ·rw [qa,qb]
  ·exact absurd (by rw [<- qa,e];exact Om qb) h1
  ·exact absurd (by rw [<- qb,<- e];exact Om qa) h1
  ·exact ih h2 qa qb
theorem EG {a b:List Int} (ha:a∈prs) (hb:b∈prs) (e:hsh a=hsh b):a=b:=HY JX ha hb e
theorem xE {a b:Int} (h1:0<=a) (h2:a<b) (h3:b<6):[a,b]∈prs:=by
 have key:∀ x:Nat,x<6->∀ y:Nat,y<6->x<y->[(x:Int),(y:Int)]∈prs:=by decide +kernel
 have:=key a.toNat (by omega) b.toNat (by omega) (by omega)
 rw [OF h1,OF (by omega)] at this
 exact this
end RS
namespace RS
open PySem PyProof.Rows
abbrev KP:=List Int × Addr
structure dz (w:World) (h:Heap) (a:Addr) (qs:List (Int × Value)) (o:Obj) (es:Array (Int × Value)) (ep:Nat) (t:SetTable) (Z:List (Nat × Int × Value)):Prop where
 ho:h.get? a=some o
 ex:o.ExactSet
 hd:o.data=.set es ep t
 tab:qE t es Z
 plain:t.plain=true
 led:t.led=!w.params.followText "set-order"
 big:(t.mask=7/\Z.length<=4)\/(t.mask=31/\Z.length<=18)
 perm:(Z.map (·.2)).Perm qs
def vM (p:KP):Int × Value:=(hsh p.1,Value.ref p.2)
def d2 (w:World) (h:Heap) (a:Addr) (ps:List KP):Prop:=∃ o es ep t Z,dz w h a (ps.map vM) o es ep t Z/\(∀ p∈ps,p.1∈prs)/\(ps.map (·.1)).Nodup
theorem dz.len {w:World}{h:Heap}{a:Addr}{ps:List (Int × Value)}{o es ep t Z} (S:dz w h a ps o es ep t Z):Z.length=ps.length:=by
 have:=S.perm.length_eq
 simpa using this
theorem kc {ps:List KP} (hk:∀ p∈ps,p.1∈prs) (hn:(ps.map (·.1)).Nodup):ps.length<=15:=by
 have:=iJ hn (l2:=prs) (fun x hx=>by obtain ⟨p,hp,e⟩:=Oh.mp hx;rw [<- e];exact hk p hp)
 rw [MY,xF] at this
 exact this
theorem dz.fits {w:World}{h:Heap}{a:Addr}{ps:List (Int × Value)}{o es ep t Z} (S:dz w h a ps o es ep t Z):t.fits es.size=true:=by
 unfold SetTable.fits
 rw [S.tab.fill,S.tab.size.1,S.tab.size.2]
 rcases S.big with ⟨h1,h2⟩ | ⟨h1,h2⟩ <;> simp [h1] <;> omega
theorem dz.cov {w:World}{h:Heap}{a:Addr}{ps:List (Int × Value)}{o es ep t Z} (S:dz w h a ps o es ep t Z) {k:List Int} (hk:k∈prs):∀ j,j<=t.mask->j∈cw t.mask (hsh k):=by
 rcases S.big with ⟨h1,h2⟩ | ⟨h1,h2⟩ <;> rw [h1]
 ·exact v7 K6 hk
 ·exact v7 Fw hk
theorem d2.keeps {w:World}{h h':Heap}{a:Addr}{ps:List KP} (S:d2 w h a ps) (k:∀ o,h.get? a=some o->h'.get? a=some o):d2 w h' a ps:=by
 obtain ⟨o,es,ep,t,Z,S,hk,hn⟩:=S
 exact ⟨o,es,ep,t,Z,⟨k o S.ho,S.ex,S.hd,S.tab,S.plain,S.led,S.big,S.perm⟩,hk,hn⟩
section
variable {prog:Program}{w:World}{A:Around}{E:Value->Shared->Prop}{s:Shared}
abbrev Tk (prog:Program) (w:World) (h:Heap) (k:List Int) (r:Addr):Prop:=IsTupleKey (intKind prog w) h k r
theorem items_int {k:List Int}{vs:List Value} (h:ItemsAre (intKind prog w) k vs):∀ v∈vs,∃ i t,v=.int i t:=by
 induction h with
 | nil=>intro v hv;simp at hv
 | @cons k v' ks vs h1 _ ih=>
  intro v hv
  rcases L4.mp hv with q | q
  ·obtain ⟨t, e⟩ := LH (k := k) (v := v') h1
   exact ⟨k,t,by rw [q,e]⟩
  ·exact ih v q
theorem uF {k:List Int}{r:Addr}{Q:Bool->Shared->Prop} (hk:Tk prog w s.heap k r) (h:Q false s):wpAny (model prog w) A (ofAClassStatement 8 (.ref r)) Q E s:=by
 have hT:=hk.typeIs
 obtain ⟨o,items,n,ho,hc,hd,hi⟩:=hk
 unfold ofAClassStatement
 refine Mh (Nu hT ?_)
 dsimp only
 simp only [NS,Nf]
 refine Mh (Mo ?_)
 simp only [OG,NT,Nd]
 refine Mh (OH ho hd ?_)
 dsimp only
 refine Mh ?_
 show wpAny _ _ (forIn items _ _) _ _ s
 rw [<- Array.forIn_toList]
 refine OI _ (fun rest r s'=>r.1=none/\s'=s/\∀ v∈rest,∃ i t,v=.int i t) _ ?_ ?_ _ _ ⟨rfl,rfl,items_int hi⟩
 ·rintro v rest r s' ⟨hr, rfl, hall⟩
  obtain ⟨i,t,e⟩:=hall v LY
  subst e
  unfold ofAClassStatement
  refine Mh (Mo ?_)
  simp only [NT,Nd]
  exact Mo ⟨rfl,rfl,fun u hu'=>hall u (LZ _ hu')⟩
 ·rintro ⟨r1, r2⟩ s' ⟨hr, rfl, _⟩
  simp only at hr
  subst hr
  exact Mo h
theorem qA {k:List Int}{r:Addr}{Q:Bool->Shared->Prop} (hk:Tk prog w s.heap k r) (h:Q true s):wpAny (model prog w) A (hashByValue 8 (.ref r)) Q E s:=by
 have hT:=hk.typeIs
 obtain ⟨o,items,n,ho,hc,hd,hi⟩:=hk
 unfold hashByValue
 refine Mh (wpAny_specialOf hT F.slot_tuple_hash.lookup ?_)
 dsimp only
 refine Mh (OH ho hd ?_)
 refine Mh ?_
 show wpAny _ _ (forIn items _ _) _ _ s
 rw [<- Array.forIn_toList]
 refine OI _ (fun rest r s'=>r.1=none/\s'=s/\∀ v∈rest,∃ i t,v=.int i t) _ ?_ ?_ _ _ ⟨rfl,rfl,items_int hi⟩
 ·rintro v rest r s' ⟨hr, rfl, hall⟩
  obtain ⟨i,t,e⟩:=hall v LY
  subst e
  unfold hashByValue
  refine Mh (Mo ?_)
  simp only [OG,NT,Nd]
  exact Mo ⟨rfl,rfl,fun u hu'=>hall u (LZ _ hu')⟩
 ·rintro ⟨r1, r2⟩ s' ⟨hr, rfl, _⟩
  simp only at hr
  subst hr
  exact Mo h
theorem BU {k:List Int}{r:Addr}{ys:List Value}{Q:Bool->Shared->Prop} (hk:Tk prog w s.heap k r) (hy:∀ y∈ys,∃ k' r',y=.ref r'/\Tk prog w s.heap k' r') (h:Q false s):wpAny (model prog w) A (searchCouldBeSeen (.ref r) ys) Q E s:=by
 unfold searchCouldBeSeen
 refine Mh ?_
 refine OI _ (fun rest r' s'=>r'.1=none/\s'=s/\∀ y∈rest,∃ k' r',y=.ref r'/\Tk prog w s.heap k' r') _ ?_ ?_ _ _ ⟨rfl,rfl,hy⟩
 ·rintro v rest q s' ⟨hr, rfl, hall⟩
  obtain ⟨k',r',e,hk'⟩:=hall v LY
  subst e
  have hrest:=fun u hu'=>hall u (LZ _ hu')
  dsimp only
  by_cases hv:(r == r' || carriedByValue (Value.ref r) && carriedByValue (Value.ref r'))=true
  ·rw [LL hv]
   exact Mo ⟨rfl,rfl,hrest⟩
  ·rw [LM hv]
   refine Mh (wpAny_eqIsQuiet_tuple hk ?_)
   simp only [OG,NT,Nd]
   refine Mh (wpAny_eqIsQuiet_tuple hk' ?_)
   simp only [OG,NT,Nd]
   refine Mh (uF hk ?_)
   simp only [NT,Nd]
   refine Mh (uF hk' ?_)
   simp only [NT,Nd]
   exact Mo ⟨rfl,rfl,hrest⟩
 ·rintro ⟨r1, r2⟩ s' ⟨hr, rfl, _⟩
  simp only at hr
  subst hr
  exact Mo h
end
end RS
namespace RS
open PySem PyProof.Rows
section
variable {prog:Program}{w:World}{A:Around}{E:Value->Shared->Prop}{s:Shared}
theorem AZ {h:Heap}{a:Addr}{ps:List KP}{o es ep t Z} (S:dz w h a (ps.map vM) o es ep t Z) {z:Nat × Int × Value} (hz:z∈Z):∃ p∈ps,z.2=(hsh p.1,Value.ref p.2):=by
 have:z.2∈Z.map (·.2):=Om hz
 obtain ⟨p,hp,e⟩:=Oh.mp (S.perm.mem_iff.mp this)
 exact ⟨p,hp,e.symm⟩
theorem Io {h:Heap}{a:Addr}{ps:List KP}{o es ep t Z} (S:dz w h a (ps.map vM) o es ep t Z) {p:KP} (hp:p∈ps):∃ z∈Z,z.2=(hsh p.1,Value.ref p.2):=by
 have:vM p∈ps.map vM:=Om hp
 obtain ⟨z,hz,e⟩:=Oh.mp (S.perm.mem_iff.mpr this)
 exact ⟨z,hz,e⟩
theorem yl {a r:Addr}{k:List Int}{ps:List KP}{o es ep t Z}{Q:SetFound->Shared->Prop} (S:dz w s.heap a (ps.map vM) o es ep t Z) (hks:∀ p∈ps,p.1∈prs) (hk:k∈prs) (hr:Tk prog w s.heap k r) (hps:∀ p∈ps,Tk prog w s.heap p.1 p.2) (hu:A.units<cLine)
  (h1:k∈ps.map (·.1)->Q (.there none) s)
  (h2:k ∉ ps.map (·.1)->∀ j pre post,j<=t.mask->j ∉ Z.map (·.1)->cw t.mask (hsh k)=pre++j::post->(∀ x∈pre,x∈Z.map (·.1))->Q (.free j false) s) :
  wpAny (model prog w) A (setSearch a (.ref r) (hsh k) true) Q E s:=by
 have hodd:t.gaveWay=false:=by
  unfold SetTable.gaveWay
  rcases S.big with ⟨q,_⟩ | ⟨q,_⟩ <;> rw [q] <;> decide
 have hz:Z.length<=t.mask:=by rcases S.big with ⟨q,q2⟩ | ⟨q,q2⟩ <;> omega
 unfold setSearch setSearchFrom
 refine Mh (OJ S.ho S.hd S.fits ?_)
 dsimp only
 rw [hodd]
 simp only [NT,Nd]
 generalize hpr:SetTable.probe t _ (hsh k) (Option.getD none (t.probeStart (hsh k)))=pr
 have key:∀ (hA:Nat->Int) pr,(∀ i z,Z[i]?=some z->hA i=z.2.1)->t.probe hA (hsh k) (t.probeStart (hsh k))=pr ->
   (∃ i z nx,Z[i]?=some z/\z.2.1=hsh k/\pr=some (.candidate z.1 i nx)) \/
   ((∀ z∈Z,z.2.1≠hsh k)/\∃ j pre post,pr=some (.empty j none)/\j<=t.mask/\j ∉ Z.map (·.1)/\cw t.mask (hsh k)=pre++j::post/\∀ x∈pre,x∈Z.map (·.1)):=fun hA pr hAe e=>by
  subst e
  exact S.tab.search (S.cov hk) hz hA hAe
 rcases key _ pr (fun i z hi=>by show (Option.map (·.1) es[i]?).getD 0=_;rw [S.tab.hashAt hi];rfl) hpr with ⟨i,z,nx,hi,ez,e⟩ | ⟨hno,j,pre,post,e,hj,hn,e2,hp⟩
 ·subst e
  dsimp only
  have hzm:z∈Z:=MW hi
  obtain ⟨p,hp,ep'⟩:=AZ S hzm
  have ek:p.1=k:=EG (hks p hp) hk (by rw [<- ez,ep'])
  have hin:k∈ps.map (·.1):=by rw [<- ek];exact Om hp
  have rest:wpAny (model prog w) A (do
    let some (_,y):=es[i]? | unsupported "internal:set-entry"
    let equal <- holding [y] (eqBool y (.ref r))
    let (es',_,t') <- setState a
    if true && equal then return SetFound.there none
    let some same:=t'.sameMemory t.moves t.mask | unsupported "set.changed-during-lookup:is-the-new-block-at-the-old-address"
    let still <- match (if same then t'.slot z.1 else .empty) with
     | .live i'=>match es'[i']? with
      | some (_,y')=>do pure (if <- isSame y' y then some i' else none)
      | none=>pure none
     | _=>pure none
    match still with
    | none=>rule "set.search.anew";setSearchFrom a (.ref r) (hsh k) true 99999 none
    | some i'=>if equal then return .there (some i') else setSearchFrom a (.ref r) (hsh k) true 99999 (some nx)) Q E s:=by
   rw [S.tab.hashAt hi,ep']
   dsimp only
   refine Mh (Mi (wpAny_eqBool_tuple hu (hps p hp) hr ?_))
   refine Mh (OJ S.ho S.hd S.fits ?_)
   dsimp only
   rw [ek,NQ rfl]
   simp only [OK,Nf]
   exact Mo (h1 hin)
  by_cases hl:(!t.led)=true
  ·rw [LL hl]
   refine Mh (BU hr (fun y hy=>?_) ?_)
   ·obtain ⟨e', he', q⟩ := Oh.mp hy
    have he2:e'∈es.toList:=by
     have:=Array.mem_filter.mp (OL.mp he')
     exact OL.mpr this.1
    rw [S.tab.ents] at he2
    obtain ⟨z',hz',q2⟩:=Oh.mp he2
    obtain ⟨p',hp',q3⟩:=AZ S hz'
    exact ⟨p'.1,p'.2,by rw [<- q,<- q2,q3],hps p' hp'⟩
   ·simp only [NT, Nd]
    exact rest
  ·rw [LM hl]
   exact rest
 ·subst e
  dsimp only
  refine Mo (h2 (fun hin=>?_) j pre post hj hn e2 hp)
  obtain ⟨p,hpm,ek⟩:=Oh.mp hin
  obtain ⟨z,hzm,ez⟩:=Io S hpm
  exact hno z hzm (by rw [ez,<- ek])
end
end RS
namespace RS
open PySem PyProof.Rows
def lu (ps:List KP) (k:List Int) (r:Addr):List KP:=if k∈ps.map (·.1) then ps else ps++[(k,r)]
section
variable {prog:Program}{w:World}{A:Around}{E:Value->Shared->Prop}{s:Shared}
theorem FZ {a r:Addr}{k:List Int}{ps:List KP}{Q:Bool->Shared->Prop} (S:d2 w s.heap a ps) (hk:k∈prs) (hr:Tk prog w s.heap k r) (hps:∀ p∈ps,Tk prog w s.heap p.1 p.2) (hu:A.units<cLine)
  (h:∀ b h',Heap.SameBut a s.heap h'->d2 w h' a (lu ps k r)->Q b { s with heap:=h' }):wpAny (model prog w) A (setAddHashed a (.ref r) (hsh k)) Q E s:=by
 obtain ⟨o,es,ep,t,Z,S,hk0,hn0⟩:=S
 unfold setAddHashed setAddHashedIn
 refine Mi (Mh (OJ S.ho S.hd S.fits ?_))
 dsimp only
 have hsc:byScan (Value.ref r) es=false:=rfl
 rw [hsc]
 simp only [NT,Nd]
 refine Mh (yl S hk0 hk hr hps hu (fun hin=>?_) fun hin j pre post hj hn e hp=>?_)
 ·dsimp only
  refine Mo ?_
  have q:=h false s.heap (Heap.SameBut.refl a s.heap) (by unfold lu;rw [LL hin];exact ⟨o,es,ep,t,Z,S,hk0,hn0⟩)
  cases s;exact q
 ·dsimp only
  refine Mh (OJ S.ho S.hd S.fits ?_)
  dsimp only
  obtain ⟨Z',T',hperm,et⟩:=S.tab.put (x:=Value.ref r) hj hn e hp
  have e2:(t.put j).2=SetTable.below t.place j:=rfl
  have hpl:(t.put j).1.plain=true:=by rw [et];exact S.plain
  have hled:(t.put j).1.led=t.led:=by rw [et]
  have hmask:(t.put j).1.mask=t.mask:=by rw [et]
  have hperm':(Z'.map (·.2)).Perm ((ps++[(k,r)]).map vM):=by
   have q1:=hperm.map (·.2)
   refine q1.trans ?_
   rw [Ny,Oq]
   refine List.Perm.trans (List.Perm.cons _ S.perm) ?_
   exact (List.perm_append_singleton _ _).symm
  have hkeys:∀ p∈ps++[(k,r)],p.1∈prs:=fun p hp'=>by
   rcases L6.mp hp' with q | q
   ·exact hk0 p q
   ·rw [N6] at q;rw [q];exact hk
  have hnd:((ps++[(k,r)]).map (·.1)).Nodup:=by
   rw [Oq]
   refine OM.mpr ⟨hn0,by simp,fun x hx y hy=>?_⟩
   simp at hy
   rw [hy];rintro rfl;exact hin hx
  have hlen15:=kc hkeys hnd
  have hZ':Z'.length=ps.length+1:=by rw [hperm.length_eq,NU,S.len,MY]
  have hesz:(SetTable.insertAt es (t.put j).2 (hsh k,Value.ref r)).size=Z'.length:=T'.size.2
  have hadd:lu ps k r=ps++[(k,r)]:=by unfold lu;rw [LM hin]
  rw [hadd] at h
  rw [MX,NN] at hlen15
  generalize ht1:(t.put j).1=t1 at *
  generalize hes1:SetTable.insertAt es (t.put j).2 (hsh k,Value.ref r)=es1 at *
  have hline:es1.size<=sizeLine:=by rw [hesz,hZ'];exact LV hlen15 (by decide)
  rw [hpl]
  simp only [Nf]
  refine Mh (qA hr ?_)
  simp only [Nf]
  refine Mh (ON S.ho S.hd ?_ hline)
  have hg:(s.heap.update a (Obj.putSet es1 t1)).get? a=some { o with data:=.set es1 (ep+1) t1 }:=by
   have:=NB (Obj.putSet es1 t1) S.ho (by rw [OO es1 t1 S.hd];rfl)
   rw [OO es1 t1 S.hd] at this;exact this
  have hsb1:=OP s.heap a (Obj.putSet es1 t1)
  have hfill:t1.fill=ps.length+1:=by rw [T'.fill,hZ']
  by_cases hfull:t1.tooFull=true
  ·simp only [hfull, OQ, OK, Nf]
   have hm7:t.mask=7/\ps.length=4:=by
    unfold SetTable.tooFull at hfull
    rw [hfill,hmask] at hfull
    have hf:(ps.length+1) * 5 ≥ t.mask * 3:=by simpa using hfull
    have hl:=S.len
    rw [MY] at hl
    rcases S.big with ⟨q,q2⟩ | ⟨q,q2⟩
    ·rw [q] at hf;exact ⟨q,by omega⟩
    ·rw [q] at hf;omega
   have hes0:es.size=4:=by rw [S.tab.size.2,S.len,MY,hm7.2]
   have hsz1:es1.size=5:=by rw [hesz,hZ',hm7.2]
   have hgr:SetTable.grown (es.size+1)=20:=by rw [hes0];rfl
   rw [hgr]
   unfold setRelay
   have hfits1:t1.fits es1.size=true:=by
    unfold SetTable.fits
    rw [T'.fill,T'.size.1,hesz,hmask,hm7.1,hZ',hm7.2];rfl
   refine Mh (Mh (OJ hg rfl hfits1 ?_))
   dsimp only
   rw [LM (by decide)]
   obtain ⟨t2,order,Z2,er,T2,hp2,hm2,hl2,hpl2,_⟩:=pL (t:=t1) (es:=es1) (wanted:=20) (mask:=31) (by rfl) (by rw [hsz1];decide) (fun e' he'=>by
    rw [T'.ents] at he'
    obtain ⟨p,hp',q⟩:=Oh.mp (hperm'.mem_iff.mp he')
    rw [<- q]
    exact v7 Fw (hkeys p hp'))
   rw [er]
   have hZ2:Z2.length=5:=by
    have:=hp2.length_eq
    simp at this
    omega
   have hes2:(order.filterMap (es1[·]?)).size=5:=by rw [T2.size.2,hZ2]
   have hne:((order.filterMap (es1[·]?)).size != es1.size)=false:=by rw [hes2,hsz1];rfl
   refine Mh ?_
   show wpAny _ A (if ((order.filterMap (es1[·]?)).size != es1.size)=true then _ else _) _ _ _
   rw [hne]
   simp only [NT,Nd]
   refine Mo ?_
   refine ON hg rfl ?_ (by rw [hes2];decide)
   have hg2:((s.heap.update a (Obj.putSet es1 t1)).update a (Obj.putSet (order.filterMap (es1[·]?)) t2)).get? a=some { o with data:=.set (order.filterMap (es1[·]?)) (ep+1+1) t2 }:=by
    have:=NB (Obj.putSet (order.filterMap (es1[·]?)) t2) hg (by rw [OO _ t2 rfl];rfl)
    rw [OO _ t2 rfl] at this;exact this
   refine Mo ?_
   refine h true _ (hsb1.trans (OP _ a _)) ⟨_,_,_,t2,Z2,⟨hg2,S.ex,rfl,T2,by rw [hpl2];exact hpl,by rw [hl2,hled];exact S.led,.inr ⟨hm2,by omega⟩,?_⟩,hkeys,hnd⟩
   refine hp2.trans ?_
   rw [T'.ents];exact hperm'
  ·have hf : t1.tooFull = false := by simpa using hfull
   simp only [hf,OR,NT,Nd]
   refine Mo ?_
   refine h true _ hsb1 ⟨_,_,_,t1,Z',⟨hg,S.ex,rfl,T',hpl,by rw [hled];exact S.led,?_,hperm'⟩,hkeys,hnd⟩
   unfold SetTable.tooFull at hf
   rw [hfill,hmask] at hf
   have hf':¬ ((ps.length+1) * 5 ≥ t.mask * 3):=by simpa using hf
   rw [hmask,hZ']
   rcases S.big with ⟨q,q2⟩ | ⟨q,q2⟩
   ·rw [q] at hf' ⊢;exact .inl ⟨rfl,by omega⟩
   ·rw [q] at hf' ⊢;exact .inr ⟨rfl,by omega⟩
end
def eK (qs:List KP):List KP:=qs.foldl (fun ps p=>lu ps p.1 p.2) []
theorem vy (qs:List KP) (p:KP):eK (qs++[p])=lu (eK qs) p.1 p.2:=by unfold eK;rw [OS];rfl
theorem Cs {ps:List KP}{k:List Int}{r:Addr}{p:KP} (h:p∈lu ps k r):p∈ps\/p=(k,r):=by
 unfold lu at h
 split at h
 ·exact .inl h
 ·rcases L6.mp h with q | q
  ·exact .inl q
  ·exact .inr (N6.mp q)
theorem nE:∀ {qs ps:List KP}{p:KP},p∈qs.foldl (fun ps p=>lu ps p.1 p.2) ps->p∈ps\/p∈qs
 | [],_,_,h=>.inl h
 | q::qs,ps,p,h=>by
  rw [NL] at h
  rcases nE h with z | z
  ·rcases Cs z with z | z
   ·exact .inl z
   ·exact .inr (by rw [z];exact LY)
  ·exact .inr (LZ _ z)
theorem k6 {qs:List KP}{p:KP} (h:p∈eK qs):p∈qs:=(nE h).elim (fun z=>by simp at z) id
theorem xa {ps:List KP}{k:List Int}{r:Addr} (h:(ps.map (·.1)).Nodup):((lu ps k r).map (·.1)).Nodup:=by
 unfold lu
 split
 ·exact h
 ·rename_i hn
  rw [Oq]
  refine OM.mpr ⟨h,by simp,fun x hx y hy=>?_⟩
  simp at hy
  rw [hy];rintro rfl;exact hn hx
theorem kF:∀ {qs ps:List KP},(ps.map (·.1)).Nodup->((qs.foldl (fun ps p=>lu ps p.1 p.2) ps).map (·.1)).Nodup
 | [],_,h=>h
 | q::qs,ps,h=>by rw [NL];exact kF (xa h)
theorem tE {qs:List KP}:((eK qs).map (·.1)).Nodup:=kF (ps:=[]) Oz
def lD (w:World):Bool:=!w.params.followText "set-order"
theorem ny {w:World}{h:Heap}{a:Addr} (e:h.get? a=some { cls:=.type "set",dict:=none,data:=.set #[] 0 (.fresh 0 0 (lD w)) }):d2 w h a []:=
 ⟨_,_,_,_,[],⟨e,⟨rfl,rfl,rfl⟩,rfl,⟨rfl,rfl,List.Pairwise.nil,fun z hz=>by simp at hz,rfl,fun z hz=>by simp at hz⟩,rfl,rfl,.inl ⟨rfl,by decide⟩,List.Perm.nil⟩,fun p hp=>by simp at hp,Oz⟩
section
variable {prog:Program}{w:World}{A:Around}{R:Result->Shared->Prop}{I:Addr}{fp wr:List Addr}{G:Array GenState->Array GenState->Prop}{P:Nat->Value->Prop}{St:Nat->Shared->Prop}
structure z6 (prog:Program) (w:World) (u:Nat) (S:Addr) (vs:List Value) (J:Nat->Heap->Prop):Prop where
 keep:∀ i h h',(∀ b o,b<=S->h.get? b=some o->h'.get? b=some o)->J i h->J i h'
 add:∀ (A:Around) (i:Nat) (v:Value) (s:Shared) (E:Value->Shared->Prop) (Q:Bool->Shared->Prop),A.units<=u->vs[i]?=some v->J i s.heap ->
  (∀ b h' tk,s.toks<=tk->Heap.SameBut S s.heap h'->J (i+1) h'->Q b { s with heap:=h',toks:=tk })->wpAny (model prog w) A (setAdd S v) Q E s
theorem uL {u:Nat}{vs:List Value}{J:Nat->Heap->Prop} (W:WalksS prog w A.in1 I fp wr G vs.length P St) (S:Addr) (hSf:S ∉ fp) (hwr:∀ b∈wr,S<b) (hP:∀ (i:Nat) v,P i v->vs[i]?=some v) (hJ:z6 prog w u S vs J) (hu:A.units+1<=u) :
  ∀ (k i:Nat) (s:Shared),vs.length - i=k->i<=vs.length->St i s->J i s.heap ->
   (∀ s',Moved (S::wr) G s s'->J vs.length s'.heap->R (.ok (.ret .none)) s') ->
   codeAny (model prog w) A (.builtin "set.update.loop" ⟨[.ref S,.ref I],[]⟩) R s:=by
 have hSw:S ∉ wr:=fun h=>hSf (W.sub _ h)
 have hsub:∀ b∈wr,b∈S::wr:=fun b hb=>LZ _ hb
 have hle:∀ b,b<=S->b ∉ wr:=fun b hb z=>LQ _ (LP (hwr b z) hb)
 intro k
 induction k with
 | zero=>
  intro i s ek hi hst hS hR
  have hin:i=vs.length:=by omega
  subst hin
  refine OT F.entry_set_update_loop ?_
  rw [OU OV _]
  show wpAny _ A.in1 (pyNext (.ref I) >>= _) _ _ s
  refine Mh (W.done s _ _ hst fun s' hm=>?_)
  show wpAny _ A.in1 (ret Value.none) _ _ s'
  exact Mo (hR s' (hm.mono hsub) (hJ.keep _ _ _ (fun b o hb e=>hm.heap b o (hle b hb) e) hS))
 | succ k ih=>
  intro i s ek hi hst hS hR
  have hlt:i<vs.length:=by omega
  refine OT F.entry_set_update_loop ?_
  rw [OU OV _]
  show wpAny _ A.in1 (pyNext (.ref I) >>= _) _ _ s
  refine Mh (W.item i s _ _ hlt hst fun v s' hPv hst' hm=>?_)
  have hv:=hP i v hPv
  have hS':=hJ.keep i _ s'.heap (fun b o hb e=>hm.heap b o (hle b hb) e) hS
  show wpAny _ A.in1 (holding [v] (setAdd S v) >>= _) _ _ s'
  refine Mh (Mi ?_)
  refine hJ.add A.in1 i v s' _ _ (by show A.units+1<=u;exact hu) hv hS' fun b h' tk ht hsb hS2=>?_
  have hkeep:∀ b o,b≠S->s'.heap.get? b=some o->h'.get? b=some o:=fun b o hb e=>(hsb.2 b hb).trans e
  refine Mo ⟨OW OV _,ih (i+1) _ (by omega) hlt (W.frame _ s' _ _ hst' ht fun b hb o e=>hkeep b o (fun z=>hSf (by rw [<- z];exact hb)) e) hS2 fun s'' hm'' hS''=>?_⟩
  refine hR s'' (Moved.trans W.gtrans ((hm.mono hsub).then_heap ht fun b o hb e=>?_) hm'') hS''
  exact hkeep b o (fun z=>hb (by rw [z];exact LY)) e
end
section
variable {prog:Program}{w:World}{A:Around}{E:Value->Shared->Prop}{s:Shared}
theorem lZ (a:Value) {Q1:Value->Shared->Prop}
  (h:Q1 (.ref s.heap.objs.size) { s with heap:=s.heap.push { cls:=.type "set",dict:=none,data:=.set #[] 0 (.fresh 0 0 (lD w)) } }) :
  codeAny (model prog w) A (.call (.builtin "set.__new__") ⟨[.type "set",a],[]⟩) (wants Q1 E) s:=by
 refine N1 ?_
 show wpAny _ A.in1 (do checkBuiltinCall "set.__new__" ⟨[.type "set",a],[]⟩;again (.builtin "set.__new__" ⟨[.type "set",a],[]⟩)) _ _ s
 refine Mh (N4 (F.newCall_set_1 a) (Mo ⟨OW F.plain_set_new _,OT F.entry_set_new ?_⟩))
 rw [OU F.plain_set_new _]
 unfold Builtin.«set.__new__» Builtin.Frozenset.newClass
 have hsub:=sub_set_self
 obtain ⟨hp,g,d,tk,os⟩:=s
 dsimp only
 wp_walk
 refine N2 (Mo ?_)
 dsimp only
 simp only [newObj]
 refine Mh (wpAny_alloc (Mo ?_))
 exact Mo h
namespace F
theorem sub_list_set:isSubtype (.type "list") (.type "set")=pure false:=by rw [OX];kernel_rfl
theorem sub_list_frozenset:isSubtype (.type "list") (.type "frozenset")=pure false:=by rw [OX];kernel_rfl
end F
theorem lT {l:Addr}{items:Array Value}{J:Nat->Heap->Prop}{Q:Value->Shared->Prop}
  (hh:A.handled=none) (hl:s.heap.IsList l items) (hJ:z6 prog w (A.units+20) s.heap.objs.size items.toList J)
  (h0:∀ h',(∀ b o,s.heap.get? b=some o->h'.get? b=some o)->h'.get? s.heap.objs.size=some { cls:=.type "set",dict:=none,data:=.set #[] 0 (.fresh 0 0 (lD w)) }->J 0 h')
  (h:∀ (h':Heap) (tk:Nat),J items.size h'->(∀ b o,b<s.heap.objs.size->s.heap.get? b=some o->h'.get? b=some o)->Q (.ref s.heap.objs.size) { s with heap:=h',toks:=tk }) :
  wpAny (model prog w) A (call (.type "set") [.ref l]) Q E s:=by
 obtain ⟨c,tl,hmro⟩:=OY.mro
 have hmade:=OY.made
 have hsub:=OY.sub
 refine MD (N1 ?_)
 show wpAny _ _ (callAny (.type "set") _) _ _ _
 refine Mo ⟨OZ _ (by decide +kernel),OT PySem.F.entry_type_call ?_⟩
 rw [Around.under_plain (weight_type_call_type "set" [.ref l] []) rfl]
 have h1:=OY.notType
 have h2:=OY.canCreate
 have hct:=PySem.F.typeCall_set_1 (.ref l)
 repeat (any_goals (first | assumption | wp_step))
 refine MF (lZ (.ref l) (E:=E) (Q1:=fun obj s1=>obj=.ref s.heap.objs.size/\s1={ s with heap:=s.heap.push { cls:=.type "set",dict:=none,data:=.set #[] 0 (.fresh 0 0 (lD w)) } }) ⟨rfl,rfl⟩) fun r s1 hr=>?_
 cases r with
 | error e=>exact hr
 | ok fl=>
  cases fl with
  | ret obj=>
   obtain ⟨rfl,rfl⟩:=hr
   generalize hled:lD w=led
   have hS:(s.heap.push { cls:=.type "set",dict:=none,data:=.set #[] 0 (.fresh 0 0 led) }).get? s.heap.objs.size=some { cls:=.type "set",dict:=none,data:=.set #[] 0 (.fresh 0 0 led) }:=Ms _ rfl
   have hTy:Shared.TypeIs { s with heap:=s.heap.push { cls:=.type "set",dict:=none,data:=.set #[] 0 (.fresh 0 0 led) } } (.ref s.heap.objs.size) "set" := ⟨_,hS,rfl⟩
   have hli:=OY.init.lookup
   have hbi:=OY.init.bind (.ref s.heap.objs.size)
   repeat (any_goals (first | assumption | wp_step))
   refine MF (O0 (R:=wants (fun r s2=>r=.none/\∃ h' tk,s2={ s with heap:=h',toks:=tk }/\J items.size h' /\
     (∀ b o,b<s.heap.objs.size->s.heap.get? b=some o->h'.get? b=some o)) E) OY.init.plain PySem.F.entry_set_init (check_set_init_1 hTy ?_)) fun r2 s2 hr2=>?_
   ·obtain ⟨ol, hol, hcl, nl, hdl⟩ := hl
    obtain ⟨ocls,odict,odata,oslots⟩:=ol
    simp only at hcl hdl
    subst hcl;subst hdl
    have hol':(s.heap.push { cls:=.type "set",dict:=none,data:=.set #[] 0 (.fresh 0 0 led) }).get? l=some { cls:=.type "list",dict:=odict,data:=.seq items nl,slots:=oslots }:=Mr _ hol
    have hsls:=F.sub_list_set
    have hslf:=F.sub_list_frozenset
    have hne:(Value.type "list" == Value.type "dict")=false:=by decide
    have hl1:(s.heap.push { cls:=.type "set",dict:=none,data:=.set #[] 0 (.fresh 0 0 led) }).IsList l items:=⟨_,hol',rfl,nl,rfl⟩
    unfold Builtin.«set.__init__» noKeywords Builtin.Frozenset.updateFrom
    generalize hPI:pyIter=PI
    wp_walk
    subst hPI
    refine O1 hl1 ?_
    refine Mh (O2 ?_)
    have hlS:l<s.heap.objs.size:=LO hol
    have hh3:A.in1.in1.in1.handled=none:=by simp [hh]
    have hneI:l≠(s.heap.push { cls:=.type "set",dict:=none,data:=.set #[] 0 (.fresh 0 0 led) }).objs.size:=by
     rw [NX];exact LR (NW hlS)
    have hSf:s.heap.objs.size ∉ [(s.heap.push { cls:=.type "set",dict:=none,data:=.set #[] 0 (.fresh 0 0 led) }).objs.size,l]:=by
     rw [NX];simp only [L4,N6,O3,O4,not_or]
     exact ⟨LR (NV _),Mn hlS⟩
    have W:=(O5 (prog:=prog) (w:=w) hh3 (s.heap.push { cls:=.type "set",dict:=none,data:=.set #[] 0 (.fresh 0 0 led) }).objs.size l hneI items).toS
    rw [show items.size=items.toList.length by rw [Me]] at W
    refine uL W s.heap.objs.size hSf (fun b hb=>?_) (fun i v hv=>by rw [NO];exact hv) hJ (by simp only [Around.in1];omega) (items.toList.length - 0) 0 _ (by omega) (N5 _)
     ⟨⟨_,Ms _ rfl,rfl,rfl⟩,?hL⟩ ?hS0 ?hR
    case hL=>
     obtain ⟨o,ho,rest⟩:=hl1
     exact ⟨o,Mr _ ho,rest⟩
    case hS0=>
     refine h0 _ (fun b o e=>Mr _ (Mr _ e)) ?_
     rw [hled]
     exact Mr _ hS
    case hR=>
     intro s' hm hS'
     obtain ⟨h',g',d',tk',os'⟩:=s'
     have eg:g'=s.gens:=hm.gens
     have ed:d'=s.drawn:=hm.drawn
     have eo:os'=s.os:=hm.os
     subst eg;subst ed;subst eo
     show wpAny _ _ _ _ _ _
     refine Mo ?_
     show wpAny _ _ (ret Value.none) _ _ _
     refine Mo ⟨rfl,h',tk',rfl,by rw [Me] at hS';exact hS',fun b o hb e=>?_⟩
     have hb1:b≠s.heap.objs.size:=LR hb
     have hb2:b≠(s.heap.push { cls:=.type "set",dict:=none,data:=.set #[] 0 (.fresh 0 0 led) }).objs.size:=by
      rw [NX];exact LR (NW hb)
     exact hm.heap b o (by simp only [L4,N6,O3,O4,not_or];exact ⟨hb1,hb2⟩) (Mr _ (Mr _ e))
    ·rw [NX] at hb
     rw [N6.mp hb]
     exact NV _
   ·cases r2 with
    | error e=>exact hr2
    | ok fl2=>
     cases fl2 with
     | ret r=>
      obtain ⟨rfl,h',tk,rfl,hS',hk'⟩:=hr2
      repeat (any_goals (first | assumption | wp_step))
      exact h _ _ hS' hk'
     | _=>exact hr2.elim
  | _=>exact hr.elim
namespace F
theorem sub_tuple_set:isSubtype (.type "tuple") (.type "set")=pure false:=by rw [OX];kernel_rfl
theorem sub_tuple_frozenset:isSubtype (.type "tuple") (.type "frozenset")=pure false:=by rw [OX];kernel_rfl
end F
theorem kC {l:Addr}{items:Array Value}{J:Nat->Heap->Prop}{Q:Value->Shared->Prop}
  (hh:A.handled=none) (hl:s.heap.IsTuple l items) (hJ:z6 prog w (A.units+20) s.heap.objs.size items.toList J)
  (h0:∀ h',(∀ b o,s.heap.get? b=some o->h'.get? b=some o)->h'.get? s.heap.objs.size=some { cls:=.type "set",dict:=none,data:=.set #[] 0 (.fresh 0 0 (lD w)) }->J 0 h')
  (h:∀ (h':Heap) (tk:Nat),J items.size h'->(∀ b o,b<s.heap.objs.size->s.heap.get? b=some o->h'.get? b=some o)->Q (.ref s.heap.objs.size) { s with heap:=h',toks:=tk }) :
  wpAny (model prog w) A (call (.type "set") [.ref l]) Q E s:=by
 obtain ⟨c,tl,hmro⟩:=OY.mro
 have hmade:=OY.made
 have hsub:=OY.sub
 refine MD (N1 ?_)
 show wpAny _ _ (callAny (.type "set") _) _ _ _
 refine Mo ⟨OZ _ (by decide +kernel),OT PySem.F.entry_type_call ?_⟩
 rw [Around.under_plain (weight_type_call_type "set" [.ref l] []) rfl]
 have h1:=OY.notType
 have h2:=OY.canCreate
 have hct:=PySem.F.typeCall_set_1 (.ref l)
 repeat (any_goals (first | assumption | wp_step))
 refine MF (lZ (.ref l) (E:=E) (Q1:=fun obj s1=>obj=.ref s.heap.objs.size/\s1={ s with heap:=s.heap.push { cls:=.type "set",dict:=none,data:=.set #[] 0 (.fresh 0 0 (lD w)) } }) ⟨rfl,rfl⟩) fun r s1 hr=>?_
 cases r with
 | error e=>exact hr
 | ok fl=>
  cases fl with
  | ret obj=>
   obtain ⟨rfl,rfl⟩:=hr
   generalize hled:lD w=led
   have hS:(s.heap.push { cls:=.type "set",dict:=none,data:=.set #[] 0 (.fresh 0 0 led) }).get? s.heap.objs.size=some { cls:=.type "set",dict:=none,data:=.set #[] 0 (.fresh 0 0 led) }:=Ms _ rfl
   have hTy:Shared.TypeIs { s with heap:=s.heap.push { cls:=.type "set",dict:=none,data:=.set #[] 0 (.fresh 0 0 led) } } (.ref s.heap.objs.size) "set" := ⟨_,hS,rfl⟩
   have hli:=OY.init.lookup
   have hbi:=OY.init.bind (.ref s.heap.objs.size)
   repeat (any_goals (first | assumption | wp_step))
   refine MF (O0 (R:=wants (fun r s2=>r=.none/\∃ h' tk,s2={ s with heap:=h',toks:=tk }/\J items.size h' /\
     (∀ b o,b<s.heap.objs.size->s.heap.get? b=some o->h'.get? b=some o)) E) OY.init.plain PySem.F.entry_set_init (check_set_init_1 hTy ?_)) fun r2 s2 hr2=>?_
   ·obtain ⟨ol, hol, hcl, nl, hdl⟩ := hl
    obtain ⟨ocls,odict,odata,oslots⟩:=ol
    simp only at hcl hdl
    subst hcl;subst hdl
    have hol':(s.heap.push { cls:=.type "set",dict:=none,data:=.set #[] 0 (.fresh 0 0 led) }).get? l=some { cls:=.type "tuple",dict:=odict,data:=.seq items nl,slots:=oslots }:=Mr _ hol
    have hsls:=F.sub_tuple_set
    have hslf:=F.sub_tuple_frozenset
    have hne:(Value.type "tuple" == Value.type "dict")=false:=by decide
    have hl1:(s.heap.push { cls:=.type "set",dict:=none,data:=.set #[] 0 (.fresh 0 0 led) }).IsTuple l items:=⟨_,hol',rfl,nl,rfl⟩
    unfold Builtin.«set.__init__» noKeywords Builtin.Frozenset.updateFrom
    generalize hPI:pyIter=PI
    wp_walk
    subst hPI
    refine O6 hl1 ?_
    refine Mh (O2 ?_)
    have hlS:l<s.heap.objs.size:=LO hol
    have hh3:A.in1.in1.in1.handled=none:=by simp [hh]
    have hneI:l≠(s.heap.push { cls:=.type "set",dict:=none,data:=.set #[] 0 (.fresh 0 0 led) }).objs.size:=by
     rw [NX];exact LR (NW hlS)
    have hSf:s.heap.objs.size ∉ [(s.heap.push { cls:=.type "set",dict:=none,data:=.set #[] 0 (.fresh 0 0 led) }).objs.size,l]:=by
     rw [NX];simp only [L4,N6,O3,O4,not_or]
     exact ⟨LR (NV _),Mn hlS⟩
    have W:=(Walks.tuple (prog:=prog) (w:=w) hh3 (s.heap.push { cls:=.type "set",dict:=none,data:=.set #[] 0 (.fresh 0 0 led) }).objs.size l hneI items).toS
    rw [show items.size=items.toList.length by rw [Me]] at W
    refine uL W s.heap.objs.size hSf (fun b hb=>?_) (fun i v hv=>by rw [NO];exact hv) hJ (by simp only [Around.in1];omega) (items.toList.length - 0) 0 _ (by omega) (N5 _)
     ⟨⟨_,Ms _ rfl,rfl,rfl⟩,?hL⟩ ?hS0 ?hR
    case hL=>
     obtain ⟨o,ho,rest⟩:=hl1
     exact ⟨o,Mr _ ho,rest⟩
    case hS0=>
     refine h0 _ (fun b o e=>Mr _ (Mr _ e)) ?_
     rw [hled]
     exact Mr _ hS
    case hR=>
     intro s' hm hS'
     obtain ⟨h',g',d',tk',os'⟩:=s'
     have eg:g'=s.gens:=hm.gens
     have ed:d'=s.drawn:=hm.drawn
     have eo:os'=s.os:=hm.os
     subst eg;subst ed;subst eo
     show wpAny _ _ _ _ _ _
     refine Mo ?_
     show wpAny _ _ (ret Value.none) _ _ _
     refine Mo ⟨rfl,h',tk',rfl,by rw [Me] at hS';exact hS',fun b o hb e=>?_⟩
     have hb1:b≠s.heap.objs.size:=LR hb
     have hb2:b≠(s.heap.push { cls:=.type "set",dict:=none,data:=.set #[] 0 (.fresh 0 0 led) }).objs.size:=by
      rw [NX];exact LR (NW hb)
     exact hm.heap b o (by simp only [L4,N6,O3,O4,not_or];exact ⟨hb1,hb2⟩) (Mr _ (Mr _ e))
    ·rw [NX] at hb
     rw [N6.mp hb]
     exact NV _
   ·cases r2 with
    | error e=>exact hr2
    | ok fl2=>
     cases fl2 with
     | ret r=>
      obtain ⟨rfl,h',tk,rfl,hS',hk'⟩:=hr2
      repeat (any_goals (first | assumption | wp_step))
      exact h _ _ hS' hk'
     | _=>exact hr2.elim
  | _=>exact hr.elim
theorem pT {qs:List KP}{S:Addr}{u:Nat} (hk:∀ p∈qs,p.1∈prs) (hS:∀ p∈qs,p.2<S) (hu:u<cLine):z6 prog w u S (qs.map fun p=>Value.ref p.2) (fun i h=>d2 w h S (eK (qs.take i))/\∀ p∈qs,Tk prog w h p.1 p.2):=by
 have keepT:∀ {h1 h2:Heap}{q:KP},q∈qs->(∀ b o,b<S->h1.get? b=some o->h2.get? b=some o)->Tk prog w h1 q.1 q.2->Tk prog w h2 q.1 q.2:=fun {h1 h2 q} hq kk t=>by
  obtain ⟨o,items,n,ho,r⟩:=t
  exact ⟨o,items,n,kk _ o (hS q hq) ho,r⟩
 refine ⟨fun i h h' hk' ⟨j1,j2⟩=>⟨j1.keeps fun o e=>hk' S o (Mt _) e,fun p hp=>keepT hp (fun b o hb e=>hk' b o (LW hb) e) (j2 p hp)⟩,fun A i v s E Q hA hv ⟨j1,j2⟩ hQ=>?_⟩
 rw [MU] at hv
 cases e:qs[i]? with
 | none=>rw [e] at hv;cases hv
 | some p=>
  rw [e] at hv
  cases hv
  have hpm:p∈qs:=MW e
  unfold setAdd
  refine Mi ?_
  refine Mh (wpAny_pyHash_tuple (by omega) (j2 p hpm) ?_)
  rw [HZ]
  refine FZ (s:={ s with toks:=s.toks+(p.1.length+1) }) j1 (hk p hpm) (j2 p hpm) (fun q hq=>j2 q (Ox (k6 hq))) (by omega) fun b h' hsb hS2=>?_
  have etk:qs.take (i+1)=qs.take i++[p]:=by rw [O7,e];rfl
  refine hQ b h' _ (Nat.le_add_right _ _) hsb ⟨by rw [etk,vy];exact hS2,fun q hq=>keepT hq (fun b o hb e=>(hsb.2 b (LR hb)).trans e) (j2 q hq)⟩
theorem AL {qs:List KP} (hT:∀ p∈qs,Tk prog w s.heap p.1 p.2):∀ p∈qs,p.2<s.heap.objs.size:=fun p hp=>by
 obtain ⟨o,_,_,ho,_⟩:=hT p hp
 exact LO ho
theorem vc {l:Addr}{items:Array Value}{qs:List KP}{Q:Value->Shared->Prop}
  (hh:A.handled=none) (hl:s.heap.IsList l items) (hi:items.toList=qs.map fun p=>Value.ref p.2) (hk:∀ p∈qs,p.1∈prs) (hT:∀ p∈qs,Tk prog w s.heap p.1 p.2) (hu:A.units+20<cLine)
  (h:∀ (h':Heap) (tk:Nat),d2 w h' s.heap.objs.size (eK qs)->(∀ b o,b<s.heap.objs.size->s.heap.get? b=some o->h'.get? b=some o)->Q (.ref s.heap.objs.size) { s with heap:=h',toks:=tk }) :
  wpAny (model prog w) A (call (.type "set") [.ref l]) Q E s:=by
 have hlen:items.size=qs.length:=by rw [<- Me,hi,MY]
 refine lT hh hl (hi ▸ pT hk (AL hT) hu) (fun h' k e=>⟨ny e,fun p hp=>?_⟩) fun h' tk ⟨j1,_⟩=>h h' tk ?_
 ·obtain ⟨o, its, n, ho, rest⟩ := hT p hp
  exact ⟨o,its,n,k _ _ ho,rest⟩
 ·rw [hlen, O8] at j1
  exact j1
theorem sQ {l:Addr}{items:Array Value}{qs:List KP}{Q:Value->Shared->Prop}
  (hh:A.handled=none) (hl:s.heap.IsTuple l items) (hi:items.toList=qs.map fun p=>Value.ref p.2) (hk:∀ p∈qs,p.1∈prs) (hT:∀ p∈qs,Tk prog w s.heap p.1 p.2) (hu:A.units+20<cLine)
  (h:∀ (h':Heap) (tk:Nat),d2 w h' s.heap.objs.size (eK qs)->(∀ b o,b<s.heap.objs.size->s.heap.get? b=some o->h'.get? b=some o)->Q (.ref s.heap.objs.size) { s with heap:=h',toks:=tk }) :
  wpAny (model prog w) A (call (.type "set") [.ref l]) Q E s:=by
 have hlen:items.size=qs.length:=by rw [<- Me,hi,MY]
 refine kC hh hl (hi ▸ pT hk (AL hT) hu) (fun h' k e=>⟨ny e,fun p hp=>?_⟩) fun h' tk ⟨j1,_⟩=>h h' tk ?_
 ·obtain ⟨o, its, n, ho, rest⟩ := hT p hp
  exact ⟨o,its,n,k _ _ ho,rest⟩
 ·rw [hlen, O8] at j1
  exact j1
end
end RS
namespace RS
open PySem PySem.W PyProof.Rows
structure d4 (n:Nat) (p:Array Nat):Prop where
 size:p.size=n
 perm:p.toList.Perm (List.range n)
def at' (key:Nat->Int) (p:Array Nat) (k:Nat):Int:=key (p.getD k 0)
def CB (key:Nat->Int) (p:Array Nat) (m:Nat):Prop:=∀ i j,i<j->j<m->at' key p i<at' key p j
def CU (key:Nat->Int) (p:Array Nat) (m:Nat):Prop:=∀ i j,i<j->j<m->at' key p j<at' key p i
section
variable {n:Nat}{key:Nat->Int}{cmp:Nat->Nat->(Bool->Shared->Prop)->Shared->Prop}{s:Shared}{p:Array Nat}
theorem d4.lt (g:d4 n p) {k:Nat} (hk:k<n):p.getD k 0<n:=by
 have hs:k<p.size:=by rw [g.size];exact hk
 have:p[k]∈p.toList:=by rw [OL];exact Array.getElem_mem hs
 have:=g.perm.mem_iff.mp this
 rw [LU] at this
 simpa [Array.getD,hs] using this
theorem d4.inj (g:d4 n p) {k k':Nat} (hk:k<n) (hk':k'<n) (e:p.getD k 0=p.getD k' 0):k=k':=by
 have hs:k<p.toList.length:=by rw [Me,g.size];exact hk
 have hs':k'<p.toList.length:=by rw [Me,g.size];exact hk'
 have nd:p.toList.Nodup:=g.perm.nodup_iff.mpr Oj
 refine (L9 (h₀:=hs) (h₁:=hs') nd).mp ?_
 have h1:k<p.size:=by rw [g.size];exact hk
 have h2:k'<p.size:=by rw [g.size];exact hk'
 simpa [Array.getD,h1,h2] using e
variable (hkey:∀ i j,i<n->j<n->key i=key j->i=j) (hc:∀ i j,i<n->j<n->∀ C:Bool->Shared->Prop,C (decide (key i<key j)) s->cmp i j C s)
include hkey in
theorem As (g:d4 n p) {k k':Nat} (hk:k<n) (hk':k'<n) (h:k≠k'):at' key p k≠at' key p k':=fun e=>h (g.inj hk hk' (hkey _ _ (g.lt hk) (g.lt hk') e))
include hkey hc
theorem v9 (g:d4 n p):∀ (f m:Nat) (Q:Nat->Shared->Prop),1<=m->m+f<=n->CB key p m->(∀ m',m<=m'->m'<=m+f->CB key p m'->(m'=m+f\/at' key p m'<at' key p (m' - 1))->Q m' s)->(kas_asc p f m).kasWp cmp Q s
 | 0,m,Q,h1,h2,ha,hQ=>hQ m (Mt _) (Mt _) ha (.inl rfl)
 | f+1,m,Q,h1,h2,ha,hQ=>by
  show cmp (p.getD m 0) (p.getD (m - 1) 0) _ s
  refine hc _ _ (g.lt (by omega)) (g.lt (by omega)) _ ?_
  by_cases hlt:key (p.getD m 0)<key (p.getD (m - 1) 0)
  ·rw [NQ hlt]; (show (if true = true then _ else _ : KasT _).kasWp cmp _ s); rw [LL rfl]
   exact hQ m (Mt _) (by omega) ha (.inr hlt)
  ·rw [LI hlt]; (show (if false = true then _ else _ : KasT _).kasWp cmp _ s); rw [LM Mm]
   have hne:=As hkey g (k:=m) (k':=m - 1) (by omega) (by omega) (by omega)
   have hgt:at' key p (m - 1)<at' key p m:=by unfold at' at *;omega
   refine v9 g f (m+1) Q (by omega) (by omega) (fun i j hij hj=>?_) (fun m' a b c d=>hQ m' (by omega) (by omega) c (d.elim (fun e=>.inl (by omega)) .inr))
   by_cases ej:j=m
   ·subst ej
    by_cases ei:i=j - 1
    ·rw [ei];exact hgt
    ·have:=ha i (j - 1) (by omega) (by omega);omega
   ·exact ha i j hij (by omega)
theorem xV (g:d4 n p):∀ (f m:Nat) (Q:Array Nat × Nat × Nat->Shared->Prop),1<=m->m+f<=n->CU key p m->(∀ m',m<=m'->m'<=m+f->CU key p m'->Q (p,m',0) s)->(kas_desc f p m 0).kasWp cmp Q s
 | 0,m,Q,h1,h2,ha,hQ=>hQ m (Mt _) (Mt _) ha
 | f+1,m,Q,h1,h2,ha,hQ=>by
  show cmp (p.getD m 0) (p.getD (m - 1) 0) _ s
  refine hc _ _ (g.lt (by omega)) (g.lt (by omega)) _ ?_
  by_cases hlt:key (p.getD m 0)<key (p.getD (m - 1) 0)
  ·rw [NQ hlt]; (show (if true = true then _ else _ : KasT _).kasWp cmp _ s); rw [LL rfl, LM (by omega)]
   refine xV g f (m+1) Q (by omega) (by omega) (fun i j hij hj=>?_) (fun m' a b c=>hQ m' (by omega) (by omega) c)
   by_cases ej:j=m
   ·subst ej
    by_cases ei:i=j - 1
    ·rw [ei];exact hlt
    ·have := ha i (j - 1) (by omega) (by omega)
     have:at' key p j<at' key p (j - 1):=hlt
     omega
   ·exact ha i j hij (by omega)
  ·rw [LI hlt]; (show (if false = true then _ else _ : KasT _).kasWp cmp _ s); rw [LM Mm]
   show cmp (p.getD (m - 1) 0) (p.getD m 0) _ s
   refine hc _ _ (g.lt (by omega)) (g.lt (by omega)) _ ?_
   have hne:=As hkey g (k:=m) (k':=m - 1) (by omega) (by omega) (by omega)
   have hgt:key (p.getD (m - 1) 0)<key (p.getD m 0):=by unfold at' at hne;omega
   rw [NQ hgt];(show (if true=true then _ else _:KasT _).kasWp cmp _ s);rw [LL rfl]
   exact hQ m (Mt _) (by omega) ha
omit hkey hc in
theorem oX {p p':Array Nat}{k k':Nat} (h:p[k]?=p'[k']?):at' key p k=at' key p' k':=by
 unfold at'
 rw [Ou,Ou,h]
omit hkey hc in
theorem rq {p':Array Nat} (g:d4 n p) (h:p'.Perm p) (hs:p'.size=p.size):d4 n p':=⟨hs.trans g.size,(Array.perm_iff_toList_perm.mp h).trans g.perm⟩
omit hkey hc in
theorem DF (g:d4 n p) {m:Nat} (hm:m<=n) (hd:CU key p m):d4 n (kas_rev p 0 m)/\CB key (kas_rev p 0 m) m:=by
 have hs:m<=p.size:=by rw [g.size];exact hm
 refine ⟨rq g (mirror_perm _ _ _ _) (mirror_size _ _ _ _),fun i j hij hj=>?_⟩
 have ei:at' key (kas_rev p 0 m) i=at' key p (0+m - 1 - i):=oX (by unfold kas_rev;rw [getElem?_mirror_all hs,LL ⟨N5 _,by omega⟩])
 have ej:at' key (kas_rev p 0 m) j=at' key p (0+m - 1 - j):=oX (by unfold kas_rev;rw [getElem?_mirror_all hs,LL ⟨N5 _,by omega⟩])
 rw [ei,ej]
 exact hd _ _ (by omega) (by omega)
theorem A9 (g:d4 n p) {m:Nat} (h1:1<=m) (hm:m<=n) (hd:CU key p m) (Q:Nat × Array Nat->Shared->Prop) (hQ:∀ m' p',d4 n p'->1<=m'->m'<=n->CB key p' m'->Q (m',p') s):(kas_tail3 m n p).kasWp cmp Q s:=by
 obtain ⟨g',ha⟩:=DF (key:=key) g hm hd
 unfold kas_tail3
 rw [O9]
 exact v9 hkey hc g' (n - m) m _ h1 (by omega) ha fun m' a b c d=>hQ m' _ g' (by omega) (by omega) c
theorem Cm (g:d4 n p) (h2:2<=n) (Q:Nat × Array Nat->Shared->Prop) (hQ:∀ m' p',d4 n p'->1<=m'->m'<=n->CB key p' m'->Q (m',p') s):(kas_count n p).kasWp cmp Q s:=by
 unfold kas_count
 rw [O9]
 refine v9 hkey hc g (n - 1) 1 _ (Mt _) (by omega) (fun i j hij hj=>by omega) fun m a b c d=>?_
 by_cases e:m=n
 ·rw [LL (by simpa using e)]
  exact hQ m p g a (by omega) c
 ·rw [LM (by simpa using e)]
  by_cases h1:m > 1
  ·rw [LL h1]
   show cmp (p.getD 0 0) (p.getD (m - 1) 0) _ s
   refine hc _ _ (g.lt (by omega)) (g.lt (by omega)) _ ?_
   have:at' key p 0<at' key p (m - 1):=c 0 (m - 1) (by omega) (by omega)
   rw [NQ (show key (p.getD 0 0)<key (p.getD (m - 1) 0) from this)];(show (if true=true then _ else _:KasT _).kasWp cmp _ s);rw [LL rfl]
   exact hQ m p g a (by omega) c
  ·rw [LM h1]
   have em:m=1:=by omega
   subst em
   unfold kas_descPart
   rw [O9]
   have hlt:at' key p 1<at' key p 0:=d.elim (fun e'=>by omega) id
   refine xV hkey hc g (n - (1+1)) (1+1) _ (by omega) (by omega) (fun i j hij hj=>?_) fun m' a' b' c'=>?_
   ·have ei : i = 0 := by omega
    have ej:j=1:=by omega
    rw [ei,ej];exact hlt
   ·show (if (0 : Nat) > 0 then _ else _ : KasT (Nat × Array Nat)).kasWp cmp Q s
    rw [LM (by omega)]
    exact A9 hkey hc g (by omega) (by omega) c' Q hQ
theorem pf (g:d4 n p) {k:Nat} (hk:k<n) (ha:CB key p k):∀ (f l r:Nat) (Q:Nat->Shared->Prop),l<=r->r<=k->r - l<=f->(∀ i,i<l->at' key p i<at' key p k)->(∀ i,r<=i->i<k->at' key p k<at' key p i) ->
  (∀ l',l'<=k->(∀ i,i<l'->at' key p i<at' key p k)->(∀ i,l'<=i->i<k->at' key p k<at' key p i)->Q l' s)->(kas_place p k f l r).kasWp cmp Q s
 | 0,l,r,Q,h1,h2,h3,ha1,hb1,hQ=>by
  have e:l=r:=by omega
  subst e
  exact hQ l h2 ha1 hb1
 | f+1,l,r,Q,h1,h2,h3,ha1,hb1,hQ=>by
  unfold kas_place
  by_cases e:l ≥ r
  ·rw [LL e]
   have e':l=r:=by omega
   subst e'
   exact hQ l h2 ha1 hb1
  ·rw [LM e]
   show cmp (p.getD k 0) (p.getD ((l+r) / 2) 0) _ s
   refine hc _ _ (g.lt hk) (g.lt (by omega)) _ ?_
   by_cases hlt:key (p.getD k 0)<key (p.getD ((l+r) / 2) 0)
   ·rw [NQ hlt]; (show (if true = true then _ else _ : KasT _).kasWp cmp _ s); rw [LL rfl]
    refine pf g hk ha f l ((l+r) / 2) Q (by omega) (by omega) (by omega) ha1 (fun i hi hik=>?_) hQ
    by_cases ei:i=(l+r) / 2
    ·rw [ei];exact hlt
    ·have := ha ((l + r) / 2) i (by omega) hik
     have:at' key p k<at' key p ((l+r) / 2):=hlt
     omega
   ·rw [LI hlt]; (show (if false = true then _ else _ : KasT _).kasWp cmp _ s); rw [LM Mm]
    have hne:=As hkey g (k:=k) (k':=(l+r) / 2) hk (by omega) (by omega)
    have hgt:at' key p ((l+r) / 2)<at' key p k:=by unfold at' at *;omega
    refine pf g hk ha f ((l+r) / 2+1) r Q (by omega) h2 (by omega) (fun i hi=>?_) hb1 hQ
    by_cases ei:i=(l+r) / 2
    ·rw [ei];exact hgt
    ·have := ha i ((l + r) / 2) (by omega) (by omega)
     omega
theorem A2:∀ (f:Nat) (p:Array Nat) (k:Nat) (Q:Array Nat->Shared->Prop),d4 n p->k+f=n->CB key p k->(∀ p',d4 n p'->CB key p' n->Q p' s)->(kas_bin f p k).kasWp cmp Q s
 | 0,p,k,Q,g,hk,ha,hQ=>by
  have e:k=n:=by omega
  rw [e] at ha
  exact hQ p g ha
 | f+1,p,k,Q,g,hk,ha,hQ=>by
  unfold kas_bin
  rw [O9]
  refine pf hkey hc g (by omega) ha k 0 k _ (N5 _) (Mt _) (by omega) (fun i hi=>by omega) (fun i h1 h2=>by omega) fun l hl ha1 hb1=>?_
  have hs:k<p.size:=by rw [g.size];omega
  refine A2 f _ (k+1) Q (rq g (bubble_perm _ _ _) (bubble_size _ _ _)) (by omega) (fun i j hij hj=>?_) hQ
  have hb:∀ x,at' key (bubble p k (k - l)) x=if x=l then at' key p k else if l<x/\x<=k then at' key p (x - 1) else at' key p x:=fun x=>by
   have e:=getElem?_bubble hs (k - l) (by omega) x
   have el:k - (k - l)=l:=by omega
   rw [el] at e
   by_cases e1:x=l
   ·rw [LL e1] at e ⊢;exact oX e
   ·rw [LM e1] at e ⊢
    by_cases e2:l<x/\x<=k
    ·rw [LL e2] at e ⊢;exact oX e
    ·rw [LM e2] at e ⊢;exact oX e
  rw [hb i,hb j]
  by_cases i1:i=l
  ·rw [LL i1, LM (by omega), LL ⟨by omega, by omega⟩]
   exact hb1 (j - 1) (by omega) (by omega)
  ·rw [LM i1]
   by_cases i2:l<i/\i<=k
   ·rw [LL i2, LM (by omega), LL ⟨by omega, by omega⟩]
    exact ha (i - 1) (j - 1) (by omega) (by omega)
   ·rw [LM i2]
    have hi:i<l:=by omega
    by_cases j1:j=l
    ·rw [LL j1];exact ha1 i hi
    ·rw [LM j1]
     by_cases j2:l<j/\j<=k
     ·rw [LL j2]
      by_cases ej:i=j - 1
      ·omega
      ·exact ha i (j - 1) (by omega) (by omega)
     ·rw [LM j2];exact ha i j hij (by omega)
theorem Do (h2:2<=n) (Q:Array Nat->Shared->Prop) (hQ:∀ p',d4 n p'->CB key p' n->Q p' s):(kas_sort n).kasWp cmp Q s:=by
 unfold kas_sort
 rw [O9]
 have g0:d4 n (List.toArray (List.range n)):=⟨by simp,by simp⟩
 refine Cm hkey hc g0 h2 _ fun m p' g h1 hm ha=>?_
 show (if m<n then _ else _:KasT (Array Nat)).kasWp cmp Q s
 by_cases e:m<n
 ·rw [LL e]
  have em:max m 1=m:=by omega
  rw [em]
  exact A2 hkey hc (n - m) p' m Q g (by omega) ha hQ
 ·rw [LM e]
  have em:m=n:=by omega
  rw [em] at ha
  exact hQ p' g ha
end
def ni (k:List Int):Int:=k.getD 0 0 * 6+k.getD 1 0
theorem gW {k:List Int} (h:k∈prs):∃ a b:Int,k=[a,b]/\0<=a/\a<b/\b<6:=by
 have key:∀ k∈prs,0<=k.getD 0 0/\k.getD 0 0<k.getD 1 0/\k.getD 1 0<6/\k=[k.getD 0 0,k.getD 1 0]:=by decide +kernel
 obtain ⟨h1,h2,h3,h4⟩:=key k h
 exact ⟨_,_,h4,h1,h2,h3⟩
theorem ER {k k':List Int} (h:k∈prs) (h':k'∈prs) (e:ni k=ni k'):k=k':=by
 obtain ⟨a,b,rfl,h1,h2,h3⟩:=gW h
 obtain ⟨c,d,rfl,h4,h5,h6⟩:=gW h'
 have e':a * 6+b=c * 6+d:=e
 have:a=c:=by omega
 have:b=d:=by omega
 subst_vars;rfl
section
variable {prog:Program}{w:World}{A:Around}{E:Value->Shared->Prop}{s:Shared}
theorem vO {h:Heap}{a b:Int}{r:Addr} (t:Tk prog w h [a,b] r):∃ o n t1 t2,h.get? r=some o/\o.cls=.type "tuple" /\ o.data=.seq #[.int a t1,.int b t2] n:=by
 obtain ⟨o,items,n,ho,hc,hd,hi⟩:=t
 cases hi':items.toList with
 | nil=>rw [hi'] at hi;cases hi
 | cons v1 r1=>
  rw [hi'] at hi
  cases hi with
  | cons h1 t1=>
   cases t1 with
   | cons h2 t2=>
    cases t2
    obtain ⟨x1,e1⟩:=LH (k:=a) h1
    obtain ⟨x2,e2⟩:=LH (k:=b) h2
    have e:items=#[.int a x1,.int b x2]:=by
     apply Array.toList_inj.mp;rw [hi',e1,e2]
    exact ⟨o,n,x1,x2,ho,hc,by rw [hd,e]⟩
theorem D1 {x y:Addr}{k k':List Int}{Q:Bool->Shared->Prop} (hx:Tk prog w s.heap k x) (hy:Tk prog w s.heap k' y) (hk:k∈prs) (hk':k'∈prs) (h:Q (decide (ni k<ni k')) s) :
  wpAny (model prog w) A (keyLt' (tuples' true) (.ref x) (.ref y)) Q E s:=by
 obtain ⟨a,b,rfl,h1,h2,h3⟩:=gW hk
 obtain ⟨c,d,rfl,h4,h5,h6⟩:=gW hk'
 obtain ⟨o,n,t1,t2,ho,_,hd⟩:=vO hx
 obtain ⟨o',n',t1',t2',ho',_,hd'⟩:=vO hy
 have h':Q (decide (a * 6+b<c * 6+d)) s:=h
 refine kat_lt ho hd ho' hd' ?_
 show KatLex prog w A true (decide (2<2)) Q [(.int a t1,.int c t1'),(.int b t2,.int d t2')] 0 s
 refine kat_cons (LK ?_)
 by_cases e1:a=c
 ·rw [show (a == c) = true by simpa using e1]
  refine kat_yes (kat_cons (LK ?_))
  by_cases e2:b=d
  ·rw [show (b == d) = true by simpa using e2]
   refine kat_yes (kat_nil ?_)
   have:decide (a * 6+b<c * 6+d)=decide (2<2):=by rw [Pb];omega
   rw [<- this];exact h'
  ·rw [show (b == d) = false by simpa using e2]
   refine kat_no ?_
   show wpAny _ A (oneLt' false _ _) Q _ s
   refine kat_one _ _ (lt_int ?_)
   have:decide (a * 6+b<c * 6+d)=decide (b<d):=by rw [Pb];omega
   show Q _ s
   rw [<- this];exact h'
 ·rw [show (a == c) = false by simpa using e1]
  refine kat_no ?_
  show wpAny _ A (keyLt' oneType' _ _) Q _ s
  refine kat_lt_int ?_
  have:decide (a * 6+b<c * 6+d)=decide (a<c):=by rw [Pb];omega
  rw [<- this];exact h'
end
def g7 (ps:List KP):Prop:=ps.Pairwise fun p q=>ni p.1<ni q.1
def aV (ps:List KP):List Value:=ps.map fun p=>Value.ref p.2
section
variable {prog:Program}{w:World}{A:Around}{E:Value->Shared->Prop}{s:Shared}
theorem xo {h:Heap}:∀ {ps:List KP},(∀ p∈ps,p.1∈prs)->(∀ p∈ps,Tk prog w h p.1 p.2)->∃ fs,KatTups h (aV ps) fs/\fs.length=ps.length/\∀ v∈fs,∃ i t,v=Value.int i t
 | [],_,_=>⟨[],KatTups.nil,rfl,fun v hv=>by simp at hv⟩
 | p::ps,hk,ht=>by
  obtain ⟨fs,h1,h2,h3⟩:=xo (ps:=ps) (fun q hq=>hk q (LZ _ hq)) (fun q hq=>ht q (LZ _ hq))
  obtain ⟨a,b,e,_⟩:=gW (hk p LY)
  have t:=ht p LY
  rw [e] at t
  obtain ⟨o,n,t1,t2,ho,hc,hd⟩:=vO t
  refine ⟨.int a t1::fs,KatTups.cons ho hc hd rfl h1,by rw [NU,NU,h2],fun v hv=>?_⟩
  rcases L4.mp hv with q | q
  ·exact ⟨a,t1,q⟩
  ·exact h3 v q
theorem G6 {ps:List KP} (hk:∀ p∈ps,p.1∈prs) (hn:(ps.map (·.1)).Nodup) {p:Array Nat} (g:d4 ps.length p) (ha:CB (fun i=>ni (ps.getD i ([],0)).1) p ps.length) :
  ∃ out:List KP,(p.toList.map fun i=>(aV ps).getD i Value.none)=aV out/\out.Perm ps/\g7 out:=by
 refine ⟨p.toList.map fun i=>ps.getD i ([],0),?_,?_,?_⟩
 ·unfold aV
  rw [N8]
  refine N9 fun i hi=>?_
  have hi':i<ps.length:=LU.mp (g.perm.mem_iff.mp hi)
  simp [Pc,hi']
 ·refine (g.perm.map _).trans ?_
  have:(List.range ps.length).map (fun i=>ps.getD i ([],0))=ps:=by
   apply Pd
   intro i
   rw [MU]
   by_cases hi:i<ps.length
   ·rw [Pe hi];simp [hi]
   ·rw [Pf (by simpa using hi),Pf (by omega)];rfl
  rw [this]
 ·unfold g7
  rw [Pg]
  refine Oe.mpr fun i j hi hj hij=>?_
  have hi':i<p.size:=by simpa using hi
  have hj':j<p.size:=by simpa using hj
  have:=ha i j hij (by rw [<- g.size];exact hj')
  unfold at' at this
  simpa [Array.getD,hi',hj'] using this
theorem wm {a:Addr}{ps:List KP}{n:Nat}{P:PySem.Fin->Shared->Prop} (ho:s.heap.get? a=some (seqObj "list" (aV ps).toArray n)) (hk:∀ p∈ps,p.1∈prs) (hn:(ps.map (·.1)).Nodup) (hT:∀ p∈ps,Tk prog w s.heap p.1 p.2)
  (h:∀ out:List KP,out.Perm ps->g7 out->P (.done (.ret .none)) { s with heap:=sortedHeap s.heap a (aV ps) (aV out).toArray }) :
  wpAny (model prog w) A (Builtin.«list.sort» ⟨[.ref a],[]⟩) P E s:=by
 have hlen:=kc hk hn
 have hvl:(aV ps).length=ps.length:=by unfold aV;rw [MY]
 rw [list_sort_plain]
 have hal:a<s.heap.objs.size:=LO ho
 refine Mh (listItems_at ho rfl ?_)
 refine Mh (Ph ho rfl ?_ (by rw [Mz,hvl];exact LV hlen (by decide)) (N5 _))
 obtain ⟨e1,ho1⟩:∃ e1,(s.heap.update a (Obj.mapSeq fun _=>#[])).get? a=some (seqObj "list" #[] e1):=⟨_,Pi ho (fun _=>#[])⟩
 refine Mh (seqEpoch_at ho1 rfl ?_)
 refine Mh (wpAny_newTuple ?_)
 refine Mh (Pj ?_)
 refine Mi ?_
 have ho6:(((s.heap.update a (Obj.mapSeq fun _=>#[])).push (seqObj "tuple" (aV ps).toArray 0)).push (seqObj "list" #[] 0)).get? a=some (seqObj "list" #[] e1):=by
  rw [Heap.get?_push_ne _ _ _ (by rw [Pk,Pl];exact LR (NW hal)),Heap.get?_push_ne _ _ _ (by rw [Pl];exact LR hal)]
  exact ho1
 show wpAny (model prog w) A _ P E { s with heap:=((s.heap.update a (Obj.mapSeq fun _=>#[])).push (seqObj "tuple" (aV ps).toArray 0)).push (seqObj "list" #[] 0) }
 dsimp only
 have hna:∀ p∈ps,p.2≠a:=fun p hp e=>by
  obtain ⟨o,items,m,ho',hc',_⟩:=hT p hp
  rw [e,ho] at ho'
  have:=LN ho'
  subst this
  exact absurd (show Value.type "list" = Value.type "tuple" from hc') (by decide)
 generalize hS:({ s with heap:=((s.heap.update a (Obj.mapSeq fun _=>#[])).push (seqObj "tuple" (aV ps).toArray 0)).push (seqObj "list" #[] 0) }:Shared)=s1
 have eh1:s1.heap=((s.heap.update a (Obj.mapSeq fun _=>#[])).push (seqObj "tuple" (aV ps).toArray 0)).push (seqObj "list" #[] 0):=by rw [<- hS]
 have hT1:∀ p∈ps,Tk prog w s1.heap p.1 p.2:=fun p hp=>by
  obtain ⟨o,items,m,ho',rest⟩:=hT p hp
  refine ⟨o,items,m,?_,rest⟩
  rw [eh1]
  refine Mr _ (Mr _ ?_)
  rw [Pm _ _ _ _ (hna p hp)]
  exact ho'
 rw [<- eh1] at ho6
 have hfin:∀ out:List KP,out.Perm ps->g7 out->P (.done (.ret .none)) { s1 with heap:=s1.heap.update a (Obj.mapSeq fun _=>(aV out).toArray) }:=fun out h1 h2=>by
  have q:=h out h1 h2
  rw [<- hS]
  exact q
 have hszv:(aV ps).toArray.size=ps.length:=by rw [Mz,hvl]
 by_cases h2:(aV ps).toArray.size<2
 ·rw [LL h2, LL h2]
  refine Mh (Mo ?_)
  rw [StateT.run_pure]
  refine Mh (Mo ?_)
  dsimp only
  refine Mh (seqEpoch_at ho6 rfl ?_)
  have eo:(arrOf (SortSt.mk' general' ((aV ps).toArray.zip (aV ps).toArray) #[] 7 none)).map (·.2)=(aV ps).toArray:=by
   show (((aV ps).toArray.zip (aV ps).toArray)).map (·.2)=_
   apply Array.toList_inj.mp
   rw [Array.toList_map,Array.toList_zip]
   exact List.map_snd_zip (Mt _)
  rw [eo]
  refine Mh (Ph ho6 rfl ?_ (N5 _) (by show (aV ps).toArray.size<=_;rw [hszv];exact LV hlen (by decide)))
  simp only [Po,NT,Nd]
  refine Mo (hfin ps (List.Perm.refl _) ?_)
  rw [hszv] at h2
  match ps,h2 with
  | [],_=>exact List.Pairwise.nil
  | [_],_=>exact List.pairwise_singleton _ _
  | _::_::_,h=>rw [NU,NU] at h;omega
 ·rw [LM h2, LM h2]
  rw [hszv] at h2
  obtain ⟨fs,k1,k2,k3⟩:=xo hk hT1
  refine Mh (kat_kind (T:=Value.type "int") k1 (by omega) (fun v hv=>?_) (by rfl) ?_)
  ·obtain ⟨i, t, e⟩ := k3 v hv
   rw [e];exact .now
  ·have et : (Value.type "int" != Value.type "tuple") = true := by decide
   rw [et]
   refine Mh (Mc (kat_run (ks:=aV ps) (vs:=aV ps) (Q:=fun st' s'=>s'=s1/\failedOf st'=none/\∃ out:List KP,out.Perm ps/\g7 out/\(arrOf st').map (·.2)=(aV out).toArray)
    (G:=fun p s'=>s'=s1/\∃ out:List KP,(p.toList.map fun i=>(aV ps).getD i Value.none)=aV out/\out.Perm ps/\g7 out) rfl (by rw [hvl];omega) (by rw [hvl];omega) ?_ ?_) ?_ fun _ _ e=>e)
   ·rintro p st' s' hp har hf ⟨e, out, o1, o2, o3⟩
    exact ⟨e,hf,out,o2,o3,by rw [kat_snds rfl har,o1]⟩
   ·rw [hvl]
    refine Do (key:=fun i=>ni (ps.getD i ([],0)).1) (fun i j hi hj e=>?_) (fun i j hi hj C hC=>?_) (by omega) _ (fun p g ha=>⟨rfl,G6 hk hn g ha⟩)
    ·have hi' : ps.getD i ([], 0) = ps[i] := by simp [Pc, hi]
     have hj':ps.getD j ([],0)=ps[j]:=by simp [Pc,hj]
     simp only [hi',hj'] at e
     have e2:=ER (hk _ (Pp hi)) (hk _ (Pp hj)) e
     have hil:i<(ps.map (·.1)).length:=by rw [MY];exact hi
     have hjl:j<(ps.map (·.1)).length:=by rw [MY];exact hj
     exact (L9 (h₀:=hil) (h₁:=hjl) hn).mp (by simpa using e2)
    ·unfold kas_ask
     have gi:(aV ps).getD i Value.none=.ref ps[i].2:=by unfold aV;simp [Pc,hi]
     have gj:(aV ps).getD j Value.none=.ref ps[j].2:=by unfold aV;simp [Pc,hj]
     have hi':ps.getD i ([],0)=ps[i]:=by simp [Pc,hi]
     have hj':ps.getD j ([],0)=ps[j]:=by simp [Pc,hj]
     rw [gi,gj]
     simp only [hi',hj'] at hC
     exact D1 (hT1 _ (Pp hi)) (hT1 _ (Pp hj)) (hk _ (Pp hi)) (hk _ (Pp hj)) hC
   ·rintro ⟨⟨⟩, st'⟩ s' ⟨rfl, hf, out, o1, o2, o3⟩
    dsimp only
    refine Mh (seqEpoch_at ho6 rfl ?_)
    rw [o3]
    refine Mh (Ph ho6 rfl ?_ (N5 _) (by show (aV out).toArray.size<=_;rw [Mz];unfold aV;rw [MY,o1.length_eq];exact LV hlen (by decide)))
    rw [hf]
    simp only [Po,NT,Nd]
    exact Mo (hfin out o1 o2)
end
end RS
namespace RS
open PySem PySem.W PyProof.Rows
namespace Fx
theorem slot_setiter_next:Slot "set_iterator" "__next__" "set_iterator.__next__" :=
 .of (owner:="set_iterator") (n:="__next__") (by rw [typeLookup_type,builtinLookup_eq_fast];kernel_rfl) (by decide +kernel) (by decide +kernel) (by decide +kernel)
  (by first | exact .inl (by decide +kernel) | exact .inr (by decide +kernel)) (by rw [OX];kernel_rfl)
theorem entry_setiter_next:entryFor table "set_iterator.__next__" = some Builtin.«set_iterator.__next__»:=entryFor_of_fast (by kernel_rfl)
theorem args_setiter_next (a:Value):argsOk "set_iterator.__next__" ⟨[a],[]⟩:=by unfold argsOk;kernel_rfl
theorem entry_set_iter:entryFor table "set.__iter__" = some Builtin.«frozenset.__iter__»:=
 entryFor_alias (id':="frozenset.__iter__") (by kernel_rfl) rfl (by decide +kernel) (by kernel_rfl)
end Fx
def df (h:Heap) (I S:Addr) (i n ep slot:Nat):Prop:=h.get? I=some { cls:=.type "set_iterator",dict:=none,data:=.fields #[.int (slot:Int) 0,.int (i:Int) 0,.ref S,.int (n:Int) 0,.int (ep:Int) 0],slots:=#[] }
def dk (w:World) (S:Addr) (ep:Nat) (es:Array (Int × Value)):List (Int × Value):=if w.params.followText "set-order" then (pickOrder (w.params.setOrder S ep) es).toList else es.toList
def cV (w:World) (Z:List (Nat × Int × Value)) (i:Nat):Nat:=if w.params.followText "set-order" then 0 else if i=0 then 0 else (Z.getD (i - 1) (0,0,.none)).1+1
theorem qW {α:Type} (next:Nat->Nat):∀ (fuel k:Nat) (left:List α) (out:Array α),left.length=fuel->(pickOrder.go next fuel k left out).toList.Perm (out.toList++left)
 | 0,k,left,out,h=>by
  have:left=[]:=List.length_eq_zero_iff.mp h
  subst this
  show out.toList.Perm (out.toList++[])
  rw [MC]
 | fuel+1,k,left,out,h=>by
  have hlt:next k % left.length<left.length:=Nat.mod_lt _ (by omega)
  show (match left[next k % left.length]? with | some x=>_ | none=>_:Array α).toList.Perm _
  rw [Pq hlt]
  show (pickOrder.go next fuel (k+1) (left.eraseIdx (next k % left.length)) (out.push left[next k % left.length])).toList.Perm _
  refine (qW next fuel (k+1) _ _ (by rw [List.length_eraseIdx_of_lt hlt];omega)).trans ?_
  rw [Array.toList_push,NK]
  refine List.Perm.append_left _ ?_
  rw [List.singleton_append,List.eraseIdx_eq_take_drop_succ]
  have q:(left.take (next k % left.length)++left[next k % left.length]::left.drop (next k % left.length+1))=left:=by
   rw [List.getElem_cons_drop];exact On _ _
  have q2:=(List.perm_middle (a:=left[next k % left.length]) (l₁:=left.take (next k % left.length)) (l₂:=left.drop (next k % left.length+1))).symm
  rw [q] at q2
  exact q2
theorem jM {w:World}{S:Addr}{ep:Nat}{es:Array (Int × Value)}:(dk w S ep es).Perm es.toList:=by
 unfold dk
 split
 ·have := qW (w.params.setOrder S ep) es.size 0 es.toList #[] (by simp)
  simpa [pickOrder] using this
 ·exact List.Perm.refl _
theorem Cq {t:SetTable}{es:Array (Int × Value)}{Z:List (Nat × Int × Value)} (T:qE t es Z) {w:World} (hb:w.params.followText "set-order" = false) {i:Nat} (hi:i<=Z.length):SetTable.below t.place (cV w Z i)=i:=by
 have r:CA t.place.toList:=by rw [T.place];exact T.ris
 obtain ⟨b1,b2,b3⟩:=kZ r (cV w Z i)
 have hsz:=T.size.1
 have gz:∀ k,k<Z.length->t.place.getD k (cV w Z i)=(Z.getD k (0,0,.none)).1:=fun k hk=>by
  have e:t.place[k]?=some (Z[k]).1:=by rw [<- NO,T.place,MU,Pq hk];rfl
  rw [Ou,e,Pc,Pq hk];rfl
 have hris:∀ a b,a<b->b<Z.length->(Z.getD a (0,0,.none)).1<(Z.getD b (0,0,.none)).1:=fun a b hab hbz=>by
  rw [<- gz a (by omega),<- gz b hbz]
  exact sv r _ a b hab (by omega)
 have hs:cV w Z i=if i=0 then 0 else (Z.getD (i - 1) (0,0,.none)).1+1:=by
  unfold cV;rw [hb,LM Mm]
 by_cases h0:i=0
 ·rw [LL h0] at hs
  rw [hs] at b2 ⊢
  by_cases hz:SetTable.below t.place 0=0
  ·rw [hz,h0]
  ·have:=b2 0 (by omega);omega
 ·rw [LM h0] at hs
  have hlo:¬ SetTable.below t.place (cV w Z i)<=i - 1:=fun hle=>by
   have:=b3 (i - 1) hle (by omega)
   rw [gz _ (by omega)] at this
   omega
  have hhi:¬ i<SetTable.below t.place (cV w Z i):=fun hlt=>by
   have:=b2 i hlt
   have hiz:i<Z.length:=by omega
   rw [gz i hiz] at this
   have:=hris (i - 1) i (by omega) hiz
   omega
  omega
section
variable {prog:Program}{w:World}{A:Around}{E:Value->Shared->Prop}{s:Shared}
theorem ur {a:Addr}{ps:List (Int × Value)}{o es ep t Z}{i:Nat}{Q:Option (Value × Nat)->Shared->Prop} (S:dz w s.heap a ps o es ep t Z) (hi:i<=Z.length)
  (h:Q (((dk w a ep es)[i]?).map fun e=>(e.2,cV w Z (i+1))) s):wpAny (model prog w) A (setNext a (cV w Z i) i ep) Q E s:=by
 unfold setNext
 refine Mh (OJ S.ho S.hd S.fits ?_)
 dsimp only
 unfold setsByText
 refine Mh (Mh (N2 (Mo ?_)))
 cases hb:w.params.followText "set-order" with
 | true=>
  have e1:dk w a ep es=(pickOrder (w.params.setOrder a ep) es).toList:=by unfold dk;rw [hb,LL rfl]
  have e2:∀ j,cV w Z j=0:=fun j=>by unfold cV;rw [hb,LL rfl]
  rw [e1,e2] at h
  show wpAny _ _ (if (w.params.followText "set-order")=true then _ else _) _ _ _
  rw [hb,LL rfl]
  rw [LM (by simp)]
  refine Mh ?_
  unfold setWalk
  refine Mh (OJ S.ho S.hd S.fits ?_)
  dsimp only
  unfold setsByText
  refine Mh (Mh (N2 (Mo ?_)))
  show wpAny _ _ (if (w.params.followText "set-order")=true then _ else _) _ _ _
  rw [hb,LL rfl]
  refine Mh (N2 (Mo (Mo ?_)))
  rw [e2,<- NO]
  exact h
 | false=>
  have e1:dk w a ep es=es.toList:=by unfold dk;rw [hb,LM Mm]
  have hled:t.led=true:=by rw [S.led,hb];rfl
  show wpAny _ _ (if (w.params.followText "set-order")=true then _ else _) _ _ _
  rw [hb,LM Mm]
  have hdr:(!t.plain && decide (es.size > 1))=false:=by rw [S.plain];rfl
  show wpAny _ _ (if (!t.plain && decide (es.size > 1))=true then _ else _) _ _ _
  rw [hdr,LM Mm]
  refine Mh ?_
  show wpAny _ _ (if (!t.led && !es.isEmpty)=true then _ else _) _ _ _
  rw [hled]
  simp only [OG,Mq,NT,Nd]
  refine Mo (Mo ?_)
  rw [Cq S.tab hb hi]
  rw [e1,NO] at h
  by_cases hlt:i<Z.length
  ·have ez : Z[i]? = some Z[i] := Pq hlt
   have ee:=S.tab.hashAt ez
   have ep':t.place[i]?=some (Z[i]).1:=by rw [<- NO,S.tab.place,MU,ez];rfl
   rw [ee,ep']
   rw [ee] at h
   have es':cV w Z (i+1)=(Z[i]).1+1:=by
    unfold cV
    rw [hb,LM Mm,LM (by omega),Nat.add_sub_cancel,Pc,ez];rfl
   rw [es'] at h
   exact h
  ·have : es[i]? = none := by rw [Oy, S.tab.size.2]; omega
   rw [this]
   rw [this] at h
   exact h
end
end RS
namespace RS
open PySem PySem.W PyProof.Rows
section
variable {prog:Program}{w:World}{A:Around}{E:Value->Shared->Prop}{s:Shared}
theorem df.typeIs {I S:Addr}{i n ep slot:Nat} (h:df s.heap I S i n ep slot):s.TypeIs (.ref I) "set_iterator" := ⟨_,h,rfl⟩
theorem fO {a:Addr}{ps:List (Int × Value)}{o es ep t Z} (S:dz w s.heap a ps o es ep t Z):s.TypeIs (.ref a) "set" := ⟨o,S.ho,S.ex.1⟩
theorem Bn {a:Addr}{ps:List (Int × Value)}{o es ep t Z}{Q:Value->Shared->Prop} (S:dz w s.heap a ps o es ep t Z)
  (hQ:Q (.ref s.heap.objs.size) { s with heap:=s.heap.push { cls:=.type "set_iterator",data:=.fields #[.int ((0:Nat):Int) 0,.int ((0:Nat):Int) 0,.ref a,.int (Z.length:Int) 0,.int (ep:Int) 0] } }) :
  wpAny (model prog w) A (pyIter (.ref a)) Q E s:=by
 refine wpAny_pyIter_slot (fO S) PySem.F.slot_set_iter (Nq PySem.F.slot_set_iter (fO S) Fx.entry_set_iter ?_ (PySem.F.args_set_iter_1 _))
 unfold Builtin.«frozenset.__iter__» Builtin.Frozenset.sizeOf
 refine Mh (m:=Builtin.Frozenset.slot0 "__iter__" _) (N4 (a:=a) rfl ?_)
 refine Mh (Mh (Pr S.ho S.hd S.fits (Mo ?_)))
 unfold setDrawn
 refine Mh (Mh (OJ S.ho S.hd S.fits ?_))
 dsimp only
 unfold setsByText
 refine Mh (Mh (N2 (Mo (Mo ?_))))
 have hdr:(!w.params.followText "set-order" && (!t.plain && decide (es.size > 1)))=false:=by rw [S.plain];simp
 show wpAny _ _ (if (!w.params.followText "set-order" && (!t.plain && decide (es.size > 1)))=true then _ else _) _ _ _
 rw [hdr,LM Mm]
 refine Mh (Mo ?_)
 refine Mh (wpAny_setEpoch_of S.ho S.hd S.fits ?_)
 refine Mh (Nw (Mo ⟨_,rfl, "set_iterator",_,⟨_,Ms _ rfl,rfl⟩,Fx.slot_setiter_next.lookup,?_⟩))
 rw [S.tab.size.2]
 exact hQ
theorem Bo {I a:Addr}{ps:List (Int × Value)}{o es ep t Z}{i:Nat}{v:Int × Value}{Q:Option Value->Shared->Prop} (S:dz w s.heap a ps o es ep t Z) (hit:df s.heap I a i Z.length ep (cV w Z i)) (hv:(dk w a ep es)[i]?=some v)
  (hQ:∀ h',df h' I a (i+1) Z.length ep (cV w Z (i+1))->Heap.SameBut I s.heap h'->Q (some v.2) { s with heap:=h' }):wpAny (model prog w) A (pyNext (.ref I)) Q E s:=by
 have hT:=hit.typeIs
 have hoi:=hit
 unfold df at hoi
 have hil:i<Z.length:=by
  have:=(L8.mp hv).1
  rw [jM.length_eq,Me,S.tab.size.2] at this
  exact this
 unfold pyNext
 refine Mh (wpAny_attempt (Nl (name:=Str.ofString "__next__") hT Fx.slot_setiter_next (Nq Fx.slot_setiter_next hT Fx.entry_setiter_next ?_ (Fx.args_setiter_next _))))
 unfold Builtin.«set_iterator.__next__»
 refine Mh (m:=slotArgs "__next__" 0 _) (N4 (a:=(.ref I,[])) rfl ?_)
 dsimp only
 unfold fieldsOf
 refine Mh (Mh (Mp hoi ?_))
 refine Mo ?_
 refine Mh (Pr S.ho S.hd S.fits ?_)
 rw [S.tab.size.2]
 simp only [Po,NT,Nd,Na]
 refine Mh (ur S (LW hil) ?_)
 rw [hv]
 dsimp only [Option.map_some]
 refine Mh (Pt hoi (by simp) fun h1 e1 sb1=>?_)
 refine Mh (Pt (s:={ s with heap:=h1 }) e1 (by simp) fun h2 e2 sb2=>?_)
 refine Mo ⟨v.2,rfl,Mo (hQ h2 ?_ (sb1.trans sb2))⟩
 unfold df
 rw [e2]
 simp [rawInt]
theorem Dv {I a:Addr}{ps:List (Int × Value)}{o es ep t Z}{Q:Option Value->Shared->Prop} (hh:A.handled=none) (S:dz w s.heap a ps o es ep t Z) (hit:df s.heap I a Z.length Z.length ep (cV w Z Z.length))
  (hQ:∀ h',Heap.ExtBut I s.heap h'->Q none { s with heap:=h' }):wpAny (model prog w) A (pyNext (.ref I)) Q E s:=by
 have hT:=hit.typeIs
 have hoi:=hit
 unfold df at hoi
 have hv:(dk w a ep es)[Z.length]?=none:=by
  rw [List.getElem?_eq_none_iff,jM.length_eq,Me,S.tab.size.2]
  exact Mt _
 unfold pyNext
 refine Mh (wpAny_attempt (Nl (name:=Str.ofString "__next__") hT Fx.slot_setiter_next (Nq Fx.slot_setiter_next hT Fx.entry_setiter_next ?_ (Fx.args_setiter_next _))))
 unfold Builtin.«set_iterator.__next__»
 refine Mh (m:=slotArgs "__next__" 0 _) (N4 (a:=(.ref I,[])) rfl ?_)
 dsimp only
 unfold fieldsOf
 refine Mh (Mh (Mp hoi ?_))
 refine Mo ?_
 refine Mh (Pr S.ho S.hd S.fits ?_)
 rw [S.tab.size.2]
 simp only [Po,NT,Nd,Na]
 refine Mh (ur S (Mt _) ?_)
 rw [hv]
 dsimp only [Option.map_none]
 refine Mh (Pt hoi (by simp) fun h1 e1 sb1=>?_)
 refine Mh ?_
 simp only [newExc,newTuple]
 refine Mh (Nw ?_ (by size_fits))
 refine Mh (m:=firstArgMember _ _) (N4 (a:=Value.none) (by first | rfl | (simp only [firstArgMember];rfl)) ?_)
 refine Nw ?_ (by size_fits)
 simp only [raiseNew]
 refine Mh (wpAny_handled ?_)
 rw [show A.in1.handled=none from hh]
 refine Mh (Mo (wpAny_throw ?_))
 refine Mh (wpAny_isInstance (T:="StopIteration") (b:=true) ⟨_,Ms _ rfl,rfl⟩ isSubtype_stop ?_)
 exact Mo (hQ _ ((sb1.extBut.push _).push _))
end
end RS
namespace RS
open PySem PySem.W PyProof.Rows
namespace Fx
theorem entry_extend_loop:entryFor table "list.extend.loop" = some Builtin.«list.extend.loop»:=entryFor_of_fast (by kernel_rfl)
theorem plain_extend_loop:plainId "list.extend.loop" = true:=by decide +kernel
theorem split_set_len:splitId "set.__len__" = some ("set", "__len__"):=by decide +kernel
end Fx
section
variable {prog:Program}{w:World}{A:Around}{E:Value->Shared->Prop}{s:Shared}
theorem vn {a:Addr}{ps:List (Int × Value)}{o es ep t Z}{Q:Bool->Shared->Prop} (S:dz w s.heap a ps o es ep t Z) (h:Q false s):wpAny (model prog w) A (Builtin.List.listLengthHint (.ref a)) Q E s:=by
 unfold Builtin.List.listLengthHint
 refine Mh (wpAny_specialOf (fO S) PySem.F.slot_set_len.lookup ?_)
 dsimp only
 rw [Fx.split_set_len]
 dsimp only
 refine Mh (wpAny_isInstance (fO S) sub_set_self ?_)
 simp only [OG,NT,Nd]
 rw [LL (by rfl)]
 refine Mh (Nu (fO S) ?_)
 exact Mo h
theorem vp {R:Result->Shared->Prop}{I a L:Addr}{ps:List (Int × Value)}{o es ep t Z} (hh:A.handled=none) (hIa:I≠a) (hIL:I≠L) (hLa:L≠a) (hz:Z.length<=100) :
  ∀ (k i n:Nat) (s:Shared),Z.length - i=k->i<=Z.length->dz w s.heap a ps o es ep t Z->df s.heap I a i Z.length ep (cV w Z i)->s.heap.get? L=some (seqObj "list" (((dk w a ep es).take i).map (·.2)).toArray n) ->
   (∀ h' m,(∀ b u,b≠I->b≠L->s.heap.get? b=some u->h'.get? b=some u)->h'.get? L=some (seqObj "list" ((dk w a ep es).map (·.2)).toArray m)->R (.ok (.ret (.ref L))) { s with heap:=h' }) ->
   codeAny (model prog w) A (.builtin "list.extend.loop" ⟨[.ref L,.ref I,.ref L],[]⟩) R s:=by
 intro k
 induction k with
 | zero=>
  intro i n s ek hi S hit hL hR
  have e:i=Z.length:=by omega
  subst e
  refine OT Fx.entry_extend_loop ?_
  rw [OU Fx.plain_extend_loop _]
  show wpAny _ A.in1 (pyNext (.ref I) >>= _) _ _ s
  refine Mh (Dv (by simpa using hh) S hit fun h' eb=>?_)
  show wpAny _ A.in1 (ret (.ref L)) _ _ _
  refine Mo (hR h' n (fun b u hb _ q=>eb b u hb q) ?_)
  rw [Og (by rw [jM.length_eq,Me,S.tab.size.2];exact Mt _)] at hL
  exact eb L _ (L5 hIL) hL
 | succ k ih=>
  intro i n s ek hi S hit hL hR
  have hil:i<(dk w a ep es).length:=by rw [jM.length_eq,Me,S.tab.size.2];omega
  refine OT Fx.entry_extend_loop ?_
  rw [OU Fx.plain_extend_loop _]
  show wpAny _ A.in1 (pyNext (.ref I) >>= _) _ _ s
  refine Mh (Bo S hit (Pq hil) fun h' hit' sb=>?_)
  have hL':h'.get? L=some (seqObj "list" (((dk w a ep es).take i).map (·.2)).toArray n):=(sb.2 L (L5 hIL)).trans hL
  have hsz:(((dk w a ep es).take i).map (·.2)).toArray.size<=100:=by
   rw [Mz,MY,MM];omega
  show wpAny _ A.in1 (Builtin.List.listUpdate (.ref L) _ >>= _) _ _ _
  refine Mh (Ph (s:={ s with heap:=h' }) hL' rfl ?_ (LV hsz (by decide)) (by rw [Array.size_push];exact LV (Nat.succ_le_succ hsz) (by decide)))
  have hL2:=Pi hL' (·.push ((dk w a ep es)[i]).2)
  have eL:(((dk w a ep es).take i).map (·.2)).toArray.push ((dk w a ep es)[i]).2=(((dk w a ep es).take (i+1)).map (·.2)).toArray:=by
   have q:(dk w a ep es).take (i+1)=(dk w a ep es).take i++[(dk w a ep es)[i]]:=by rw [O7,Pq hil];rfl
   rw [q,Oq,List.push_toArray];rfl
  rw [eL] at hL2
  have hsb2:=OP h' L (Obj.mapSeq (·.push ((dk w a ep es)[i]).2))
  refine Mo ⟨OW Fx.plain_extend_loop _,ih (i+1) _ _ (by omega) (by omega) ?_ ?_ hL2 fun h'' m kk hm=>?_⟩
  ·refine ⟨?_, S.ex, S.hd, S.tab, S.plain, S.led, S.big, S.perm⟩
   exact (hsb2.2 a (L5 hLa)).trans ((sb.2 a (L5 hIa)).trans S.ho)
  ·exact (hsb2.2 I hIL).trans hit'
  ·refine hR h'' m (fun b u hb1 hb2 q => kk b u hb1 hb2 ?_) hm
   exact (hsb2.2 b hb2).trans ((sb.2 b hb1).trans q)
theorem lY {α β:Type}{f:α->β}{l m:List β} (h:l.Perm m):∀ ps:List α,m=ps.map f->∃ qs:List α,qs.Perm ps/\l=qs.map f:=by
 induction h with
 | nil=>
  intro ps e
  have:ps=[]:=List.map_eq_nil_iff.mp e.symm
  exact ⟨[],by rw [this],rfl⟩
 | cons x _ ih=>
  intro ps e
  cases ps with
  | nil=>cases e
  | cons p ps=>
   rw [Ny] at e
   obtain ⟨qs,h1,h2⟩:=ih ps (Oc e).2
   exact ⟨p::qs,h1.cons p,by rw [Ny,<- h2,(Oc e).1]⟩
 | swap x y l=>
  intro ps e
  match ps,e with
  | p::q::r,e=>
   rw [Ny,Ny] at e
   obtain ⟨e1,e2⟩:=Oc e
   obtain ⟨e2,e3⟩:=Oc e2
   exact ⟨q::p::r,List.Perm.swap _ _ _,by rw [Ny,Ny,e1,e2,e3]⟩
 | trans _ _ ih1 ih2=>
  intro ps e
  obtain ⟨qs,h1,h2⟩:=ih2 ps e
  obtain ⟨rs,h3,h4⟩:=ih1 qs h2
  exact ⟨rs,h3.trans h1,h4⟩
theorem nC {a:Addr}{ps:List (Int × Value)}{o es ep t Z}{Q:List Value->Shared->Prop} (hh:A.handled=none) (S:dz w s.heap a ps o es ep t Z) (hz:Z.length<=100)
  (h:∀ qs:List (Int × Value),qs.Perm ps->∀ h',(∀ b u,s.heap.get? b=some u->h'.get? b=some u)->s.heap.objs.size<=h'.objs.size->Q (qs.map (·.2)) { s with heap:=h' }):wpAny (model prog w) A (collect (.ref a)) Q E s:=by
 have hal:a<s.heap.objs.size:=LO S.ho
 unfold collect
 refine Mh (O2 (OT entry_proto_collect' ?_))
 show wpAny _ _ (do again (.builtin "list.__iadd__" ⟨[<- newList [],.ref a],[]⟩)) _ _ s
 refine Mh (Pj (Mo ⟨OZ _ (by decide +kernel),OT entry_list_iadd' ?_⟩))
 show wpAny _ _ (Builtin.List.listExtendWith (.ref s.heap.objs.size) (.ref a) (.ref s.heap.objs.size)) _ _ { s with heap:=s.heap.push (seqObj "list" #[] 0) }
 have S1:dz w (s.heap.push (seqObj "list" #[] 0)) a ps o es ep t Z:=⟨Mr _ S.ho,S.ex,S.hd,S.tab,S.plain,S.led,S.big,S.perm⟩
 unfold Builtin.List.listExtendWith
 refine Mh (Nu (fO (s:={ s with heap:=s.heap.push (seqObj "list" #[] 0) }) S1) ?_)
 have hsame:Builtin.List.listSameRef (.ref s.heap.objs.size) (.ref a)=false:=by
  show (s.heap.objs.size == a)=false
  simpa using Mn hal
 rw [hsame,LM (by decide)]
 refine Mh (Bn (s:={ s with heap:=s.heap.push (seqObj "list" #[] 0) }) S1 ?_)
 dsimp only
 generalize hH:(s.heap.push (seqObj "list" #[] 0)).push { cls:=.type "set_iterator",data:=.fields #[.int ((0:Nat):Int) 0,.int ((0:Nat):Int) 0,.ref a,.int (Z.length:Int) 0,.int (ep:Int) 0] }=H2
 have eI:(s.heap.push (seqObj "list" #[] 0)).objs.size=s.heap.objs.size+1:=by rw [Pk]
 have hk2:∀ b u,s.heap.get? b=some u->H2.get? b=some u:=fun b u q=>by rw [<- hH];exact Mr _ (Mr _ q)
 have S2:dz w H2 a ps o es ep t Z:=⟨hk2 a o S.ho,S.ex,S.hd,S.tab,S.plain,S.led,S.big,S.perm⟩
 have hL2:H2.get? s.heap.objs.size=some (seqObj "list" #[] 0):=by rw [<- hH];exact Mr _ (Ms _ rfl)
 have hI2:H2.get? (s.heap.objs.size+1)=some { cls:=.type "set_iterator",data:=.fields #[.int ((0:Nat):Int) 0,.int ((0:Nat):Int) 0,.ref a,.int (Z.length:Int) 0,.int (ep:Int) 0] }:=by
  rw [<- hH,<- eI];exact Ms _ rfl
 rw [eI]
 refine Mh (Mi (vn (s:={ s with heap:=H2 }) S2 ?_))
 rw [LL (by rfl)]
 refine Mh (N3 ?_)
 refine Mh ?_
 unfold Builtin.List.listTouch
 refine Mh (Ph (s:={ s with heap:=H2 }) hL2 rfl ?_ (N5 _) (by decide))
 have hL3:=Pi hL2 (·.push Value.none)
 refine Ph (s:={ s with heap:=H2.update s.heap.objs.size (Obj.mapSeq (·.push Value.none)) }) hL3 rfl ?_ (by decide) (by decide)
 have hL4:=Pi hL3 (·.pop)
 have sb3:=OP H2 s.heap.objs.size (Obj.mapSeq (·.push Value.none))
 have sb4:=(sb3.trans (OP (H2.update s.heap.objs.size (Obj.mapSeq (·.push Value.none))) s.heap.objs.size (Obj.mapSeq (·.pop))))
 generalize hH4:(H2.update s.heap.objs.size (Obj.mapSeq (·.push Value.none))).update s.heap.objs.size (Obj.mapSeq (·.pop))=H4 at hL4 sb4
 have neL:a≠s.heap.objs.size:=LR hal
 have neI:s.heap.objs.size+1≠s.heap.objs.size:=Nat.succ_ne_self _
 refine Mo ⟨OZ _ (by decide +kernel),?_⟩
 refine vp (by simpa using hh) (Mn (NW hal)) neI (L5 neL) hz (Z.length - 0) 0 _ { s with heap:=H4 } (by omega) (N5 _)
  ⟨(sb4.2 a neL).trans S2.ho,S.ex,S.hd,S.tab,S.plain,S.led,S.big,S.perm⟩ ?_ (by rw [List.take_zero];exact hL4) fun h' m kk hm=>?_
 ·unfold df
  have e0:cV w Z 0=0:=by unfold cV;split <;> simp
  rw [e0]
  exact (sb4.2 _ neI).trans hI2
 ·dsimp only
  refine Mh (Mp hm ?_)
  refine Mo ?_
  have hp:(dk w a ep es).Perm ps:=jM.trans (by rw [S.tab.ents];exact S.perm)
  have fin:=h (dk w a ep es) hp h' fun b u q=>by
   have hb:b<s.heap.objs.size:=LO q
   exact kk b u (LR (NW hb)) (LR hb) ((sb4.2 b (LR hb)).trans (hk2 b u q))
  exact fin (LW (LO hm))
theorem vq {a:Addr}{ps:List KP}{Q:List Value->Shared->Prop} (hh:A.handled=none) (S:d2 w s.heap a ps)
  (h:∀ qs:List KP,qs.Perm ps->∀ h',(∀ b u,s.heap.get? b=some u->h'.get? b=some u)->s.heap.objs.size<=h'.objs.size->Q (aV qs) { s with heap:=h' }):wpAny (model prog w) A (collect (.ref a)) Q E s:=by
 obtain ⟨o,es,ep,t,Z,S,hk,hn⟩:=S
 have h15:=kc hk hn
 refine nC hh S (by rw [S.len,MY];omega) fun qs hq h' k1 k2=>?_
 obtain ⟨rs,q1,q2⟩:=lY hq ps rfl
 have q3:qs.map (·.2)=aV rs:=by rw [q2,N8];rfl
 rw [q3]
 exact h rs q1 h' k1 k2
theorem yA {x:Value}{ps:List KP}{Q:Value->Shared->Prop} (hk:∀ p∈ps,p.1∈prs) (hn:(ps.map (·.1)).Nodup) (hT:∀ p∈ps,Tk prog w s.heap p.1 p.2)
  (hcol:∀ Q':List Value->Shared->Prop,(∀ qs:List KP,qs.Perm ps->∀ h',(∀ b u,s.heap.get? b=some u->h'.get? b=some u)->s.heap.objs.size<=h'.objs.size->Q' (aV qs) { s with heap:=h' })->wpAny (model prog w) A.in1 (collect x) Q' E s)
  (h:∀ out:List KP,out.Perm ps->g7 out->∀ h' D,s.heap.objs.size<=D->(∀ b u,s.heap.get? b=some u->h'.get? b=some u)->(∃ n,h'.get? D=some (seqObj "list" (aV out).toArray n))->Q (.ref D) { s with heap:=h' }) :
  wpAny (model prog w) A (call (.builtin "sorted") [x]) Q E s:=by
 refine Pu kind_sorted plain_sorted entry_sorted (args_sorted1 _) ?_
 unfold Builtin.«sorted»
 refine Mh (m:=checkCount "sorted" 1 1 _) (Mo ?_)
 refine Mh (hcol _ fun qs hqs h1 k1 hsz=>?_)
 have hkq:∀ p∈qs,p.1∈prs:=fun p hp=>hk p (hqs.mem_iff.mp hp)
 have hnq:(qs.map (·.1)).Nodup:=(hqs.map _).nodup_iff.mpr hn
 have hlen:=kc hkq hnq
 have hvl:(aV qs).length<=15:=by unfold aV;rw [MY];exact hlen
 refine Mh (Pj ?_ (LV hvl (by decide)))
 have hoL:(h1.push (seqObj "list" (aV qs).toArray 0)).get? h1.objs.size=some (seqObj "list" (aV qs).toArray 0):=Ms _ rfl
 have hnn:∀ b u,h1.get? b=some u->b≠h1.objs.size:=fun b u q=>LR (LO q)
 refine Mh (Mi (Nq slot_list_sort (s:={ s with heap:=h1.push (seqObj "list" (aV qs).toArray 0) }) ⟨_,hoL,rfl⟩ Pv ?body (args_list_sort _)))
 case body=>
  refine wm (s:={ s with heap:=h1.push (seqObj "list" (aV qs).toArray 0) }) hoL hkq hnq (fun p hp=>?_) fun out h2 h3=>?_
  ·obtain ⟨o, its, n, ho, rest⟩ := hT p (hqs.mem_iff.mp hp)
   exact ⟨o,its,n,Mr _ (k1 _ _ ho),rest⟩
  ·refine ⟨_, rfl, Mo ⟨_, rfl, h out (h2.trans hqs) h3 _ h1.objs.size hsz (fun b u q => ?_) ?_⟩⟩
   ·have hb := hnn b u (k1 b u q)
    unfold sortedHeap
    rw [Pm _ _ _ _ hb]
    refine Mr _ (Mr _ ?_)
    rw [Pm _ _ _ _ hb]
    exact Mr _ (k1 b u q)
   ·unfold sortedHeap
    have g1:=Pi hoL (fun _=>#[])
    have g2:=Mr (seqObj "list" #[] 0) (Mr (seqObj "tuple" (aV qs).toArray 0) g1)
    exact ⟨_,Pi g2 (fun _=>(aV out).toArray)⟩
theorem kU {a:Addr}{ps:List KP}{Q:Value->Shared->Prop} (hh:A.handled=none) (S:d2 w s.heap a ps) (hT:∀ p∈ps,Tk prog w s.heap p.1 p.2)
  (h:∀ out:List KP,out.Perm ps->g7 out->∀ h' D,s.heap.objs.size<=D->(∀ b u,s.heap.get? b=some u->h'.get? b=some u)->(∃ n,h'.get? D=some (seqObj "list" (aV out).toArray n))->Q (.ref D) { s with heap:=h' }) :
  wpAny (model prog w) A (call (.builtin "sorted") [.ref a]) Q E s:=by
 obtain ⟨o,es,ep,t,Z,S0,hk,hn⟩:=id S
 exact yA hk hn hT (fun Q' hq=>vq (by simpa using hh) S hq) h
end
end RS
namespace RS
open PySem PySem.W PyProof.Rows
theorem qE.free {t:SetTable}{es:Array (Int × Value)}{Z:List (Nat × Int × Value)} (T:qE t es Z) {h:Int} (cov:∀ j,j<=t.mask->j∈cw t.mask h) (hz:Z.length<=t.mask) (hA:Nat->Int) (hne:∀ i,hA i≠h) :
  ∃ j pre post,t.probe hA h (t.probeStart h)=some (.empty j none)/\j<=t.mask/\j ∉ Z.map (·.1)/\cw t.mask h=pre++j::post/\∀ k∈pre,k∈Z.map (·.1):=by
 obtain ⟨j0,hj0,hn0⟩:=rA (m:=t.mask) (l:=Z.map (·.1)) (by rw [MY];exact hz)
 obtain ⟨pre,j,post,e,hs,hp⟩:=i8 (fun j=>j ∉ Z.map (·.1)) (cw t.mask h) ⟨j0,cov j0 hj0,hn0⟩
 have el:(x9 t.mask (SetTable.turns t.mask) (SetTable.bits h % (t.mask+1)) (SetTable.bits h)).length=pre.length+1+post.length:=by
  show (cw t.mask h).length=_
  rw [e,MX,NU];omega
 have hw:gY t (pre.length+1+post.length) (t.probeStart h)=pre++j::post:=by
  have q:=oY t (SetTable.turns t.mask) (SetTable.bits h % (t.mask+1)) (SetTable.bits h) none
  rw [el] at q
  exact q.trans e
 have hlen:pre.length<10 * SetTable.turns t.mask:=by
  have q:=su t.mask (SetTable.turns t.mask) (SetTable.bits h % (t.mask+1)) (SetTable.bits h)
  omega
 have occ:∀ k∈pre,k∈Z.map (·.1):=fun k hk=>Oi fun q=>hp k hk q
 have hpre:∀ k∈pre,∃ i,t.slot k=.live i/\hA i≠h:=fun k hk=>by
  obtain ⟨z,hzm,ez⟩:=Oh.mp (occ k hk)
  obtain ⟨i,hi⟩:=Ol hzm
  exact ⟨i,ez ▸ T.slot_live hi,hne i⟩
 obtain ⟨g1,g2⟩:=sE t hA h pre j post (10 * SetTable.turns t.mask) (t.probeStart h) hw hlen rfl hpre
 exact ⟨j,pre,post,g1 (T.slot_empty hs),iN (h:=h) (by rw [e];simp),hs,e,occ⟩
abbrev KI:=Int × Tok
def zW (p:KI):Int × Value:=(hashInt p.1,Value.int p.1 p.2)
def ins:List Int:=[0,1,2,3,4,5]
theorem EE {i:Int}:i∈ins↔0<=i/\i<6:=by
 unfold ins
 simp only [L4,O3,O4]
 omega
def FO (mask:Nat):Bool:=ins.all fun k=>(List.range (mask+1)).all fun j=>(cw mask (hashInt k)).contains j
theorem J3:FO 7=true:=by decide +kernel
theorem A0:FO 31=true:=by decide +kernel
theorem sG {mask:Nat} (h:FO mask=true) {k:Int} (hk:k∈ins):∀ j,j<=mask->j∈cw mask (hashInt k):=fun j hj=>by
 have a:=OE.mp h k hk
 have b:=OE.mp a j (LU.mpr (by omega))
 simpa using b
theorem rn {a b:Int} (ha:a∈ins) (hb:b∈ins) (e:hashInt a=hashInt b):a=b:=by
 have key:∀ x∈ins,∀ y∈ins,hashInt x=hashInt y->x=y:=by decide +kernel
 exact key a ha b hb e
def cK (w:World) (h:Heap) (a:Addr) (ps:List KI):Prop:=∃ o es ep t Z,dz w h a (ps.map zW) o es ep t Z/\(∀ p∈ps,p.1∈ins)/\(ps.map (·.1)).Nodup
theorem jN {ps:List KI} (hk:∀ p∈ps,p.1∈ins) (hn:(ps.map (·.1)).Nodup):ps.length<=6:=by
 have:=iJ hn (l2:=ins) (fun x hx=>by obtain ⟨p,hp,e⟩:=Oh.mp hx;rw [<- e];exact hk p hp)
 rw [MY] at this
 exact this
theorem cK.keeps {w:World}{h h':Heap}{a:Addr}{ps:List KI} (S:cK w h a ps) (k:∀ o,h.get? a=some o->h'.get? a=some o):cK w h' a ps:=by
 obtain ⟨o,es,ep,t,Z,S,hk,hn⟩:=S
 exact ⟨o,es,ep,t,Z,⟨k o S.ho,S.ex,S.hd,S.tab,S.plain,S.led,S.big,S.perm⟩,hk,hn⟩
theorem K5 {w:World}{h:Heap}{a:Addr}{ps:List (Int × Value)}{o es ep t Z} (S:dz w h a ps o es ep t Z) {k:Int} (hk:k∈ins):∀ j,j<=t.mask->j∈cw t.mask (hashInt k):=by
 rcases S.big with ⟨h1,h2⟩ | ⟨h1,h2⟩ <;> rw [h1]
 ·exact sG J3 hk
 ·exact sG A0 hk
def tS (ps:List KI) (k:Int) (t:Tok):List KI:=if k∈ps.map (·.1) then ps else ps++[(k,t)]
section
variable {prog:Program}{w:World}{A:Around}{E:Value->Shared->Prop}{s:Shared}
theorem qT {a:Addr}{k:Int}{tk:Tok}{ps0:List (Int × Value)}{o es ep t Z} (S:dz w s.heap a ps0 o es ep t Z) {Q:ScanMet->Shared->Prop} :
  ∀ (l:List (Int × Value)) (n:Nat),(∀ e∈l,∃ p:KI,e=zW p/\p.1∈ins)->k∈ins->((∃ e∈l,e.1=hashInt k)->∀ i,Q (.found i) s)->((∀ e∈l,e.1≠hashInt k)->Q .absent s)->wpAny (model prog w) A (setScanFrom a (.int k tk) (hashInt k) true l n) Q E s
 | [],n,_,_,h1,h2=>by
  unfold setScanFrom
  exact Mo (h2 fun e he=>by simp at he)
 | e::l,n,hl,hk,h1,h2=>by
  obtain ⟨p,rfl,hp⟩:=hl e LY
  show wpAny _ _ (setScanFrom a _ _ true ((hashInt p.1,Value.int p.1 p.2)::l) n) _ _ _
  unfold setScanFrom
  by_cases he:hashInt p.1=hashInt k
  ·rw [LL (by simpa using he)]
   have ek:=rn hp hk he
   refine Mh (m:=setEpoch a) (wpAny_setEpoch_of S.ho S.hd S.fits ?_)
   refine Mh (LK ?_)
   rw [ek]
   simp only [NS,OK,Nf]
   exact Mo (h1 ⟨_,LY,he⟩ _)
  ·rw [LM (by simpa using he)]
   refine qT S l (n+1) (fun x hx=>hl x (LZ _ hx)) hk (fun ⟨x,hx,ex⟩=>h1 ⟨x,LZ _ hx,ex⟩) fun hx=>h2 fun x hxm=>?_
   rcases L4.mp hxm with z | z
   ·rw [z];exact he
   ·exact hx x z
theorem EW {a:Addr}{k:Int}{tk:Tok}{ps:List KI}{Q:Bool->Shared->Prop} (S:cK w s.heap a ps) (hk:k∈ins)
  (h:∀ b h',Heap.SameBut a s.heap h'->cK w h' a (tS ps k tk)->Q b { s with heap:=h' }):wpAny (model prog w) A (setAddHashed a (.int k tk) (hashInt k)) Q E s:=by
 obtain ⟨o,es,ep,t,Z,S,hk0,hn0⟩:=S
 have hent:∀ e∈es.toList,∃ p∈ps,e=zW p:=fun e he=>by
  rw [S.tab.ents] at he
  obtain ⟨p,hp,q⟩:=Oh.mp (S.perm.mem_iff.mp he)
  exact ⟨p,hp,q.symm⟩
 have hto:∀ p∈ps,zW p∈es.toList:=fun p hp=>by
  rw [S.tab.ents]
  exact S.perm.mem_iff.mpr (Om hp)
 have hlen6:=jN hk0 hn0
 have hZl:Z.length=ps.length:=by rw [S.len,MY]
 have hesz0:es.size=ps.length:=by rw [S.tab.size.2,hZl]
 have hz:Z.length<=t.mask:=by rcases S.big with ⟨q,q2⟩ | ⟨q,q2⟩ <;> omega
 unfold setAddHashed setAddHashedIn
 refine Mi (Mh (OJ S.ho S.hd S.fits ?_))
 dsimp only
 have hsc:byScan (Value.int k tk) es=true:=by
  unfold byScan
  have h1:decide (es.size<scanBound)=true:=NQ (by rw [hesz0];unfold scanBound;omega)
  have h2:es.all (fun x=>x.2.scannable)=true:=by
   rw [<- Array.all_toList,OE]
   intro e he
   obtain ⟨p,_,rfl⟩:=hent e he
   rfl
  rw [h1,h2];rfl
 rw [hsc]
 simp only [Nf]
 refine Mh ?_
 unfold setAddByScan
 refine Mh (N3 ?_)
 refine Mh ?_
 show wpAny _ _ (setScanFrom a (.int k tk) (hashInt k) true es.toList 0) _ _ _
 refine qT S es.toList 0 (fun e he=>by obtain ⟨p,hp,e'⟩:=hent e he;exact ⟨p,e',hk0 p hp⟩) hk (fun hex i=>?_) fun hno=>?_
 ·obtain ⟨e, he, q⟩ := hex
  obtain ⟨p,hp,rfl⟩:=hent e he
  have ek:p.1=k:=rn (hk0 p hp) hk q
  refine Mo (Mo ?_)
  have q:=h false s.heap (Heap.SameBut.refl a s.heap) (by
   unfold tS;rw [LL (by rw [<- ek];exact Om hp)];exact ⟨o,es,ep,t,Z,S,hk0,hn0⟩)
  cases s;exact q
 ·have hin:k ∉ ps.map (·.1):=fun hx=>by
   obtain ⟨p,hp,e⟩:=Oh.mp hx
   exact hno _ (hto p hp) (by rw [<- e];rfl)
  dsimp only
  obtain ⟨j,pre,post,epr,hj,hn,e,hp⟩:=S.tab.free (K5 S hk) hz (fun _=>hashInt k+1) (fun _=>by omega)
  obtain ⟨Z',T',hperm,et⟩:=S.tab.put (x:=Value.int k tk) hj hn e hp
  have hfree:t.freeSlot (hashInt k)=some (j,false):=by
   unfold SetTable.freeSlot;rw [epr];rfl
  have hpl:(t.put j).1.plain=true:=by rw [et];exact S.plain
  have hled:(t.put j).1.led=t.led:=by rw [et]
  have hmask:(t.put j).1.mask=t.mask:=by rw [et]
  have hperm':(Z'.map (·.2)).Perm ((ps++[(k,tk)]).map zW):=by
   refine (hperm.map (·.2)).trans ?_
   rw [Ny,Oq]
   refine List.Perm.trans (List.Perm.cons _ S.perm) ?_
   exact (List.perm_append_singleton _ _).symm
  have hkeys:∀ p∈ps++[(k,tk)],p.1∈ins:=fun p hp'=>by
   rcases L6.mp hp' with q | q
   ·exact hk0 p q
   ·rw [N6] at q;rw [q];exact hk
  have hnd:((ps++[(k,tk)]).map (·.1)).Nodup:=by
   rw [Oq]
   refine OM.mpr ⟨hn0,by simp,fun x hx y hy=>?_⟩
   simp at hy
   rw [hy];rintro rfl;exact hin hx
  have hlen:=jN hkeys hnd
  have hZ':Z'.length=ps.length+1:=by rw [hperm.length_eq,NU,hZl]
  have hesz:(SetTable.insertAt es (t.put j).2 (hashInt k,Value.int k tk)).size=Z'.length:=T'.size.2
  have hadd:tS ps k tk=ps++[(k,tk)]:=by unfold tS;rw [LM hin]
  rw [hadd] at h
  rw [MX,NN] at hlen
  have hfit:(t.put j).1.fits (SetTable.insertAt es (t.put j).2 (hashInt k,Value.int k tk)).size=true:=by
   unfold SetTable.fits
   rw [T'.fill,T'.size.1,hesz,hmask]
   rcases S.big with ⟨q,q2⟩ | ⟨q,q2⟩ <;> simp [q] <;> omega
  have hlay:layNew t es (hashInt k) (.int k tk)=(SetTable.insertAt es (t.put j).2 (hashInt k,Value.int k tk),(t.put j).1,false,false):=by
   unfold layNew
   rw [hfree]
   dsimp only
   unfold SetTable.orStandIn
   rw [hfit];rfl
  rw [hlay]
  dsimp only
  generalize ht1:(t.put j).1=t1 at *
  generalize hes1:SetTable.insertAt es (t.put j).2 (hashInt k,Value.int k tk)=es1 at *
  have hline:es1.size<=sizeLine:=by rw [hesz,hZ'];exact LV hlen (by decide)
  refine Mh (Mo ?_)
  refine Mh (Mo ?_)
  rw [hpl]
  simp only [Nf]
  refine Mh (m:=hashByValue 8 (.int k tk)) (Mo ?_)
  simp only [Nf]
  refine Mh (ON S.ho S.hd ?_ hline)
  have hg:(s.heap.update a (Obj.putSet es1 t1)).get? a=some { o with data:=.set es1 (ep+1) t1 }:=by
   have:=NB (Obj.putSet es1 t1) S.ho (by rw [OO es1 t1 S.hd];rfl)
   rw [OO es1 t1 S.hd] at this;exact this
  have hsb1:=OP s.heap a (Obj.putSet es1 t1)
  have hfill:t1.fill=ps.length+1:=by rw [T'.fill,hZ']
  by_cases hfull:t1.tooFull=true
  ·simp only [hfull, OQ, OK, Nf]
   have hm7:t.mask=7/\ps.length=4:=by
    unfold SetTable.tooFull at hfull
    rw [hfill,hmask] at hfull
    have hf:(ps.length+1) * 5 ≥ t.mask * 3:=by simpa using hfull
    rcases S.big with ⟨q,q2⟩ | ⟨q,q2⟩
    ·rw [q] at hf;exact ⟨q,by omega⟩
    ·rw [q] at hf;omega
   have hsz1:es1.size=5:=by rw [hesz,hZ',hm7.2]
   have hgr:SetTable.grown es1.size=20:=by rw [hsz1];rfl
   rw [hgr]
   obtain ⟨t2,order,Z2,er,T2,hp2,hm2,hl2,hpl2,hord⟩:=pL (t:=t1) (es:=es1) (wanted:=20) (mask:=31) (by rfl) (by rw [hsz1];decide) (fun e' he'=>by
    rw [T'.ents] at he'
    obtain ⟨p,hp',q⟩:=Oh.mp (hperm'.mem_iff.mp he')
    rw [<- q]
    exact sG A0 (hkeys p hp'))
   have hZ2:Z2.length=5:=by
    have:=hp2.length_eq
    simp at this
    omega
   have hes2:(order.filterMap (es1[·]?)).size=5:=by rw [T2.size.2,hZ2]
   have hrel:relayAll t1 es1 20=(order.filterMap (es1[·]?),t2,false):=by
    unfold relayAll
    rw [er]
    dsimp only
    have c1:coversAll order es1.size=true:=by
     unfold coversAll
     exact List.isPerm_iff.mpr hord
    have c2:t2.fits (order.filterMap (es1[·]?)).size=true:=by
     unfold SetTable.fits
     rw [T2.fill,T2.size.1,hes2,hm2,hZ2];rfl
    rw [c1,c2];rfl
   rw [hrel]
   dsimp only
   refine Mh (Mh (Mo (Mo ?_)))
   refine Mh (ON hg rfl ?_ (by rw [hes2];decide))
   have hg2:((s.heap.update a (Obj.putSet es1 t1)).update a (Obj.putSet (order.filterMap (es1[·]?)) t2)).get? a=some { o with data:=.set (order.filterMap (es1[·]?)) (ep+1+1) t2 }:=by
    have:=NB (Obj.putSet (order.filterMap (es1[·]?)) t2) hg (by rw [OO _ t2 rfl];rfl)
    rw [OO _ t2 rfl] at this;exact this
   refine Mo (Mo ?_)
   refine h true _ (hsb1.trans (OP _ a _)) ⟨_,_,_,t2,Z2,⟨hg2,S.ex,rfl,T2,by rw [hpl2];exact hpl,by rw [hl2,hled];exact S.led,.inr ⟨hm2,by omega⟩,?_⟩,hkeys,hnd⟩
   refine hp2.trans ?_
   rw [T'.ents];exact hperm'
  ·have hf : t1.tooFull = false := by simpa using hfull
   simp only [hf,OR,NT,Nd]
   refine Mo (Mo ?_)
   refine h true _ hsb1 ⟨_,_,_,t1,Z',⟨hg,S.ex,rfl,T',hpl,by rw [hled];exact S.led,?_,hperm'⟩,hkeys,hnd⟩
   unfold SetTable.tooFull at hf
   rw [hfill,hmask] at hf
   have hf':¬ ((ps.length+1) * 5 ≥ t.mask * 3):=by simpa using hf
   rw [hmask,hZ']
   rcases S.big with ⟨q,q2⟩ | ⟨q,q2⟩
   ·rw [q] at hf' ⊢;exact .inl ⟨rfl,by omega⟩
   ·rw [q] at hf' ⊢;exact .inr ⟨rfl,by omega⟩
end
end RS
namespace L2
open PySem PySem.Spec PyProof.Rows
theorem dA.thr {P:Program}{w:World}{H:Hp}{h:Heap}{a:Addr}{o:HO} (x:dA P w H h a o):∃ ob,h.get? a=some ob:=by
 cases o with
 | lst xs=>obtain ⟨_,_,_,_,e⟩:=x;exact ⟨_,e⟩
 | tup xs=>obtain ⟨_,_,_,ob,e,_⟩:=x;exact ⟨_,e⟩
 | dK kvs=>obtain ⟨_,_,_,_,o,_,_,e,_⟩:=x;exact ⟨_,e⟩
 | dT kvs=>obtain ⟨_,_,_,_,o,_,_,e,_⟩:=x;exact ⟨_,e⟩
 | set S n=>obtain ⟨o,_,_,_,e,_⟩:=x;exact ⟨_,e⟩
 | ins C dx fs=>obtain ⟨_,_,_,e,_⟩:=x;exact ⟨_,e⟩
 | own y=>obtain ⟨_,e⟩:=x;exact ⟨_,e⟩
 | xd fs=>obtain ⟨_,⟨_,_,_,e,_⟩,_⟩:=x;exact ⟨_,e⟩
 | rng lo hi=>obtain ⟨_,_,_,e⟩:=x;exact ⟨_,e⟩
 | frz ob u=>obtain ⟨e,_⟩:=x;exact ⟨_,e⟩
 | tbl ps=>exact ⟨_,show h.get? a=some _ from x⟩
 | met f y=>exact ⟨_,show h.get? a=some _ from x⟩
 | ext φ=>obtain ⟨_,⟨_,e⟩,_⟩:=x;exact ⟨_,e⟩
theorem z8 {fs:List Addr}{H0 H':Hp}{h0 h1 h' B:Heap} (u:Un fs [] H0 H' h0 h1) (hB:∀ b o,h0.get? b=some o->b ∉ fs->∃ o',B.get? b=some o') (k1:B.StaysIn h1) (k2:B.StaysIn h') (up:h1.UpToSlots h')
  (hf:∀ b∈fs,H0 b=none/\∃ o,h0.get? b=some o/\∀ vs,o.data≠.fields vs):Un fs [] H0 H' h0 h' where
 keep:=fun b o e n hb hx=>by
  obtain ⟨o',q⟩:=hB b o e hb
  have q1:=k1 b o' q
  rw [u.keep b o e n hb hx] at q1
  cases q1
  exact k2 b o q
 slot:=fun b o e n hb hx=>by
  obtain ⟨sl,q⟩:=u.slot b o e n hb hx
  obtain ⟨_,o1,e1,nf⟩:=hf b hb
  rw [e] at e1
  cases e1
  obtain ⟨sl',q'⟩:=up b _ q nf
  exact ⟨sl',q'⟩
 free:=u.free
 there:=fun b o e hx=>by
  by_cases hb:b∈fs
  ·obtain ⟨n, o1, e1, nf⟩ := hf b hb
   rw [e] at e1
   cases e1
   obtain ⟨sl,q⟩:=u.slot b o e n hb hx
   obtain ⟨sl',q'⟩:=up b _ q nf
   exact ⟨_,q'⟩
  ·obtain ⟨o', q⟩ := hB b o e hb
   exact ⟨o',k2 b o' q⟩
 tups:=u.tups
 frzs:=u.frzs
 tbls:=u.tbls
def II (P:Program) (w:World):tI:=fun outer H s E e s'=>
 ∃ ea C a0 B H',e=.ref ea/\s'.os=s.os/\AllBare s'.gens/\Un (nh outer) [] H H' s.heap s'.heap/\mi P w H' B/\Heap.FlyingW B outer ea (.ref C) a0 s'.heap/\H' ea=none /\
  (∀ b o,s.heap.get? b=some o->b ∉ nh outer->∃ o',B.get? b=some o')/\E (.ref C) (some ea) H'
section
variable {P:Program}{w:World}{K:W.Frag}{mg:Str->Option Value}{base:Heap}{N:List Str}{qual:Str}{scope:Scope}{f:Addr}{cdv:Value}{A:Around}{outer:List Env}{s0:Shared}{H0:Hp}{E:XK}
abbrev Cy (P:Program) (w:World) (K:W.Frag) (mg:Str->Option Value) (base:Heap) (N:List Str) (qual:Str) (scope:Scope) (f:Addr) (cdv:Value) (A:Around) (outer:List Env) (s0:Shared) (H0:Hp) (E:XK):Cx:=oB (II P w) P w K mg base N qual scope f cdv A outer s0 H0 E
theorem EH {b:Addr} (hb:b∈nh (envOfC qual scope s0.heap.objs.size f cdv::outer)):b=s0.heap.objs.size\/b∈nh outer:=by
 obtain ⟨env,he,hf⟩:=Mv.mp hb
 rcases L4.mp he with rfl | he
 ·exact .inl (LN hf).symm
 ·exact .inr (Mv.mpr ⟨env,he,hf⟩)
theorem nA {pins:List (Addr × Obj)}{σ:St}{H:Hp}{s:Shared} (I:aS (Cy P w K mg base N qual scope f cdv A outer s0 H0 E) pins σ H s) {b:Addr}{o:Obj} (e:s0.heap.get? b=some o) (hb:b ∉ nh outer) :
  (∃ o',s.heap.get? b=some o')/\b ∉ nh (envOfC qual scope s0.heap.objs.size f cdv::outer):=
 ⟨I.base.there b o e (fun z => by cases z), fun z => by
  rcases EH z with z | z
  ·exact absurd (LO e) (by rw [z];exact LQ _)
  ·exact hb z⟩
theorem rC {pins:List (Addr × Obj)}{σ:St}{H:Hp}{s:Shared} (I:aS (Cy P w K mg base N qual scope f cdv A outer s0 H0 E) pins σ H s):∀ b∈nh outer,H0 b=none/\∃ o,s0.heap.get? b=some o/\∀ vs,o.data≠.fields vs:=
 fun b hb=>⟨I.ok.frf b hb,(I.ok.funs.mem hb).2⟩
theorem Fh:jJ (II P w) (Cy P w K mg base N qual scope f cdv A outer s0 H0 E) E:=by
 intro pins σ H s e s' I hc
 obtain ⟨ea,C,a0,B,H',rfl,os,bare,un,hok,fl,hn,bk,q⟩:=hc
 have J:=I.call' os un (hok.kept fl.1) bare (ch:=[]) (fun b z=>absurd z (by simp))
 have hB:∀ b o,s0.heap.get? b=some o->b ∉ nh outer->∃ o',B.get? b=some o':=fun b o e hb=>by
  obtain ⟨⟨o1,e1⟩,nb⟩:=nA I e hb
  exact bk b o1 e1 nb
 refine wpAny_leaves_onW I.ok.frames rfl fl fun h' fl' up=>?_
 exact ⟨ea,C,a0,B,H',rfl,J.os,bare,z8 J.base hB fl.1 fl'.1 up (rC I),hok,fl',hn,hB,q⟩
theorem HJ {pins:List (Addr × Obj)}{σ:St}{H:Hp}{s s':Shared}{ea C:Addr}{vs:List Value} (I:aS (Cy P w K mg base N qual scope f cdv A outer s0 H0 E) pins σ H s) (hs:s'={ s with heap:=s'.heap })
  (hx:Heap.MadeExcOf s.heap s'.heap ea (.ref C) vs) (q:H ea=none->E (.ref C) (some ea) H):(Cy P w K mg base N qual scope f cdv A outer s0 H0 E).xe (.ref ea) s':=by
 have hn:H ea=none:=by
  cases z:H ea with
  | none=>rfl
  | some u=>
   obtain ⟨o,e⟩:=(I.hok ea u z).thr
   rw [hx.new] at e;cases e
 have hin:∀ env∈(envOfC qual scope s0.heap.objs.size f cdv::outer),∀ b,env.frame=some b->b∈nh (envOfC qual scope s0.heap.objs.size f cdv::outer):=fun env he b hb=>Mv.mpr ⟨env,he,hb⟩
 have hst:(W.hideAll s.heap (nh (envOfC qual scope s0.heap.objs.size f cdv::outer))).StaysIn s.heap:=fun b o q=>W.of_hideAll _ q
 have hB:∀ b o,s0.heap.get? b=some o->b ∉ nh outer->∃ o',(W.hideAll s.heap (nh (envOfC qual scope s0.heap.objs.size f cdv::outer))).get? b=some o':=fun b o e hb=>by
  obtain ⟨⟨o1,e1⟩,nb⟩:=nA I e hb
  exact ⟨o1,W.hideAll_get _ e1 nb⟩
 have nfr:∀ c u,H c=some u->c ∉ nh (envOfC qual scope s0.heap.objs.size f cdv::outer):=fun c u e z=>by rw [I.stkFree c z] at e;cases e
 have hok:mi P w H (W.hideAll s.heap (nh (envOfC qual scope s0.heap.objs.size f cdv::outer))):=fun b u e=>
  (I.hok b u e).stay (fun c v hc r => W.hideAll_get _ r (by
   rcases hc with rfl | hc
   ·exact nfr _ _ e
   ·exact nfr _ _ hc)) (fun _ r=>r) fun _ _ r=>r
 show wpAny _ _ (leaving _ (.ref ea)) _ _ s'
 refine wpAny_leaves_madeW I.ok.frames rfl hst (W.funFrames_hide I.stack hin) hx fun h' t fl _ _ up=>?_
 rw [hs]
 exact ⟨ea,C,.ref t,_,H,rfl,I.os,I.bare,z8 I.base hB hst fl.1 ((Heap.UpToSlots.of_keeps hx.keeps).trans up) (rC I),hok,fl,hn,hB,q hn⟩
def yh (mg:Str->Option Value) (base:Heap) (c:Str) (C:Addr):Prop:=∃ bm newId B initId,OwnCls c C bm newId mg base/\ExcBaseFacts B newId initId bm
theorem yK {c:Str}{C:Addr}{np cpos pos:Pos} (O:yh mg base c C) (hg:Gl (Cy P w K mg base N qual scope f cdv A outer s0 H0 E) c) (hd:(c == ("__debug__" : Str))=false) :
  PS (Cy P w K mg base N qual scope f cdv A outer s0 H0 E) (.Raise (some (.Call (.Name c np) [] [] cpos)) none pos) (fun _ _ H=>∀ ea,H ea=none->E (.ref C) (some ea) H):=by
 intro pins s σ H D I q
 obtain ⟨bm,newId,B,initId,O,FB⟩:=O
 obtain ⟨tl,Nn,nm,qn,bs,hdct,sn,sub,ab,col,dd,k0,k1,k2,k3,k5,mN,hC,hN,hni,T⟩:=O.obj
 refine wpAny_Raise_call_subT (C:=C) (nm:=nm) (q:=qn) (N:=Nn) (bs:=bs) (bm:=tl) (hdct:=hdct) (sn:=sn) (sub:=sub) (ab:=ab) (col:=col) (dd:=dd) (k0:=k0) (k1:=k1) (k2:=k2) (k3:=k3) (k5:=k5)
  FB (mN:=mN) (T.hasType FB.hasBase) (I.ok.hd rfl) rfl hni (lI I hg O.bound ⟨rfl,?_⟩ hd)
 exact evalArgs_empty ⟨rfl,N5 _,I.bk _ _ hC,hN.keeps I.bk,T.keeps I.bk,fun h' e hm=>HJ I rfl hm (q e)⟩
end
structure Cx.Fn (X:Cx):Prop where
 ex:X.ex=[]
 stk:X.stack=X.env::X.outer
 fr:X.env.frame=some X.env.locals
def J6 (X:Cx) (pins:List (Addr × Obj)) (E:XK) (e:Value) (s':Shared):Prop:=
 ∃ ea C a0 B σ H',e=.ref ea/\aS X pins σ H' s'/\mi X.prog X.w H' B/\Heap.FlyingW B X.stack ea (.ref C) a0 s'.heap/\H' ea=none /\
  (∀ b o,X.s₀.heap.get? b=some o->b ∉ X.fs->∃ o',B.get? b=some o')/\(∀ p∈X.pn++pins,∃ o',B.get? p.1=some o')/\E (.ref C) (some ea) H'
abbrev Cx.tri (X:Cx) (pins:List (Addr × Obj)) (E:XK):Cx:={ X with pn:=X.pn++pins,xe:=J6 X pins E }
theorem Cx.Ok.tri {X:Cx}{pins:List (Addr × Obj)}{E:XK} (ok:X.Ok):(X.tri pins E).Ok:=
 ⟨ok.mod,ok.kind,ok.glob,ok.blt,ok.above,ok.inj,ok.has,ok.cab,ok.hd,ok.frames,ok.stk,ok.exf,ok.bs,ok.bsz,ok.noex,ok.exfs,ok.funs,ok.frf⟩
theorem Cx.Ok.untri {X:Cx}{pins:List (Addr × Obj)}{E:XK} (ok:(X.tri pins E).Ok):X.Ok:=
 ⟨ok.mod,ok.kind,ok.glob,ok.blt,ok.above,ok.inj,ok.has,ok.cab,ok.hd,ok.frames,ok.stk,ok.exf,ok.bs,ok.bsz,ok.noex,ok.exfs,ok.funs,ok.frf⟩
section
variable {X:Cx}{pins pins':List (Addr × Obj)}{σ:St}{H:Hp}{s:Shared}{E:XK}
theorem aS.tri (I:aS X pins σ H s):aS (X.tri pins E) [] σ H s:=
 ⟨I.ok.tri,I.os,I.bare,I.base,I.loc,I.cell,I.free,I.freeC,fun p hp=>I.pin p (by simpa using hp),I.hok,I.len⟩
theorem aS.untri (I:aS (X.tri pins E) pins' σ H s):aS X pins σ H s:=
 ⟨I.ok.untri,I.os,I.bare,I.base,I.loc,I.cell,I.free,I.freeC,fun p hp=>I.pin p (L7 _ hp),I.hok,I.len⟩
theorem SP.untri {D:mv}{f:Flow}{s':Shared} (h:SP (X.tri pins E) pins' D f s'):SP X pins D f s':=by
 cases f with
 | next=>obtain ⟨σ',H',I,q⟩:=h;exact ⟨σ',H',I.untri,q⟩
 | brk=>obtain ⟨σ',H',I,q⟩:=h;exact ⟨σ',H',I.untri,q⟩
 | cont=>obtain ⟨σ',H',I,q⟩:=h;exact ⟨σ',H',I.untri,q⟩
 | ret u=>obtain ⟨v,σ',H',I,r,q⟩:=h;exact ⟨v,σ',H',I.untri,r,q⟩
end
theorem xQ {X:Cx} (F:X.Fn) {b:Addr} (hb:b∈nh X.stack):b=X.env.locals\/b∈X.fs:=by
 rw [F.stk] at hb
 obtain ⟨env,he,hf⟩:=Mv.mp hb
 rcases L4.mp he with rfl | he
 ·rw [F.fr] at hf;exact .inl (LN hf).symm
 ·exact .inr (Mv.mpr ⟨env,he,hf⟩)
theorem JS {X:Cx}{pins:List (Addr × Obj)}{E:XK} (F:X.Fn):jJ (II X.prog X.w) (X.tri pins E) E:=by
 intro pins' σ H s e s' I hc
 obtain ⟨ea,C,a0,B,H',rfl,os,bare,un,hok,fl,hn,bk,q⟩:=hc
 have J:=I.call' os un (hok.kept fl.1) bare (ch:=[]) (fun b z=>absurd z (by simp))
 refine ⟨ea,C,a0,B,σ,H',rfl,J.untri,hok,fl,hn,fun b o e hb=>?_,fun p hp=>?_,q⟩
 ·obtain ⟨o1, e1⟩ := I.base.there b o e (by show b ∉ X.ex; rw [F.ex]; exact fun z => by cases z)
  refine bk b o1 e1 fun z=>?_
  rcases xQ F z with z | z
  ·have := I.ok.above
   rw [z] at e
   exact absurd (LO e) (Nat.not_lt.mpr this)
  ·exact hb z
 ·obtain ⟨p1, p2, p3, p4, p5⟩ := I.pin p (L7 _ hp)
  refine bk p.1 p.2 p1 fun z=>?_
  rcases xQ F z with z | z
  ·exact p3 z
  ·exact p4 z
theorem xX {h h':Heap}{c:Addr}{v:Option Value} (x:h.IsCell c v) (up:h.UpToSlots h'):h'.IsCell c v:=by
 obtain ⟨o,ho,hd⟩:=x
 obtain ⟨sl,q⟩:=up c o ho fun vs z=>by rw [hd] at z;cases z
 exact ⟨_,q,hd⟩
section
variable {X:Cx}{pins:List (Addr × Obj)}{σ:St}{H:Hp}{s:Shared}{h' B:Heap}{ea C:Addr}{a0:Value}
theorem aS.up (F:X.Fn) (I:aS X pins σ H s) (hok:mi X.prog X.w H B) (c1:∀ b o,X.s₀.heap.get? b=some o->b ∉ X.fs->∃ o',B.get? b=some o') (c2:∀ p∈X.pn++pins,∃ o',B.get? p.1=some o')
  (k1:B.StaysIn s.heap) (k2:B.StaysIn h') (up:s.heap.UpToSlots h'):aS X pins σ H { s with heap:=h' }:=by
 have hb:Un X.fs [] X.H₀ H X.s₀.heap h':=z8 (by rw [<- F.ex];exact I.base) c1 k1 k2 up fun b hb=>⟨I.ok.frf b hb,(I.ok.funs.mem hb).2⟩
 refine ⟨I.ok,I.os,I.bare,by rw [F.ex];exact hb,?_,fun x c e=>?_,I.free,I.freeC,fun p hp=>?_,hok.kept k2,I.len⟩
 ·obtain ⟨m, hn, hl⟩ := I.loc
  refine ⟨m,up.ns hn,fun i x v a b c=>?_⟩
  obtain ⟨u,r,l⟩:=hl i x v a b c
  refine ⟨u,r,?_⟩
  rcases l with l | ⟨k,c,e,hc⟩
  ·exact .inl l
  ·exact .inr ⟨k,c,e,xX hc up⟩
 ·obtain ⟨v, hv⟩ := I.cell x c e
  exact ⟨v,xX hv up⟩
 ·obtain ⟨p1, p2⟩ := I.pin p hp
  obtain ⟨o',e⟩:=c2 p hp
  have e1:=k1 _ _ e
  rw [p1] at e1
  cases e1
  exact ⟨k2 _ _ e,p2⟩
def tU (ea C:Addr):HO:=.ext fun h=>∃ oe,h.get? ea=some oe/\oe.cls=.ref C
theorem Un.track {fs ex:List Addr}{H0:Hp}{h0 h:Heap}{o:HO} (u:Un fs ex H0 H h0 h) (hn:h0.get? ea=none) (hH:H ea=none):Un fs ex H0 (cn H ea o) h0 h where
 keep:=u.keep
 slot:=u.slot
 free:=fun b ob e n hx=>by rw [br fun z=>by rw [z,hn] at e;cases e];exact u.free b ob e n hx
 there:=u.there
 tups:=fun b xs q=>by have:=u.tups b xs q;rw [br (bJ this hH)];exact this
 frzs:=fun b ob xs q=>by have:=u.frzs b ob xs q;rw [br (bJ this hH)];exact this
 tbls:=fun b ps q=>by obtain ⟨m,this⟩:=u.tbls b ps q;exact ⟨m,by rw [br (bJ this hH)];exact this⟩
theorem aS.track (F:X.Fn) (I:aS X pins σ H s) (c1:∀ b o,X.s₀.heap.get? b=some o->b ∉ X.fs->∃ o',B.get? b=some o') (c2:∀ p∈X.pn++pins,∃ o',B.get? p.1=some o')
  (fl:Heap.FlyingW B X.stack ea (.ref C) a0 s.heap) (hH:H ea=none):aS X pins σ (cn H ea (tU ea C)) s:=by
 obtain ⟨f1,f2,f3,oe,vs,T,oT,ts,he,⟨hc,_⟩,hd,_⟩:=fl
 have hn:X.s₀.heap.get? ea=none:=by
  cases z:X.s₀.heap.get? ea with
  | none=>rfl
  | some o=>
   by_cases hf:ea∈X.fs
   ·obtain ⟨_, o1, e1, nf⟩ := I.ok.funs.mem hf
    obtain ⟨sl,e2⟩:=I.base.slot ea o1 e1 (I.ok.frf ea hf) hf (by rw [F.ex];exact fun z=>by cases z)
    rw [he] at e2
    cases e2
    exact absurd hd (nf vs)
   ·obtain ⟨o', e⟩ := c1 ea o z hf
    rw [f2] at e;cases e
 have nl:X.env.locals≠ea:=fun z=>by
  obtain ⟨m,⟨o',es,ep,ho',hd',_⟩,_⟩:=I.loc
  rw [z,he] at ho';cases ho';rw [hd] at hd';cases hd'
 refine ⟨I.ok,I.os,I.bare,I.base.track hn hH,I.loc,I.cell,by rw [br nl];exact I.free,fun x c e=>?_,fun p hp=>?_,fun b u q=>?_,I.len⟩
 ·rw [br fun z => ?_]
  ·exact I.freeC x c e
  ·obtain ⟨v, o', ho', hd'⟩ := I.cell x c e
   rw [z,he] at ho';cases ho';rw [hd] at hd';cases hd'
 ·obtain ⟨p1, p2, p3, p4, p5⟩ := I.pin p hp
  refine ⟨p1,?_,p3,p4,p5⟩
  rw [br fun z=>?_]
  ·exact p2
  ·obtain ⟨o', e⟩ := c2 p hp
   rw [z,f2] at e;cases e
 ·by_cases hb : b = ea
  ·subst hb
   rw [bU] at q
   cases q
   refine ⟨⟨oe,he,hc⟩,⟨oe,he⟩,fun h1 h2 a k=>?_⟩
   obtain ⟨o,e,c⟩:=a
   exact ⟨o,k o e,c⟩
  ·rw [br hb] at q
   exact (I.hok b u q).stay (fun _ _ _ r=>r) (fun c r=>by rw [br (bJ r hH)];exact r) fun c xs r=>by rw [br (bJ r hH)];exact r
end
abbrev Cx.hnd (X:Cx) (ea:Addr):Cx:={ X with A:=X.A.mark (some (.ref ea)),calm:=false,xe:=fun _ _=>False }
theorem aS.hnd {X:Cx}{pins:List (Addr × Obj)}{σ:St}{H:Hp}{s:Shared}{ea:Addr} (I:aS X pins σ H s):aS (X.hnd ea) pins σ H s:=
 ⟨⟨I.ok.mod, I.ok.kind, I.ok.glob, I.ok.blt, I.ok.above, I.ok.inj, I.ok.has, I.ok.cab, (fun z => by cases z), I.ok.frames, I.ok.stk, I.ok.exf, I.ok.bs, I.ok.bsz, I.ok.noex, I.ok.exfs, I.ok.funs, I.ok.frf⟩,
   I.os,I.bare,I.base,I.loc,I.cell,I.free,I.freeC,I.pin,I.hok,I.len⟩
theorem aS.unhnd {X:Cx}{pins:List (Addr × Obj)}{σ:St}{H:Hp}{s:Shared}{ea:Addr} (ok:X.Ok) (I:aS (X.hnd ea) pins σ H s):aS X pins σ H s:=
 ⟨ok,I.os,I.bare,I.base,I.loc,I.cell,I.free,I.freeC,I.pin,I.hok,I.len⟩
theorem aS.forget {X:Cx}{pins:List (Addr × Obj)}{σ:St}{H:Hp}{s:Shared}{h':Heap}{t':Nat}{m:Str->Option Value} (I:aS X pins σ H s) (hn:h'.Ns X.env.locals m) (sb:Heap.SameBut X.env.locals s.heap h') :
  aS X pins (List.replicate X.N.length none) H { s with heap:=h',toks:=t' }:=by
 have ne:∀ b o,X.s₀.heap.get? b=some o->b≠X.env.locals:=fun b o e z=>by
  have:=I.ok.above
  rw [z] at e
  exact absurd (LO e) (Nat.not_lt.mpr this)
 have same:∀ b,b≠X.env.locals->h'.get? b=s.heap.get? b:=fun b hb=>sb.2 b hb
 refine ⟨I.ok,I.os,I.bare,⟨fun b o e n hb hx=>?_,fun b o e n hb hx=>?_,I.base.free,fun b o e hx=>?_,I.base.tups,I.base.frzs,I.base.tbls⟩,⟨m,hn,fun i x v _ e=>?_⟩,fun x c e=>?_,I.free,I.freeC,fun p hp=>?_,fun b u q=>?_,by simp⟩
 ·rw [same b (ne b o e)];exact I.base.keep b o e n hb hx
 ·rw [same b (ne b o e)];exact I.base.slot b o e n hb hx
 ·rw [same b (ne b o e)];exact I.base.there b o e hx
 ·rw [MQ] at e
  split at e <;> cases e
 ·obtain ⟨v, o, ho, hd⟩ := I.cell x c e
  exact ⟨v,o,by rw [same c (I.cne x c e)];exact ho,hd⟩
 ·obtain ⟨p1, p2, p3, p4⟩ := I.pin p hp
  exact ⟨by rw [same _ p3];exact p1,p2,p3,p4⟩
 ·have nb : ∀ c u, H c = some u -> c ≠ X.env.locals := fun c u e z => by rw [z, I.free] at e; cases e
  exact (I.hok b u q).stay (fun c v hc r=>by
   rw [same c]
   ·exact r
   ·rcases hc with rfl | hc
    ·exact nb _ _ q
    ·exact nb _ _ hc) (fun _ r=>r) fun _ _ r=>r
theorem GN {X:Cx} (F:X.Fn) {r n:Str}{R:Addr}{i:Nat}{np hpos pos:Pos}{body suite:List Stmt}{b0:Stmt}{tb:XK->TS}{th:TS}
  (hN:X.N.Nodup) (hi:X.N[i]?=some n) (hx:ya X.env.scope n) (hl:X.env.kindOf n=some .local) (hg:Gl X r) (hm:X.mg r=some (.ref R)) (hd:(r == ("__debug__" : Str))=false)
  (hb:∀ pins E,iA (X.tri pins E) body (tb E)) (hs:∀ ea,iA (X.hnd ea) (b0::suite) th) :
  PS X (.Try body [.ExceptHandler (some (.Name r np)) (some n) (b0::suite) hpos] [] [] pos) (fun D σ H=>∃ E:XK,(∀ C ea H',E (.ref C) (some ea) H'->H' ea=none->W.exmOne X.K (.ref C) (.ref R)=some true /\
   ∀ σ':St,σ'.length=X.N.length->th { nx:=fun _ _=>False,rt:=D.rt } (σ'.set i (some (.ref ea))) (cn H' ea (tU ea C)))/\tb E D σ H):=by
 intro pins s σ H D I hq
 obtain ⟨E,hE,hq⟩:=hq
 refine wpAny_Try_except (Mc (hb pins E [] s σ H D I.tri hq) (fun f s1 h1=>?_) fun e s1 h1=>?_)
 ·cases f with
  | next=>exact Mg (SP.untri h1)
  | brk=>exact SP.untri h1
  | cont=>exact SP.untri h1
  | ret u=>exact SP.untri h1
 ·obtain ⟨ea, C, a0, B, σ1, H1, rfl, I1, hok, fl, hn, c1, c2, q⟩ := h1
  obtain ⟨q1,q2⟩:=hE C ea H1 q hn
  have fl0:=fl
  rw [F.stk] at fl
  refine wpAny_looks_onW (by rw [<- F.stk];exact I.ok.frames) F.fr fl fun h4 held4 up4=>?_
  refine wpAny_landsW held4 fun h5 fl5 up5=>?_
  have fl5':=fl5
  rw [<- F.stk] at fl5'
  have I5:=I1.up F hok c1 c2 fl0.1 fl5.1 (up4.trans up5)
  have J5:aS (X.hnd ea) pins σ1 H1 { s1 with heap:=h5 }:=I5.hnd
  refine wpAny_handleBy_cons (codeAny_handlers_test (lI J5 hg hm ?_ hd)) (by intro q;cases q)
  obtain ⟨ob,hob,hobc⟩:=fl5.there
  have LT:W.Looks (model X.prog X.w) h5 (typeOf (.ref ea)) (.ref C):=by
   rw [<- hobc]
   exact (W.Looks.ld hob).andThen .now
  refine (W.exm_one J5.kIn LT q1).here (codeAny_handlers_suite_as ?_)
  refine lands_againW fl5 fun h6 fl6 up6=>?_
  have fl6':=fl6
  rw [<- F.stk] at fl6'
  have I6:=I5.up F hok c1 c2 fl5.1 fl6.1 up6
  have I6':=I6.track F c1 c2 fl6' hn
  refine lL (v:=.ref ea) I6' hN hi hx rfl (fun s7 I7=>?_) (.inr hl)
  refine Mc (hs ea pins s7 _ _ _ I7.hnd (q2 σ1 I1.len)) (fun f s8 h8=>?_) fun _ _ z=>False.elim z
  cases f with
  | next=>obtain ⟨_,_,_,z⟩:=h8;exact False.elim z
  | brk=>obtain ⟨_,_,_,z⟩:=h8;exact False.elim z
  | cont=>obtain ⟨_,_,_,z⟩:=h8;exact False.elim z
  | ret u=>
   obtain ⟨v,σ',H',I8,rv,z⟩:=h8
   have I8':=I8.unhnd I.ok
   obtain ⟨m,hn8,_⟩:=I8'.loc
   refine wpAny_nameGoes hl hn8 (by rw [I.ok.kind];rfl) fun h9 m9 hn9 sb=>?_
   exact ⟨v,_,H',I8'.forget hn9 sb,rv,z⟩
structure d3 (k:Nat) (A:Around):Prop where
 dp:A.depth+3 * k+5<recursionLimit
 un:A.units+16 * k+200<cLine
 gd:A.guards=some []
theorem fD.h {k:Nat}{A:Around} (r:fD k A):d3 k A:=⟨r.dp,r.un,r.gd⟩
theorem d3.mark {k:Nat}{A:Around} (r:d3 k A) (e:Option Value):d3 k (A.mark e):=⟨r.dp,r.un,r.gd⟩
theorem d3.mono {j k:Nat}{A:Around} (r:d3 k A) (h:j<=k):d3 j A:=⟨by have:=r.dp;omega,by have:=r.un;omega,r.gd⟩
theorem d3.deeper {k:Nat}{A:Around} (r:d3 (k+1) A) (env:Env):d3 k (A.deeper env):=
 ⟨by have:=r.dp;show A.depth+1+3 * k+5<_;omega,by have:=r.un;show A.units+3+16 * k+200<_;omega,r.gd⟩
theorem d3.depth {k:Nat}{A:Around} (r:d3 k A):A.depth<recursionLimit:=by have:=r.dp;omega
theorem d3.units {k:Nat}{A:Around} (r:d3 k A):A.units+64<cLine:=by have:=r.un;omega
structure uh (P:Program) (w:World) (K:W.Frag) (mg:Str->Option Value) (base:Heap) (CX:tI) (k:Nat) (f:Addr) (fd:FuncData) (ps:List Str) (sp:Sp):Prop where
 len:∀ vs H Q E,sp vs H Q E->vs.length=ps.length
 run:∀ (A:Around) (outer:List Env) (s:Shared) (H:Hp) (args:Args) (us:List Value) (vs:List V) (Q:VK) (E:XK),d3 k A->yj P w K mg base A outer s H->BindsTo s fd args (ps.zip us)->aY vs us->sp vs H Q E ->
  codeAny (model P w) A (.call (.ref f) args) (CR CX outer P w H s Q E) s
section
variable {X:Cx}{CX:tI}{k:Nat}{f C:Addr}{fd:FuncData}{ps:List Str}{sp:Sp}{dvs:List V}{ds:List Value}{E:XK}{x m:Str}{p pos apos:Pos}{e o:Expr}{es:List Expr}{ta:TE}{t:TA}
theorem DD {pins:List (Addr × Obj)}{σ:St}{H:Hp}{s:Shared}{Q:VK}{us:List Value}{vs:List V} (F:uh X.prog X.w X.K X.mg X.base CX k f fd ps sp) (hr:d3 k X.A) (hb:f7 X.K fd ps ds) (hd:aY dvs ds) (hx:jJ CX X E)
  (I:aS X pins σ H s) (r:aY vs us) (h:sp (vs++dvs) H Q E):wpAny (model X.prog X.w) X.A (call (.ref f) us) (EP X pins σ Q) X.xe s:=by
 have r2:aY (vs++dvs) (us++ds):=r.append hd
 have hl:(us++ds).length=ps.length:=by rw [<- r2.length];exact F.len _ _ _ _ h
 refine MD (MF (F.run X.A X.stack s H ⟨us,[]⟩ (us++ds) (vs++dvs) Q E hr I.env0 (hb s us I.kIn hl) r2 h) fun r s' hq=>?_)
 cases r with
 | error e=>exact hx pins σ H s e s' I hq
 | ok fl=>
  cases fl with
  | ret u=>exact I.after hq
  | next=>exact False.elim hq
  | brk=>exact False.elim hq
  | cont=>exact False.elim hq
theorem BL (F:uh X.prog X.w X.K X.mg X.base CX k f fd ps sp) (hr:d3 k X.A) (hg:Gl X x) (hm:X.mg x=some (.ref f)) (hk:W.keepIn X.K (.ref f)=true) (hb:f7 X.K fd ps ds) (hd:aY dvs ds) (hx:jJ CX X E)
  (ha:PA X (e::es) t) (hdb:(x == ("__debug__" : Str))=false:=by decide) (he:starEach (e::es) X.env=(false,eval e X.env)::starEach es X.env:=by rfl) (hpl:(backTo pos (starEach es X.env)).any (·.1)=false:=by rfl) :
  PE X (.Call (.Name x p) (e::es) [] pos) (E5 sp dvs E t):=by
 intro pins s σ H Q I h
 refine MH (lI I hg hm ?_ hdb)
 refine W.callWith_K (h₀:=X.base) I.ok.mod.kin hk (cI (ha pos pins s σ H _ I h) fun us s1 ⟨vs,H1,I1,r,q⟩=>⟨I1.kIn,?_⟩) he hpl
 exact DD F hr hb hd hx I1 r q
end
def oN (CX:tI) (P:Program) (w:World) (K:W.Frag) (mg:Str->Option Value) (base:Heap) (N:List Str) (qual:Str) (scope:Scope) (f:Addr) (cd:Value) (A:Around) (outer:List Env) (s:Shared) (H:Hp) (E:XK):Cx where
 prog:=P
 w:=w
 K:=K
 mg:=mg
 base:=base
 A:=A.deeper (envOfC qual scope s.heap.objs.size f cd)
 N:=N
 s₀:=s
 H₀:=H
 env:=envOfC qual scope s.heap.objs.size f cd
 outer:=outer
 stack:=envOfC qual scope s.heap.objs.size f cd::outer
 ex:=[]
 calm:=false
 fn:=fun _=>true
 pn:=[]
 xe:=fun e s'=>wpAny (model P w) (A.deeper (envOfC qual scope s.heap.objs.size f cd)) (leaving (envOfC qual scope s.heap.objs.size f cd) e) (fun _ s''=>CX outer H s E e s'') (fun e' s''=>CX outer H s E e' s'') s'
theorem wL {CX:tI}{P:Program}{w:World}{K:W.Frag}{mg:Str->Option Value}{base:Heap}{N ps:List Str}{qual:Str}{scope:Scope}{f:Addr}{cd:Value}{A:Around}{outer:List Env}{s s1:Shared}{H:Hp}{E:XK}{us:List Value}{vs:List V}
  (S:aR N ps scope) (e0:yj P w K mg base A outer s H) (hl:vs.length=ps.length) (r:aY vs us)
  (x:InCallC s s.heap.objs.size (bindL (envOfC qual scope s.heap.objs.size f cd).kindOf (ps.zip us) fun _=>none) (cellsFrom (s.heap.objs.size+1) scope.names []) (bindC (envOfC qual scope s.heap.objs.size f cd).kindOf (ps.zip us) fun _=>none) s1) :
  aS (oN CX P w K mg base N qual scope f cd A outer s H E) [] (start N vs) H s1:=by
 have hpl:ps.length<=N.length:=by have:=Mf List.length S.pre;rw [MM] at this;omega
 obtain ⟨h1,tk,rfl,hk⟩:=x.done
 have noA:∀ b:Addr,b ∉ (oN CX P w K mg base N qual scope f cd A outer s H E).ex:=fun b z=>absurd (show b∈([]:List Addr) from z) (by simp)
 refine ⟨⟨e0.mod,S.kind,rfl,rfl,Mt _,fun y z c h1 h2=>?_,fun y hy=>?_,fun y c _ h=>?_,(fun z=>by cases z),Around.frames_deeper e0.frames,.inr ⟨rfl,rfl⟩,fun b z=>absurd z (noA b),e0.bs,e0.bsz,fun b _ _=>noA b,fun b z=>absurd z (noA b),e0.funs,e0.frf⟩,
  rfl,e0.bare,Un.kept hk,⟨_,x.toInCall.ns,fun i y v h1 h2 h3=>?_⟩,fun y c h=>⟨_,x.cell y c h⟩,e0.hok.fresh (Mt _),fun y c h=>?_,fun p hp=>absurd (show p∈([]:List (Addr × Obj)) from hp) (by simp),e0.hok.kept hk,?_⟩
 ·exact name_of_addr x.apart (MN h1) (MN h2)
 ·have hy : scope.names.lookup y = some .cell \/ scope.names.lookup y = some .free := hy
  rcases hy with hy | hy
  ·exact lR hy
  ·exact absurd rfl (S.nofree _ (MN hy))
 ·exact LW (x.above y c (MN h))
 ·have hi:i<vs.length:=by
   unfold start at h2
   by_cases hi:i<vs.length
   ·exact hi
   ·rw [MP (by simpa using hi)] at h2
    rw [MQ] at h2
    split at h2 <;> cases h2
  have ha:vs[i]?=some v:=by
   unfold start at h2
   rw [MR (by simpa using hi),MU] at h2
   cases e:vs[i]? with
   | none=>rw [e] at h2;cases h2
   | some a=>rw [e] at h2;cases h2;rfl
  obtain ⟨u,hu,rv⟩:=r.get ha
  have hp:ps[i]?=some y:=by
   rw [<- S.pre,MV (by omega)];exact h1
  have ndP:ps.Nodup:=by rw [<- S.pre];exact S.nd.sublist (List.take_sublist _ _)
  refine ⟨u,rv,?_⟩
  rcases S.par y (MW hp) with k | k
  ·exact .inl ⟨k,mU ndP hp hu k⟩
  ·obtain ⟨c, e⟩ := lR (n := s.heap.objs.size + 1) k
   refine .inr ⟨.inl k,c,e,?_⟩
   have q:=x.cell y c e
   rw [mV ndP hp hu (by show scope.names.lookup y≠_;rw [k];decide)] at q
   exact q
 ·exact e0.hok.fresh (LW (x.above y c (MN h)))
 ·unfold start
  show _=N.length
  rw [MX,MY,List.length_replicate]
  omega
theorem Ie {CX:tI}{P:Program}{w:World}{K:W.Frag}{mg:Str->Option Value}{base:Heap}{k:Nat}{f:Addr}{name qual:Str}{params:Arguments}{body:List Stmt}{scope:Scope}{dV kV doc pm cdv ct oc:Value}{an od:Option Addr}
  {osl:Array (Option Value)}{N ps:List Str}{sp:Sp} (lk:K.lookup f=some ⟨oc,od,.func (W.fnOf name qual params body scope dV kV doc pm an cdv ct),osl⟩) (hcd:W.codeIn K cdv qual=true) (S:aR N ps scope)
  (len:∀ vs H Q E,sp vs H Q E->vs.length=ps.length)
  (hbody : ∀ (A : Around) (outer : List Env) (s : Shared) (H : Hp) (vs : List V) (Q : VK) (E : XK), d3 k (A.deeper (envOfC qual scope s.heap.objs.size f cdv)) -> sp vs H Q E ->
   ∃ t,iA (oN CX P w K mg base N qual scope f cdv A outer s H E) body t/\t { nx:=fun _ H'=>Q .non H',rt:=Q } (start N vs) H) :
  uh P w K mg base CX (k+1) f (W.fnOf name qual params body scope dV kV doc pm an cdv ct) ps sp:=by
 refine ⟨len,fun A outer s H args us vs Q E hr e0 hb r hsp=>?_⟩
 have hl:=len _ _ _ _ hsp
 have KX:K.In s.heap:=e0.mod.kin.keeps fun b o e=>(e0.bs b o e).1
 have lim:s.heap.NoLimit:=e0.mod.nolimit.keeps fun b o e=>(e0.bs b o e).1
 have hkind:∀ y∈ps.zip us,scope.names.lookup y.1=some .local\/(scope.names.lookup y.1=some .cell/\((cellsFrom (s.heap.objs.size+1) scope.names []).lookup y.1).isSome=true):=fun ⟨n,v⟩ hy=>by
  rcases S.par n (MK hy).1 with q | q
  ·exact .inl q
  ·exact .inr ⟨q,W.cellsFrom_some _ _ _ (.inl q)⟩
 refine codeAny_call_function hr.depth (KX _ _ lk) rfl S.co S.gen rfl (W.codeRec_of KX hcd) (hb _ _ _ _ ?_)
 refine wpAny_newFunctionEnv_cells S.kind hkind fun env he s1 x=>?_
 subst he
 refine ⟨lim.keeps x.toInCall.keep,codeAny_func ?_⟩
 obtain ⟨t,ht,hq⟩:=hbody A outer s H vs Q E (hr.deeper _) hsp
 have I:aS (oN CX P w K mg base N qual scope f cdv A outer s H E) [] (start N vs) H s1:=wL S e0 hl r x
 refine Mc (ht [] s1 (start N vs) H _ I hq) (fun fl s' hs=>?_) fun e s' hs=>hs
 have fin:∀ {σ':St}{H':Hp}{v:V}{u:Value},aS (oN CX P w K mg base N qual scope f cdv A outer s H E) [] σ' H' s'->bF v u->Q v H'->CE outer P w H s Q u s':=
  fun {σ' H' v u} J rv q=>⟨v,H',J.os,J.bare,J.base,J.hok,rv,q⟩
 cases fl with
 | ret u=>
  obtain ⟨v,σ',H',J,rv,q⟩:=hs
  exact fin J rv q
 | next=>
  obtain ⟨σ',H',J,q⟩:=hs
  exact fin (v:=V.non) (u:=Value.none) J rfl q
 | brk=>
  obtain ⟨_,_,_,q⟩:=hs
  exact False.elim q
 | cont=>
  obtain ⟨_,_,_,q⟩:=hs
  exact False.elim q
section
variable {P:Program}{w:World}{K:W.Frag}{mg:Str->Option Value}{base:Heap}
theorem gk.okH {x qual:Str}{st:Stmt}{f:Addr}{fd:FuncData}{N ps:List Str}{k:Nat}{sp:Sp} (F:gk K x qual st f fd) (S:aR N ps (av st)) (len:∀ vs H Q E,sp vs H Q E->vs.length=ps.length)
  (hbody : ∀ (cdv : Value) (A : Around) (outer : List Env) (s : Shared) (H : Hp) (vs : List V) (Q : VK) (E : XK), d3 k (A.deeper (envOfC qual (av st) s.heap.objs.size f cdv)) -> sp vs H Q E ->
   ∃ t,iA (oN vG P w K mg base N qual (av st) f cdv A outer s H E).nox (bQ st) t/\t { nx:=fun _ H'=>Q .non H',rt:=Q } (start N vs) H):uh P w K mg base vG (k+1) f fd ps sp:=by
 obtain ⟨oc,od,kV,doc,pm,an,cdv,ct,osl,rfl,lk,hcd⟩:=F.ex
 refine Ie lk hcd S len fun A outer s H vs Q E hr hsp=>?_
 obtain ⟨t,h,q⟩:=hbody cdv A outer s H vs Q E hr hsp
 exact ⟨t,h.nox,q⟩
end
end L2
namespace PySem.W
open PySem PySem.Spec PySem.Calls PyProof.Rows
section
variable {prog:Program}{w:World}{A:Around}{E:Value->Shared->Prop}{s:Shared}{K:Frag}{x D:Addr}{a g:Value}{name:Str}{h:Heap}{M:Model}
theorem vm (X:K.In h) (ha:findIn K (.ref D) name=some (some a)) (hg:specialIn K a "__get__" = some (some g)) (ht:takesIn K a=some true):Looks M h (Builtin.ObjectAttr.find (.ref x) (.ref D) name) (.bind g a):=
 (looks_findIn X ha).andThen ((show Looks M h (Builtin.ObjectAttr.getOf (some a)) (some g) from looks_specialIn X hg).andThen ((show Looks M h (Builtin.ObjectAttr.dataDescriptor? (some a) (some g)) (some (g,a)) from (looks_takesIn X ht).andThen .now).andThen (Looks.tag .now)))
theorem wW {R:Result->Shared->Prop} (X:K.In s.heap) (L:Looks (model prog w) s.heap (typeOf (.ref x)) (.ref D)) (hm:mroIn K D (.type "object")=some true) (hr:R (.ok (.ret (.ref D))) s) :
  codeAny (model prog w) A (.call (.builtin "getset_descriptor.__get__") ⟨[.builtin "object.__class__",.ref x,.ref D],[]⟩) R s:=by
 obtain ⟨hh,g,d,t,os⟩:=s
 have L0:Looks (model prog w) hh (typeOf (.ref x)) (.ref D):=L
 have L1:Looks (model prog w) hh (isSubtype (.ref D) (.type "object")) true:=looks_mroIn X hm
 have hT5:(⟨hh,g,d,t,os⟩:Shared).TypeIs (.builtin "object.__class__") "getset_descriptor" := F.typeOf_object_class
 have ow:(".".intercalate ("object.__class__".cutAt '.').dropLast) = "object" := by decide +kernel
 refine O0 F.slot_gs_get.plain F.entry_gs_get (F.slot_gs_get.check _ _ _ _ _ _ _ _ hT5 (F.args_gs_get _ _ _) ?_)
 repeat (any_goals (first | assumption | with_reducible refine L0.at ?_ | (rw [ow]) | with_reducible refine L1.at ?_ | wp_step))
 refine ⟨OZ _ (by decide +kernel),OT KF.entry_class ?_⟩
 unfold Builtin.«object.__class__»
 repeat (any_goals (first | assumption | with_reducible refine L0.at ?_ | wp_step))
theorem Cb {hh:Heap}{g:Array GenState}{d:Drawn}{t:Nat}{os:OsState}{M:Model}{nameV:Value}{Q:Unit->Shared->Prop} (X:K.In hh) (L0:Looks M hh (typeOf (.ref x)) (.ref D)) (hmB:mroIn K D (.type "BaseException")=some true) (hq:Q () ⟨hh,g,d,t,os⟩) :
  wpAny M A (checkBuiltinCall "BaseException.__getattribute__" ⟨[.ref x,nameV],[]⟩) Q E ⟨hh,g,d,t,os⟩:=by
 have hk:builtinKind "BaseException.__getattribute__" = some .slot:=by decide +kernel
 have hsplit:splitId "BaseException.__getattribute__" = some ("BaseException", "__getattribute__"):=by decide +kernel
 have ha:=F.args_bexc_ga (.ref x) nameV
 have L1:=looks_mroIn (M:=M) X hmB
 simp only [checkBuiltinCall,hk,hsplit]
 refine Mh ?_
 ·unfold isInstance
  repeat (first | lk | wp_step)
  exact hq
theorem Ca {tk:Tok}{Q:Fin->Shared->Prop} (X:K.In s.heap) (L:Looks (model prog w) s.heap (typeOf (.ref x)) (.ref D)) (ha:findIn K (.ref D) "__class__" = some (some (.builtin "object.__class__"))) (hn:specialIn K (.builtin "object.__class__") "__get__" = some (some (.builtin "getset_descriptor.__get__"))) (htk:takesIn K (.builtin "object.__class__")=some true) (hm:mroIn K D (.type "object")=some true) (hq:Q (.done (.ret (.ref D))) s) :
  wpAny (model prog w) A (Builtin.«object.__getattribute__» ⟨[.ref x,.str "__class__" tk],[]⟩) Q E s:=by
 obtain ⟨hh,g,d,t,os⟩:=s
 have L0:Looks (model prog w) hh (typeOf (.ref x)) (.ref D):=L
 have f3:Looks (model prog w) hh (Builtin.ObjectAttr.find (.ref x) (.ref D) "__class__") (.bind (.builtin "getset_descriptor.__get__") (.builtin "object.__class__")):=vm X ha hn htk
 unfold Builtin.«object.__getattribute__»
 repeat (any_goals (first | assumption | with_reducible refine L0.at ?_ | with_reducible refine f3.at ?_ | wp_step))
 refine wW (s:=⟨hh,g,d,t,os⟩) X L hm ?_
 repeat (any_goals (first | assumption | wp_step))
theorem zj {Q:Option Value->Shared->Prop} (X:K.In s.heap) (L:Looks (model prog w) s.heap (typeOf (.ref x)) (.ref D)) (hga:findIn K (.ref D) "__getattribute__" = some (some (.builtin "BaseException.__getattribute__"))) (hgn:findIn K (.ref D) "__getattr__" = some none)
  (ha:findIn K (.ref D) "__class__" = some (some (.builtin "object.__class__"))) (hn:specialIn K (.builtin "object.__class__") "__get__" = some (some (.builtin "getset_descriptor.__get__"))) (htk:takesIn K (.builtin "object.__class__")=some true) (hm:mroIn K D (.type "object")=some true) (hmB:mroIn K D (.type "BaseException")=some true) (hq:Q (some (.ref D)) { s with toks:=s.toks+1 }) :
  wpAny (model prog w) A (getAttr? (.ref x) "__class__") Q E s:=by
 obtain ⟨hh,g,d,t,os⟩:=s
 have L0:Looks (model prog w) hh (typeOf (.ref x)) (.ref D):=L
 have L1:Looks (model prog w) hh (typeLookup (.ref D) "__getattribute__") (some (.builtin "BaseException.__getattribute__")):=looks_findIn X hga
 have L2:Looks (model prog w) hh (typeLookup (.ref D) "__getattr__") none:=looks_findIn X hgn
 have f3:=PySem.F.attr_ValueError.ga.bind (.ref x)
 have hx2:(Value.builtin "BaseException.__getattribute__" == Value.builtin "object.__getattribute__")=false:=by decide +kernel
 have hx1:(onTheHeap (Value.ref D) && Value.builtin "BaseException.__getattribute__" == Value.builtin "object.__getattribute__")=false:=by rw [hx2];rfl
 have hx0:(false && onTheHeap (Value.builtin "BaseException.__getattribute__"))=false:=rfl
 unfold getAttr? getAttrBy?
 repeat (any_goals (first | assumption | with_reducible refine L0.at ?_ | with_reducible refine L1.at ?_ | with_reducible refine L2.at ?_ | wp_step))
 refine O0 PySem.F.attr_ValueError.ga.plain F.entry_bexc_ga (Cb X L0 hmB (Ca (tk:=t) X L0 ha hn htk hm ?_))
 repeat (any_goals (first | assumption | wp_step))
end
def excCls (K:Frag) (D:Addr):Bool:=findIn K (.ref D) "__getattribute__" == some (some (.builtin "BaseException.__getattribute__")) && findIn K (.ref D) "__getattr__" == some none && (clsIn K D).isSome && findIn K (.ref D) "__class__" == some (some (.builtin "object.__class__")) &&
 mroIn K D (.type "object") == some true && mroIn K D (.type "BaseException") == some true && specialIn K (.builtin "object.__class__") "__get__" == some (some (.builtin "getset_descriptor.__get__")) && takesIn K (.builtin "object.__class__") == some true
section
variable {K:Frag}{x D:Addr}
theorem kitx_exc (e:excCls K D=true):KitX K (.ref x) (.ref D) (fun h=>∃ ox,h.get? x=some ox/\ox.cls=.ref D):=by
 unfold excCls at e
 simp only [Nv,Pw] at e
 obtain ⟨⟨⟨⟨⟨⟨⟨hga,hgn⟩,hc⟩,ha⟩,hm⟩,hmB⟩,hn⟩,htk⟩:=e
 exact {
  ty:=fun _ _ _ ⟨ox,h1,h2⟩=>h2 ▸ (Looks.ld h1).andThen .now
  it:=fun _ _ X _=>by
   obtain ⟨cdD,hcD⟩:=ML.mp hc
   unfold clsIn at hcD
   split at hcD
   ·rename_i c' d' cd' sl' ho
    intro A' Q' E' s' k q
    unfold isType loadHead
    exact Mh (wpAny_loadPart (k _ _ (X _ _ ho)) (Mo q))
   ·cases hcD
  ne:=fun h tp dd its n sl X htp=>by
   obtain ⟨cdD,hcD⟩:=ML.mp hc
   refine Bool.eq_false_iff.mpr fun q=>?_
   have e:D=tp:=Value.ref.inj (Pw.mp q)
   subst e
   unfold clsIn at hcD
   split at hcD
   ·rename_i c' d' cd' sl' ho
    have z:=(X _ _ ho).symm.trans htp
    cases z
   ·cases hcD
  ca:=fun {prog w A E Q s} X ⟨ox,h1,h2⟩ h=>zj X (h2 ▸ (Looks.ld h1).andThen .now) hga hgn ha hn htk hm hmB h }
end
end PySem.W
namespace L2
open PySem PySem.Spec PyProof.Rows
def IV (K:W.Frag) (u:Value):List V->Hp->VK->Prop:=fun xs H Q=>∃ a D b v,xs=[.ref a,v]/\bF v u/\H a=some (tU a D)/\W.excCls K D=true/\W.kitOne K (.ref D) u=some b/\Q (.bl b) H
theorem u4 {X:Cx}{u:Value} (hu:∀ v w,bF v u->bF v w->w=u):cj X (.builtin "isinstance") (IV X.K u):=by
 intro pins s σ H xs us Q I r h
 obtain ⟨a,D,b,v,rfl,rv,ea,hc,e,q⟩:=h
 cases r with
 | cons r1 r2=>
  cases r2 with
  | cons r3 r4=>
   cases r4
   cases (show _=Value.ref a from r1)
   have z:=hu v _ rv r3
   subst z
   obtain ⟨⟨oe,h1,h2⟩,_⟩:=(show dA X.prog X.w H s.heap a (tU a D) from I.hok a _ ea)
   exact W.kia_one (W.kitx_exc hc) I.kIn ⟨oe,h1,h2⟩ e (fun z=>nomatch z) fun tk=>⟨.bl b,H,I.tok _,rfl,q⟩
end L2
namespace L2
open PySem PySem.Spec PyProof.Rows RS
inductive D where
 | non | bl (b:Bool) | int (i:Int) | str (x:Str) | tup (xs:List D) | frz (xs:List D) | obj (n:Nat)
inductive O where
 | lst (xs:List D) | set (ks:List (List Int)) | iset (ks:List Int) | dic | exc (c:Str)
abbrev aw:=List O
abbrev Ro:=List (Option D)
def E2 (K:W.Frag) (H:Hp) (a:Addr) (xs:List V):Prop:=
 (∃ o, H a = some (.frz o (.lst xs))) \/
  ∃ (o:Obj) (its:Array Value) (n:Nat),K.lookup a=some o/\o.cls=.type "list" /\ o.dict=none/\o.data=.seq its n/\its.size<=sizeLine/\aY xs its.toList
theorem E2.sq {K:W.Frag}{H:Hp}{a:Addr}{xs:List V} (h:E2 K H a xs):fw K H a xs:=by
 rcases h with ⟨o,h⟩ | h
 ·exact .inl (.inr ⟨o,h⟩)
 ·exact .inr h
section
variable (K:W.Frag) (H:Hp) (α:List Addr)
mutual
def aN:D->V->Prop
 | .non,v=>v=.non
 | .bl b,v=>v=.bl b
 | .int i,v=>v=.int i
 | .str x,v=>v=.str x
 | .tup xs,v=>∃ a vs,v=.ref a/\fY K H a vs/\Reps xs vs
 | .frz xs,v=>∃ a vs,v=.ref a/\E2 K H a vs/\Reps xs vs
 | .obj n,v=>∃ a,v=.ref a/\α[n]?=some a
def Reps:List D->List V->Prop
 | [],vs=>vs=[]
 | x::xs,vs=>∃ v r,vs=v::r/\aN x v/\Reps xs r
end
end
structure jv (K:W.Frag) (H H':Hp) (α α':List Addr):Prop where
 tup:∀ a xs,fY K H a xs->fY K H' a xs
 frz:∀ a xs,E2 K H a xs->E2 K H' a xs
 pre:∀ (n:Nat) a,α[n]?=some a->α'[n]?=some a
section
variable {K:W.Frag}{H H' H1 H2:Hp}{α α' α1 α2:List Addr}
theorem jv.refl:jv K H H α α:=⟨fun _ _ h=>h,fun _ _ h=>h,fun _ _ h=>h⟩
theorem jv.trans (a:jv K H H1 α α1) (b:jv K H1 H2 α1 α2):jv K H H2 α α2:=
 ⟨fun c xs h=>b.tup c xs (a.tup c xs h),fun c xs h=>b.frz c xs (a.frz c xs h),fun n c h=>b.pre n c (a.pre n c h)⟩
mutual
theorem aN.mono (e:jv K H H' α α'):∀ {d:D}{v:V},aN K H α d v->aN K H' α' d v
 | .non,_,h=>by simp only [aN] at h ⊢;exact h
 | .bl _,_,h=>by simp only [aN] at h ⊢;exact h
 | .int _,_,h=>by simp only [aN] at h ⊢;exact h
 | .str _,_,h=>by simp only [aN] at h ⊢;exact h
 | .tup xs,_,h=>by
  simp only [aN] at h ⊢
  obtain ⟨a,vs,rfl,h1,h2⟩:=h
  exact ⟨a,vs,rfl,e.tup a vs h1,Reps.mono e h2⟩
 | .frz xs,_,h=>by
  simp only [aN] at h ⊢
  obtain ⟨a,vs,rfl,h1,h2⟩:=h
  exact ⟨a,vs,rfl,e.frz a vs h1,Reps.mono e h2⟩
 | .obj n,_,h=>by
  simp only [aN] at h ⊢
  obtain ⟨a,rfl,h1⟩:=h
  exact ⟨a,rfl,e.pre n a h1⟩
theorem Reps.mono (e:jv K H H' α α'):∀ {ds:List D}{vs:List V},Reps K H α ds vs->Reps K H' α' ds vs
 | [],_,h=>by simp only [Reps] at h ⊢;exact h
 | d::ds,_,h=>by
  simp only [Reps] at h ⊢
  obtain ⟨v,r,rfl,h1,h2⟩:=h
  exact ⟨v,r,rfl,aN.mono e h1,Reps.mono e h2⟩
end
theorem Reps.nil:Reps K H α [] []:=by simp only [Reps]
theorem Reps.cons {d:D}{ds:List D}{v:V}{vs:List V} (h1:aN K H α d v) (h2:Reps K H α ds vs):Reps K H α (d::ds) (v::vs):=by
 simp only [Reps];exact ⟨v,vs,rfl,h1,h2⟩
theorem Reps.length:∀ {ds:List D}{vs:List V},Reps K H α ds vs->vs.length=ds.length
 | [],vs,h=>by simp only [Reps] at h;rw [h];rfl
 | d::ds,vs,h=>by
  simp only [Reps] at h
  obtain ⟨v,r,rfl,h1,h2⟩:=h
  simp [Reps.length h2]
theorem Reps.get:∀ {ds:List D}{vs:List V}{i:Nat}{d:D},Reps K H α ds vs->ds[i]?=some d->∃ v,vs[i]?=some v/\aN K H α d v
 | [],_,_,_,_,e=>by simp at e
 | d::ds,vs,i,x,h,e=>by
  simp only [Reps] at h
  obtain ⟨v,r,rfl,h1,h2⟩:=h
  cases i with
  | zero=>simp at e;subst e;exact ⟨v,rfl,h1⟩
  | succ i=>exact Reps.get (i:=i) h2 (by simpa using e)
theorem Reps.getV:∀ {ds:List D}{vs:List V}{i:Nat}{v:V},Reps K H α ds vs->vs[i]?=some v->∃ d,ds[i]?=some d/\aN K H α d v
 | [],vs,_,_,h,e=>by simp only [Reps] at h;subst h;simp at e
 | d::ds,vs,i,x,h,e=>by
  simp only [Reps] at h
  obtain ⟨v,r,rfl,h1,h2⟩:=h
  cases i with
  | zero=>simp at e;subst e;exact ⟨d,rfl,h1⟩
  | succ i=>exact Reps.getV (i:=i) h2 (by simpa using e)
theorem Reps.append:∀ {ds es:List D}{vs ws:List V},Reps K H α ds vs->Reps K H α es ws->Reps K H α (ds++es) (vs++ws)
 | [],_,vs,_,h,g=>by simp only [Reps] at h;subst h;exact g
 | d::ds,_,vs,_,h,g=>by
  simp only [Reps] at h
  obtain ⟨v,r,rfl,h1,h2⟩:=h
  exact Reps.cons h1 (Reps.append h2 g)
theorem Reps.take:∀ {ds:List D}{vs:List V} (n:Nat),Reps K H α ds vs->Reps K H α (ds.take n) (vs.take n)
 | [],vs,n,h=>by simp only [Reps] at h;subst h;simpa using Reps.nil
 | d::ds,vs,n,h=>by
  simp only [Reps] at h
  obtain ⟨v,r,rfl,h1,h2⟩:=h
  cases n with
  | zero=>exact Reps.nil
  | succ n=>exact Reps.cons h1 (Reps.take n h2)
theorem Reps.drop:∀ {ds:List D}{vs:List V} (n:Nat),Reps K H α ds vs->Reps K H α (ds.drop n) (vs.drop n)
 | [],vs,n,h=>by simp only [Reps] at h;subst h;simpa using Reps.nil
 | d::ds,vs,n,h=>by
  cases n with
  | zero=>exact h
  | succ n=>
   simp only [Reps] at h
   obtain ⟨v,r,rfl,h1,h2⟩:=h
   exact Reps.drop n h2
theorem Reps.set {d:D}{v:V} (q:aN K H α d v):∀ {ds:List D}{vs:List V} (n:Nat),Reps K H α ds vs->Reps K H α (ds.set n d) (vs.set n v)
 | [],vs,n,h=>by simp only [Reps] at h;subst h;simpa using Reps.nil
 | e::ds,vs,n,h=>by
  simp only [Reps] at h
  obtain ⟨v',r,rfl,h1,h2⟩:=h
  cases n with
  | zero=>exact Reps.cons q h2
  | succ n=>exact Reps.cons h1 (Reps.set q n h2)
theorem Reps.eraseIdx:∀ {ds:List D}{vs:List V} (n:Nat),Reps K H α ds vs->Reps K H α (ds.eraseIdx n) (vs.eraseIdx n)
 | [],vs,n,h=>by simp only [Reps] at h;subst h;simpa using Reps.nil
 | e::ds,vs,n,h=>by
  simp only [Reps] at h
  obtain ⟨v',r,rfl,h1,h2⟩:=h
  cases n with
  | zero=>exact h2
  | succ n=>exact Reps.cons h1 (Reps.eraseIdx n h2)
theorem Reps.reverse:∀ {ds:List D}{vs:List V},Reps K H α ds vs->Reps K H α ds.reverse vs.reverse
 | [],vs,h=>by simp only [Reps] at h;subst h;exact Reps.nil
 | d::ds,vs,h=>by
  simp only [Reps] at h
  obtain ⟨v,r,rfl,h1,h2⟩:=h
  rw [NG,NG]
  exact Reps.append (Reps.reverse h2) (Reps.cons h1 Reps.nil)
theorem Reps.one {d:D}{vs:List V} (h:Reps K H α [d] vs):∃ v,vs=[v]/\aN K H α d v:=by
 simp only [Reps] at h
 obtain ⟨v,r,rfl,h1,rfl⟩:=h
 exact ⟨v,rfl,h1⟩
theorem Reps.two {d e:D}{vs:List V} (h:Reps K H α [d,e] vs):∃ v u,vs=[v,u]/\aN K H α d v/\aN K H α e u:=by
 simp only [Reps] at h
 obtain ⟨v,r,rfl,h1,u,r',rfl,h2,rfl⟩:=h
 exact ⟨v,u,rfl,h1,h2⟩
theorem Reps.snoc {d:D}{ds:List D}{v:V}{vs:List V} (h:Reps K H α ds vs) (q:aN K H α d v):Reps K H α (ds++[d]) (vs++[v]):=h.append (Reps.cons q Reps.nil)
theorem Reps.ints:∀ {ns:List Int}{vs:List V},Reps K H α (ns.map D.int) vs->vs=ns.map V.int
 | [],vs,h=>by simp only [Nx,Reps] at h;exact h
 | n::ns,vs,h=>by
  simp only [Ny,Reps] at h
  obtain ⟨v,r,rfl,h1,h2⟩:=h
  simp only [aN] at h1
  rw [h1,Reps.ints h2];rfl
theorem iw:∀ (ns:List Int),Reps K H α (ns.map D.int) (ns.map V.int)
 | []=>Reps.nil
 | n::ns=>Reps.cons (by simp only [aN]) (iw ns)
theorem aF {xs:List D}{v:V}:aN K H α (.tup xs) v↔∃ a vs,v=.ref a/\fY K H a vs/\Reps K H α xs vs:=by simp only [aN]
theorem bj {xs:List D}{v:V}:aN K H α (.frz xs) v↔∃ a vs,v=.ref a/\E2 K H a vs/\Reps K H α xs vs:=by simp only [aN]
theorem aP {n:Nat}{v:V}:aN K H α (.obj n) v↔∃ a,v=.ref a/\α[n]?=some a:=by simp only [aN]
theorem aq {n:Int}{v:V}:aN K H α (.int n) v↔v=.int n:=by simp only [aN]
theorem aT {n:Bool}{v:V}:aN K H α (.bl n) v↔v=.bl n:=by simp only [aN]
theorem bu {n:Str}{v:V}:aN K H α (.str n) v↔v=.str n:=by simp only [aN]
theorem bA {v:V}:aN K H α .non v↔v=.non:=by simp only [aN]
end
def tT (K:W.Frag) (w:World) (H:Hp) (α:List Addr):O->Addr->Prop
 | .lst xs,a=>∃ vs,H a=some (.lst vs)/\Reps K H α xs vs
 | .set ks,a=>∃ ps:List KP,ps.map (·.1)=ks/\H a=some (.ext fun h=>d2 w h a ps)/\(∀ p∈ps,p.1∈prs)/\(ps.map (·.1)).Nodup/\∀ p∈ps,fY K H p.2 (p.1.map V.int)
 | .iset ks,a=>∃ ps:List KI,ps.map (·.1)=ks/\H a=some (.ext fun h=>cK w h a ps)/\ks.length<=6
 | .dic,a=>H a=some (.dK [])
 | .exc c,a=>∃ C,W.nsIn K mainGlobals c=some (some (.ref C))/\H a=some (tU a C)
structure gn (K:W.Frag) (w:World) (H:Hp) (α:List Addr) (μ:aw):Prop where
 len:α.length=μ.length
 nd:α.Nodup
 ob:∀ (n:Nat) o a,μ[n]?=some o->α[n]?=some a->tT K w H α o a
section
variable {K:W.Frag}{w:World}{H H':Hp}{α α':List Addr}{μ:aw}
theorem tT.live {o:O}{a:Addr} (h:tT K w H α o a):H a≠none:=by
 cases o with
 | lst xs=>obtain ⟨vs,e,_⟩:=h;rw [e];exact fun z=>by cases z
 | set ks=>obtain ⟨ps,_,e,_⟩:=h;rw [e];exact fun z=>by cases z
 | iset ks=>obtain ⟨ps,_,e,_⟩:=h;rw [e];exact fun z=>by cases z
 | dic=>have e:H a=some (.dK []):=h;rw [e];exact fun z=>by cases z
 | exc c=>obtain ⟨C,_,e⟩:=h;rw [e];exact fun z=>by cases z
theorem tT.mono {o:O}{a:Addr} (h:tT K w H α o a) (e:jv K H H' α α') (ha:H' a=H a):tT K w H' α' o a:=by
 cases o with
 | lst xs=>obtain ⟨vs,q,r⟩:=h;exact ⟨vs,ha.trans q,r.mono e⟩
 | set ks=>obtain ⟨ps,h1,q,h2,h3,h4⟩:=h;exact ⟨ps,h1,ha.trans q,h2,h3,fun p hp=>e.tup _ _ (h4 p hp)⟩
 | iset ks=>obtain ⟨ps,h1,q,h2⟩:=h;exact ⟨ps,h1,ha.trans q,h2⟩
 | dic=>exact ha.trans h
 | exc c=>obtain ⟨C,h1,q⟩:=h;exact ⟨C,h1,ha.trans q⟩
theorem gn.at (S:gn K w H α μ) {n:Nat}{o:O} (e:μ[n]?=some o):∃ a,α[n]?=some a/\tT K w H α o a:=by
 have hn:n<μ.length:=(L8.mp e).1
 have hn':n<α.length:=by rw [S.len];exact hn
 exact ⟨α[n],Pq hn',S.ob n o _ e (Pq hn')⟩
theorem gn.live (S:gn K w H α μ) {a:Addr} (h:a∈α):H a≠none:=by
 obtain ⟨n,hn,e⟩:=Px h
 have hm:n<μ.length:=by rw [<- S.len];exact hn
 exact (S.ob n _ a (Pq hm) (by rw [<- e];exact Pq hn)).live
theorem gn.fresh (S:gn K w H α μ) {p:Addr} (h:H p=none):p ∉ α:=fun z=>S.live z h
theorem gn.same (S:gn K w H α μ) (e:jv K H H' α α) (h:∀ a,H a≠none->H' a=H a):gn K w H' α μ:=
 ⟨S.len,S.nd,fun n o a h1 h2=>(S.ob n o a h1 h2).mono e (h a (S.ob n o a h1 h2).live)⟩
theorem bM {p:Addr}{o:HO} (h:H p=none):jv K H (cn H p o) α α:=by
 refine ⟨fun a xs q=>?_,fun a xs q=>?_,fun _ _ z=>z⟩
 ·rcases q with (q | ⟨x, q⟩) | q
  ·exact .inl (.inl (by rw [br (bJ q h)];exact q))
  ·exact .inl (.inr ⟨x,by rw [br (bJ q h)];exact q⟩)
  ·exact .inr q
 ·rcases q with ⟨x, q⟩ | q
  ·exact .inl ⟨x,by rw [br (bJ q h)];exact q⟩
  ·exact .inr q
theorem gD {p:Addr}{vs:List V}{o:HO} (h:H p=some (.lst vs)):jv K H (cn H p o) α α:=by
 refine ⟨fun a xs q=>?_,fun a xs q=>?_,fun _ _ z=>z⟩
 ·rcases q with (q | ⟨x, q⟩) | q
  ·exact .inl (.inl (by rw [br (Al q h (by intro z;cases z))];exact q))
  ·exact .inl (.inr ⟨x,by rw [br (Al q h (by intro z;cases z))];exact q⟩)
  ·exact .inr q
 ·rcases q with ⟨x, q⟩ | q
  ·exact .inl ⟨x,by rw [br (Al q h (by intro z;cases z))];exact q⟩
  ·exact .inr q
theorem iM (β:List Addr):jv K H H α (α++β):=⟨fun _ _ h=>h,fun _ _ h=>h,fun n a h=>by rw [MR (L8.mp h).1];exact h⟩
theorem gn.tuple (S:gn K w H α μ) {p:Addr}{vs:List V} (h:H p=none):gn K w (cn H p (.tup vs)) α μ:=
 S.same (bM h) fun a ha=>br fun z=>ha (by rw [z];exact h)
theorem gn.more (S:gn K w H α μ) {p:Addr}{o:O}{ho:HO} (h:H p=none) (q:tT K w (cn H p ho) (α++[p]) o p):gn K w (cn H p ho) (α++[p]) (μ++[o]):=by
 refine ⟨by simp [S.len],?_,fun n o' a h1 h2=>?_⟩
 ·rw [OM]
  exact ⟨S.nd,by simp,fun x hx y hy z=>by simp at hy;subst hy;subst z;exact S.fresh h hx⟩
 ·by_cases hn : n < μ.length
  ·rw [MR hn] at h1
   rw [MR (by rw [S.len];exact hn)] at h2
   exact (S.ob n o' a h1 h2).mono ((bM h).trans (iM [p])) (br fun z=>(S.ob n o' a h1 h2).live (by rw [z];exact h))
  ·have hn':n=μ.length:=by
    have:=(L8.mp h1).1
    simp at this;omega
   subst hn'
   rw [MP (Mt _)] at h1
   rw [MP (by rw [S.len];exact Mt _),S.len] at h2
   simp at h1 h2
   subst h1;subst h2
   exact q
theorem gn.put (S:gn K w H α μ) {n:Nat}{a:Addr}{xs ys:List D}{us vs:List V} (h1:μ[n]?=some (.lst xs)) (h2:α[n]?=some a) (h3:H a=some (.lst us)) (q:Reps K H α ys vs):gn K w (cn H a (.lst vs)) α (μ.set n (.lst ys)):=by
 have e:=gD (K:=K) (α:=α) (o:=.lst vs) h3
 refine ⟨by simp [S.len],S.nd,fun m o b g1 g2=>?_⟩
 have hn:n<μ.length:=(L8.mp h1).1
 by_cases hm:m=n
 ·subst hm
  rw [Ma hn] at g1
  cases g1
  rw [h2] at g2;cases g2
  exact ⟨vs,bU,q.mono e⟩
 ·rw [Mb (fun z => hm z.symm)] at g1
  refine (S.ob m o b g1 g2).mono e (br fun z=>hm ?_)
  subst z
  have i1:=(L8.mp g2)
  have i2:=(L8.mp h2)
  obtain ⟨l1,e1⟩:=i1
  obtain ⟨l2,e2⟩:=i2
  exact (L9 S.nd).mp (e1.trans e2.symm)
end
structure cF (K:W.Frag) (H:Hp) (α:List Addr) (ρ:Ro) (σ:St):Prop where
 len:ρ.length=σ.length
 at':∀ (i:Nat) d,ρ[i]?=some (some d)->∃ v,σ[i]?=some (some v)/\aN K H α d v
theorem cF.mono {K:W.Frag}{H H':Hp}{α α':List Addr}{ρ:Ro}{σ:St} (e:jv K H H' α α') (R:cF K H α ρ σ):cF K H' α' ρ σ:=
 ⟨R.len,fun i d h=>let ⟨v,h1,h2⟩:=R.at' i d h;⟨v,h1,h2.mono e⟩⟩
theorem cF.set {K:W.Frag}{H:Hp}{α:List Addr}{ρ:Ro}{σ:St}{d:D}{v:V} (R:cF K H α ρ σ) (i:Nat) (q:aN K H α d v):cF K H α (ρ.set i (some d)) (σ.set i (some v)):=by
 refine ⟨by simp [R.len],fun j d' h=>?_⟩
 by_cases hj:j=i
 ·subst hj
  have hl:j<ρ.length:=by have:=(L8.mp h).1;simpa using this
  rw [Ma hl] at h
  cases h
  exact ⟨v,by rw [Ma (by rw [<- R.len];exact hl)],q⟩
 ·rw [Mb (fun z => hj z.symm)] at h ⊢
  exact R.at' j d' h
structure DX where
 cls:Str
 args:List D
inductive aj (β:Type) where
 | ok (a:β) (μ:aw) | exc (x:DX) (μ:aw) | bad
def aj.bind {β γ:Type} (o:aj β) (g:β->aw->aj γ):aj γ:=match o with
 | .ok a μ=>g a μ
 | .exc x μ=>.exc x μ
 | .bad=>.bad
@[simp] theorem aa {β γ:Type}{a:β}{μ:aw}{g:β->aw->aj γ}:(aj.ok a μ).bind g=g a μ:=Py (Pz _)
inductive SO where
 | next (ρ:Ro) (μ:aw) | ret (d:D) (μ:aw) | brk (ρ:Ro) (μ:aw) | cnt (ρ:Ro) (μ:aw) | exc (x:DX) (μ:aw) | bad
def aj.bindS {β:Type} (o:aj β) (g:β->aw->SO):SO:=match o with
 | .ok a μ=>g a μ
 | .exc x μ=>.exc x μ
 | .bad=>.bad
@[simp] theorem ae {β:Type}{a:β}{μ:aw}{g:β->aw->SO}:(aj.ok a μ).bindS g=g a μ:=Py (Pz _)
def SO.bind (o:SO) (g:Ro->aw->SO):SO:=match o with
 | .next ρ μ=>g ρ μ
 | o=>o
structure Pa where
 K:W.Frag
 w:World
 xw:DX->aw->Hp->List Addr->Prop
abbrev Pa.S (p:Pa):=gn p.K p.w
abbrev Pa.X (p:Pa):=jv p.K
abbrev Pa.R (p:Pa):=aN p.K
abbrev Pa.Rs (p:Pa):=Reps p.K
def az {β:Type} (p:Pa) (H:Hp) (α:List Addr) (o:aj β) (R:β->aw->Hp->List Addr->Prop):Prop:=match o with
 | .ok a μ'=>∀ H' α',p.X H H' α α'->p.S H' α' μ'->R a μ' H' α'
 | .exc x μ'=>∀ H' α',p.X H H' α α'->p.S H' α' μ'->p.xw x μ' H' α'
 | .bad=>False
def dt (p:Pa) (H:Hp) (α:List Addr) (o:SO) (D:mv):Prop:=match o with
 | .next ρ' μ'=>∀ H' α' σ',p.X H H' α α'->p.S H' α' μ'->cF p.K H' α' ρ' σ'->D.nx σ' H'
 | .brk ρ' μ'=>∀ H' α' σ',p.X H H' α α'->p.S H' α' μ'->cF p.K H' α' ρ' σ'->D.bk σ' H'
 | .cnt ρ' μ'=>∀ H' α' σ',p.X H H' α α'->p.S H' α' μ'->cF p.K H' α' ρ' σ'->D.ct σ' H'
 | .ret d μ'=>∀ H' α' v,p.X H H' α α'->p.S H' α' μ'->p.R H' α' d v->D.rt v H'
 | .exc x μ'=>∀ H' α',p.X H H' α α'->p.S H' α' μ'->p.xw x μ' H' α'
 | .bad=>False
section
variable {p:Pa}{H H1:Hp}{α α1:List Addr}{β γ:Type}
theorem az.imp {o:aj β}{R R':β->aw->Hp->List Addr->Prop} (h:az p H α o R) (k:∀ a μ' H' α',p.X H H' α α'->p.S H' α' μ'->R a μ' H' α'->R' a μ' H' α'):az p H α o R':=by
 cases o with
 | ok a μ=>exact fun H' α' e s=>k a μ H' α' e s (h H' α' e s)
 | exc x μ=>exact h
 | bad=>exact h
theorem az.from {o:aj β}{R:β->aw->Hp->List Addr->Prop} (e:p.X H H1 α α1) (h:az p H α o R):az p H1 α1 o R:=by
 cases o with
 | ok a μ=>exact fun H' α' e' s=>h H' α' (e.trans e') s
 | exc x μ=>exact fun H' α' e' s=>h H' α' (e.trans e') s
 | bad=>exact h
theorem az.bind {o:aj β}{g:β->aw->aj γ}{R:γ->aw->Hp->List Addr->Prop} (h:az p H α (o.bind g) R):az p H α o (fun a μ1 H1 α1=>az p H1 α1 (g a μ1) R):=by
 cases o with
 | ok a μ=>exact fun H' α' e s=>az.from e h
 | exc x μ=>exact h
 | bad=>exact h
theorem az.now {a:β}{μ:aw}{R:β->aw->Hp->List Addr->Prop} (h:az p H α (.ok a μ) R) (s:p.S H α μ):R a μ H α:=h H α jv.refl s
theorem dt.from {o:SO}{D:mv} (e:p.X H H1 α α1) (h:dt p H α o D):dt p H1 α1 o D:=by
 cases o with
 | next ρ μ=>exact fun H' α' σ' e' s r=>h H' α' σ' (e.trans e') s r
 | brk ρ μ=>exact fun H' α' σ' e' s r=>h H' α' σ' (e.trans e') s r
 | cnt ρ μ=>exact fun H' α' σ' e' s r=>h H' α' σ' (e.trans e') s r
 | ret d μ=>exact fun H' α' v e' s r=>h H' α' v (e.trans e') s r
 | exc x μ=>exact fun H' α' e' s=>h H' α' (e.trans e') s
 | bad=>exact h
theorem az.bindS {o:aj β}{g:β->aw->SO}{D:mv} (h:dt p H α (o.bindS g) D):az p H α o (fun a μ1 H1 α1=>dt p H1 α1 (g a μ1) D):=by
 cases o with
 | ok a μ=>exact fun H' α' e s=>dt.from e h
 | exc x μ=>exact h
 | bad=>exact h
end
abbrev ME:=Ro->aw->aj D
abbrev MT:=Ro->aw->aj Bool
abbrev MA:=Ro->aw->aj (List D)
abbrev MS:=Ro->aw->SO
abbrev MG:=D->Ro->aw->aj Ro
abbrev RV (p:Pa) (Q:VK):D->aw->Hp->List Addr->Prop:=fun d _ H' α'=>∀ v,p.R H' α' d v->Q v H'
def tD (p:Pa) (f:ME):TE:=fun σ H Q=>∃ α ρ μ,p.S H α μ/\cF p.K H α ρ σ/\az p H α (f ρ μ) (RV p Q)
def gm (p:Pa) (f:MT):TT:=fun σ H Q=>∃ α ρ μ,p.S H α μ/\cF p.K H α ρ σ/\az p H α (f ρ μ) (fun b _ H' _=>Q b H')
def lg (p:Pa) (f:MA):TA:=fun σ H Q=>∃ α ρ μ,p.S H α μ/\cF p.K H α ρ σ/\az p H α (f ρ μ) (fun ds _ H' α'=>∀ vs,p.Rs H' α' ds vs->Q vs H')
def fX (p:Pa) (f:MS):TS:=fun D σ H=>∃ α ρ μ,p.S H α μ/\cF p.K H α ρ σ/\dt p H α (f ρ μ) D
def ng (p:Pa) (g:MG):TG:=fun v σ H Q=>∃ α ρ μ d,p.S H α μ/\cF p.K H α ρ σ/\p.R H α d v/\az p H α (g d ρ μ) (fun ρ' _ H' α'=>∀ σ',cF p.K H' α' ρ' σ'->Q σ' H')
theorem PE.weak {X:Cx}{e:Expr}{t t':TE} (h:PE X e t) (k:∀ σ H Q,t' σ H Q->t σ H Q):PE X e t':=fun pins s σ H Q I q=>h pins s σ H Q I (k σ H Q q)
theorem PT.weak {X:Cx}{e:Expr}{t t':TT} (h:PT X e t) (k:∀ σ H Q,t' σ H Q->t σ H Q):PT X e t':=fun pins s σ H Q I q=>h pins s σ H Q I (k σ H Q q)
theorem PW.weak {X:Cx}{e:Expr}{t t':TT} (h:PW X e t) (k:∀ σ H Q,t' σ H Q->t σ H Q):PW X e t':=fun wh pins s σ H Q I q=>h wh pins s σ H Q I (k σ H Q q)
theorem PA.weak {X:Cx}{e:List Expr}{t t':TA} (h:PA X e t) (k:∀ σ H Q,t' σ H Q->t σ H Q):PA X e t':=fun pos pins s σ H Q I q=>h pos pins s σ H Q I (k σ H Q q)
theorem PS.weak {X:Cx}{e:Stmt}{t t':TS} (h:PS X e t) (k:∀ D σ H,t' D σ H->t D σ H):PS X e t':=fun pins s σ H Q I q=>h pins s σ H Q I (k Q σ H q)
theorem iA.weak {X:Cx}{e:List Stmt}{t t':TS} (h:iA X e t) (k:∀ D σ H,t' D σ H->t D σ H):iA X e t':=fun pins s σ H Q I q=>h pins s σ H Q I (k Q σ H q)
def ai (i:Nat):ME:=fun ρ μ=>match ρ[i]? with
 | some (some d)=>.ok d μ
 | _=>.bad
def cC (d:D):ME:=fun _ μ=>.ok d μ
def aC (op:D->D->aw->aj D) (fa fb:ME):ME:=fun ρ μ=>(fa ρ μ).bind fun a μ1=>(fb ρ μ1).bind fun b μ2=>op a b μ2
def mh (op:D->aw->aj D) (fa:ME):ME:=fun ρ μ=>(fa ρ μ).bind fun a μ1=>op a μ1
def aB:MA:=fun _ μ=>.ok [] μ
def ag (fa:ME) (fr:MA):MA:=fun ρ μ=>(fa ρ μ).bind fun a μ1=>(fr ρ μ1).bind fun r μ2=>.ok (a::r) μ2
def aE (f:List D->aw->aj D) (fa:MA):ME:=fun ρ μ=>(fa ρ μ).bind f
def ck (fa:MA):ME:=aE (fun ds μ=>if ds.length<=sizeLine then .ok (.tup ds) μ else .bad) fa
def fC (fa:MA):ME:=aE (fun ds μ=>if ds.length<=sizeLine then .ok (.obj μ.length) (μ++[.lst ds]) else .bad) fa
def xg:D->aw->aj Bool
 | .bl b,μ=>.ok b μ
 | _,_=>.bad
def nj (f:ME):MT:=fun ρ μ=>(f ρ μ).bind xg
def qK (f g:MT):MT:=fun ρ μ=>(f ρ μ).bind fun b μ1=>if b=true then g ρ μ1 else .ok false μ1
def qi (f g:MT):MT:=fun ρ μ=>(f ρ μ).bind fun b μ1=>if b=true then .ok true μ1 else g ρ μ1
def jj (f:MT):MT:=fun ρ μ=>(f ρ μ).bind fun b μ1=>.ok (!b) μ1
def g5 (f g:ME):ME:=fun ρ μ=>(f ρ μ).bind fun a μ1=>(xg a μ1).bind fun b μ2=>if b=true then g ρ μ2 else .ok (.bl false) μ2
def ud (f:ME):ME:=fun ρ μ=>(f ρ μ).bind fun a μ1=>(xg a μ1).bind fun b μ2=>.ok (.bl (!b)) μ2
def nK (p:Pa) (op:D->D->aw->aj D) (r:R2):Prop:=∀ a b v y H α μ Q,p.S H α μ->p.R H α a v->p.R H α b y->az p H α (op a b μ) (RV p Q)->r v y H Q
def Lj (p:Pa) (op:D->aw->aj D) (r:V->Hp->VK->Prop):Prop:=∀ a v H α μ Q,p.S H α μ->p.R H α a v->az p H α (op a μ) (RV p Q)->r v H Q
def tH (p:Pa) (f:List D->aw->aj D) (r:List V->Hp->VK->Prop):Prop:=∀ ds vs H α μ Q,p.S H α μ->p.Rs H α ds vs->az p H α (f ds μ) (RV p Q)->r vs H Q
section
variable {p:Pa}
theorem kT {d:D}{μ:aw}{H:Hp}{α:List Addr}{R:Bool->aw->Hp->List Addr->Prop}{v:V} (h:az p H α (xg d μ) R) (r:p.R H α d v) (s:p.S H α μ):∃ b,d=.bl b/\v=.bl b/\R b μ H α:=by
 cases d with
 | bl b=>exact ⟨b,rfl,aT.mp r,h.now s⟩
 | non=>exact h.elim
 | int i=>exact h.elim
 | str x=>exact h.elim
 | tup xs=>exact h.elim
 | frz xs=>exact h.elim
 | obj n=>exact h.elim
variable {X:Cx}{a b c:Expr}{es:List Expr}{fa fb fc:ME}{pos:Pos}
theorem Gx {i:Nat}{x:Str} (h:PE X (.Name x pos) (IJ i)):PE X (.Name x pos) (tD p (ai i)):=h.weak fun σ H Q ⟨α,ρ,μ,S,R,P⟩=>by
 unfold ai at P
 cases e:ρ[i]? with
 | none=>rw [e] at P;exact P.elim
 | some o=>
  rw [e] at P
  cases o with
  | none=>exact P.elim
  | some d=>
   obtain ⟨v,h1,h2⟩:=R.at' i d e
   exact ⟨v,h1,P.now S v h2⟩
theorem zQ {e:Expr}{v:V}{d:D} (h:PE X e (tC v)) (r:∀ H α,p.R H α d v):PE X e (tD p (cC d)):=h.weak fun σ H Q ⟨α,ρ,μ,S,R,P⟩=>P.now S v (r H α)
theorem mw {op:Operator}{o:D->D->aw->aj D}{r:R2} (ho:ig X (binaryOp op) r) (hd:nK p o r) (ha:PE X a (tD p fa)) (hb:PE X b (tD p fb)):PE X (.BinOp a op b pos) (tD p (aC o fa fb)):=
 (JO ho ha hb).weak fun σ H Q ⟨α,ρ,μ,S,R,P⟩=>⟨α,ρ,μ,S,R,P.bind.imp fun x μ1 H1 α1 X1 S1 P1 v rv=>⟨α1,ρ,μ1,S1,R.mono X1,P1.bind.imp fun y μ2 H2 α2 X2 S2 P2 u ru=>hd x y v u H2 α2 μ2 Q S2 (rv.mono X2) ru P2⟩⟩
theorem GD {op:CmpOp}{o:D->D->aw->aj D}{r:R2} (ho:ig X (compareOp op) r) (hd:nK p o r) (ha:PE X a (tD p fa)) (hb:PE X b (tD p fb)) (hm:behindInMarks op b=false):PE X (.Compare a [op] [b] pos) (tD p (aC o fa fb)):=
 (D0 ho ha hb hm).weak fun σ H Q ⟨α,ρ,μ,S,R,P⟩=>⟨α,ρ,μ,S,R,P.bind.imp fun x μ1 H1 α1 X1 S1 P1 v rv=>⟨α1,ρ,μ1,S1,R.mono X1,P1.bind.imp fun y μ2 H2 α2 X2 S2 P2 u ru=>hd x y v u H2 α2 μ2 Q S2 (rv.mono X2) ru P2⟩⟩
theorem Ge {op:CmpOp}{o:D->D->aw->aj D}{r:R2} (ho:ig X (compareOp op) r) (hd:nK p o r) (ha:PE X a (tD p fa)) (hb:PE X b (tD p fb)) (hm:behindInMarks op b=false):PT X (.Compare a [op] [b] pos) (gm p (nj (aC o fa fb))):=
 (DM ho ha hb hm).weak fun σ H Q ⟨α, ρ, μ, S, R, P⟩ => ⟨α, ρ, μ, S, R, P.bind.bind.imp fun x μ1 H1 α1 X1 S1 P1 v rv => ⟨α1, ρ, μ1, S1, R.mono X1, P1.bind.imp fun y μ2 H2 α2 X2 S2 P2 u ru =>
  hd x y v u H2 α2 μ2 _ S2 (rv.mono X2) ru (P2.imp fun d μ3 H3 α3 X3 S3 P3 z rz=>by
   obtain ⟨k,_,e,q⟩:=kT P3 rz S3
   exact ⟨k,e,q⟩)⟩⟩
theorem JD {op:UnaryOp}{o:D->aw->aj D}{r:V->Hp->VK->Prop} (ho:Ki X (unaryOp op) r) (hd:Lj p o r) (ha:PE X a (tD p fa)):PE X (.UnaryOp op a pos) (tD p (mh o fa)):=
 (JN ho ha).weak fun σ H Q ⟨α,ρ,μ,S,R,P⟩=>⟨α,ρ,μ,S,R,P.bind.imp fun x μ1 H1 α1 X1 S1 P1 v rv=>hd x v H1 α1 μ1 Q S1 rv P1⟩
theorem GF:PA X [] (lg p aB):=oR.weak fun σ H Q ⟨α,ρ,μ,S,R,P⟩=>P.now S [] Reps.nil
theorem DA {fr:MA} (ha:PE X a (tD p fa)) (hr:PA X es (lg p fr)) (hs:starEach (a::es) X.env=(false,eval a X.env)::starEach es X.env):PA X (a::es) (lg p (ag fa fr)):=
 (ik ha hr hs).weak fun σ H Q ⟨α,ρ,μ,S,R,P⟩=>⟨α,ρ,μ,S,R,P.bind.imp fun x μ1 H1 α1 X1 S1 P1 v rv=>⟨α1,ρ,μ1,S1,R.mono X1,P1.bind.imp fun y μ2 H2 α2 X2 S2 P2 us ru=>P2.now S2 _ (Reps.cons (rv.mono X2) ru)⟩⟩
theorem Gy {k:Nat}{fr:MA} (h:PA X es (lg p fr)):PE X (.Tuple es k pos) (tD p (ck fr)):=
 (GZ h).weak fun σ H Q ⟨α, ρ, μ, S, R, P⟩ => ⟨α, ρ, μ, S, R, P.bind.imp fun ds μ1 H1 α1 X1 S1 P1 vs rv => by
  by_cases hl:ds.length<=sizeLine
  ·rw [LL hl] at P1
   refine ⟨by rw [rv.length];exact hl,fun q hq=>?_⟩
   exact P1 _ _ (bM hq) (S1.tuple hq) _ (aF.mpr ⟨q,vs,rfl,fY.of bU,rv.mono (bM hq)⟩)
  ·rw [LM hl] at P1
   exact P1.elim⟩
theorem cA {H:Hp}{α:List Addr}{μ:aw}{ds:List D}{vs:List V}{q:Addr} (S:p.S H α μ) (hq:H q=none) (rv:p.Rs H α ds vs) :
  p.X H (cn H q (.lst vs)) α (α++[q])/\p.S (cn H q (.lst vs)) (α++[q]) (μ++[.lst ds])/\p.R (cn H q (.lst vs)) (α++[q]) (.obj μ.length) (.ref q):=by
 have X1:p.X H (cn H q (.lst vs)) α (α++[q]):=(bM hq).trans (iM [q])
 exact ⟨X1,S.more hq ⟨vs,bU,rv.mono X1⟩,aP.mpr ⟨q,rfl,by rw [<- S.len];simp⟩⟩
theorem GA {fr:MA} (h:PA X es (lg p fr)):PE X (.List es pos) (tD p (fC fr)):=
 (G3 h).weak fun σ H Q ⟨α, ρ, μ, S, R, P⟩ => ⟨α, ρ, μ, S, R, P.bind.imp fun ds μ1 H1 α1 X1 S1 P1 vs rv => by
  by_cases hl:ds.length<=sizeLine
  ·rw [LL hl] at P1
   refine ⟨by rw [rv.length];exact hl,fun q hq=>?_⟩
   obtain ⟨x1,x2,x3⟩:=cA S1 hq rv
   exact P1 _ _ x1 x2 _ x3
  ·rw [LM hl] at P1
   exact P1.elim⟩
variable {ft gt:MT}{rest:List Expr}
theorem Gc (ha:PT X a (gm p ft)) (hb:PW X (.BoolOp .And (b::rest) pos) (gm p gt)):PW X (.BoolOp .And (a::b::rest) pos) (gm p (qK ft gt)):=
 (GL ha hb).weak fun σ H Q ⟨α, ρ, μ, S, R, P⟩ => ⟨α, ρ, μ, S, R, P.bind.imp fun k μ1 H1 α1 X1 S1 P1 => by
  cases k with
  | true=>rw [LL rfl] at P1 ⊢;exact ⟨α1,ρ,μ1,S1,R.mono X1,P1⟩
  | false=>rw [LM Mm] at P1 ⊢;exact P1.now S1⟩
theorem JA (ha:PT X a (gm p ft)) (hb:PW X (.BoolOp .Or (b::rest) pos) (gm p gt)):PW X (.BoolOp .Or (a::b::rest) pos) (gm p (qi ft gt)):=
 (JL ha hb).weak fun σ H Q ⟨α, ρ, μ, S, R, P⟩ => ⟨α, ρ, μ, S, R, P.bind.imp fun k μ1 H1 α1 X1 S1 P1 => by
  cases k with
  | true=>rw [LL rfl] at P1 ⊢;exact P1.now S1
  | false=>rw [LM Mm] at P1 ⊢;exact ⟨α1,ρ,μ1,S1,R.mono X1,P1⟩⟩
theorem Gd (ha:PT X a (gm p ft)):PT X (.UnaryOp .Not a pos) (gm p (jj ft)):=
 (GM ha).weak fun σ H Q ⟨α,ρ,μ,S,R,P⟩=>⟨α,ρ,μ,S,R,P.bind.imp fun k μ1 H1 α1 X1 S1 P1=>P1.now S1⟩
theorem GE (ha:PE X a (tD p fa)) (hb:PE X (.BoolOp .And (b::rest) pos) (tD p fb)):PE X (.BoolOp .And (a::b::rest) pos) (tD p (g5 fa fb)):=
 (G5 ha hb).weak fun σ H Q ⟨α, ρ, μ, S, R, P⟩ => ⟨α, ρ, μ, S, R, P.bind.imp fun d μ1 H1 α1 X1 S1 P1 v rv => by
  obtain ⟨k,_,e,q⟩:=kT P1.bind rv S1
  refine ⟨k,e,?_⟩
  cases k with
  | true=>rw [LL rfl] at q ⊢;exact ⟨α1,ρ,μ1,S1,R.mono X1,q⟩
  | false=>rw [LM Mm] at q ⊢;exact q.now S1 _ (aT.mpr rfl)⟩
theorem Gz (ha:PE X a (tD p fa)):PE X (.UnaryOp .Not a pos) (tD p (ud fa)):=
 (G2 ha).weak fun σ H Q ⟨α, ρ, μ, S, R, P⟩ => ⟨α, ρ, μ, S, R, P.bind.imp fun d μ1 H1 α1 X1 S1 P1 v rv => by
  obtain ⟨k,_,e,q⟩:=kT P1.bind rv S1
  exact ⟨k,e,q.now S1 _ (aT.mpr rfl)⟩⟩
theorem Bt {id:String}{x:Str}{px:Pos}{f:List D->aw->aj D}{fr:MA}{r:List V->Hp->VK->Prop} (hc:cj X (.builtin id) r) (hd:tH p f r) (hg:Gl X x) (hm:X.mg x=none) (hv:bootBuiltins x=some (.builtin id)) (ha:PA X (a::es) (lg p fr))
  (hn:x ≠ "__name__") (hdb:(x == ("__debug__" : Str))=false) (he:starEach (a::es) X.env=(false,eval a X.env)::starEach es X.env) (hpl:(backTo pos (starEach es X.env)).any (·.1)=false):PE X (.Call (.Name x px) (a::es) [] pos) (tD p (aE f fr)):=
 (lO hc hg hm hv ha hn hdb he hpl).weak fun σ H Q ⟨α,ρ,μ,S,R,P⟩=>⟨α,ρ,μ,S,R,P.bind.imp fun ds μ1 H1 α1 X1 S1 P1 vs rv=>hd ds vs H1 α1 μ1 Q S1 rv P1⟩
theorem yG {T:String}{x:Str}{px:Pos}{f:List D->aw->aj D}{fr:MA}{r:List V->Hp->VK->Prop} (hc:cj X (.type T) r) (hd:tH p f r) (hg:Gl X x) (hm:X.mg x=none) (hv:bootBuiltins x=some (.type T)) (ha:PA X (a::es) (lg p fr))
  (hn:x ≠ "__name__") (hdb:(x == ("__debug__" : Str))=false) (he:starEach (a::es) X.env=(false,eval a X.env)::starEach es X.env) (hpl:(backTo pos (starEach es X.env)).any (·.1)=false):PE X (.Call (.Name x px) (a::es) [] pos) (tD p (aE f fr)):=
 (qX hc hg hm hv ha hn hdb he hpl).weak fun σ H Q ⟨α,ρ,μ,S,R,P⟩=>⟨α,ρ,μ,S,R,P.bind.imp fun ds μ1 H1 α1 X1 S1 P1 vs rv=>hd ds vs H1 α1 μ1 Q S1 rv P1⟩
end
def bZ (f:ME):MS:=fun ρ μ=>(f ρ μ).bindS fun d μ'=>.ret d μ'
def f6:MS:=fun ρ μ=>.next ρ μ
def bB (f g:MS):MS:=fun ρ μ=>(f ρ μ).bind g
def tJ (c:MT) (f g:MS):MS:=fun ρ μ=>(c ρ μ).bindS fun b μ1=>if b=true then f ρ μ1 else g ρ μ1
def bI (f:ME) (g:MG):MS:=fun ρ μ=>(f ρ μ).bindS fun d μ1=>(g d ρ μ1).bindS fun ρ' μ2=>.next ρ' μ2
def oH (f:ME):MS:=fun ρ μ=>(f ρ μ).bindS fun _ μ1=>.next ρ μ1
def zS (i:Nat) (op:D->D->aw->aj D) (f:ME):MS:=fun ρ μ=>(ai i ρ μ).bindS fun a μ0=>(f ρ μ0).bindS fun b μ1=>(op a b μ1).bindS fun c μ2=>.next (ρ.set i (some c)) μ2
def ak (i:Nat):MG:=fun d ρ μ=>.ok (ρ.set i (some d)) μ
abbrev CK:=List D->Ro->aw->aj Ro
def dr:CK:=fun ds ρ μ=>match ds with
 | []=>.ok ρ μ
 | _::_=>.bad
def aZ (g:MG) (u:CK):CK:=fun ds ρ μ=>match ds with
 | []=>.bad
 | d::r=>(g d ρ μ).bind fun ρ' μ'=>u r ρ' μ'
def dq (n:Nat) (u:CK):MG:=fun d ρ μ=>match d with
 | .tup xs=>if xs.length=n then u xs ρ μ else .bad
 | _=>.bad
def vL (o i v:D) (μ:aw):aj Unit:=match o,i with
 | .obj n,.int k=>match μ[n]? with
  | some (.lst xs)=>match xc xs.length k with
   | some j=>.ok () (μ.set n (.lst (xs.set j v)))
   | none=>.bad
  | _=>.bad
 | _,_=>.bad
def kz (fo fi:ME):MG:=fun d ρ μ=>(fo ρ μ).bind fun o μ1=>(fi ρ μ1).bind fun i μ2=>(vL o i d μ2).bind fun _ μ3=>.ok ρ μ3
def tM (p:Pa) (g:CK):CH:=fun vs σ H Q=>∃ α ρ μ ds,p.S H α μ/\cF p.K H α ρ σ/\p.Rs H α ds vs/\az p H α (g ds ρ μ) (fun ρ' _ H' α'=>∀ σ',cF p.K H' α' ρ' σ'->Q σ' H')
theorem PG.weak {X:Cx}{e:Expr}{t t':TG} (h:PG X e t) (k:∀ v σ H Q,t' v σ H Q->t v σ H Q):PG X e t':=fun pins s σ H v u Q I r q=>h pins s σ H v u Q I r (k v σ H Q q)
theorem vE.weak {X:Cx}{e:List Expr}{t t':CH} (h:vE X e t) (k:∀ v σ H Q,t' v σ H Q->t v σ H Q):vE X e t':=fun pins s σ H v u Q I r q=>h pins s σ H v u Q I r (k v σ H Q q)
theorem PI.weak {X:Cx}{tg e:Expr}{t t':TI} (h:PI X tg e t) (k:∀ σ H R,t' σ H R->t σ H R):PI X tg e t':=fun pins s σ H Q I q=>h pins s σ H Q I (k σ H Q q)
section
variable {p:Pa}{X:Cx}{a b c e tg:Expr}{es:List Expr}{f:ME}{g:MG}{u:CK}{pos:Pos}{st:Stmt}{sts:List Stmt}{fs gs:MS}{ft:MT}
theorem Gi:iA X [] (fX p f6):=DO.weak fun D σ H ⟨α,ρ,μ,S,R,P⟩=>P H α σ jv.refl S R
theorem Bp {t u:TS}{D:mv}{σ:St}{H:Hp}{α:List Addr}{o:SO}{k:MS} (h:dt p H α (o.bind k) D)
  (hk:∀ D σ H,fX p k D σ H->u D σ H):dt p H α o { D with nx:=u D }:=by
 cases o with
 | next ρ μ=>exact fun H' α' σ' e s r=>hk _ _ _ ⟨α',ρ,μ,s,r,dt.from e h⟩
 | brk ρ μ=>exact h
 | cnt ρ μ=>exact h
 | ret d μ=>exact h
 | exc x μ=>exact h
 | bad=>exact h
theorem Dh (h1:PS X st (fX p fs)) (h2:iA X sts (fX p gs)):iA X (st::sts) (fX p (bB fs gs)):=
 (BD h1 h2).weak fun D σ H ⟨α,ρ,μ,S,R,P⟩=>⟨α,ρ,μ,S,R,Bp (t:=fX p fs) (σ:=σ) P fun _ _ _ z=>z⟩
theorem Gh (h1:PS X st (fX p fs)):iA X [st] (fX p fs):=DN h1
theorem Gg (h:PE X e (tD p f)):PS X (.Return (some e) pos) (fX p (bZ f)):=
 (GP h).weak fun D σ H ⟨α,ρ,μ,S,R,P⟩=>⟨α,ρ,μ,S,R,(az.bindS P).imp fun d μ1 H1 α1 X1 S1 P1 v rv=>P1 H1 α1 v jv.refl S1 rv⟩
theorem JB {A B:List Stmt} (hc:PT X c (gm p ft)) (ha:iA X A (fX p fs)) (hb:iA X B (fX p gs)):PS X (.If c A B pos) (fX p (tJ ft fs gs)):=
 (JM hc ha hb).weak fun D σ H ⟨α, ρ, μ, S, R, P⟩ => ⟨α, ρ, μ, S, R, (az.bindS P).imp fun k μ1 H1 α1 X1 S1 P1 => by
  cases k with
  | true=>rw [LL rfl] at P1 ⊢;exact ⟨α1,ρ,μ1,S1,R.mono X1,P1⟩
  | false=>rw [LM Mm] at P1 ⊢;exact ⟨α1,ρ,μ1,S1,R.mono X1,P1⟩⟩
theorem u7 {D:mv}{σ:St}{H:Hp} (h:fX p (bI f g) D σ H):zP (tD p f) (ng p g) D σ H:=by
 obtain ⟨α,ρ,μ,S,R,P⟩:=h
 exact ⟨α,ρ,μ,S,R,(az.bindS P).imp fun d μ1 H1 α1 X1 S1 P1 v rv=>⟨α1,ρ,μ1,d,S1,R.mono X1,rv,(az.bindS P1).imp fun ρ' μ2 H2 α2 X2 S2 P2 σ' r'=>P2 H2 α2 σ' jv.refl S2 r'⟩⟩
theorem Gm (he:PE X e (tD p f)) (hg:PG X tg (ng p g)) (hs:swapsWithSole [tg] e pos.line X.env=pure false) (hw:swappedStores [tg] e X.env=pure none)
  (h1:(assignEach [tg] X.env).map (·.2)=[assign tg X.env]):PS X (.Assign [tg] e pos) (fX p (bI f g)):=(GS he hg hs hw h1).weak fun D σ H h=>u7 h
theorem pP {i:Nat}{v:V}{σ:St}{H:Hp}{Q:St->Hp->Prop} (h:ng p (ak i) v σ H Q):t5 i v σ H Q:=by
 obtain ⟨α,ρ,μ,d,S,R,r,P⟩:=h
 exact P.now S _ (R.set i r)
theorem Du {i:Nat}{x:Str} (hN:X.N.Nodup) (hi:X.N[i]?=some x) (hx:ya X.env.scope x) (hf:X.fn x=true\/X.env.scope.names.lookup x=some .local):PG X (.Name x pos) (ng p (ak i)):=
 (DU hN hi hx hf).weak fun v σ H Q h=>pP h
theorem Gf {i:Nat}{x:Str}{pos':Pos} (hN:X.N.Nodup) (hi:X.N[i]?=some x) (hx:ya X.env.scope x) (he:PE X e (tD p f)) (hs:swapsWith e (some (.Name x pos')) pos.line X.env=pure false) (hf:X.fn x=true\/X.env.scope.names.lookup x=some .local) :
  PS X (.Assign [.Name x pos'] e pos) (fX p (bI f (ak i))):=(GO hN hi hx he hs hf).weak fun D σ H h=>by
 obtain ⟨α,ρ,μ,S,R,P⟩:=u7 h
 exact ⟨α,ρ,μ,S,R,P.imp fun d μ1 H1 α1 X1 S1 P1 v rv=>pP (P1 v rv)⟩
theorem Dg (he:PE X e (tD p f)) (hs:swapsWith e none pos.line X.env=pure false):PS X (.Expr e pos) (fX p (oH f)):=
 (DQ he hs).weak fun D σ H ⟨α,ρ,μ,S,R,P⟩=>⟨α,ρ,μ,S,R,(az.bindS P).imp fun d μ1 H1 α1 X1 S1 P1 v rv=>P1 H1 α1 σ jv.refl S1 (R.mono X1)⟩
theorem Dt:vE X [] (tM p dr):=DT.weak fun vs σ H Q ⟨α,ρ,μ,ds,S,R,r,P⟩=>by
 cases ds with
 | nil=>simp only [Reps] at r;exact ⟨r,P.now S σ R⟩
 | cons d ds=>exact P.elim
theorem Bl (h1:PG X e (ng p g)) (h2:vE X es (tM p u)) (hs:(assignEach (e::es) X.env).map (·.2)=assign e X.env::(assignEach es X.env).map (·.2)):vE X (e::es) (tM p (aZ g u)):=
 (BH h1 h2 hs).weak fun vs σ H Q ⟨α, ρ, μ, ds, S, R, r, P⟩ => by
  cases ds with
  | nil=>exact P.elim
  | cons d ds=>
   simp only [Reps] at r
   obtain ⟨v,vr,rfl,r1,r2⟩:=r
   refine ⟨v,vr,rfl,α,ρ,μ,d,S,R,r1,?_⟩
   exact (az.bind (o:=g d ρ μ) P).imp fun ρ' μ1 H1 α1 X1 S1 P1 σ' r'=>⟨α1,ρ',μ1,ds,S1,r',r2.mono X1,P1⟩
theorem Gv {k n:Nat} (hK:X.K=p.K) (hc:X.calm=true) (h:vE X es (tM p u)) (hn:(assignEach es X.env).length=n) (hst:(assignEach es X.env).findIdx? (·.1)=none):PG X (.Tuple es k pos) (ng p (dq n u)):=
 (GV hc h hn hst).weak fun v σ H Q ⟨α, ρ, μ, d, S, R, r, P⟩ => by
  cases d with
  | tup xs=>
   obtain ⟨a,vs,rfl,h1,h2⟩:=aF.mp r
   have P':az p H α (if xs.length=n then u xs ρ μ else .bad) _:=P
   by_cases hl:xs.length=n
   ·rw [LL hl] at P'
    exact ⟨a,vs,rfl,by rw [hK];exact h1,by rw [h2.length];exact hl,α,ρ,μ,xs,S,R,h2,P'⟩
   ·rw [LM hl] at P';exact P'.elim
  | non=>exact P.elim
  | bl b=>exact P.elim
  | int i=>exact P.elim
  | str x=>exact P.elim
  | frz xs=>exact P.elim
  | obj n=>exact P.elim
theorem Dw {o i d:D}{μ:aw}{H:Hp}{α:List Addr}{R:Unit->aw->Hp->List Addr->Prop}{vo vi v:V} (S:p.S H α μ) (ro:p.R H α o vo) (ri:p.R H α i vi) (rv:p.R H α d v) (P:az p H α (vL o i d μ) R) :
  E8 vo vi v H fun H'=>∃ μ',p.X H H' α α/\p.S H' α μ'/\R () μ' H' α:=by
 unfold vL at P
 split at P
 ·rename_i n k
  split at P
  ·rename_i xs hx
   split at P
   ·rename_i j hj
    obtain ⟨a,ea,us,hH,rr⟩:=S.at hx
    obtain ⟨a',rfl,ea'⟩:=aP.mp ro
    rw [ea] at ea';cases ea'
    rw [aq.mp ri]
    have q:=rr.set rv j
    refine ⟨a,us,k,j,rfl,rfl,hH,by rw [rr.length];exact hj,_,gD hH,S.put hx ea hH q,?_⟩
    exact P _ _ (gD hH) (S.put hx ea hH q)
   ·exact P.elim
  ·exact P.elim
 ·exact P.elim
theorem Gw {o i:Expr}{fo fi:ME} (ho:PE X o (tD p fo)) (hi:PE X i (tD p fi))
  (ha : ∀ v, assign (.Subscript o i pos) X.env v = (do
   let ov <- holding [v] (eval o X.env)
   let iv <- holding [v,ov] (eval i X.env)
   standAt pos
   holding [v,ov,iv] (setItem ov iv v)
   release [v,ov,iv] [])):PG X (.Subscript o i pos) (ng p (kz fo fi)):=
 (GX ho hi Bm ha).weak fun v σ H Q ⟨α, ρ, μ, d, S, R, r, P⟩ => ⟨α, ρ, μ, S, R, (az.bind P).imp fun od μ1 H1 α1 X1 S1 P1 vo ro => ⟨α1, ρ, μ1, S1, R.mono X1, (az.bind P1).imp fun id μ2 H2 α2 X2 S2 P2 vi ri => by
  obtain ⟨pp,xs,k,j,e1,e2,e3,e4,μ3,x3,s3,q⟩:=Dw S2 (ro.mono X2) ri ((r.mono X1).mono X2) (az.bind P2)
  exact ⟨pp,xs,k,j,e1,e2,e3,e4,q.now s3 σ (((R.mono X1).mono X2).mono x3)⟩⟩⟩
theorem Gk {i:Nat}{x:Str}{op:Operator}{o:D->D->aw->aj D}{r:R2}{pos':Pos} (hN:X.N.Nodup) (hi:X.N[i]?=some x) (hx:ya X.env.scope x) (he:PE X e (tD p f)) (ho:Kj X op r) (hd:nK p o r) (hf:X.fn x=true\/X.env.scope.names.lookup x=some .local) :
  PS X (.AugAssign (.Name x pos') op e pos) (fX p (zS i o f)):=(GR hN hi hx he ho hf).weak fun D σ H ⟨α,ρ,μ,S,R,P⟩=>by
 unfold zS ai at P
 cases er:ρ[i]? with
 | none=>rw [er] at P;exact P.elim
 | some oo=>
  rw [er] at P
  cases oo with
  | none=>exact P.elim
  | some d=>
   obtain ⟨v,h1,h2⟩:=R.at' i d er
   have P':dt p H α ((f ρ μ).bindS fun b μ1=>(o d b μ1).bindS fun c μ2=>.next (ρ.set i (some c)) μ2) D:=P
   refine ⟨v,h1,α,ρ,μ,S,R,(az.bindS P').imp fun y μ1 H1 α1 X1 S1 P1 u ru=>?_⟩
   exact hd d y v u H1 α1 μ1 _ S1 (h2.mono X1) ru ((az.bindS P1).imp fun z μ2 H2 α2 X2 S2 P2 t rt=>P2 H2 α2 _ jv.refl S2 (((R.mono X1).mono X2).set i rt))
end
inductive nZ where
 | fix (xs:List D) | own (n:Nat) (xs:List D) | eno (n:Nat) (xs:List D)
def Fv:Nat->List D->List D
 | _,[]=>[]
 | i,x::r=>.tup [.int i,x]::Fv (i+1) r
def nZ.items:nZ->List D
 | .fix xs=>xs
 | .own _ xs=>xs
 | .eno _ xs=>Fv 0 xs
def cG:nZ->aw->Prop
 | .fix _,_=>True
 | .own n xs,μ=>μ[n]?=some (.lst xs)
 | .eno n xs,μ=>μ[n]?=some (.lst xs)
def yi (p:Pa) (J:It) (src:nZ) (H0:Hp) (α0:List Addr):Prop:=
 ∀ H2 α2 μ2,p.X H0 H2 α0 α2->p.S H2 α2 μ2->cG src μ2 ->
  (∀ (i:Nat) d,src.items[i]?=some d->J.go i H2/\∀ x H3,J.yld i H2 x H3->p.X H2 H3 α2 α2/\p.S H3 α2 μ2/\p.R H3 α2 d x)/\J.stop src.items.length H2
abbrev MI:=Ro->aw->aj nZ
def rO (p:Pa) (f:MI):TI:=fun σ H R=>∃ α ρ μ,p.S H α μ/\cF p.K H α ρ σ/\az p H α (f ρ μ) (fun src μ' H' α'=>∀ J,cG src μ'->yi p J src H' α'->R J H')
def SO.loop (o:SO) (k:Ro->aw->SO):SO:=match o with
 | .next ρ μ=>k ρ μ
 | .cnt ρ μ=>k ρ μ
 | .brk ρ μ=>.next ρ μ
 | .ret d μ=>.ret d μ
 | .exc x μ=>.exc x μ
 | .bad=>.bad
open Classical in
noncomputable def ic (src:nZ) (g:MG) (fb:MS):List D->Ro->aw->SO
 | [],ρ,μ=>if cG src μ then .next ρ μ else .bad
 | d::r,ρ,μ=>if cG src μ then (g d ρ μ).bindS fun ρ' μ'=>(fb ρ' μ').loop (ic src g fb r) else .bad
noncomputable def kq (fi:MI) (g:MG) (fb:MS):MS:=fun ρ μ=>(fi ρ μ).bindS fun src μ1=>ic src g fb src.items ρ μ1
def kM (c:MT) (fb:MS):Nat->Ro->aw->SO
 | 0,_,_=>.bad
 | n+1,ρ,μ=>(c ρ μ).bindS fun b μ1=>if b=true then (fb ρ μ1).loop (kM c fb n) else .next ρ μ1
def rY (n:Nat) (c:MT) (fb:MS):MS:=kM c fb n
section
variable {p:Pa}{X:Cx}{tg iter c:Expr}{fi:MI}{g:MG}{fb:MS}{ft:MT}{body:List Stmt}{pos:Pos}
theorem rh {H:Hp}{α:List Addr}{o:SO}{k:Ro->aw->SO}{D:mv}{N:St->Hp->Prop} (h:dt p H α (o.loop k) D)
  (hN:∀ ρ μ H' α' σ',p.X H H' α α'->p.S H' α' μ->cF p.K H' α' ρ σ'->dt p H' α' (k ρ μ) D->N σ' H'):dt p H α o { D with nx:=N,ct:=N,bk:=D.nx }:=by
 cases o with
 | next ρ μ=>exact fun H' α' σ' e s r=>hN ρ μ H' α' σ' e s r (dt.from e h)
 | cnt ρ μ=>exact fun H' α' σ' e s r=>hN ρ μ H' α' σ' e s r (dt.from e h)
 | brk ρ μ=>exact h
 | ret d μ=>exact h
 | exc x μ=>exact h
 | bad=>exact h
theorem Gj (hp:PassesOwn (model X.prog X.w) X.A X.env X.xe) (hc:X.calm=true) (hi:PI X tg iter (rO p fi)) (hg:PG X tg (ng p g)) (hb:iA X body (fX p fb)) (hs:∀ x,foldedSetIterable iter X.env x=pure x) :
  PS X (.For tg iter body [] pos) (fX p (kq fi g fb)):=(GQ hp hc hi hg hb hs).weak fun D σ H ⟨α,ρ,μ,S,R,P⟩=>by
 refine ⟨α,ρ,μ,S,R,(az.bindS P).imp fun src μ1 H1 α1 X1 S1 P1 J hok hJ=>?_⟩
 refine ⟨fun i m σ2 H2=>m=src.items.length - i/\i<=src.items.length/\∃ α2 ρ2 μ2,p.X H1 H2 α1 α2/\p.S H2 α2 μ2/\cF p.K H2 α2 ρ2 σ2/\dt p H2 α2 (ic src g fb (src.items.drop i) ρ2 μ2) D,
  ⟨_,rfl,N5 _,α1,ρ,μ1,jv.refl,S1,R.mono X1,by simpa using P1⟩,?_⟩
 rintro i m σ2 H2 ⟨rfl,hi,α2,ρ2,μ2,X2,S2,R2,P2⟩
 by_cases hlt:i<src.items.length
 ·rw [PB hlt] at P2
  unfold ic at P2
  by_cases ho:cG src μ2
  ·rw [LL ho] at P2
   obtain ⟨hgo,hy⟩:=(hJ H2 α2 μ2 X2 S2 ho).1 i _ (Pq hlt)
   refine .inr ⟨hgo,fun σ' H'=>i+1<=src.items.length/\∃ α2 ρ2 μ2,p.X H1 H' α1 α2/\p.S H' α2 μ2/\cF p.K H' α2 ρ2 σ'/\dt p H' α2 (ic src g fb (src.items.drop (i+1)) ρ2 μ2) D,
    fun σ' H' ⟨h1,h2⟩=>⟨_,by omega,rfl,h1,h2⟩,fun x H3 yx=>?_⟩
   obtain ⟨X3,S3,R3⟩:=hy x H3 yx
   refine ⟨α2,ρ2,μ2,_,S3,R2.mono X3,R3,(az.from X3 (az.bindS P2)).imp fun ρ4 μ4 H4 α4 X4 S4 P4 σ4 R4=>⟨α4,ρ4,μ4,S4,R4,rh P4 fun ρ5 μ5 H5 α5 σ5 X5 S5 R5 P5=>⟨hlt,α5,ρ5,μ5,((X2.trans X3).trans X4).trans X5,S5,R5,P5⟩⟩⟩
  ·rw [LM ho] at P2;exact P2.elim
 ·have e : i = src.items.length := by omega
  subst e
  rw [PD] at P2
  unfold ic at P2
  by_cases ho:cG src μ2
  ·rw [LL ho] at P2
   exact .inl ⟨(hJ H2 α2 μ2 X2 S2 ho).2,P2 H2 α2 σ2 jv.refl S2 R2⟩
  ·rw [LM ho] at P2;exact P2.elim
theorem Bc {n:Nat} (hp:PassesOwn (model X.prog X.w) X.A X.env X.xe) (hc:PT X c (gm p ft)) (hb:iA X body (fX p fb)):PS X (.While c body [] pos) (fX p (rY n ft fb)):=
 (BE hp hc hb).weak fun D σ H ⟨α, ρ, μ, S, R, P⟩ => by
  refine ⟨fun m σ2 H2=>∃ α2 ρ2 μ2,p.S H2 α2 μ2/\cF p.K H2 α2 ρ2 σ2/\dt p H2 α2 (kM ft fb m ρ2 μ2) D,⟨n,α,ρ,μ,S,R,P⟩,?_⟩
  rintro m σ2 H2 ⟨α2,ρ2,μ2,S2,R2,P2⟩
  cases m with
  | zero=>exact P2.elim
  | succ m=>
   unfold kM at P2
   refine ⟨α2,ρ2,μ2,S2,R2,(az.bindS P2).imp fun k μ3 H3 α3 X3 S3 P3=>?_⟩
   cases k with
   | true=>
    rw [LL rfl] at P3 ⊢
    exact ⟨fun σ' H'=>∃ α2 ρ2 μ2,p.S H' α2 μ2/\cF p.K H' α2 ρ2 σ'/\dt p H' α2 (kM ft fb m ρ2 μ2) D,fun σ' H' h=>⟨m,NV _,h⟩,
     α3,ρ2,μ3,S3,R2.mono X3,rh P3 fun ρ5 μ5 H5 α5 σ5 X5 S5 R5 P5=>⟨α5,ρ5,μ5,S5,R5,P5⟩⟩
   | false=>
    rw [LM Mm] at P3 ⊢
    exact P3 H3 α3 σ2 jv.refl S3 (R2.mono X3)
end
section
variable {p:Pa}{X:Cx}{tg iter:Expr}
theorem za {H:Hp}{α:List Addr}{μ:aw}{n:Nat}{xs:List D}{a:Addr} (S:p.S H α μ) (hn:μ[n]?=some (.lst xs)) (ha:α[n]?=some a):yi p (Ko p.K a) (.own n xs) H α:=by
 intro H2 α2 μ2 X2 S2 ho
 obtain ⟨a',ea,vs,hH,rr⟩:=S2.at ho
 rw [X2.pre n a ha] at ea;cases ea
 refine ⟨fun i d hd=>?_,vs,fw.of hH,by rw [rr.length];exact Mt _⟩
 obtain ⟨v,hv,rv⟩:=rr.get hd
 refine ⟨⟨vs,v,fw.of hH,hv⟩,fun x H3 ⟨e,hx⟩=>?_⟩
 subst e
 have:=hx vs (fw.of hH)
 rw [hv] at this;cases this
 exact ⟨jv.refl,S2,rv⟩
theorem B4 {H:Hp}{α:List Addr}{xs:List D}{vs:List V}{a:Addr} (h:E2 p.K H a vs) (r:p.Rs H α xs vs):yi p (Ko p.K a) (.fix xs) H α:=by
 intro H2 α2 μ2 X2 S2 ho
 have h2:=(X2.frz a vs h).sq
 have rr:=r.mono X2
 refine ⟨fun i d hd=>?_,vs,h2,by rw [rr.length];exact Mt _⟩
 obtain ⟨v,hv,rv⟩:=rr.get hd
 refine ⟨⟨vs,v,h2,hv⟩,fun x H3 ⟨e,hx⟩=>?_⟩
 subst e
 have:=hx vs h2
 rw [hv] at this;cases this
 exact ⟨jv.refl,S2,rv⟩
theorem B3 {H:Hp}{α:List Addr}{xs:List D}{vs:List V}{a:Addr} (h:fY p.K H a vs) (r:p.Rs H α xs vs):yi p (Kx p.K a) (.fix xs) H α:=by
 intro H2 α2 μ2 X2 S2 ho
 have h2:=X2.tup a vs h
 have rr:=r.mono X2
 refine ⟨fun i d hd=>?_,vs,h2,by rw [rr.length];exact Mt _⟩
 obtain ⟨v,hv,rv⟩:=rr.get hd
 refine ⟨⟨vs,v,h2,hv⟩,fun x H3 ⟨e,hx⟩=>?_⟩
 subst e
 have:=hx vs h2
 rw [hv] at this;cases this
 exact ⟨jv.refl,S2,rv⟩
def bx (lo:Int) (n:Nat):List D:=(List.range n).map fun (i:Nat)=>D.int (lo+(i:Int))
theorem uP {H:Hp}{α:List Addr} (lo:Int) (n:Nat):yi p (IC lo n) (.fix (bx lo n)) H α:=by
 intro H2 α2 μ2 X2 S2 ho
 refine ⟨fun i d hd=>?_,by simp [nZ.items,bx,IC]⟩
 have hd':(bx lo n)[i]?=some d:=hd
 unfold bx at hd'
 rw [MU] at hd'
 by_cases hi:i<n
 ·rw [Pe hi] at hd'
  cases hd'
  refine ⟨hi,fun x H3 ⟨e,hx⟩=>?_⟩
  subst e;subst hx
  exact ⟨jv.refl,S2,aq.mpr rfl⟩
 ·rw [Pf (by simpa using hi)] at hd'
  cases hd'
def vK (d:D) (μ:aw):aj nZ:=match d with
 | .tup xs=>.ok (.fix xs) μ
 | .frz xs=>.ok (.fix xs) μ
 | .obj n=>match μ[n]? with
  | some (.lst xs)=>.ok (.own n xs) μ
  | _=>.bad
 | _=>.bad
def iD (f:ME):MI:=fun ρ μ=>(f ρ μ).bind vK
def K0 (K:W.Frag) (tl:TE):TI:=fun σ H R=>tl σ H fun x H1=>∃ a,x=.ref a/\(((∃ xs,fw K H1 a xs)/\R (Ko K a) H1)\/((∃ xs,fY K H1 a xs)/\R (Kx K a) H1))
theorem GU {l:Expr}{tl:TE} (hl:PE X l tl):PI X tg l (K0 X.K tl):=by
 intro pins s σ H R I h
 refine cI (hl pins s σ H _ I h) fun v s1 ⟨x,H1,I1,r1,q1⟩=>?_
 obtain ⟨a,e,q⟩:=q1
 subst e
 cases r1
 rcases q with ⟨⟨xs,hq⟩,q⟩ | ⟨⟨xs,hq⟩,q⟩
 ·obtain ⟨its, rv, p, hz⟩ := I1.list hq
  refine O1 p.isList ?_
  refine ⟨s1.heap.objs.size,[s1.heap.objs.size],_,_,H1,rfl,I1.kept (t':=s1.toks) fun b o e=>Mr _ e,yo a _,⟨_,Ms _ rfl,rfl,rfl⟩,fun b hb=>?_,q⟩
  have e:b=s1.heap.objs.size:=by simpa using hb
  subst e
  exact I1.fpOk (Mt _) (I1.hok.fresh (Mt _))
 ·obtain ⟨its, rv, p, hz⟩ := I1.tuple hq
  refine O6 (show s1.heap.IsTuple a its.toArray from p) ?_
  refine ⟨s1.heap.objs.size,[s1.heap.objs.size],_,_,H1,rfl,I1.kept (t':=s1.toks) fun b o e=>Mr _ e,wc a _,⟨_,Ms _ rfl,rfl,rfl⟩,fun b hb=>?_,q⟩
  have e:b=s1.heap.objs.size:=by simpa using hb
  subst e
  exact I1.fpOk (Mt _) (I1.hok.fresh (Mt _))
theorem Gu {l:Expr}{f:ME} (hK:X.K=p.K) (hl:PE X l (tD p f)):PI X tg l (rO p (iD f)):=(GU hl).weak fun σ H R ⟨α,ρ,μ,S,Rr,P⟩=>by
 refine ⟨α,ρ,μ,S,Rr,(az.bind P).imp fun d μ1 H1 α1 X1 S1 P1 v rv=>?_⟩
 rw [hK]
 cases d with
 | tup xs=>
  obtain ⟨a,vs,rfl,h1,h2⟩:=aF.mp rv
  exact ⟨a,rfl,.inr ⟨⟨vs,h1⟩,P1.now S1 _ trivial (B3 h1 h2)⟩⟩
 | frz xs=>
  obtain ⟨a,vs,rfl,h1,h2⟩:=bj.mp rv
  exact ⟨a,rfl,.inl ⟨⟨vs,h1.sq⟩,P1.now S1 _ trivial (B4 h1 h2)⟩⟩
 | obj n=>
  obtain ⟨a,rfl,ha⟩:=aP.mp rv
  unfold vK at P1
  dsimp only at P1
  split at P1
  ·rename_i xs hx
   obtain ⟨a',ea,vs,hH,rr⟩:=S1.at hx
   rw [ha] at ea;cases ea
   exact ⟨a,rfl,.inl ⟨⟨vs,fw.of hH⟩,P1.now S1 _ hx (za S1 hx ha)⟩⟩
  ·exact P1.elim
 | non=>exact P1.elim
 | bl b=>exact P1.elim
 | int i=>exact P1.elim
 | str x=>exact P1.elim
def jr (ds:List D) (μ:aw):aj nZ:=match ds with
 | [.int j]=>if -(2 ^ 62)<=j/\j<2 ^ 62 then .ok (.fix (bx 0 j.toNat)) μ else .bad
 | _=>.bad
def tN (ds:List D) (μ:aw):aj nZ:=match ds with
 | [.int i,.int j]=>if -(2 ^ 62)<=i/\i<2 ^ 62/\-(2 ^ 62)<=j/\j<2 ^ 62 then .ok (.fix (bx i (j - i).toNat)) μ else .bad
 | _=>.bad
def js (f:List D->aw->aj nZ) (fa:MA):MI:=fun ρ μ=>(fa ρ μ).bind f
theorem yE {a:Expr}{fa:MA}{px pos:Pos} (hg:Gl X "range") (hm:X.mg "range" = none) (ha:PA X [a] (lg p fa)) (hs:starEach [a] X.env=[(false,eval a X.env)]):PI X tg (.Call (.Name "range" px) [a] [] pos) (rO p (js jr fa)):=
 (yO hg hm ha hs).weak fun σ H R ⟨α, ρ, μ, S, Rr, P⟩ => ⟨α, ρ, μ, S, Rr, (az.bind P).imp fun ds μ1 H1 α1 X1 S1 P1 vs rv => by
  unfold jr at P1
  split at P1
  ·rename_i j
   obtain ⟨v,rfl,r1⟩:=rv.one
   rw [aq.mp r1]
   split at P1
   ·rename_i hj
    exact ⟨j,rfl,hj.1,hj.2,P1.now S1 _ trivial (uP 0 _)⟩
   ·exact P1.elim
  ·exact P1.elim⟩
theorem yD {a b:Expr}{fa:MA}{px pos:Pos} (hg:Gl X "range") (hm:X.mg "range" = none) (ha:PA X [a,b] (lg p fa)) (hs:starEach [a,b] X.env=[(false,eval a X.env),(false,eval b X.env)]) (hs2:starEach [b] X.env=[(false,eval b X.env)]):PI X tg (.Call (.Name "range" px) [a,b] [] pos) (rO p (js tN fa)):=
 (yN hg hm ha hs hs2).weak fun σ H R ⟨α, ρ, μ, S, Rr, P⟩ => ⟨α, ρ, μ, S, Rr, (az.bind P).imp fun ds μ1 H1 α1 X1 S1 P1 vs rv => by
  unfold tN at P1
  split at P1
  ·rename_i i j
   obtain ⟨v,u,rfl,r1,r2⟩:=rv.two
   rw [aq.mp r1,aq.mp r2]
   split at P1
   ·rename_i hj
    exact ⟨i,j,rfl,hj,P1.now S1 _ trivial (uP i _)⟩
   ·exact P1.elim
  ·exact P1.elim⟩
end
def aj.nox {β:Type} (o:aj β):aj β:=match o with
 | .exc _ _=>.bad
 | o=>o
@[simp] theorem af {β:Type}{a:β}{μ:aw}:(aj.ok a μ).nox=.ok a μ:=Py (Pz _)
abbrev Pa.nx (p:Pa):Pa:=⟨p.K,p.w,fun _ _ _ _=>False⟩
theorem dB {β γ:Type}{p:Pa}{H:Hp}{α:List Addr}{o:aj β}{k:β->aw->aj γ}{R:γ->aw->Hp->List Addr->Prop} (h:az p H α (o.nox.bind k) R):az p.nx H α o (fun a μ1 H1 α1=>az p H1 α1 (k a μ1) R):=by
 cases o with
 | ok a μ=>exact fun H' α' e s=>az.from e h
 | exc x μ=>exact False.elim h
 | bad=>exact h
def fB (cap:List (Option Nat)) (ρ:Ro):Ro:=cap.map fun o=>o.bind fun j=>(ρ[j]?).join
theorem cF.cap {K:W.Frag}{H:Hp}{α:List Addr}{ρ:Ro}{σ:St} (R:cF K H α ρ σ) (cap:List (Option Nat)):cF K H α (fB cap ρ) (oO cap σ):=by
 refine ⟨by simp [fB,oO],fun i d h=>?_⟩
 unfold fB at h
 unfold oO
 rw [MU] at h ⊢
 cases e:cap[i]? with
 | none=>rw [e] at h;cases h
 | some o=>
  rw [e] at h
  cases o with
  | none=>simp at h
  | some j=>
   simp at h ⊢
   obtain ⟨v,h1,h2⟩:=R.at' j d (by
    cases e2:ρ[j]? with
    | none=>rw [e2] at h;simp at h
    | some x=>rw [e2] at h;simp at h;rw [h])
   exact ⟨v,by rw [h1];rfl,h2⟩
def qG (n:Nat) (y:D) (μ:aw):aj Unit:=match μ[n]? with
 | some (.lst ys)=>if ys.length<sizeLine then .ok () (μ.set n (.lst (ys++[y]))) else .bad
 | _=>.bad
open Classical in
noncomputable def compLoop (src:nZ) (n:Nat) (g:MG) (t:MT) (e:ME):List D->Ro->aw->aj D
 | [],_,μ=>if cG src μ then .ok (.obj n) μ else .bad
 | d::r,ρ,μ=>if cG src μ then (g d ρ μ).nox.bind fun ρ1 μ1=>(t ρ1 μ1).nox.bind fun b μ2=>if b=true then (e ρ1 μ2).nox.bind fun y μ3=>(qG n y μ3).bind fun _ μ4=>compLoop src n g t e r ρ1 μ4 else compLoop src n g t e r ρ1 μ2 else .bad
noncomputable def d0 (fi:MI) (cap:List (Option Nat)) (g:MG) (t:MT) (e:ME):ME:=fun ρ μ=>(fi ρ μ).bind fun src μ1=>compLoop src μ1.length g t e src.items (fB cap ρ) (μ1++[.lst []])
def bD:MT:=fun _ μ=>.ok true μ
theorem uA {p:Pa}{n:Nat}{y:D}{μ:aw}{H:Hp}{α:List Addr}{R:Unit->aw->Hp->List Addr->Prop}{v:V}{acc:Addr} (S:p.S H α μ) (ha:α[n]?=some acc) (rv:p.R H α y v) (P:az p H α (qG n y μ) R) :
  ∃ ys,H acc=some (.lst ys)/\ys.length<sizeLine/\∃ μ',p.X H (cn H acc (.lst (ys++[v]))) α α/\p.S (cn H acc (.lst (ys++[v]))) α μ'/\R () μ' (cn H acc (.lst (ys++[v]))) α:=by
 unfold qG at P
 split at P
 ·rename_i xs hx
  obtain ⟨a,ea,us,hH,rr⟩:=S.at hx
  rw [ha] at ea;cases ea
  split at P
  ·rename_i hl
   have q:=rr.snoc rv
   exact ⟨us,hH,by rw [rr.length];exact hl,_,gD hH,S.put hx ha hH q,P _ _ (gD hH) (S.put hx ha hH q)⟩
  ·exact P.elim
 ·exact P.elim
section
variable {p:Pa}{X:Cx}{tg iter elt:Expr}{ifs:List Expr}{scope:Scope}{Nc:List Str}{cap:List (Option Nat)}{fi:MI}{g:MG}{t:MT}{e:ME}{pos pos':Pos}
theorem rH {σ:St}{H:Hp}{Q:VK} (h:tD p (d0 fi cap g t e) σ H Q):Ad (rO p fi) cap (ng p.nx g) (gm p.nx t) (tD p.nx e) σ H Q:=by
 obtain ⟨α,ρ,μ,S,R,P⟩:=h
 refine ⟨α,ρ,μ,S,R,(az.bind P).imp fun src μ1 H1 α1 X1 S1 P1 J hok hJ acc hacc=>?_⟩
 obtain ⟨x1,s1,_⟩:=cA (ds:=[]) (vs:=[]) S1 hacc Reps.nil
 have hn:(α1++[acc])[μ1.length]?=some acc:=by rw [<- S1.len];simp
 refine ⟨fun i m σ2 H2=>m=src.items.length - i/\i<=src.items.length/\∃ α2 ρ2 μ2,p.X H1 H2 α1 α2/\p.S H2 α2 μ2/\cF p.K H2 α2 ρ2 σ2/\α2[μ1.length]?=some acc/\az p H2 α2 (compLoop src μ1.length g t e (src.items.drop i) ρ2 μ2) (RV p Q),
  ⟨_,rfl,N5 _,α1++[acc],fB cap ρ,μ1++[.lst []],x1,s1,((R.mono X1).cap cap).mono x1,hn,by simpa using az.from x1 P1⟩,?_⟩
 rintro i m σ2 H2 ⟨rfl,hi,α2,ρ2,μ2,X2,S2,R2,a2,P2⟩
 by_cases hlt:i<src.items.length
 ·rw [PB hlt] at P2
  unfold compLoop at P2
  by_cases ho:cG src μ2
  ·rw [LL ho] at P2
   obtain ⟨hgo,hy⟩:=(hJ H2 α2 μ2 X2 S2 ho).1 i _ (Pq hlt)
   refine .inr ⟨hgo,fun σ' H'=>i+1<=src.items.length/\∃ α2 ρ2 μ2,p.X H1 H' α1 α2/\p.S H' α2 μ2/\cF p.K H' α2 ρ2 σ'/\α2[μ1.length]?=some acc/\az p H' α2 (compLoop src μ1.length g t e (src.items.drop (i+1)) ρ2 μ2) (RV p Q),
    fun σ' H' ⟨h1,h2⟩=>⟨_,by omega,rfl,h1,h2⟩,fun x H3 yx=>?_⟩
   obtain ⟨X3,S3,R3⟩:=hy x H3 yx
   refine ⟨α2,ρ2,μ2,_,S3,R2.mono X3,R3,(az.from (p:=p.nx) X3 (dB P2)).imp fun ρ4 μ4 H4 α4 X4 S4 P4 σ4 R4=>?_⟩
   refine ⟨α4,ρ4,μ4,S4,R4,(dB P4).imp fun b μ5 H5 α5 X5 S5 P5=>?_⟩
   have xx:p.X H1 H5 α1 α5:=((X2.trans X3).trans X4).trans X5
   have a5:α5[μ1.length]?=some acc:=X5.pre _ _ (X4.pre _ _ (X3.pre _ _ a2))
   cases b with
   | false=>
    rw [LM Mm] at P5
    refine Jb ?_
    exact ⟨hlt,α5,ρ4,μ5,xx,S5,R4.mono X5,a5,P5⟩
   | true=>
    rw [LL rfl] at P5
    refine Ja ?_
    refine ⟨α5,ρ4,μ5,S5,R4.mono X5,(dB P5).imp fun y μ6 H6 α6 X6 S6 P6 v rv=>?_⟩
    obtain ⟨ys,e1,e2,μ7,x7,s7,q7⟩:=uA (p:=p) S6 (X6.pre _ _ a5) rv (az.bind P6)
    exact ⟨ys,e1,e2,hlt,α6,ρ4,μ7,(xx.trans X6).trans x7,s7,((R4.mono X5).mono X6).mono x7,X6.pre _ _ a5,q7⟩
  ·rw [LM ho] at P2;exact P2.elim
 ·have e : i = src.items.length := by omega
  subst e
  rw [PD] at P2
  unfold compLoop at P2
  by_cases ho:cG src μ2
  ·rw [LL ho] at P2
   exact .inl ⟨(hJ H2 α2 μ2 X2 S2 ho).2,P2 H2 α2 jv.refl S2 _ (aP.mpr ⟨acc,rfl,a2⟩)⟩
  ·rw [LM ho] at P2;exact P2.elim
theorem Dc {X:Cx}:qf X [] (gm p bD):=fun pins s σ H Q I h=>by
 obtain ⟨α,ρ,μ,S,R,P⟩:=h
 exact DL pins s σ H Q I (P.now S)
theorem Da {X:Cx}{c:Expr}{t:MT} (h:PT X c (gm p t)):qf X [c] (gm p t):=DK h
theorem Dx (hc:X.calm=true) (S:bR X.N X.env scope Nc cap) (hi:PI X tg iter (rO p fi))
  (hg:∀ cl C s H fp,PG (iI X Nc scope cl C s H fp) tg (ng p.nx g)) (ht:∀ cl C s H fp,qf (iI X Nc scope cl C s H fp) ifs (gm p.nx t)) (he:∀ cl C s H fp,PE (iI X Nc scope cl C s H fp) elt (tD p.nx e))
  (hs:∀ x,foldedSetIterable iter X.env x=pure x):PE X (.ListComp elt [⟨tg,iter,ifs,0⟩] scope pos) (tD p (d0 fi cap g t e)):=
 (DZ hc S hi hg ht he hs).weak fun σ H Q h=>rH h
theorem Df {i:Nat}{x:Str}{pos1:Pos}{pos2:Pos} (hc:X.calm=true) (hN:X.N.Nodup) (hix:X.N[i]?=some x) (hx:X.env.scope.names.lookup x=some .local) (S:bR X.N X.env scope Nc cap) (hi:PI X tg iter (rO p fi))
  (hg:∀ cl C s H fp,PG (iI X Nc scope cl C s H fp) tg (ng p.nx g)) (ht:∀ cl C s H fp,qf (iI X Nc scope cl C s H fp) ifs (gm p.nx t)) (he:∀ cl C s H fp,PE (iI X Nc scope cl C s H fp) elt (tD p.nx e))
  (hsw:swapsWith (.ListComp elt [⟨tg,iter,ifs,0⟩] scope pos) (some (.Name x pos1)) pos2.line X.env=pure true) (hs:∀ x,foldedSetIterable iter X.env x=pure x) :
  PS X (.Assign [.Name x pos1] (.ListComp elt [⟨tg,iter,ifs,0⟩] scope pos) pos2) (fX p (bI (d0 fi cap g t e) (ak i))):=
 (DP hc hN hix hx S hi hg ht he hsw hs).weak fun D σ H h => by
  obtain ⟨α,ρ,μ,S,R,P⟩:=h
  refine rH ⟨α,ρ,μ,S,R,(az.bindS P).imp fun d μ1 H1 α1 X1 S1 P1 v rv=>?_⟩
  exact P1 H1 α1 _ jv.refl S1 ((R.mono X1).set i rv)
end
abbrev MB:=Nat->Ro->aw->aj Ro
def oM (e:ME):MB:=fun n ρ μ=>(e ρ μ).nox.bind fun y μ1=>(qG n y μ1).bind fun _ μ2=>.ok ρ μ2
open Classical in
noncomputable def ji (src:nZ) (n:Nat) (g:MG) (t:MT) (fb:MB):List D->Ro->aw->aj Ro
 | [],ρ,μ=>if cG src μ then .ok ρ μ else .bad
 | d::r,ρ,μ=>if cG src μ then (g d ρ μ).nox.bind fun ρ1 μ1=>(t ρ1 μ1).nox.bind fun b μ2=>if b=true then (fb n ρ1 μ2).nox.bind fun ρ2 μ3=>ji src n g t fb r ρ2 μ3 else ji src n g t fb r ρ1 μ2 else .bad
noncomputable def oU (fi:MI) (g:MG) (t:MT) (fb:MB):MB:=fun n ρ μ=>(fi ρ μ).nox.bind fun src μ1=>ji src n g t fb src.items ρ μ1
noncomputable def mF (fi:MI) (cap:List (Option Nat)) (g:MG) (t:MT) (fb:MB):ME:=fun ρ μ=>(fi ρ μ).bind fun src μ1=>(ji src μ1.length g t fb src.items (fB cap ρ) (μ1++[.lst []])).bind fun _ μ2=>.ok (.obj μ1.length) μ2
section
variable {p:Pa}
def x8 (p:Pa) (fb:MB) (acc:Addr):Cz:=fun σ H N=>∃ α ρ μ n,p.S H α μ/\cF p.K H α ρ σ/\α[n]?=some acc/\az p H α (fb n ρ μ) (fun ρ' _ H' α'=>∀ σ',cF p.K H' α' ρ' σ'->N σ' H')
theorem zl {e:ME}{acc:Addr}{σ:St}{H:Hp}{N:St->Hp->Prop} (h:x8 p (oM e) acc σ H N):Ac (tD p.nx e) acc σ H N:=by
 obtain ⟨α,ρ,μ,n,S,R,a,P⟩:=h
 refine ⟨α,ρ,μ,S,R,(dB P).imp fun y μ6 H6 α6 X6 S6 P6 v rv=>?_⟩
 obtain ⟨ys,e1,e2,μ7,x7,s7,q7⟩:=uA (p:=p) S6 (X6.pre _ _ a) rv (az.bind P6)
 exact ⟨ys,e1,e2,q7.now s7 σ ((R.mono X6).mono x7)⟩
theorem pN {src:nZ}{n:Nat}{g:MG}{t:MT}{fb:MB}{acc:Addr}{J:It}{H1 H0:Hp}{α1 α0:List Addr}{ρ:Ro}{μ1:aw}{σ:St}{N:St->Hp->Prop} (X0:p.X H0 H1 α0 α1) (S1:p.S H1 α1 μ1) (R:cF p.K H1 α1 ρ σ) (hn:α1[n]?=some acc) (hJ:yi p J src H0 α0)
  (P1:az p H1 α1 (ji src n g t fb src.items ρ μ1) (fun ρ' _ H' α'=>∀ σ',cF p.K H' α' ρ' σ'->N σ' H')):Kd J (ng p.nx g) (gm p.nx t) (x8 p.nx fb acc) N σ H1:=by
 refine ⟨fun i m σ2 H2=>m=src.items.length - i/\i<=src.items.length/\∃ α2 ρ2 μ2,p.X H0 H2 α0 α2/\p.S H2 α2 μ2/\cF p.K H2 α2 ρ2 σ2/\α2[n]?=some acc/\az p H2 α2 (ji src n g t fb (src.items.drop i) ρ2 μ2) (fun ρ' _ H' α'=>∀ σ',cF p.K H' α' ρ' σ'->N σ' H'),
  ⟨_,rfl,N5 _,α1,ρ,μ1,X0,S1,R,hn,by simpa using P1⟩,?_⟩
 rintro i m σ2 H2 ⟨rfl,hi,α2,ρ2,μ2,X2,S2,R2,a2,P2⟩
 by_cases hlt:i<src.items.length
 ·rw [PB hlt] at P2
  unfold ji at P2
  by_cases ho:cG src μ2
  ·rw [LL ho] at P2
   obtain ⟨hgo,hy⟩:=(hJ H2 α2 μ2 X2 S2 ho).1 i _ (Pq hlt)
   refine .inr ⟨hgo,fun σ' H'=>i+1<=src.items.length/\∃ α2 ρ2 μ2,p.X H0 H' α0 α2/\p.S H' α2 μ2/\cF p.K H' α2 ρ2 σ'/\α2[n]?=some acc/\az p H' α2 (ji src n g t fb (src.items.drop (i+1)) ρ2 μ2) (fun ρ' _ H' α'=>∀ σ',cF p.K H' α' ρ' σ'->N σ' H'),
    fun σ' H' ⟨h1,h2⟩=>⟨_,by omega,rfl,h1,h2⟩,fun x H3 yx=>?_⟩
   obtain ⟨X3,S3,R3⟩:=hy x H3 yx
   refine ⟨α2,ρ2,μ2,_,S3,R2.mono X3,R3,(az.from (p:=p.nx) X3 (dB P2)).imp fun ρ4 μ4 H4 α4 X4 S4 P4 σ4 R4=>?_⟩
   refine ⟨α4,ρ4,μ4,S4,R4,(dB P4).imp fun b μ5 H5 α5 X5 S5 P5=>?_⟩
   have xx:p.X H0 H5 α0 α5:=((X2.trans X3).trans X4).trans X5
   have a5:α5[n]?=some acc:=X5.pre _ _ (X4.pre _ _ (X3.pre _ _ a2))
   cases b with
   | false=>
    rw [LM Mm] at P5
    refine Jb ?_
    exact ⟨hlt,α5,ρ4,μ5,xx,S5,R4.mono X5,a5,P5⟩
   | true=>
    rw [LL rfl] at P5
    refine Ja ?_
    refine ⟨α5,ρ4,μ5,n,S5,R4.mono X5,a5,(dB P5).imp fun ρ6 μ6 H6 α6 X6 S6 P6 σ' r'=>?_⟩
    exact ⟨hlt,α6,ρ6,μ6,xx.trans X6,S6,r',X6.pre _ _ a5,P6⟩
  ·rw [LM ho] at P2;exact P2.elim
 ·have e : i = src.items.length := by omega
  subst e
  rw [PD] at P2
  unfold ji at P2
  by_cases ho:cG src μ2
  ·rw [LL ho] at P2
   exact .inl ⟨(hJ H2 α2 μ2 X2 S2 ho).2,P2.now S2 _ R2⟩
  ·rw [LM ho] at P2;exact P2.elim
theorem wM {fi:MI}{g:MG}{t:MT}{fb:MB}{acc:Addr}{σ:St}{H:Hp}{N:St->Hp->Prop} (h:x8 p.nx (oU fi g t fb) acc σ H N):Ay (rO p.nx fi) (ng p.nx g) (gm p.nx t) (x8 p.nx fb acc) σ H N:=by
 obtain ⟨α,ρ,μ,n,S,R,a,P⟩:=h
 refine ⟨α,ρ,μ,S,R,(dB P).imp fun src μ1 H1 α1 X1 S1 P1 J hok hJ=>?_⟩
 exact pN (p:=p.nx) jv.refl S1 (R.mono X1) (X1.pre _ _ a) hJ P1
theorem wR {fi:MI}{cap:List (Option Nat)}{g:MG}{t:MT}{fb:MB}{σ:St}{H:Hp}{Q:VK} (h:tD p (mF fi cap g t fb) σ H Q):oP (fun _=>.lst []) (rO p fi) cap (ng p.nx g) (gm p.nx t) (fun acc=>x8 p.nx fb acc) σ H Q:=by
 obtain ⟨α,ρ,μ,S,R,P⟩:=h
 refine ⟨α,ρ,μ,S,R,(az.bind P).imp fun src μ1 H1 α1 X1 S1 P1 J hok hJ acc hacc=>?_⟩
 obtain ⟨x1,s1,_⟩:=cA (ds:=[]) (vs:=[]) S1 hacc Reps.nil
 have hn:(α1++[acc])[μ1.length]?=some acc:=by rw [<- S1.len];simp
 refine pN (p:=p) x1 s1 (((R.mono X1).cap cap).mono x1) hn hJ ((az.from x1 (az.bind P1)).imp fun ρ' μ' H' α' X' S' P' σ' r'=>?_)
 exact P'.now S' _ (aP.mpr ⟨acc,rfl,X'.pre _ _ hn⟩)
variable {X:Cx}{elt:Expr}{cl0 cl:Comprehension}{rest:List Comprehension}{scope:Scope}{Nc:List Str}{cap:List (Option Nat)}{fi:MI}{g:MG}{t:MT}{fb:MB}{pos:Pos}{e:Expr}{d:Nat}{acc:Addr}
theorem Dz {f:ME}{gens:List Comprehension} (hg:gens[d]?=none) (hxe:X.xe=tK) (hel:PE X elt (tD p.nx f)):vF X (.ListComp elt gens scope pos) d acc (x8 p.nx (oM f) acc):=fun pins s σ H N I h=>ph hg hxe hel pins s σ H N I (zl (p:=p.nx) h)
theorem Bu (he:kP e=true) (hz:∀ g∈clausesOf e,g.is_async=0) (hg:(clausesOf e)[d]?=some cl) (hxe:X.xe=tK) (hc:X.calm=true) (hi:PI X cl.target cl.iter (rO p.nx fi)) (hgc:PG X cl.target (ng p.nx g)) (htc:qf X cl.ifs (gm p.nx t)) (hb:vF X e (d+1) acc (x8 p.nx fb acc))
  (hs:∀ x,foldedSetIterable cl.iter X.env x=pure x):vF X e d acc (x8 p.nx (oU fi g t fb) acc):=fun pins s σ H N I h=>yR he hz hg hxe hc hi hgc htc hb hs pins s σ H N I (wM h)
theorem Bd {i:Nat}{x:Str}{pos1:Pos}{pos2:Pos} (hc:X.calm=true) (hz:∀ g∈cl0::rest,g.is_async=0) (hN:X.N.Nodup) (hix:X.N[i]?=some x) (hx:X.env.scope.names.lookup x=some .local) (S:bR X.N X.env scope Nc cap) (hi:PI X cl0.target cl0.iter (rO p fi))
  (hg:∀ cl C s H fp,PG (iI X Nc scope cl C s H fp) cl0.target (ng p.nx g)) (ht:∀ cl C s H fp,qf (iI X Nc scope cl C s H fp) cl0.ifs (gm p.nx t)) (hb:∀ cl C s H fp acc,vF (iI X Nc scope cl C s H fp) (.ListComp elt (cl0::rest) scope pos) 1 acc (x8 p.nx fb acc))
  (hsw:swapsWith (.ListComp elt (cl0::rest) scope pos) (some (.Name x pos1)) pos2.line X.env=pure true) (hs:∀ x,foldedSetIterable cl0.iter X.env x=pure x) :
  PS X (.Assign [.Name x pos1] (.ListComp elt (cl0::rest) scope pos) pos2) (fX p (bI (mF fi cap g t fb) (ak i))):=
 (uB hc hz hN hix hx S hi hg ht hb hsw hs).weak fun D σ H h => by
  obtain ⟨α,ρ,μ,S,R,P⟩:=h
  refine wR ⟨α,ρ,μ,S,R,(az.bindS P).imp fun d μ1 H1 α1 X1 S1 P1 v rv=>?_⟩
  exact P1 H1 α1 _ jv.refl S1 ((R.mono X1).set i rv)
end
mutual
def D.low (n:Nat):D->Prop
 | .tup xs=>D.lows n xs
 | .frz xs=>D.lows n xs
 | .obj m=>m<n
 | _=>True
def D.lows (n:Nat):List D->Prop
 | []=>True
 | x::xs=>x.low n/\D.lows n xs
end
def O.low (n:Nat):O->Prop
 | .lst xs=>D.lows n xs
 | _=>True
section
variable {K:W.Frag}{H:Hp}{α α':List Addr}
mutual
theorem aN.low:∀ {d:D}{v:V},aN K H α d v->d.low α.length
 | .non,_,_=>trivial
 | .bl _,_,_=>trivial
 | .int _,_,_=>trivial
 | .str _,_,_=>trivial
 | .tup xs,_,h=>by
  obtain ⟨a,vs,rfl,h1,h2⟩:=aF.mp h
  simp only [D.low]
  exact Reps.low h2
 | .frz xs,_,h=>by
  obtain ⟨a,vs,rfl,h1,h2⟩:=bj.mp h
  simp only [D.low]
  exact Reps.low h2
 | .obj n,_,h=>by
  obtain ⟨a,rfl,h1⟩:=aP.mp h
  simp only [D.low]
  exact (L8.mp h1).1
theorem Reps.low:∀ {ds:List D}{vs:List V},Reps K H α ds vs->D.lows α.length ds
 | [],_,_=>trivial
 | d::ds,_,h=>by
  simp only [Reps] at h
  obtain ⟨v,r,rfl,h1,h2⟩:=h
  simp only [D.lows]
  exact ⟨aN.low h1,Reps.low h2⟩
end
mutual
theorem aN.cut {n:Nat} (e:∀ m,m<n->α'[m]?=α[m]?):∀ {d:D}{v:V},aN K H α' d v->d.low n->aN K H α d v
 | .non,_,h,_=>by simp only [aN] at h ⊢;exact h
 | .bl _,_,h,_=>by simp only [aN] at h ⊢;exact h
 | .int _,_,h,_=>by simp only [aN] at h ⊢;exact h
 | .str _,_,h,_=>by simp only [aN] at h ⊢;exact h
 | .tup xs,_,h,b=>by
  obtain ⟨a,vs,rfl,h1,h2⟩:=aF.mp h
  simp only [D.low] at b
  exact aF.mpr ⟨a,vs,rfl,h1,Reps.cut e h2 b⟩
 | .frz xs,_,h,b=>by
  obtain ⟨a,vs,rfl,h1,h2⟩:=bj.mp h
  simp only [D.low] at b
  exact bj.mpr ⟨a,vs,rfl,h1,Reps.cut e h2 b⟩
 | .obj m,_,h,b=>by
  obtain ⟨a,rfl,h1⟩:=aP.mp h
  simp only [D.low] at b
  exact aP.mpr ⟨a,rfl,by rw [<- e m b];exact h1⟩
theorem Reps.cut {n:Nat} (e:∀ m,m<n->α'[m]?=α[m]?):∀ {ds:List D}{vs:List V},Reps K H α' ds vs->D.lows n ds->Reps K H α ds vs
 | [],_,h,_=>by simp only [Reps] at h ⊢;exact h
 | d::ds,_,h,b=>by
  simp only [Reps] at h ⊢
  obtain ⟨v,r,rfl,h1,h2⟩:=h
  simp only [D.lows] at b
  exact ⟨v,r,rfl,aN.cut e h1 b.1,Reps.cut e h2 b.2⟩
end
end
def FM (μ μ':aw) (d:D):Prop:=d.low μ.length/\μ.length<=μ'.length/\∀ (i:Nat) o,i<μ.length->μ'[i]?=some o->μ[i]?=some o\/o.low μ.length
open Classical in
noncomputable def qe (μ:aw) (o:aj D):aj D:=match o with
 | .ok d μ'=>if FM μ μ' d then .ok d (μ'.take μ.length) else .ok d μ'
 | o=>o
theorem oi {p:Pa}{H:Hp}{α:List Addr}{μ:aw}{o:aj D}{Q:VK} (S:p.S H α μ) (P:az p H α (qe μ o) (RV p Q)):az p H α o (RV p Q):=by
 cases o with
 | exc x μ'=>exact P
 | bad=>exact P
 | ok d μ'=>
  unfold qe at P
  dsimp only at P
  by_cases hg:FM μ μ' d
  ·rw [LL hg] at P
   obtain ⟨g1,g2,g3⟩:=hg
   intro H' α' e s v rv
   have al:∀ m,m<μ.length->α'[m]?=α[m]?:=fun m hm=>by
    have hm':m<α.length:=by rw [S.len];exact hm
    rw [Pq hm']
    exact e.pre m _ (Pq hm')
   refine P H' α ⟨e.tup,e.frz,fun _ _ z=>z⟩ ⟨by rw [MM,S.len];omega,S.nd,fun n o a h1 h2=>?_⟩ v (aN.cut al rv g1)
   have hn:n<μ.length:=by rw [<- S.len];exact (L8.mp h2).1
   rw [MV hn] at h1
   have q:=s.ob n o a h1 (e.pre n a h2)
   have ob:o.low μ.length:=by
    rcases g3 n o hn h1 with z | z
    ·have q0 := S.ob n o a z h2
     cases o with
     | lst xs=>obtain ⟨vs,_,r⟩:=q0;have:=r.low;rw [S.len] at this;exact this
     | set ks=>trivial
     | iset ks=>trivial
     | dic=>trivial
     | exc c=>trivial
    ·exact z
   cases o with
   | lst xs=>obtain ⟨vs,h3,r⟩:=q;exact ⟨vs,h3,Reps.cut al r ob⟩
   | set ks=>exact q
   | iset ks=>exact q
   | dic=>exact q
   | exc c=>exact q
  ·rw [LM hg] at P
   exact P
def SO.out (o:SO):aj D:=match o with
 | .ret d μ=>.ok d μ
 | .next _ μ=>.ok .non μ
 | .exc x μ=>.exc x μ
 | _=>.bad
noncomputable def gT (n N:Nat) (fb:MS):List D->aw->aj D:=fun ds μ=>if ds.length=n then qe μ (fb (ds.map some++List.replicate (N - n) none) μ).out else .bad
def Cv (p:Pa) (n:Nat) (F:List D->aw->aj D):Sp:=fun vs H Q _=>vs.length=n/\∃ α ds μ,p.S H α μ/\p.Rs H α ds vs/\az p H α (F ds μ) (RV p Q)
structure dR (P:Program) (w:World) (K:W.Frag) (mg:Str->Option Value) (base:Heap) (p:Pa) (k:Nat) (x:Str) (n:Nat) (F:List D->aw->aj D):Prop where
 len:∀ ds μ,ds.length≠n->F ds μ=.bad
 fn:∃ f fd ps,mg x=some (.ref f)/\W.keepIn K (.ref f)=true/\f7 K fd ps []/\oD P w K mg base vG k f fd ps (Cv p n F)
section
variable {p:Pa}{X:Cx}{k n:Nat}{x:Str}{F:List D->aw->aj D}{a:Expr}{es:List Expr}{fr:MA}{pos px:Pos}
theorem Dy (h:dR X.prog X.w X.K X.mg X.base p k x n F) (hr:fD k X.A) (hg:Gl X x) (ha:PA X (a::es) (lg p fr)) (hdb:(x == ("__debug__" : Str))=false) (he:starEach (a::es) X.env=(false,eval a X.env)::starEach es X.env) (hpl:(backTo pos (starEach es X.env)).any (·.1)=false) :
  PE X (.Call (.Name x px) (a::es) [] pos) (tD p (aE F fr)):=by
 obtain ⟨f,fd,ps,h1,h2,h3,h4⟩:=h.fn
 refine (sx (dvs:=[]) (E:=E0) h4 hr hg h1 h2 h3 .nil Aj ha hdb he hpl).weak fun σ H Q ⟨α,ρ,μ,S,R,P⟩=>⟨α,ρ,μ,S,R,(az.bind P).imp fun ds μ1 H1 α1 X1 S1 P1 vs rv=>?_⟩
 show Cv p n F (vs++[]) H1 Q E0
 rw [MC]
 refine ⟨?_,α1,ds,μ1,S1,rv,P1⟩
 by_cases hl:ds.length=n
 ·rw [rv.length];exact hl
 ·rw [h.len ds μ1 hl] at P1;exact P1.elim
end
theorem i9 {K:W.Frag}{H:Hp}{α:List Addr}{ds:List D}{vs:List V} (r:Reps K H α ds vs) (m:Nat):cF K H α (ds.map some++List.replicate m none) (vs.map some++List.replicate m none):=by
 refine ⟨by simp [r.length],fun i d h=>?_⟩
 by_cases hi:i<ds.length
 ·rw [MR (by simpa using hi), MU] at h
  cases e:ds[i]? with
  | none=>rw [e] at h;cases h
  | some x=>
   rw [e] at h;cases h
   obtain ⟨v,hv,rv⟩:=r.get e
   refine ⟨v,?_,rv⟩
   rw [MR (by simp [r.length,hi]),MU,hv];rfl
 ·rw [MP (by simpa using hi), MQ] at h
  split at h <;> cases h
theorem Iq {P:Program}{w:World}{K:W.Frag}{mg:Str->Option Value}{base:Heap}{p:Pa}{k n:Nat}{x qual:Str}{st:Stmt}{f:Addr}{fd:FuncData}{N ps:List Str}{fb:MS}
  (F:gk K x qual st f fd) (S:aR N ps (av st)) (hn:ps.length=n) (hm:mg x=some (.ref f)) (hb:f7 K fd ps [])
  (body : ∀ (cdv : Value) (A : Around) (outer : List Env) (s : Shared) (H : Hp) (E : XK), fD k (A.deeper (envOfC qual (av st) s.heap.objs.size f cdv)) ->
   iA (oB vG P w K mg base N qual (av st) f cdv A outer s H E).nox (bQ st) (fX p fb)):dR P w K mg base p (k+1) x n (gT n N.length fb):=by
 refine ⟨fun ds μ h=>by unfold gT;rw [LM h],f,fd,ps,hm,F.kp,hb,?_⟩
 refine F.ok S (fun vs H Q E h=>h.1.trans hn.symm) fun cdv A outer s H vs Q E hr h=>?_
 refine ⟨_,body cdv A outer s H E hr,?_⟩
 obtain ⟨hl,α,ds,μ,S1,R1,P1⟩:=h
 unfold gT at P1
 have hd:ds.length=n:=by rw [<- R1.length];exact hl
 rw [LL hd] at P1
 have P2:=oi S1 P1
 unfold start
 rw [hl]
 refine ⟨α,_,μ,S1,i9 R1 _,?_⟩
 cases e:fb (ds.map some++List.replicate (N.length - n) none) μ with
 | ret d μ'=>rw [e] at P2;exact fun H' α' v x s r=>P2 H' α' x s v r
 | next ρ μ'=>rw [e] at P2;exact fun H' α' σ' x s r=>P2 H' α' x s .non (bA.mpr rfl)
 | exc x μ'=>rw [e] at P2;exact P2
 | brk ρ μ'=>rw [e] at P2;exact P2.elim
 | cnt ρ μ'=>rw [e] at P2;exact P2.elim
 | bad=>rw [e] at P2;exact P2.elim
end L2
namespace L2
open PySem PySem.Spec PyProof.Rows RS
section
variable (K:W.Frag) (H:Hp)
mutual
def lh:PyData->V->Prop
 | .none,v=>v=.non
 | .bool b,v=>v=.bl b
 | .int i,v=>v=.int i
 | .str x,v=>v=.str x
 | .tuple xs,v=>∃ a vs,v=.ref a/\fY K H a vs/\RdPs xs vs
 | .list xs,v=>∃ a vs,v=.ref a/\fw K H a vs/\RdPs xs vs
 | .dict _,_=>False
def RdPs:List PyData->List V->Prop
 | [],vs=>vs=[]
 | x::xs,vs=>∃ v r,vs=v::r/\lh x v/\RdPs xs r
end
end
section
variable {X:Cx}{pins:List (Addr × Obj)}{σ:St}{H:Hp}{s:Shared}
mutual
theorem cz (I:aS X pins σ H s):∀ (d:PyData) (x:V) (v:Value),lh X.K H d x->bF x v->∃ as,Reads s.heap v d as
 | .none,_,_,h,r=>by simp only [lh] at h;subst h;cases r;exact ⟨_,.none⟩
 | .bool b,_,_,h,r=>by simp only [lh] at h;subst h;cases r;exact ⟨_,.bool b⟩
 | .int b,_,_,h,r=>by simp only [lh] at h;subst h;obtain ⟨t,rfl⟩:=r;exact ⟨_,.int b t⟩
 | .str b,_,_,h,r=>by simp only [lh] at h;subst h;obtain ⟨t,rfl⟩:=r;exact ⟨_,.str b t⟩
 | .tuple xs,_,_,h,r=>by
  simp only [lh] at h
  obtain ⟨a,vs,rfl,h1,h2⟩:=h
  cases r
  obtain ⟨its,rv,⟨o,e1,e2,n,e3⟩,_⟩:=I.tuple h1
  obtain ⟨as,q⟩:=readsAll_of I xs vs its h2 rv
  exact ⟨_,.tuple e1 e2 e3 (by simpa using q)⟩
 | .list xs,_,_,h,r=>by
  simp only [lh] at h
  obtain ⟨a,vs,rfl,h1,h2⟩:=h
  cases r
  obtain ⟨its,rv,⟨o,n,e1,e2,_,e3⟩,_⟩:=I.list h1
  obtain ⟨as,q⟩:=readsAll_of I xs vs its h2 rv
  exact ⟨_,.list e1 e2 e3 (by simpa using q)⟩
 | .dict _,_,_,h,_=>by simp only [lh] at h
theorem readsAll_of (I:aS X pins σ H s):∀ (ds:List PyData) (xs:List V) (vs:List Value),RdPs X.K H ds xs->aY xs vs->∃ as,ReadsAll s.heap vs ds as
 | [],_,_,h,r=>by simp only [RdPs] at h;subst h;cases r;exact ⟨_,.nil⟩
 | d::ds,_,_,h,r=>by
  simp only [RdPs] at h
  obtain ⟨v,q,rfl,h1,h2⟩:=h
  cases r with
  | cons r rr=>
   obtain ⟨as,g1⟩:=cz I d _ _ h1 r
   obtain ⟨bs,g2⟩:=readsAll_of I ds _ _ h2 rr
   exact ⟨_,.cons g1 g2⟩
end
def cT (d:PyData):Bool:=d.canLay0 && decide (d.depth<=60)
def zV (K:W.Frag) (neg:Bool):R2:=fun x y H Q=>∃ a b,lh K H a x/\lh K H b y/\cT a=true/\cT b=true/\Q (.bl (if neg then !PyData.eqv a b else PyData.eqv a b)) H
theorem mP {a b:PyData}{A:Around} (ha:cT a=true) (hu:A.units+64<cLine):A.units+min a.depth b.depth<cLine:=by
 unfold cT at ha
 simp only [Nv,PF] at ha
 have:=Nat.min_le_left a.depth b.depth
 omega
theorem bH {a:PyData} (ha:cT a=true):a.canLay0=true:=by
 unfold cT at ha
 simp only [Nv,PF] at ha
 exact ha.1
theorem pQ {a:PyData} (ha:cT a=true):a.depth<=60:=by
 unfold cT at ha
 simp only [Nv,PF] at ha
 exact ha.2
theorem Hg (hu:X.A.units+64<cLine):ig X (compareOp .Eq) (zV X.K false):=by
 intro pins s σ H x y v u Q I rx ry h
 obtain ⟨a,b,h1,h2,h3,h4,q⟩:=h
 obtain ⟨as,r1⟩:=cz I a x v h1 rx
 obtain ⟨bs,r2⟩:=cz I b y u h2 ry
 exact SeqAt.compareEq_reads r1 r2 (bH h3) (bH h4) (mP h3 hu) ⟨.bl _,H,I,rfl,q⟩
theorem Hb (hu:X.A.units+64<cLine):ig X (compareOp .NotEq) (zV X.K true):=by
 intro pins s σ H x y v u Q I rx ry h
 obtain ⟨a,b,h1,h2,h3,h4,q⟩:=h
 obtain ⟨as,r1⟩:=cz I a x v h1 rx
 obtain ⟨bs,r2⟩:=cz I b y u h2 ry
 exact SeqAt.compareNe_reads r1 r2 (bH h3) (bH h4) (mP h3 hu) ⟨.bl _,H,I,rfl,q⟩
def zU (K:W.Frag) (neg:Bool):R2:=fun x y H Q=>∃ a b xs,lh K H a x/\lh K H b y/\(b=.list xs\/b=.tuple xs)/\cT a=true/\cT b=true/\Q (.bl (if neg then !(xs.any fun y=>PyData.eqv y a) else xs.any fun y=>PyData.eqv y a)) H
theorem Hf (hu:X.A.units+64<cLine):ig X (compareOp .In) (zU X.K false):=by
 intro pins s σ H x y v u Q I rx ry h
 obtain ⟨a,b,xs,h1,h2,hb,h3,h4,q⟩:=h
 obtain ⟨as,r1⟩:=cz I a x v h1 rx
 obtain ⟨bs,r2⟩:=cz I b y u h2 ry
 have hd:=pQ h3
 rcases hb with rfl|rfl
 ·refine SeqAt.in_list_reads r2 r1 (by simpa [PyData.canLay0] using bH h4) (bH h3) ?_ ⟨.bl _, H, I, rfl, q⟩
  have:=Nb (PyData.depthAll xs) a.depth
  omega
 ·refine SeqAt.in_tuple_reads r2 r1 (by simpa [PyData.canLay0] using bH h4) (bH h3) ?_ ⟨.bl _, H, I, rfl, q⟩
  have:=Nb (PyData.depthAll xs) a.depth
  omega
theorem yV (hu:X.A.units+64<cLine):ig X (compareOp .NotIn) (zU X.K true):=by
 intro pins s σ H x y v u Q I rx ry h
 obtain ⟨a,b,xs,h1,h2,hb,h3,h4,q⟩:=h
 obtain ⟨as,r1⟩:=cz I a x v h1 rx
 obtain ⟨bs,r2⟩:=cz I b y u h2 ry
 have hd:=pQ h3
 rcases hb with rfl|rfl
 ·refine SeqAt.notIn_list_reads r2 r1 (by simpa [PyData.canLay0] using bH h4) (bH h3) ?_ ⟨.bl _, H, I, rfl, q⟩
  have:=Nb (PyData.depthAll xs) a.depth
  omega
 ·refine SeqAt.notIn_tuple_reads r2 r1 (by simpa [PyData.canLay0] using bH h4) (bH h3) ?_ ⟨.bl _, H, I, rfl, q⟩
  have:=Nb (PyData.depthAll xs) a.depth
  omega
end
mutual
def vC (μ:aw):D->Option PyData
 | .non=>some .none
 | .bl b=>some (.bool b)
 | .int i=>some (.int i)
 | .str x=>some (.str x)
 | .tup xs=>(toPs μ xs).map .tuple
 | .frz xs=>(toPs μ xs).map .list
 | .obj _=>none
def toPs (μ:aw):List D->Option (List PyData)
 | []=>some []
 | x::xs=>(vC μ x).bind fun a=>(toPs μ xs).map fun r=>a::r
end
def vI (μ:aw) (d:D):Option PyData:=match d with
 | .obj n=>match μ[n]? with
  | some (.lst xs)=>(toPs μ xs).map .list
  | _=>none
 | d=>vC μ d
def fE (μ:aw):List D->Option (List PyData)
 | []=>some []
 | x::xs=>(vI μ x).bind fun a=>(fE μ xs).map fun r=>a::r
def ju (μ:aw) (d:D):Option PyData:=match d with
 | .obj n=>match μ[n]? with
  | some (.lst xs)=>(fE μ xs).map .list
  | _=>none
 | .tup xs=>(fE μ xs).map .tuple
 | d=>vC μ d
section
variable {K:W.Frag}{w:World}{H:Hp}{α:List Addr}{μ:aw}
mutual
theorem gp:∀ {d:D}{q:PyData}{v:V},vC μ d=some q->aN K H α d v->lh K H q v
 | .non,_,_,h,r=>by simp only [vC] at h;cases h;simp only [lh];exact bA.mp r
 | .bl b,_,_,h,r=>by simp only [vC] at h;cases h;simp only [lh];exact aT.mp r
 | .int b,_,_,h,r=>by simp only [vC] at h;cases h;simp only [lh];exact aq.mp r
 | .str b,_,_,h,r=>by simp only [vC] at h;cases h;simp only [lh];exact bu.mp r
 | .tup xs,_,_,h,r=>by
  simp only [vC] at h
  cases e:toPs μ xs with
  | none=>rw [e] at h;cases h
  | some ys=>
   rw [e] at h;cases h
   obtain ⟨a,vs,rfl,h1,h2⟩:=aF.mp r
   simp only [lh]
   exact ⟨a,vs,rfl,h1,toPs_ok e h2⟩
 | .frz xs,_,_,h,r=>by
  simp only [vC] at h
  cases e:toPs μ xs with
  | none=>rw [e] at h;cases h
  | some ys=>
   rw [e] at h;cases h
   obtain ⟨a,vs,rfl,h1,h2⟩:=bj.mp r
   simp only [lh]
   exact ⟨a,vs,rfl,h1.sq,toPs_ok e h2⟩
 | .obj n,_,_,h,r=>by simp only [vC] at h;cases h
theorem toPs_ok:∀ {ds:List D}{qs:List PyData}{vs:List V},toPs μ ds=some qs->Reps K H α ds vs->RdPs K H qs vs
 | [],_,_,h,r=>by simp only [toPs] at h;cases h;simp only [RdPs];simp only [Reps] at r;exact r
 | x::xs,_,_,h,r=>by
  simp only [toPs] at h
  cases e1:vC μ x with
  | none=>rw [e1] at h;cases h
  | some a=>
   cases e2:toPs μ xs with
   | none=>rw [e1,e2] at h;cases h
   | some ys=>
    rw [e1,e2] at h;cases h
    simp only [Reps] at r
    obtain ⟨v,vr,rfl,r1,r2⟩:=r
    simp only [RdPs]
    exact ⟨v,vr,rfl,gp e1 r1,toPs_ok e2 r2⟩
end
theorem C8 {d:D}{q:PyData}{v:V} (S:gn K w H α μ) (h:vI μ d=some q) (r:aN K H α d v):lh K H q v:=by
 cases d with
 | obj n=>
  unfold vI at h
  dsimp only at h
  split at h
  ·rename_i xs hx
   obtain ⟨a,ea,us,hH,rr⟩:=S.at hx
   obtain ⟨a',rfl,ea'⟩:=aP.mp r
   rw [ea] at ea';cases ea'
   cases e:toPs μ xs with
   | none=>rw [e] at h;cases h
   | some ys=>
    rw [e] at h;cases h
    simp only [lh]
    exact ⟨a,us,rfl,fw.of hH,toPs_ok e rr⟩
  ·cases h
 | non=>exact gp h r
 | bl b=>exact gp h r
 | int i=>exact gp h r
 | str x=>exact gp h r
 | tup xs=>exact gp h r
 | frz xs=>exact gp h r
theorem oZ (S:gn K w H α μ):∀ {ds:List D}{qs:List PyData}{vs:List V},fE μ ds=some qs->Reps K H α ds vs->RdPs K H qs vs
 | [],_,_,h,r=>by simp only [fE] at h;cases h;simp only [RdPs];simp only [Reps] at r;exact r
 | x::xs,_,_,h,r=>by
  simp only [fE] at h
  cases e1:vI μ x with
  | none=>rw [e1] at h;cases h
  | some a=>
   cases e2:fE μ xs with
   | none=>rw [e1,e2] at h;cases h
   | some ys=>
    rw [e1,e2] at h;cases h
    simp only [Reps] at r
    obtain ⟨v,vr,rfl,r1,r2⟩:=r
    simp only [RdPs]
    exact ⟨v,vr,rfl,C8 S e1 r1,oZ S e2 r2⟩
theorem iV {d:D}{q:PyData}{v:V} (S:gn K w H α μ) (h:ju μ d=some q) (r:aN K H α d v):lh K H q v:=by
 cases d with
 | obj n=>
  unfold ju at h
  dsimp only at h
  split at h
  ·rename_i xs hx
   obtain ⟨a,ea,us,hH,rr⟩:=S.at hx
   obtain ⟨a',rfl,ea'⟩:=aP.mp r
   rw [ea] at ea';cases ea'
   cases e:fE μ xs with
   | none=>rw [e] at h;cases h
   | some ys=>
    rw [e] at h;cases h
    simp only [lh]
    exact ⟨a,us,rfl,fw.of hH,oZ S e rr⟩
  ·cases h
 | tup xs=>
  unfold ju at h
  dsimp only at h
  cases e:fE μ xs with
  | none=>rw [e] at h;cases h
  | some ys=>
   rw [e] at h;cases h
   obtain ⟨a,vs,rfl,h1,h2⟩:=aF.mp r
   simp only [lh]
   exact ⟨a,vs,rfl,h1,oZ S e h2⟩
 | non=>exact gp h r
 | bl b=>exact gp h r
 | int i=>exact gp h r
 | str x=>exact gp h r
 | frz xs=>exact gp h r
end
def ka (neg:Bool) (a b:D) (μ:aw):aj D:=match ju μ a,ju μ b with
 | some p,some q=>if cT p=true/\cT q=true then .ok (.bl (if neg then !PyData.eqv p q else PyData.eqv p q)) μ else .bad
 | _,_=>.bad
def oS:PyData->Option (List PyData)
 | .list xs=>some xs
 | .tuple xs=>some xs
 | _=>none
def qD (neg:Bool) (a b:D) (μ:aw):aj D:=match ju μ a,ju μ b with
 | some p,some q=>match oS q with
  | some xs=>if cT p=true/\cT q=true then .ok (.bl (if neg then !(xs.any fun y=>PyData.eqv y p) else xs.any fun y=>PyData.eqv y p)) μ else .bad
  | none=>.bad
 | _,_=>.bad
theorem Fj {p:Pa}{neg:Bool}:nK p (ka neg) (zV p.K neg):=by
 intro a b v y H α μ Q S ra rb P
 unfold ka at P
 split at P
 ·rename_i x z hx hz
  split at P
  ·rename_i hf
   exact ⟨x,z,iV S hx ra,iV S hz rb,hf.1,hf.2,P.now S _ (aT.mpr rfl)⟩
  ·exact P.elim
 ·exact P.elim
theorem Fi {p:Pa}{neg:Bool}:nK p (qD neg) (zU p.K neg):=by
 intro a b v y H α μ Q S ra rb P
 unfold qD at P
 split at P
 ·rename_i x z hx hz
  split at P
  ·rename_i xs hxs
   split at P
   ·rename_i hf
    refine ⟨x,z,xs,iV S hx ra,iV S hz rb,?_,hf.1,hf.2,P.now S _ (aT.mpr rfl)⟩
    cases z <;> first | (cases hxs;exact .inl rfl) | (cases hxs;exact .inr rfl) | (cases hxs)
   ·exact P.elim
  ·exact P.elim
 ·exact P.elim
def D.isNon:D->Bool
 | .non=>true
 | _=>false
def zX (neg:Bool) (a b:D) (μ:aw):aj D:=match b with
 | .non=>.ok (.bl (if neg then !a.isNon else a.isNon)) μ
 | _=>.bad
theorem EB {K:W.Frag}{H:Hp}{α:List Addr}{a:D}{v:V} (r:aN K H α a v):decide (v=.non)=a.isNon:=by
 cases a with
 | non=>rw [bA.mp r];rfl
 | bl b=>rw [aT.mp r];rfl
 | int b=>rw [aq.mp r];rfl
 | str b=>rw [bu.mp r];rfl
 | tup xs=>obtain ⟨a,vs,rfl,_⟩:=aF.mp r;rfl
 | frz xs=>obtain ⟨a,vs,rfl,_⟩:=bj.mp r;rfl
 | obj xs=>obtain ⟨a,rfl,_⟩:=aP.mp r;rfl
theorem Ht {p:Pa}:nK p (zX false) (fun x y H Q=>y=.non/\Q (.bl (decide (x=.non))) H):=by
 intro a b v y H α μ Q S ra rb P
 cases b with
 | non=>exact ⟨bA.mp rb,P.now S _ (aT.mpr (by rw [EB ra];rfl))⟩
 | bl b=>exact P.elim
 | int b=>exact P.elim
 | str b=>exact P.elim
 | tup xs=>exact P.elim
 | frz xs=>exact P.elim
 | obj xs=>exact P.elim
end L2
namespace L2
open PySem PySem.Spec PyProof.Rows RS
open PySem.SeqAt
open PySem.AutoSeq1 (wpAny_loadPart')
open PySem.MeetsSeq PySem.MeetsSeq2 PySem.MeetsSeq3
def yg (op:CmpOp) (A:Around) (s:Shared) (y x:Value) (k:Bool):Prop:=∀ (prog:Program) (w:World) (E:Value->Shared->Prop) (Q:Value->Shared->Prop),Q (.bool k) s->wpAny (model prog w) A (richCompare op y x) Q E s
def oA (t:Bool):List (Bool × Bool)->Bool
 | []=>t
 | (e,k)::r=>if e=true then oA t r else k
def nN (op:CmpOp) (A:Around) (s:Shared):List Value->List Value->List (Bool × Bool)->Prop
 | [],_,[]=>True
 | _,[],[]=>True
 | y::ys,x::xs,(e,k)::r=>EqAt A s y x e/\(e=false->yg op A s y x k)/\(e=true->nN op A s ys xs r)
 | _,_,_=>False
theorem sN (l b:Addr) (items items2:Array Value) (n n2:Nat) (dd dd2:Option Addr) (sl sl2:Array (Option Value)) (eks:List (Bool × Bool)) :
  Meets (Builtin.«tuple.__lt__» ⟨[.ref l,.ref b],[]⟩)
   (fun A R s => s.heap.get? l = some { cls := .type "tuple", dict := dd, data := .seq items n, slots := sl } /\ s.heap.get? b = some { cls := .type "tuple", dict := dd2, data := .seq items2 n2, slots := sl2 } /\
    nN .Lt A.in1 s items.toList items2.toList eks/\R (.ok (.ret (.bool (oA (decide (items.size<items2.size)) eks)))) s):=
 .of_wp fun prog w A R s h=>by
  obtain ⟨hp,g,d,tk,os⟩:=s;obtain ⟨hl,hb,hc,h⟩:=h
  have f2:=AutoSeq1.sub_tuple_tuple
  wp_walk using wpAny_loadPart' hl,wpAny_loadPart' hb,OI _ (fun rest b s'=>b.1=none/\s'=⟨hp,g,d,tk,os⟩/\∃ (vs ws:List Value) (eks':List (Bool × Bool)),rest=vs.zip ws /\
   nN .Lt A.in1 ⟨hp,g,d,tk,os⟩ vs ws eks'/\R (.ok (.ret (.bool (oA (decide (items.size<items2.size)) eks')))) ⟨hp,g,d,tk,os⟩) _
  case turn=>
   rintro ⟨y,x⟩ rest b s' ⟨hb',rfl,vs,ws,eks',hz,hci,hR⟩
   cases vs with
   | nil=>rw [List.zip_nil_left] at hz;cases hz
   | cons a vs=>
    cases ws with
    | nil=>rw [List.zip_nil_right] at hz;cases hz
    | cons c ws=>
     rw [List.zip_cons_cons] at hz
     injection hz with hyx hrest
     injection hyx with hy hx
     subst hy hx
     cases eks' with
     | nil=>simp only [nN] at hci
     | cons ek eks'=>
      obtain ⟨e,k⟩:=ek
      simp only [nN] at hci
      obtain ⟨he,hk,hci⟩:=hci
      refine Mh (he prog w _ _ ?_)
      cases e with
      | true=>
       have hR':R (.ok (.ret (.bool (oA (decide (items.size<items2.size)) eks')))) ⟨hp,g,d,tk,os⟩:=hR
       wp_walk
       exact ⟨rfl,rfl,_,_,_,hrest,hci rfl,hR'⟩
      | false=>
       have hR':R (.ok (.ret (.bool k))) ⟨hp,g,d,tk,os⟩:=hR
       have hri:=hk rfl prog w
       wp_walk using hri
       exact ⟨_,rfl,by simpa using hR'⟩
  case fin=>
   rintro ⟨b1,b2⟩ s' ⟨hb',rfl,vs,ws,eks',hz,hci,hR⟩
   simp only at hb'
   subst hb'
   have hv:eks'=[]:=by
    cases vs with
    | nil=>cases eks' with
     | nil=>rfl
     | cons _ _=>simp only [nN] at hci
    | cons a vs=>cases ws with
     | nil=>cases eks' with
      | nil=>rfl
      | cons _ _=>simp only [nN] at hci
     | cons c ws=>rw [List.zip_cons_cons] at hz;cases hz
   subst hv
   have hR':R (.ok (.ret (.bool (decide (items.size<items2.size))))) ⟨hp,g,d,tk,os⟩:=hR
   wp_walk
   exact ⟨_,rfl,by simpa [Builtin.Tuple.tupleCompareSizes] using hR'⟩
  case h=>
   exact ⟨rfl,rfl,items.toList,items2.toList,eks,rfl,hc,h⟩
theorem HD {prog:Program}{w:World}{A:Around}{E:Value->Shared->Prop}{s:Shared}{l b:Addr}{items items2:Array Value}{eks:List (Bool × Bool)}{Q:Value->Shared->Prop} (hl:IsTup s.heap l items) (hb:IsTup s.heap b items2) (hc:nN .Lt A.in1 s items.toList items2.toList eks)
  (hu:A.units<cLine) (h:Q (.bool (oA (decide (items.size<items2.size)) eks)) s):wpAny (model prog w) A (richCompare .Lt (.ref l) (.ref b)) Q E s:=by
 obtain ⟨⟨cls,dd,data,sl⟩,ho,hc',n,hd⟩:=id hl
 obtain ⟨⟨cls2,dd2,data2,sl2⟩,ho2,hc2,n2,hd2⟩:=id hb
 simp only at hc' hd hc2 hd2
 subst hc' hd hc2 hd2
 exact richCompare_meets_room (op:=.Lt) ⟨_,ho,rfl⟩ ⟨_,ho2,rfl⟩ PySem.F.slot_tuple_lt PySem.F.entry_tuple_lt (PySem.F.args_tuple_lt_2 _ _) (sN l b items items2 n n2 dd dd2 sl sl2 eks)
  ⟨ho,ho2,hc,show Value.bool (oA (decide (items.size<items2.size)) eks)≠Value.notImplemented/\Q (.bool (oA (decide (items.size<items2.size)) eks)) s from ⟨(fun x=>nomatch x),h⟩⟩ hu
end L2
namespace L2
open PySem PySem.Spec PyProof.Rows RS
def cU:CmpOp->Int->Int->Bool
 | .Lt,i,j=>decide (i<j)
 | .LtE,i,j=>decide (i<=j)
 | .Gt,i,j=>decide (i > j)
 | .GtE,i,j=>decide (i ≥ j)
 | _,_,_=>false
def CQ:CmpOp->Bool
 | .Lt=>true
 | _=>false
mutual
def fA (op:CmpOp):PyData->PyData->Option Bool
 | .int i,.int j=>some (cU op i j)
 | .tuple xs,.tuple ys=>if CQ op=true then cmpPs op xs ys else none
 | _,_=>none
def cmpPs (op:CmpOp):List PyData->List PyData->Option Bool
 | [],ys=>some (cU op 0 ys.length)
 | _::xs,[]=>some (cU op (xs.length+1) 0)
 | x::xs,y::ys=>if PyData.eqv x y=true then cmpPs op xs ys else fA op x y
end
def tZ:CmpOp->Bool
 | .Lt | .LtE | .Gt | .GtE=>true
 | _=>false
theorem JJ:∀ {op:CmpOp} (ho:tZ op=true) {A:Around}{s:Shared} (a:Int) (t:Tok) (c:Int) (u:Tok),yg op A s (.int a t) (.int c u) (cU op a c)
 | .Lt,_,A,s,a,t,c,u=>fun prog w E Q h=>(PyProof.Rows.lt_int h:wpAny (model prog w) A (compareOp .Lt (.int a t) (.int c u)) Q E s)
 | .LtE,_,A,s,a,t,c,u=>fun prog w E Q h=>(PyProof.Rows.le_int h:wpAny (model prog w) A (compareOp .LtE (.int a t) (.int c u)) Q E s)
 | .Gt,_,A,s,a,t,c,u=>fun prog w E Q h=>(PyProof.Rows.gt_int h:wpAny (model prog w) A (compareOp .Gt (.int a t) (.int c u)) Q E s)
 | .GtE,_,A,s,a,t,c,u=>fun prog w E Q h=>(PyProof.Rows.ge_int h:wpAny (model prog w) A (compareOp .GtE (.int a t) (.int c u)) Q E s)
theorem wU {op:CmpOp} (i j:Nat):cU op ((i+1:Nat):Int) ((j+1:Nat):Int)=cU op (i:Int) (j:Int):=by
 cases op <;> first | rfl | (unfold cU;simp)
theorem JI:∀ {op:CmpOp} (ho:CQ op=true) {A:Around}{s:Shared}{l b:Addr}{items items2:Array Value}{eks:List (Bool × Bool)} (hl:IsTup s.heap l items) (hb:IsTup s.heap b items2) (hc:nN op A.in1 s items.toList items2.toList eks)
  (hu:A.units<cLine),yg op A s (.ref l) (.ref b) (oA (cU op items.size items2.size) eks)
 | .Lt,_,A,s,l,b,items,items2,eks,hl,hb,hc,hu=>fun prog w E Q h=>HD hl hb hc hu (by
   have e:decide (items.size<items2.size)=cU .Lt items.size items2.size:=by (unfold cU;simp)
   rw [e];exact h)
mutual
theorem pd {op:CmpOp} (ho:tZ op=true):∀ (da db:PyData) (A:Around) (s:Shared) (a b:Value) (as bs:List Addr) (k:Bool),Reads s.heap a da as->Reads s.heap b db bs->da.canLay0=true->db.canLay0=true ->
  A.units+min da.depth db.depth<cLine->fA op da db=some k->yg op A s a b k
 | .int i,.int j,A,s,_,_,_,_,k,ra,rb,_,_,hu,hk=>by
  cases ra;cases rb
  simp only [fA] at hk
  cases hk
  exact JJ ho _ _ _ _
 | .tuple xs,.tuple ys,A,s,_,_,_,_,k,ra,rb,ha,hb,hu,hk=>by
  simp only [fA] at hk
  have hlt:CQ op=true:=by
   cases z:CQ op with
   | true=>rfl
   | false=>rw [z,LM Mm] at hk;cases hk
  rw [LL hlt] at hk
  cases ra with
  | @tuple l o vs n _ as₁ h1 h2 h3 h4=>
   cases rb with
   | @tuple l' o' vs' n' _ bs₁ k1 k2 k3 k4=>
    have n1:vs.size=xs.length:=by simpa using SeqAt.ReadsAll.length _ _ _ h4
    have n2:vs'.size=ys.length:=by simpa using SeqAt.ReadsAll.length _ _ _ k4
    obtain ⟨eks,e1,e2⟩:=rc_readsAll ho xs ys A.in1 s vs.toList vs'.toList _ _ k h4 k4 (by simpa [PyData.canLay0] using ha) (by simpa [PyData.canLay0] using hb) (SeqAt.room_in hu) hk
    have:=JI hlt (A:=A) (s:=s) (l:=l) (b:=l') (items:=vs) (items2:=vs') (eks:=eks) ⟨_,h1,h2,_,h3⟩ ⟨_,k1,k2,_,k3⟩ e1 (SeqAt.room_here hu)
    rw [n1,n2,e2] at this
    exact this
 | .none,_,_,_,_,_,_,_,_,_,_,_,_,_,hk=>by simp only [fA] at hk;cases hk
 | .bool _,_,_,_,_,_,_,_,_,_,_,_,_,_,hk=>by simp only [fA] at hk;cases hk
 | .str _,_,_,_,_,_,_,_,_,_,_,_,_,_,hk=>by simp only [fA] at hk;cases hk
 | .list _,_,_,_,_,_,_,_,_,_,_,_,_,_,hk=>by simp only [fA] at hk;cases hk
 | .dict _,_,_,_,_,_,_,_,_,_,_,_,_,_,hk=>by simp only [fA] at hk;cases hk
 | .int _,.none,_,_,_,_,_,_,_,_,_,_,_,_,hk=>by simp only [fA] at hk;cases hk
 | .int _,.bool _,_,_,_,_,_,_,_,_,_,_,_,_,hk=>by simp only [fA] at hk;cases hk
 | .int _,.str _,_,_,_,_,_,_,_,_,_,_,_,_,hk=>by simp only [fA] at hk;cases hk
 | .int _,.list _,_,_,_,_,_,_,_,_,_,_,_,_,hk=>by simp only [fA] at hk;cases hk
 | .int _,.tuple _,_,_,_,_,_,_,_,_,_,_,_,_,hk=>by simp only [fA] at hk;cases hk
 | .int _,.dict _,_,_,_,_,_,_,_,_,_,_,_,_,hk=>by simp only [fA] at hk;cases hk
 | .tuple _,.none,_,_,_,_,_,_,_,_,_,_,_,_,hk=>by simp only [fA] at hk;cases hk
 | .tuple _,.bool _,_,_,_,_,_,_,_,_,_,_,_,_,hk=>by simp only [fA] at hk;cases hk
 | .tuple _,.int _,_,_,_,_,_,_,_,_,_,_,_,_,hk=>by simp only [fA] at hk;cases hk
 | .tuple _,.str _,_,_,_,_,_,_,_,_,_,_,_,_,hk=>by simp only [fA] at hk;cases hk
 | .tuple _,.list _,_,_,_,_,_,_,_,_,_,_,_,_,hk=>by simp only [fA] at hk;cases hk
 | .tuple _,.dict _,_,_,_,_,_,_,_,_,_,_,_,_,hk=>by simp only [fA] at hk;cases hk
theorem rc_readsAll {op:CmpOp} (ho:tZ op=true):∀ (xs ys:List PyData) (A:Around) (s:Shared) (vs ws:List Value) (as bs:List Addr) (k:Bool),ReadsAll s.heap vs xs as->ReadsAll s.heap ws ys bs->PyData.canLayAll0 xs=true->PyData.canLayAll0 ys=true ->
  A.units+min (PyData.depthAll xs) (PyData.depthAll ys)<cLine->cmpPs op xs ys=some k->∃ eks,nN op A s vs ws eks/\oA (cU op (xs.length:Nat) (ys.length:Nat)) eks=k
 | [],ys,A,s,_,_,_,_,k,ra,rb,_,_,_,hk=>by
  cases ra
  simp only [cmpPs] at hk
  cases hk
  exact ⟨[],by unfold nN;trivial,rfl⟩
 | x::xs,[],A,s,_,_,_,_,k,ra,rb,_,_,_,hk=>by
  cases rb
  simp only [cmpPs] at hk
  cases hk
  cases ra
  refine ⟨[],by unfold nN;trivial,?_⟩
  simp [oA]
 | x::xs,y::ys,A,s,_,_,_,_,k,ra,rb,ha,hb,hu,hk=>by
  have ha':x.canLay0=true/\PyData.canLayAll0 xs=true:=by simpa [PyData.canLayAll0] using ha
  have hb':y.canLay0=true/\PyData.canLayAll0 ys=true:=by simpa [PyData.canLayAll0] using hb
  cases ra with
  | cons r rs=>
   cases rb with
   | cons r' rs'=>
    have he:=SeqAt.eqAt_reads x y A s _ _ _ _ r r' ha'.1 hb'.1 (SeqAt.room_head hu)
    simp only [cmpPs] at hk
    cases e:PyData.eqv x y with
    | true=>
     rw [LL e] at hk
     rw [e] at he
     obtain ⟨eks,e1,e2⟩:=rc_readsAll ho xs ys A s _ _ _ _ k rs rs' ha'.2 hb'.2 (SeqAt.room_tail hu) hk
     refine ⟨(true,false)::eks,⟨he,fun z=>(by cases z),fun _=>e1⟩,?_⟩
     show oA (cU op ((xs.length+1:Nat):Int) ((ys.length+1:Nat):Int)) eks=k
     rw [wU];exact e2
    | false=>
     rw [LM (by rw [e];exact Mm)] at hk
     rw [e] at he
     refine ⟨[(false,k)],⟨he,fun _=>pd ho x y A s _ _ _ _ k r r' ha'.1 hb'.1 (SeqAt.room_head hu) hk,fun z=>(by cases z)⟩,rfl⟩
end
def Ah (K:W.Frag) (op:CmpOp):R2:=fun x y H Q=>∃ a b k,lh K H a x/\lh K H b y/\cT a=true/\cT b=true/\fA op a b=some k/\Q (.bl k) H
theorem D5 {X:Cx} (hu:X.A.units+64<cLine):∀ {op:CmpOp},tZ op=true->ig X (compareOp op) (Ah X.K op):=by
 intro op ho pins s σ H x y v u Q I rx ry h
 obtain ⟨a,b,k,h1,h2,h3,h4,h5,q⟩:=h
 obtain ⟨as,r1⟩:=cz I a x v h1 rx
 obtain ⟨bs,r2⟩:=cz I b y u h2 ry
 have:=pd ho a b X.A s v u as bs k r1 r2 (bH h3) (bH h4) (mP h3 hu) h5 X.prog X.w X.xe (EP X pins σ Q) ⟨.bl k,H,I,rfl,q⟩
 cases op <;> first
  | exact absurd ho (by decide)
  | exact this
def fH (op:CmpOp) (a b:D) (μ:aw):aj D:=match ju μ a,ju μ b with
 | some p,some q=>if cT p=true/\cT q=true then (match fA op p q with | some k=>.ok (.bl k) μ | none=>.bad) else .bad
 | _,_=>.bad
theorem Hu {p:Pa}{op:CmpOp}:nK p (fH op) (Ah p.K op):=by
 intro a b v y H α μ Q S ra rb P
 unfold fH at P
 split at P
 ·rename_i x z hx hz
  split at P
  ·rename_i hf
   split at P
   ·rename_i k hk
    exact ⟨x,z,k,iV S hx ra,iV S hz rb,hf.1,hf.2,hk,P.now S _ (aT.mpr rfl)⟩
   ·exact P.elim
  ·exact P.elim
 ·exact P.elim
def dI (g:Int->Int->D) (a b:D) (μ:aw):aj D:=match a,b with
 | .int i,.int j=>.ok (g i j) μ
 | _,_=>.bad
open Classical in
noncomputable def FG (C:Int->Int->Prop) (g:Int->Int->D) (a b:D) (μ:aw):aj D:=match a,b with
 | .int i,.int j=>if C i j then .ok (g i j) μ else .bad
 | _,_=>.bad
section
variable {p:Pa}
theorem KS {g:Int->Int->V}{gd:Int->Int->D} (h:∀ i j H α,p.R H α (gd i j) (g i j)):nK p (dI gd) (IE g):=by
 intro a b v y H α μ Q S ra rb P
 unfold dI at P
 split at P
 ·rename_i i j
  exact ⟨i,j,aq.mp ra,aq.mp rb,P.now S _ (h i j H α)⟩
 ·exact P.elim
theorem Ak {C:Int->Int->Prop}{g:Int->Int->V}{gd:Int->Int->D} (h:∀ i j H α,p.R H α (gd i j) (g i j)):nK p (FG C gd) (rI C g):=by
 intro a b v y H α μ Q S ra rb P
 unfold FG at P
 split at P
 ·rename_i i j
  split at P
  ·rename_i hc
   exact ⟨i,j,aq.mp ra,aq.mp rb,hc,P.now S _ (h i j H α)⟩
  ·exact P.elim
 ·exact P.elim
def ye (a:D) (μ:aw):aj D:=match a with
 | .int i=>.ok (.int (-i)) μ
 | _=>.bad
theorem HA:Lj p ye (rU fun i=>.int (-i)):=by
 intro a v H α μ Q S ra P
 unfold ye at P
 split at P
 ·rename_i i
  exact ⟨i,aq.mp ra,P.now S _ (aq.mpr rfl)⟩
 ·exact P.elim
def Fg (K:W.Frag):R2:=fun x y H Q=>∃ a b xs ys,x=.ref a/\y=.ref b/\fY K H a xs/\fY K H b ys/\xs.length+ys.length<=sizeLine /\
 (xs=[]->Q (.ref b) H)/\(xs≠[]->ys=[]->Q (.ref a) H)/\(xs≠[]->ys≠[]->∀ p,H p=none->Q (.ref p) (cn H p (.tup (xs++ys))))
theorem Cn {prog:Program}{w:World}{A:Around}{E:Value->Shared->Prop}{s:Shared}{t b:Addr}{ws:List Value}{Q:Value->Shared->Prop} (ht:IsTup s.heap t #[]) (hb:IsTup s.heap b ws.toArray) (h0:Q (.ref b) s):wpAny (model prog w) A (binaryOp .Add (.ref t) (.ref b)) Q E s:=by
 obtain ⟨⟨cls,dd,data,sl⟩,ho,hc,n,hd⟩:=id ht
 obtain ⟨⟨cls2,dd2,data2,sl2⟩,ho2,hc2,n2,hd2⟩:=id hb
 simp only at hc hd hc2 hd2
 subst hc hd hc2 hd2
 exact concat_meets ⟨_,ho,rfl⟩ ⟨_,ho2,rfl⟩ MZ seq_tuple_add M7 M8 (M9 _ _)
  (tuple_addW0 t b #[] ws.toArray n n2 dd dd2 sl sl2 (by simp)) ⟨ho,ho2,h0⟩
theorem D7 {X:Cx}:ig X (binaryOp .Add) (Fg X.K):=by
 intro pins s σ H x y v u Q I rx ry h
 obtain ⟨a,b,xs,ys,rfl,rfl,ha,hb,hz,q0,q1,q2⟩:=h
 by_cases hx:xs=[]
 ·cases rx
  cases ry
  obtain ⟨its,r1,p1,_⟩:=I.tuple ha
  obtain ⟨its2,r2,p2,_⟩:=I.tuple hb
  subst hx
  cases r1
  exact Cn p1 p2 ⟨.ref b,H,I,rfl,q0 rfl⟩
 ·exact D6 pins s σ H (.ref a) (.ref b) v u Q I rx ry ⟨a,b,xs,ys,rfl,rfl,ha,hb,hx,hz,q1 hx,q2 hx⟩
def Ai (K:W.Frag):R2:=fun x y H Q=>IE (fun i j=>.int (i+j)) x y H Q\/Fg K x y H Q\/IW x y H Q\/(∃ i j,x=.str i/\y=.str j/\i.length+j.length<=sizeLine/\Q (.str (i++j)) H)
theorem D8 {X:Cx}:ig X (binaryOp .Add) (Ai X.K):=Hi.or (D7.or (Hh.or wC))
def cH (a b:D) (μ:aw):aj D:=match a,b with
 | .int i,.int j=>.ok (.int (i+j)) μ
 | .str x,.str y=>if x.length+y.length<=sizeLine then .ok (.str (x++y)) μ else .bad
 | .tup xs,.tup ys=>if xs.length+ys.length<=sizeLine then .ok (.tup (xs++ys)) μ else .bad
 | .obj m,.obj n=>match μ[m]?,μ[n]? with
  | some (.lst xs),some (.lst ys)=>if xs.length+ys.length<=sizeLine then .ok (.obj μ.length) (μ++[.lst (xs++ys)]) else .bad
  | _,_=>.bad
 | _,_=>.bad
theorem b8 {H:Hp}{α:List Addr}{μ:aw}{n:Nat}{v:V}{xs:List D} (S:p.S H α μ) (r:p.R H α (.obj n) v) (hx:μ[n]?=some (.lst xs)):∃ a us,v=.ref a/\α[n]?=some a/\H a=some (.lst us)/\p.Rs H α xs us:=by
 obtain ⟨a,ea,us,hH,rr⟩:=S.at hx
 obtain ⟨a',rfl,ea'⟩:=aP.mp r
 rw [ea] at ea';cases ea'
 exact ⟨a,us,rfl,ea,hH,rr⟩
theorem Reps.nil_iff' {K:W.Frag}{H:Hp}{α:List Addr}{xs:List D}{vs:List V} (r:Reps K H α xs vs):vs=[]↔xs=[]:=by
 have:=r.length
 constructor
 ·intro h;subst h;simp at this;exact PH this.symm
 ·intro h;subst h;simp at this;exact this
theorem Hx:nK p cH (Ai p.K):=by
 intro a b v y H α μ Q S ra rb P
 unfold cH at P
 split at P
 ·rename_i i j
  exact .inl ⟨i,j,aq.mp ra,aq.mp rb,P.now S _ (aq.mpr rfl)⟩
 ·rename_i i j
  split at P
  ·rename_i hl
   exact .inr (.inr (.inr ⟨i,j,bu.mp ra,bu.mp rb,hl,P.now S _ (bu.mpr rfl)⟩))
  ·exact P.elim
 ·rename_i xs ys
  split at P
  ·rename_i hl
   obtain ⟨a,us,rfl,h1,r1⟩:=aF.mp ra
   obtain ⟨b,ws,rfl,h2,r2⟩:=aF.mp rb
   refine .inr (.inl ⟨a,b,us,ws,rfl,rfl,h1,h2,by rw [r1.length,r2.length];exact hl,fun e=>?_,fun _ e=>?_,fun _ _ q hq=>?_⟩)
   ·have ex := r1.nil_iff'.mp e
    subst ex
    exact P.now S _ (by simpa using rb)
   ·have ey := r2.nil_iff'.mp e
    subst ey
    exact P.now S _ (by simpa using ra)
   ·exact P _ _ (bM hq) (S.tuple hq) _ (aF.mpr ⟨q,_,rfl,fY.of bU,(r1.append r2).mono (bM hq)⟩)
  ·exact P.elim
 ·rename_i m n
  split at P
  ·rename_i xs ys hx hy
   split at P
   ·rename_i hl
    obtain ⟨a,us,rfl,a1,h1,r1⟩:=b8 S ra hx
    obtain ⟨b,ws,rfl,b1,h2,r2⟩:=b8 S rb hy
    refine .inr (.inr (.inl ⟨a,b,us,ws,rfl,rfl,h1,h2,by rw [r1.length,r2.length];exact hl,fun q hq=>?_⟩))
    obtain ⟨x1,x2,x3⟩:=cA S hq (r1.append r2)
    exact P _ _ x1 x2 _ x3
   ·exact P.elim
  ·exact P.elim
 ·exact P.elim
def E9:R2:=fun x y H Q=>rI tV (fun i j=>.int (i * j)) x y H Q\/IQ x y H Q
theorem D3 {X:Cx}:ig X (binaryOp .Mult) E9:=Hc.or G8
open Classical in
noncomputable def kr (a b:D) (μ:aw):aj D:=match a,b with
 | .int i,.int j=>if tV i j then .ok (.int (i * j)) μ else .bad
 | .obj m,.int k=>match μ[m]? with
  | some (.lst xs)=>if -(2 ^ 63)<=k/\k<2 ^ 63/\xs.length * k.toNat<=sizeLine then .ok (.obj μ.length) (μ++[.lst (List.replicate k.toNat xs).flatten]) else .bad
  | _=>.bad
 | _,_=>.bad
theorem Reps.rep {K:W.Frag}{H:Hp}{α:List Addr}{xs:List D}{vs:List V} (h:Reps K H α xs vs):∀ k:Nat,Reps K H α (List.replicate k xs).flatten (List.replicate k vs).flatten
 | 0=>by simpa using Reps.nil
 | k+1=>by
  rw [NH,NH,NI,NI]
  exact h.append (Reps.rep h k)
theorem Hs:nK p kr E9:=by
 intro a b v y H α μ Q S ra rb P
 unfold kr at P
 split at P
 ·rename_i i j
  split at P
  ·rename_i hc
   exact .inl ⟨i,j,aq.mp ra,aq.mp rb,hc,P.now S _ (aq.mpr rfl)⟩
  ·exact P.elim
 ·rename_i m k
  split at P
  ·rename_i xs hx
   split at P
   ·rename_i hl
    obtain ⟨a,us,rfl,a1,h1,r1⟩:=b8 S ra hx
    refine .inr ⟨a,k,us,rfl,aq.mp rb,h1,hl.1,hl.2.1,by rw [r1.length];exact hl.2.2,fun q hq=>?_⟩
    obtain ⟨x1,x2,x3⟩:=cA S hq (r1.rep k.toNat)
    exact P _ _ x1 x2 _ x3
   ·exact P.elim
  ·exact P.elim
 ·exact P.elim
def cq (a b:D) (μ:aw):aj D:=match a,b with
 | .tup xs,.int i=>match atI xs i with
  | some d=>.ok d μ
  | none=>.bad
 | .frz xs,.int i=>match atI xs i with
  | some d=>.ok d μ
  | none=>.bad
 | .obj n,.int i=>match μ[n]? with
  | some (.lst xs)=>match atI xs i with
   | some d=>.ok d μ
   | none=>.bad
  | _=>.bad
 | _,_=>.bad
theorem Reps.atI {K:W.Frag}{H:Hp}{α:List Addr}{xs:List D}{vs:List V}{i:Int}{d:D} (r:Reps K H α xs vs) (h:L2.atI xs i=some d):∃ v,L2.atI vs i=some v/\aN K H α d v:=by
 unfold L2.atI at h ⊢
 rw [r.length]
 cases e:xc xs.length i with
 | none=>rw [e] at h;cases h
 | some j=>rw [e] at h;exact r.get h
theorem JU:nK p cq (Lg p.K):=by
 intro a b v y H α μ Q S ra rb P
 unfold cq at P
 split at P
 ·rename_i xs i
  split at P
  ·rename_i d hd
   obtain ⟨a,us,rfl,h1,r1⟩:=aF.mp ra
   obtain ⟨v,hv,rv⟩:=r1.atI hd
   exact .inr (.inl ⟨a,us,i,v,rfl,aq.mp rb,h1,hv,P.now S _ rv⟩)
  ·exact P.elim
 ·rename_i xs i
  split at P
  ·rename_i d hd
   obtain ⟨a,us,rfl,h1,r1⟩:=bj.mp ra
   obtain ⟨v,hv,rv⟩:=r1.atI hd
   exact .inl ⟨a,us,i,v,rfl,aq.mp rb,h1.sq,hv,P.now S _ rv⟩
  ·exact P.elim
 ·rename_i n i
  split at P
  ·rename_i xs hx
   split at P
   ·rename_i d hd
    obtain ⟨a,us,rfl,a1,h1,r1⟩:=b8 S ra hx
    obtain ⟨v,hv,rv⟩:=r1.atI hd
    exact .inl ⟨a,us,i,v,rfl,aq.mp rb,fw.of h1,hv,P.now S _ rv⟩
   ·exact P.elim
  ·exact P.elim
 ·exact P.elim
theorem JE {X:Cx}{a b:Expr}{fa fb:ME}{pos:Pos} (hK:X.K=p.K) (ha:PE X a (tD p fa)) (hb:PE X b (tD p fb)) (hs:sM b):PE X (.Subscript a b pos) (tD p (aC cq fa fb)):=
 (JP HU ha hb hs).weak fun σ H Q ⟨α, ρ, μ, S, R, P⟩ => ⟨α, ρ, μ, S, R, (az.bind P).imp fun x μ1 H1 α1 X1 S1 P1 v rv => ⟨α1, ρ, μ1, S1, R.mono X1, (az.bind P1).imp fun y μ2 H2 α2 X2 S2 P2 u ru => by
  rw [hK];exact JU x y v u H2 α2 μ2 Q S2 (rv.mono X2) ru P2⟩⟩
theorem kv {prog:Program}{w:World}{A:Around}{E:Value->Shared->Prop}{s:Shared}{t sl:Addr}{items:Array Value}{vl vu:Value}{lo hi:Option Int}{Q:Value->Shared->Prop} (ht:IsTup s.heap t items) (hs:s.heap.IsSliceOf sl vl vu .none) (pl:IsPart vl lo) (pu:IsPart vu hi)
  (hw:HT.sIx items.size 0 lo=0/\HT.sIx items.size items.size hi=items.size) (h:Q (.ref t) s):wpAny (model prog w) A (getItem (.ref t) (.ref sl)) Q E s:=by
 obtain ⟨os,hos,hcs,hds⟩:=id hs
 have hTs:s.TypeIs (.ref sl) "slice" := ⟨os,hos,hcs⟩
 unfold getItem
 try with_reducible refine Mi ?_
 first | refine Mh (Mo ?_) | skip
 refine Mh (Nk ht.typeIs (by decide) ?_)
 refine Mh (Nl (name:=Str.ofString "__getitem__") ht.typeIs Np
  (Nq Np ht.typeIs Nr ?_ (Nt _ _)))
 show wpAny _ _ (Builtin.Tuple.tupleItemsOf (.ref t) >>= _) _ _ s
 refine Mh (tupleItemsOf_ ht ?_)
 refine Mh (Nu hTs ?_)
 rw [LL (by decide)]
 refine Mh (HT.sliceApplied_gen hs pl pu ?_)
 have hno:(((HT.sIx items.size 0 lo:Nat):Int) == 0 && (1:Int) == 1 && (HT.sIx items.size items.size hi - HT.sIx items.size 0 lo) == items.size)=true:=by
  rw [hw.1,hw.2];simp
 show wpAny _ _ (if (((HT.sIx items.size 0 lo:Nat):Int) == 0 && (1:Int) == 1 && (HT.sIx items.size items.size hi - HT.sIx items.size 0 lo) == items.size)=true then _ else _) _ _ s
 rw [LL hno]
 refine Mh (m:=Builtin.Tuple.tupleIsExact (.ref t)) (Mh (Nu ht.typeIs (Mo ?_)))
 rw [LL (by decide)]
 exact Mh (N3 (Mo ⟨_,rfl,Mo h⟩))
def jy {β:Type} (xs:List β) (lo hi:Option Int):List β:=(xs.drop (HT.sIx xs.length 0 lo)).take (HT.sIx xs.length xs.length hi - HT.sIx xs.length 0 lo)
theorem wQ {β:Type} (xs:List β) (lo hi:Option Int) (h:HT.sIx xs.length 0 lo=0/\HT.sIx xs.length xs.length hi=xs.length):jy xs lo hi=xs:=by
 unfold jy
 rw [h.1,h.2];simp
def E7 (K:W.Frag):V->Option Int->Option Int->Hp->VK->Prop:=fun x lo hi H Q=>∃ a xs,x=.ref a/\fY K H a xs /\
 (HT.sIx xs.length 0 lo=0/\HT.sIx xs.length xs.length hi=xs.length)/\Q (.ref a) H
theorem Dr {X:Cx}:CI X (E7 X.K):=by
 intro pins s σ H x v vl vu lo hi sl Q I rx hs pl pu h
 obtain ⟨a,xs,rfl,hx,hw,q⟩:=h
 cases rx
 obtain ⟨its,r,ht,hz⟩:=I.tuple hx
 have hlen:its.toArray.size=xs.length:=by rw [Mz];exact r.length.symm
 refine ⟨"tuple",_,Np.lookup,ht.typeIs,?_⟩
 exact kv ht hs pl pu (by rw [hlen];exact hw) ⟨.ref a,H,I,rfl,q⟩
def IP (K:W.Frag):V->Option Int->Option Int->Hp->VK->Prop:=fun x lo hi H Q=>IL K x lo hi H Q\/E7 K x lo hi H Q\/IM K x lo hi H Q
theorem KQ {X:Cx}:CI X (IP X.K):=Gs.or (Dr.or Ds)
abbrev MO:=Ro->aw->aj (Option Int)
def FE:MO:=fun _ μ=>.ok none μ
def Kg (d:D) (μ:aw):aj (Option Int):=match d with
 | .int i=>.ok (some i) μ
 | _=>.bad
def lC (f:ME):MO:=fun ρ μ=>(f ρ μ).bind Kg
def EY (p:Pa) (f:MO):TO:=fun σ H Q=>∃ α ρ μ,p.S H α μ/\cF p.K H α ρ σ/\az p H α (f ρ μ) (fun o _ H' _=>Q o H')
theorem PO.weak {X:Cx}{e:Option Expr}{t t':TO} (h:PO X e t) (k:∀ σ H Q,t' σ H Q->t σ H Q):PO X e t':=fun pins s σ H Q I q=>h pins s σ H Q I (k σ H Q q)
theorem Dq {X:Cx}:PO X none (EY p FE):=DS.weak fun σ H Q ⟨α,ρ,μ,S,R,P⟩=>P.now S
theorem Dp {X:Cx}{e:Expr}{f:ME} (h:PE X e (tD p f)):PO X (some e) (EY p (lC f)):=(DR h).weak fun σ H Q ⟨α,ρ,μ,S,R,P⟩=>⟨α,ρ,μ,S,R,(az.bind P).imp fun d μ1 H1 α1 X1 S1 P1 v rv=>by
 unfold Kg at P1
 split at P1
 ·rename_i i
  exact ⟨i,aq.mp rv,P1.now S1⟩
 ·exact P1.elim⟩
def EZ (a:D) (lo hi:Option Int) (μ:aw):aj D:=match a with
 | .tup xs=>.ok (.tup (jy xs lo hi)) μ
 | .frz xs=>.ok (.obj μ.length) (μ++[.lst (jy xs lo hi)])
 | .obj n=>match μ[n]? with
  | some (.lst xs)=>.ok (.obj μ.length) (μ++[.lst (jy xs lo hi)])
  | _=>.bad
 | _=>.bad
def E1 (fa:ME) (fl fh:MO):ME:=fun ρ μ=>(fa ρ μ).bind fun a μ1=>(fl ρ μ1).bind fun lo μ2=>(fh ρ μ2).bind fun hi μ3=>EZ a lo hi μ3
theorem Reps.cut' {K:W.Frag}{H:Hp}{α:List Addr}{xs:List D}{vs:List V} (r:Reps K H α xs vs) (lo hi:Option Int):Reps K H α (jy xs lo hi) (tR vs lo hi):=by
 unfold jy tR
 rw [r.length]
 exact (r.drop _).take _
theorem JC {a:D}{v:V}{lo hi:Option Int}{H:Hp}{α:List Addr}{μ:aw}{Q:VK} (S:p.S H α μ) (ra:p.R H α a v) (P:az p H α (EZ a lo hi μ) (RV p Q)):IP p.K v lo hi H Q:=by
 unfold EZ at P
 split at P
 ·rename_i xs
  obtain ⟨a,us,rfl,h1,r1⟩:=aF.mp ra
  by_cases hw:HT.sIx us.length 0 lo=0/\HT.sIx us.length us.length hi=us.length
  ·refine .inr (.inl ⟨a, us, rfl, h1, hw, ?_⟩)
   rw [r1.length] at hw
   rw [wQ xs lo hi hw] at P
   exact P.now S _ ra
  ·exact .inl ⟨a,us,rfl,h1,hw,fun q hq=>P _ _ (bM hq) (S.tuple hq) _ (aF.mpr ⟨q,_,rfl,fY.of bU,(r1.cut' lo hi).mono (bM hq)⟩)⟩
 ·rename_i xs
  obtain ⟨a,us,rfl,h1,r1⟩:=bj.mp ra
  refine .inr (.inr ⟨a,us,rfl,h1.sq,fun q hq=>?_⟩)
  obtain ⟨x1,x2,x3⟩:=cA S hq (r1.cut' lo hi)
  exact P _ _ x1 x2 _ x3
 ·rename_i n
  split at P
  ·rename_i xs hx
   obtain ⟨a,us,rfl,a1,h1,r1⟩:=b8 S ra hx
   refine .inr (.inr ⟨a,us,rfl,fw.of h1,fun q hq=>?_⟩)
   obtain ⟨x1,x2,x3⟩:=cA S hq (r1.cut' lo hi)
   exact P _ _ x1 x2 _ x3
  ·exact P.elim
 ·exact P.elim
theorem Bq {X:Cx}{e:Expr}{lo hi:Option Expr}{fa:ME}{fl fh:MO}{pos p2:Pos} (hK:X.K=p.K) (he:PE X e (tD p fa)) (hl:PO X lo (EY p fl)) (hu:PO X hi (EY p fh)):PE X (.Subscript e (.Slice lo hi none p2) pos) (tD p (E1 fa fl fh)):=
 (BI KQ he hl hu).weak fun σ H Q ⟨α, ρ, μ, S, R, P⟩ => ⟨α, ρ, μ, S, R, (az.bind P).imp fun a μ1 H1 α1 X1 S1 P1 v rv => ⟨α1, ρ, μ1, S1, R.mono X1, (az.bind P1).imp fun l μ2 H2 α2 X2 S2 P2 => ⟨α2, ρ, μ2, S2, (R.mono X1).mono X2, (az.bind P2).imp fun h μ3 H3 α3 X3 S3 P3 => by
  rw [hK];exact JC S3 ((rv.mono X2).mono X3) P3⟩⟩⟩
theorem j6 {β γ:Type}{f:β->Option γ}{g:β->γ}:∀ {l:List β},(∀ m∈l,f m=some (g m))->l.filterMap f=l.map g
 | [],_=>rfl
 | x::r,h=>by rw [LX,h x LY,Ny,j6 fun m hm=>h m (LZ _ hm)]
theorem uC (xs:Array Value):((List.range xs.size).filterMap fun (m:Nat)=>xs[(((xs.size:Int) - 1)+(m:Int) * (-1)).toNat]?).toArray=xs.toList.reverse.toArray:=by
 congr 1
 apply Pd
 intro i
 have hf:∀ m∈List.range xs.size,xs[(((xs.size:Int) - 1)+(m:Int) * (-1)).toNat]?=some (xs.toList.reverse.getD m .none):=by
  intro m hm
  have hm':m<xs.size:=by simpa using hm
  have e:(((xs.size:Int) - 1)+(m:Int) * (-1)).toNat=xs.size - 1 - m:=by omega
  rw [e,Pc,List.getElem?_reverse (by simpa using hm')]
  have h2:xs.size - 1 - m<xs.size:=by omega
  rw [OD h2]
  simp [Me,h2]
 rw [j6 hf]
 by_cases hi:i<xs.size
 ·rw [MU, Pe hi]
  simp only [Option.map_some]
  rw [Pc,Pq (by simpa using hi)]
  rfl
 ·rw [Pf (by simpa using hi),Pf (by simpa using hi)]
theorem mZ {prog:Program}{w:World}{A:Around}{E:Value->Shared->Prop}{s:Shared}{sl:Addr}{n:Nat}{t:Tok}{Q:Int × Int × Nat->Shared->Prop} (hs:s.heap.IsSliceOf sl .none .none (.int (-1) t))
  (h:Q ((n:Int) - 1,-1,n) s):wpAny (model prog w) A (Builtin.Slice.sliceApplied (.ref sl) (pure (n:Int))) Q E s:=by
 obtain ⟨os,hos,hcs,hds⟩:=id hs
 unfold Builtin.Slice.sliceApplied Builtin.Slice.sliceFields
 refine Mh (Mh (Nh hos hds (x:=.none) rfl (Mh (Nh hos hds (x:=.none) rfl (Mh (Nh hos hds (x:=.int (-1) t) rfl (Mo ?_)))))))
 refine Mh (slicePart_int ?_)
 show wpAny _ _ (if ((-1:Int) == 0)=true then _ else _) _ _ s
 rw [LM (by decide)]
 refine Mh (Ng (Mh (Ng (Mh (Mo ?_)))))
 show wpAny _ _ (match Builtin.Slice.sliceAdjust none none (-1) (n:Int) with | (lo,hi)=>pure (lo,(-1:Int),Builtin.Slice.slicePlaces lo hi (-1))) _ _ s
 have e:Builtin.Slice.sliceAdjust none none (-1) (n:Int)=((n:Int) - 1,-1):=by unfold Builtin.Slice.sliceAdjust;simp
 rw [e]
 show wpAny _ _ (pure ((n:Int) - 1,(-1:Int),Builtin.Slice.slicePlaces ((n:Int) - 1) (-1) (-1))) _ _ s
 have e2:Builtin.Slice.slicePlaces ((n:Int) - 1) (-1) (-1)=n:=by
  unfold Builtin.Slice.slicePlaces
  rw [LM (by decide)]
  split <;> simp <;> omega
 rw [e2]
 exact Mo h
theorem me {prog:Program}{w:World}{A:Around}{E:Value->Shared->Prop}{s:Shared}{t sl:Addr}{tk:Tok}{items:Array Value}{Q:Value->Shared->Prop} (ht:IsTup s.heap t items) (hs:s.heap.IsSliceOf sl .none .none (.int (-1) tk))
  (h:Q (.ref s.heap.objs.size) { s with heap:=s.heap.push { cls:=.type "tuple",data:=.seq items.toList.reverse.toArray } }) (hsz:items.size<=sizeLine):wpAny (model prog w) A (getItem (.ref t) (.ref sl)) Q E s:=by
 have htake:sizeOk (.seq items.toList.reverse.toArray):=by
  show items.toList.reverse.toArray.size<=sizeLine
  simpa using hsz
 obtain ⟨os,hos,hcs,hds⟩:=id hs
 have hTs:s.TypeIs (.ref sl) "slice" := ⟨os,hos,hcs⟩
 unfold getItem
 try with_reducible refine Mi ?_
 first | refine Mh (Mo ?_) | skip
 refine Mh (Nk ht.typeIs (by decide) ?_)
 refine Mh (Nl (name:=Str.ofString "__getitem__") ht.typeIs Np
  (Nq Np ht.typeIs Nr ?_ (Nt _ _)))
 show wpAny _ _ (Builtin.Tuple.tupleItemsOf (.ref t) >>= _) _ _ s
 refine Mh (tupleItemsOf_ ht ?_)
 refine Mh (Nu hTs ?_)
 rw [LL (by decide)]
 refine Mh (mZ hs ?_)
 show wpAny _ _ (if (((items.size:Int) - 1) == 0 && (-1:Int) == 1 && items.size == items.size)=true then _ else _) _ _ s
 rw [LM (by simp),uC]
 first
  | exact Mh (m:=Builtin.Tuple.tupleExact _) (Nw (Mo ⟨_,rfl,Mo h⟩) htake)
  | exact Mh (m:=Builtin.Tuple.tupleExact _) (Nw (Mh (Mo (Mo ⟨_,rfl,Mo h⟩))) htake)
  | exact Mh (Mh (m:=Builtin.Tuple.tupleExact _) (Nw (Mo (Mo ⟨_,rfl,Mo h⟩)) htake))
  | exact Mh (Mh (m:=Builtin.Tuple.tupleExact _) (Nw (Mo ⟨_,rfl,Mo h⟩) htake))
end
inductive zK (K:W.Frag) (H:Hp):V->String->Prop where
 | non:zK K H .non "NoneType"
 | bl (x:Bool):zK K H (.bl x) "bool"
 | int (i:Int):zK K H (.int i) "int"
 | str (x:Str):zK K H (.str x) "str"
 | lst {a:Addr}{xs:List V} (e:fw K H a xs):zK K H (.ref a) "list"
 | tup {a:Addr}{xs:List V} (e:fY K H a xs):zK K H (.ref a) "tuple"
 | dic {a:Addr}{kvs:List (rQ × V)} (e:H a=some (.dK kvs)):zK K H (.ref a) "dict"
def jw (tn T:String):Bool:=tn == T || (tn == "bool" && T == "int")
def sk:List String:=["NoneType", "bool", "int", "str", "list", "tuple", "dict"]
theorem HL {K:W.Frag}:∀ tn∈sk,∀ T∈["int", "bool", "tuple", "list", "str", "dict"],W.kitOne K (.type tn) (.type T)=some (jw tn T):=by
 intro tn h1 T h2
 simp only [sk,L4,O3,O4] at h1 h2
 rcases h1 with rfl|rfl|rfl|rfl|rfl|rfl|rfl <;> rcases h2 with rfl|rfl|rfl|rfl|rfl|rfl <;> rfl
theorem zK.mem {K:W.Frag}{H:Hp}{x:V}{tn:String} (h:zK K H x tn):tn∈sk:=by
 cases h <;> decide
section
variable {X:Cx}
theorem HV {pins:List (Addr × Obj)}{σ:St}{H:Hp}{s:Shared}{A:Around}{E:Value->Shared->Prop}{Q:Value->Shared->Prop}{c:Value}{b:Bool}{x:V}{u:Value}{tn:String} (I:aS X pins σ H s) (rx:bF x u) (ty:zK X.K H x tn) (e:W.kitOne X.K (.type tn) c=some b) (h:∀ tk,Q (.bool b) { s with toks:=tk }) :
  wpAny (model X.prog X.w) A (call (.builtin "isinstance") [u,c]) Q E s:=by
 cases ty with
 | non=>cases (show u=Value.none from rx);exact W.kia_one W.kitx_none I.kIn True.intro e (fun z=>nomatch z) h
 | bl y=>cases (show u=Value.bool y from rx);exact W.kia_one W.kitx_bool I.kIn True.intro e (fun z=>nomatch z) h
 | int i=>obtain ⟨t,q⟩:=(show ∃ t,u=Value.int i t from rx);cases q;exact W.kia_one W.kitx_int I.kIn True.intro e (fun z=>nomatch z) h
 | str y=>obtain ⟨t,q⟩:=(show ∃ t,u=Value.str y t from rx);cases q;exact W.kia_one W.kitx_str I.kIn True.intro e (fun z=>nomatch z) h
 | @lst a xs ea=>
  cases (show u=Value.ref a from rx)
  obtain ⟨its,_,⟨o,n,h1,h2,_⟩,_⟩:=I.list ea
  exact W.kia_one W.kitx_list I.kIn ⟨o,h1,h2⟩ e (fun z=>nomatch z) h
 | @tup a xs ea=>
  cases (show u=Value.ref a from rx)
  obtain ⟨its,_,⟨o,h1,h2,_⟩,_⟩:=I.tuple ea
  exact W.kia_one W.kitx_tuple I.kIn ⟨o,h1,h2⟩ e (fun z=>nomatch z) h
 | @dic a kvs ea=>
  cases (show u=Value.ref a from rx)
  obtain ⟨_,_,vs,_,p⟩:=(show dA X.prog X.w H s.heap a (.dK kvs) from I.hok a _ ea)
  obtain ⟨o,es,ep,h1,h2,_⟩:=p
  exact W.kia_one W.kitx_dict I.kIn ⟨o,h1,h2.1⟩ e (fun z=>nomatch z) h
def IU (K:W.Frag):List V->Hp->VK->Prop:=fun xs H Q=>∃ x T tn b,xs=[x,.ty T]/\zK K H x tn/\W.kitOne K (.type tn) (.type T)=some b/\Q (.bl b) H
theorem Cp:cj X (.builtin "isinstance") (IU X.K):=by
 intro pins s σ H xs us Q I r h
 obtain ⟨x,T,tn,b,rfl,ty,e,q⟩:=h
 obtain ⟨u,u2,rfl,ru,ru2⟩:=z7 r
 cases ru2
 exact HV I ru ty e fun tk=>⟨.bl b,H,I.tok _,rfl,q⟩
end
def mf (μ:aw):D->Option String
 | .non=>some "NoneType"
 | .bl _=>some "bool"
 | .int _=>some "int"
 | .str _=>some "str"
 | .tup _=>some "tuple"
 | .frz _=>some "list"
 | .obj n=>match μ[n]? with
  | some (.lst _)=>some "list"
  | some .dic=>some "dict"
  | _=>none
theorem F8 {p:Pa}{H:Hp}{α:List Addr}{μ:aw}{d:D}{v:V}{tn:String} (S:p.S H α μ) (r:p.R H α d v) (h:mf μ d=some tn):zK p.K H v tn:=by
 cases d with
 | non=>cases h;rw [bA.mp r];exact .non
 | bl b=>cases h;rw [aT.mp r];exact .bl b
 | int b=>cases h;rw [aq.mp r];exact .int b
 | str b=>cases h;rw [bu.mp r];exact .str b
 | tup xs=>cases h;obtain ⟨a,vs,rfl,h1,_⟩:=aF.mp r;exact .tup h1
 | frz xs=>cases h;obtain ⟨a,vs,rfl,h1,_⟩:=bj.mp r;exact .lst h1.sq
 | obj n=>
  unfold mf at h
  dsimp only at h
  split at h
  ·rename_i xs hx
   cases h
   obtain ⟨a,us,rfl,a1,h1,_⟩:=b8 S r hx
   exact .lst (fw.of h1)
  ·rename_i hx
   cases h
   obtain ⟨a,ea,q⟩:=S.at hx
   obtain ⟨a',rfl,ea'⟩:=aP.mp r
   rw [ea] at ea';cases ea'
   exact .dic q
  ·cases h
def dZ (T:String) (d:D) (μ:aw):aj D:=match mf μ d with
 | some tn=>.ok (.bl (jw tn T)) μ
 | none=>.bad
theorem GB {p:Pa}{X:Cx}{a:Expr}{fa:ME}{T:String}{xT:Str}{px pt pos:Pos} (hK:X.K=p.K) (hT:T∈["int", "bool", "tuple", "list", "str", "dict"]) (hg:Gl X "isinstance") (hm:X.mg "isinstance" = none) (hgT:Gl X xT) (hmT:X.mg xT=none) (hbT:bootBuiltins xT=some (.type T)) (ha:PE X a (tD p fa))
  (hnT:xT ≠ "__name__") (hdT:(xT == ("__debug__" : Str))=false) (hs1:starEach [a,.Name xT pt] X.env=(false,eval a X.env)::starEach [.Name xT pt] X.env) :
  PE X (.Call (.Name "isinstance" px) [a,.Name xT pt] [] pos) (tD p (mh (dZ T) fa)):=by
 have hb:PE X (.Name xT pt) (tC (.ty T)):=xH hgT hmT hbT rfl hnT hdT
 refine (lO Cp hg hm PJ (ik ha (ik hb oR rfl) hs1) (by decide) (by decide) hs1 rfl).weak fun σ H Q ⟨α,ρ,μ,S,R,P⟩=>⟨α,ρ,μ,S,R,(az.bind P).imp fun d μ1 H1 α1 X1 S1 P1 v rv=>?_⟩
 show IU X.K [v,.ty T] H1 Q
 unfold dZ at P1
 split at P1
 ·rename_i tn htn
  have ty:=F8 S1 rv htn
  rw [hK]
  exact ⟨v,T,tn,_,rfl,ty,HL tn ty.mem T hT,P1.now S1 _ (aT.mpr rfl)⟩
 ·exact P1.elim
def kR:List D->Option (List Bool)
 | []=>some []
 | .bl b::r=>(kR r).map (b::·)
 | _::_=>none
theorem pS:∀ {ds:List D}{bs:List Bool},kR ds=some bs->ds=bs.map D.bl
 | [],bs,h=>by cases h;rfl
 | .bl b::r,bs,h=>by
  unfold kR at h
  cases e:kR r with
  | none=>rw [e] at h;cases h
  | some cs=>rw [e] at h;cases h;rw [pS e];rfl
 | .non::r,bs,h=>by cases h
 | .int _::r,bs,h=>by cases h
 | .str _::r,bs,h=>by cases h
 | .tup _::r,bs,h=>by cases h
 | .frz _::r,bs,h=>by cases h
 | .obj _::r,bs,h=>by cases h
theorem zG (bs:List Bool):kR (bs.map D.bl)=some bs:=by
 induction bs with
 | nil=>rfl
 | cons b r ih=>simp only [Ny,kR,ih];rfl
theorem Reps.bools {K:W.Frag}{H:Hp}{α:List Addr}:∀ {bs:List Bool}{vs:List V},Reps K H α (bs.map D.bl) vs->vs=bs.map V.bl
 | [],vs,h=>by simp only [Nx,Reps] at h;exact h
 | n::ns,vs,h=>by
  simp only [Ny,Reps] at h
  obtain ⟨v,r,rfl,h1,h2⟩:=h
  rw [aT.mp h1,Reps.bools h2];rfl
theorem wb {bs:List Bool}{us:List Value} (h:aY (bs.map V.bl) us):us=bs.map Value.bool:=by
 induction bs generalizing us with
 | nil=>cases h;rfl
 | cons b r ih=>
  cases h with
  | cons h1 h2=>cases h1;rw [ih h2];rfl
theorem zJ {bs:List Bool}:(List.range bs.length).all (fun i=>bs.getD i false)=bs.all id:=by
 induction bs with
 | nil=>rfl
 | cons b r ih=>
  rw [NU,N7,NF,PL,NF]
  congr 1
section
variable {X:Cx}
def IX (K:W.Frag):List V->Hp->VK->Prop:=fun xs H Q=>∃ (a:Addr) (bs:List Bool),xs=[.ref a]/\fw K H a (bs.map V.bl)/\Q (.bl (bs.all id)) H
theorem aS.fresh_it {pins:List (Addr × Obj)}{σ:St}{H:Hp}{s:Shared} (I:aS X pins σ H s) {o:Obj}{h':Heap}{tk:Nat} (hk:∀ b ob,b ∉ [s.heap.objs.size]->(s.heap.push o).get? b=some ob->h'.get? b=some ob):aS X pins σ H { s with heap:=h',toks:=tk }:=
 I.kept fun b ob e=>hk b ob (fun hm=>by
  have:b=s.heap.objs.size:=by simpa using hm
  subst this
  exact absurd (LO e) (LQ _)) (Mr _ e)
theorem zE (hc:X.calm=true):cj X (.builtin "all") (IX X.K):=by
 intro pins s σ H xs us Q I r h
 obtain ⟨a,bs,rfl,ha,q⟩:=h
 obtain ⟨u,rfl,ru⟩:=eQ r
 cases ru
 obtain ⟨its,rv,pl,hz⟩:=I.list ha
 have hi:its=bs.map Value.bool:=wb rv
 have hne:a≠s.heap.objs.size:=by
  obtain ⟨o,n,e,_⟩:=pl
  exact LR (LO e)
 refine call_all_walk (O1 pl.isList ?_)
 refine ⟨s.heap.objs.size,[s.heap.objs.size,a],[s.heap.objs.size],_,_,_,fun i=>bs.getD i false,rfl,O5 (A:=X.A.in1) (show X.A.in1.handled=none from I.ok.hd hc) _ a hne its.toArray,⟨⟨_,Ms _ rfl,rfl,rfl⟩,pl.isList.at fun o e=>Mr _ e⟩,?_,?_⟩
 ·intro i v s' Q' E' hP hQ
  subst hi
  have hv:(bs.map Value.bool)[i]?=some v:=by simpa using hP
  rw [MU] at hv
  cases e:bs[i]? with
  | none=>rw [e] at hv;cases hv
  | some b=>
   rw [e] at hv;cases hv
   have:bs.getD i false=b:=by rw [Pc,e];rfl
   dsimp only at hQ
   rw [this] at hQ
   exact Md hQ
 ·intro h' tk hk
  have e2:its.toArray.size=bs.length:=by subst hi;simp
  rw [e2,zJ]
  exact ⟨.bl _,H,I.fresh_it hk,rfl,q⟩
end
def mq (ds:List D) (μ:aw):aj D:=match ds with
 | [.obj n]=>match μ[n]? with
  | some (.lst xs)=>match kR xs with
   | some bs=>.ok (.bl (bs.all id)) μ
   | none=>.bad
  | _=>.bad
 | _=>.bad
theorem Ho {p:Pa}:tH p mq (IX p.K):=by
 intro ds vs H α μ Q S r P
 unfold mq at P
 split at P
 ·rename_i n
  split at P
  ·rename_i xs hx
   split at P
   ·rename_i bs hb
    obtain ⟨v,rfl,r1⟩:=r.one
    obtain ⟨a,us,rfl,a1,h1,rr⟩:=b8 S r1 hx
    rw [pS hb] at rr
    exact ⟨a,bs,rfl,by rw [<- rr.bools];exact fw.of h1,P.now S _ (aT.mpr rfl)⟩
   ·exact P.elim
  ·exact P.elim
 ·exact P.elim
def t9 (ds:List D) (μ:aw):aj D:=match ds with
 | [.tup xs]=>.ok (.int xs.length) μ
 | [.frz xs]=>.ok (.int xs.length) μ
 | [.str x]=>if x.length<=sizeLine then .ok (.int x.length) μ else .bad
 | [.obj n]=>match μ[n]? with
  | some (.lst xs)=>.ok (.int xs.length) μ
  | _=>.bad
 | _=>.bad
theorem xI {p:Pa}:tH p t9 (fun xs H Q=>∃ x n,xs=[x]/\FU p.K x H n/\Q (.int n) H):=by
 intro ds vs H α μ Q S r P
 unfold t9 at P
 split at P
 ·rename_i xs
  obtain ⟨v,rfl,r1⟩:=r.one
  obtain ⟨a,us,rfl,h1,rr⟩:=aF.mp r1
  exact ⟨_,xs.length,rfl,.inr ⟨us,h1,rr.length.symm⟩,P.now S _ (aq.mpr rfl)⟩
 ·rename_i xs
  obtain ⟨v,rfl,r1⟩:=r.one
  obtain ⟨a,us,rfl,h1,rr⟩:=bj.mp r1
  exact ⟨_,xs.length,rfl,.inl ⟨us,h1.sq,rr.length.symm⟩,P.now S _ (aq.mpr rfl)⟩
 ·rename_i x
  obtain ⟨v,rfl,r1⟩:=r.one
  split at P
  ·rename_i hl
   exact ⟨v,x.length,rfl,by rw [bu.mp r1];exact ⟨hl,rfl⟩,P.now S _ (aq.mpr rfl)⟩
  ·exact P.elim
 ·rename_i n
  split at P
  ·rename_i xs hx
   obtain ⟨v,rfl,r1⟩:=r.one
   obtain ⟨a,us,rfl,a1,h1,rr⟩:=b8 S r1 hx
   exact ⟨_,xs.length,rfl,.inl ⟨us,fw.of h1,rr.length.symm⟩,P.now S _ (aq.mpr rfl)⟩
  ·exact P.elim
 ·exact P.elim
def iX (ds:List D) (μ:aw):aj D:=match ds with
 | [.tup xs]=>.ok (.tup xs) μ
 | [.frz xs]=>.ok (.tup xs) μ
 | [.obj n]=>match μ[n]? with
  | some (.lst xs)=>.ok (.tup xs) μ
  | _=>.bad
 | _=>.bad
theorem BQ {p:Pa}:tH p iX (fun xs H Q=>∃ q ys,xs=[.ref q]/\((fw p.K H q ys/\∀ l,H l=none->Q (.ref l) (cn H l (.tup ys)))\/(fY p.K H q ys/\Q (.ref q) H))):=by
 intro ds vs H α μ Q S r P
 unfold iX at P
 split at P
 ·rename_i xs
  obtain ⟨v,rfl,r1⟩:=r.one
  obtain ⟨a,us,rfl,h1,rr⟩:=aF.mp r1
  exact ⟨a,us,rfl,.inr ⟨h1,P.now S _ r1⟩⟩
 ·rename_i xs
  obtain ⟨v,rfl,r1⟩:=r.one
  obtain ⟨a,us,rfl,h1,rr⟩:=bj.mp r1
  exact ⟨a,us,rfl,.inl ⟨h1.sq,fun q hq=>P _ _ (bM hq) (S.tuple hq) _ (aF.mpr ⟨q,us,rfl,fY.of bU,rr.mono (bM hq)⟩)⟩⟩
 ·rename_i n
  split at P
  ·rename_i xs hx
   obtain ⟨v,rfl,r1⟩:=r.one
   obtain ⟨a,us,rfl,a1,h1,rr⟩:=b8 S r1 hx
   exact ⟨a,us,rfl,.inl ⟨fw.of h1,fun q hq=>P _ _ (bM hq) (S.tuple hq) _ (aF.mpr ⟨q,us,rfl,fY.of bU,rr.mono (bM hq)⟩)⟩⟩
  ·exact P.elim
 ·exact P.elim
def nq (ds:List D) (μ:aw):aj D:=match ds with
 | [.tup xs]=>.ok (.obj μ.length) (μ++[.lst xs])
 | [.frz xs]=>.ok (.obj μ.length) (μ++[.lst xs])
 | [.obj n]=>match μ[n]? with
  | some (.lst xs)=>.ok (.obj μ.length) (μ++[.lst xs])
  | _=>.bad
 | _=>.bad
theorem Ed {p:Pa}:tH p nq (fun xs H Q=>∃ q ys,xs=[.ref q]/\(fw p.K H q ys\/fY p.K H q ys)/\∀ l,H l=none->Q (.ref l) (cn H l (.lst ys))):=by
 intro ds vs H α μ Q S r P
 unfold nq at P
 split at P
 ·rename_i xs
  obtain ⟨v,rfl,r1⟩:=r.one
  obtain ⟨a,us,rfl,h1,rr⟩:=aF.mp r1
  refine ⟨a,us,rfl,.inr h1,fun q hq=>?_⟩
  obtain ⟨x1,x2,x3⟩:=cA S hq rr
  exact P _ _ x1 x2 _ x3
 ·rename_i xs
  obtain ⟨v,rfl,r1⟩:=r.one
  obtain ⟨a,us,rfl,h1,rr⟩:=bj.mp r1
  refine ⟨a,us,rfl,.inl h1.sq,fun q hq=>?_⟩
  obtain ⟨x1,x2,x3⟩:=cA S hq rr
  exact P _ _ x1 x2 _ x3
 ·rename_i n
  split at P
  ·rename_i xs hx
   obtain ⟨v,rfl,r1⟩:=r.one
   obtain ⟨a,us,rfl,a1,h1,rr⟩:=b8 S r1 hx
   refine ⟨a,us,rfl,.inl (fw.of h1),fun q hq=>?_⟩
   obtain ⟨x1,x2,x3⟩:=cA S hq rr
   exact P _ _ x1 x2 _ x3
  ·exact P.elim
 ·exact P.elim
def ua (ds:List D) (μ:aw):aj D:=match ds with
 | [.int i]=>.ok (.int i) μ
 | [.bl k]=>.ok (.int (if k then 1 else 0)) μ
 | _=>.bad
theorem Hn {p:Pa}:tH p ua (fun xs H Q=>(∃ i,xs=[.int i]/\Q (.int i) H)\/∃ k,xs=[.bl k]/\Q (.int (if k then 1 else 0)) H):=by
 intro ds vs H α μ Q S r P
 unfold ua at P
 split at P
 ·rename_i i
  obtain ⟨v,rfl,r1⟩:=r.one
  exact .inl ⟨i,by rw [aq.mp r1],P.now S _ (aq.mpr rfl)⟩
 ·rename_i i
  obtain ⟨v,rfl,r1⟩:=r.one
  exact .inr ⟨i,by rw [aT.mp r1],P.now S _ (aq.mpr rfl)⟩
 ·exact P.elim
def Ap (ds:List D) (μ:aw):aj D:=match ds with
 | [.int i,.int j]=>.ok (.int (if j > i then j else i)) μ
 | _=>.bad
def Ao (ds:List D) (μ:aw):aj D:=match ds with
 | [.int i,.int j]=>.ok (.int (if j<i then j else i)) μ
 | _=>.bad
theorem Ec {p:Pa}:tH p Ap (fun xs H Q=>∃ i j,xs=[.int i,.int j]/\Q (.int (if j > i then j else i)) H):=by
 intro ds vs H α μ Q S r P
 unfold Ap at P
 split at P
 ·rename_i i j
  obtain ⟨v,u,rfl,r1,r2⟩:=r.two
  exact ⟨i,j,by rw [aq.mp r1,aq.mp r2],P.now S _ (aq.mpr rfl)⟩
 ·exact P.elim
theorem Eb {p:Pa}:tH p Ao (fun xs H Q=>∃ i j,xs=[.int i,.int j]/\Q (.int (if j<i then j else i)) H):=by
 intro ds vs H α μ Q S r P
 unfold Ao at P
 split at P
 ·rename_i i j
  obtain ⟨v,u,rfl,r1,r2⟩:=r.two
  exact ⟨i,j,by rw [aq.mp r1,aq.mp r2],P.now S _ (aq.mpr rfl)⟩
 ·exact P.elim
end L2
namespace L2
open PySem PySem.Spec PyProof.Rows RS
section
variable {prog:Program}{w:World}{A:Around}{E:Value->Shared->Prop}{s:Shared}
theorem vt {T:String} (hT:T = "list" \/ T = "tuple") {l:Addr}{vs:List Value}{Q:List Value->Shared->Prop}{o:Obj}{n:Nat} (ho:s.heap.get? l=some o) (hc:o.cls=.type T) (hd:o.data=.seq vs.toArray n)
  (h:Q vs { s with heap:=(s.heap.push (seqObj "list" #[] 0)).update s.heap.objs.size (Obj.mapSeq (·++vs.toArray)) }) (hsz:vs.length<=sizeLine) :
  wpAny (model prog w) A (collect (.ref l)) Q E s:=by
 unfold collect
 refine Mh (O2 (OT entry_proto_collect' ?_))
 show wpAny _ _ (do again (.builtin "list.__iadd__" ⟨[<- newList [],.ref l],[]⟩)) _ _ s
 refine Mh (Pj (Mo ⟨OZ _ (by decide +kernel),OT entry_list_iadd' ?_⟩))
 show wpAny _ _ (Builtin.List.listExtendWith (.ref s.heap.objs.size) (.ref l) (.ref s.heap.objs.size)) _ _ { s with heap:=s.heap.push (seqObj "list" #[] 0) }
 unfold Builtin.List.listExtendWith
 have ho':(s.heap.push (seqObj "list" #[] 0)).get? l=some o:=Mr _ ho
 refine Mh (Nu (T:=T) ⟨o,ho',hc⟩ ?_)
 have h1:(Value.type "list" == Value.type "list")=true:=by rfl
 have h2:(Value.type "tuple" == Value.type "tuple")=true:=by rfl
 rw [LL (by rcases hT with rfl|rfl <;> simp [h1,h2])]
 refine Mh (listItems_at ho' hd ?_)
 refine Mh (listItems_at (xs:=#[]) (n:=0) (Ms _ rfl) rfl ?_)
 rw [LM (by simp)]
 refine Mh (Ph (xs:=#[]) (n:=0) (Ms _ rfl) rfl ?_ (N5 _) (by show (#[]++vs.toArray).size<=sizeLine+1;simp only [Array.size_append,Mz,Ob];omega))
 refine Mo ?_
 show wpAny (model prog w) A (do
   let o <- load s.heap.objs.size
   match o.data with
   | .seq xs _=>pure xs.toList
   | _=>unsupported "internal:collect") Q E { s with heap:=(s.heap.push (seqObj "list" #[] 0)).update s.heap.objs.size (Obj.mapSeq (·++vs.toArray)) }
 refine Mh (Mp (Pi (Ms _ rfl) _) ?_)
 show wpAny _ _ (pure ((#[]:Array Value)++vs.toArray).toList) Q E _
 rw [show ((#[]:Array Value)++vs.toArray).toList=vs by simp]
 exact Mo h
theorem sO {T:String} (hT:T = "list" \/ T = "tuple") {l:Addr}{vs:List Value}{ns:List Int}{Q:Value->Shared->Prop}{o:Obj}{n:Nat} (ho:s.heap.get? l=some o) (hc:o.cls=.type T) (hd:o.data=.seq vs.toArray n) (hI:IntsAre vs ns) (h64:vs.length<64)
  (h:∀ (out:Array Value) (ns':List Int),IntsAre out.toList ns'->ns'.Perm ns->ns'.Pairwise (·<=·)->Q (.ref (s.heap.objs.size+1)) { s with heap:=sortedAll s.heap vs out }) :
  wpAny (model prog w) A (call (.builtin "sorted") [.ref l]) Q E s:=by
 have hsz0:vs.length<=sizeLine:=LV (LW h64) (by decide)
 refine Pu kind_sorted plain_sorted entry_sorted (args_sorted1 _) ?_
 unfold Builtin.«sorted»
 refine Mh (m:=checkCount "sorted" 1 1 _) (Mo ?_)
 refine Mh (vt hT ho hc hd ?_ hsz0)
 refine Mh (Pj ?_ hsz0)
 have hsz:((s.heap.push (seqObj "list" #[] 0)).update s.heap.objs.size (Obj.mapSeq (·++vs.toArray))).objs.size=s.heap.objs.size+1:=by
  rw [Pl,Pk]
 have hoL:(((s.heap.push (seqObj "list" #[] 0)).update s.heap.objs.size (Obj.mapSeq (·++vs.toArray))).push (seqObj "list" vs.toArray 0)).get? (s.heap.objs.size+1)=some (seqObj "list" vs.toArray 0):=by
  rw [<- hsz];exact Ms _ rfl
 show wpAny _ _ _ _ _ { s with heap:=((s.heap.push (seqObj "list" #[] 0)).update s.heap.objs.size (Obj.mapSeq (·++vs.toArray))).push (seqObj "list" vs.toArray 0) }
 rw [hsz]
 refine Mh (Mi (Nq slot_list_sort ⟨_,hoL,rfl⟩ Pv (list_sort_tree hoL hI h64 fun out ns' a1 a2 a3=>⟨_,rfl,?_⟩) (args_list_sort _)))
 exact Mo ⟨_,rfl,h out ns' a1 a2 a3⟩
end
theorem qj {h:Heap}{vs:List Value}{out:Array Value}{b:Addr}{u:Obj} (e:h.get? b=some u):(sortedAll h vs out).get? b=some u:=by
 have hb:=LO e
 have n1:b≠h.objs.size:=LR hb
 have n2:b≠h.objs.size+1:=LR (NW hb)
 unfold sortedAll sortedHeap
 rw [Pm _ _ _ _ n2]
 refine Mr _ (Mr _ ?_)
 rw [Pm _ _ _ _ n2]
 refine Mr _ ?_
 rw [Pm _ _ _ _ n1]
 exact Mr _ e
theorem qk {h:Heap}{vs:List Value}{out:Array Value}:∃ n,(sortedAll h vs out).get? (h.objs.size+1)=some (seqObj "list" out n):=by
 unfold sortedAll sortedHeap
 have hsz:((h.push (seqObj "list" #[] 0)).update h.objs.size (Obj.mapSeq (·++vs.toArray))).objs.size=h.objs.size+1:=by
  rw [Pl,Pk]
 have hoL:(((h.push (seqObj "list" #[] 0)).update h.objs.size (Obj.mapSeq (·++vs.toArray))).push (seqObj "list" vs.toArray 0)).get? (h.objs.size+1)=some (seqObj "list" vs.toArray 0):=by
  rw [<- hsz];exact Ms _ rfl
 have g1:=Pi hoL (fun _=>#[])
 have g2:=Mr (seqObj "list" #[] 0) (Mr (seqObj "tuple" vs.toArray 0) g1)
 exact ⟨_,Pi g2 (fun _=>out)⟩
theorem lS {us:List Value}{ns:List Int} (h:IntsAre us ns):aY (ns.map V.int) us:=by
 induction h with
 | nil=>exact .nil
 | cons n t _ ih=>exact .cons ⟨t,rfl⟩ ih
section
variable {X:Cx}
def AE (K:W.Frag):List V->Hp->VK->Prop:=fun xs H Q=>∃ (a:Addr) (ns:List Int),xs=[.ref a]/\(fw K H a (ns.map V.int)\/fY K H a (ns.map V.int))/\ns.length<64 /\
 ∀ ns':List Int,ns'.Perm ns->ns'.Pairwise (·<=·)->∀ l,H l=none->Q (.ref l) (cn H l (.lst (ns'.map V.int)))
theorem wZ:cj X (.builtin "sorted") (AE X.K):=by
 intro pins s σ H xs us Q I r h
 obtain ⟨a,ns,rfl,ha,hl,q⟩:=h
 obtain ⟨u,rfl,ru⟩:=eQ r
 cases ru
 have core:∀ (T:String),T = "list" \/ T = "tuple" -> ∀ (its:List Value) (o:Obj) (n:Nat),s.heap.get? a=some o->o.cls=.type T->o.data=.seq its.toArray n->aY (ns.map V.int) its->wpAny (model X.prog X.w) X.A (call (.builtin "sorted") [.ref a]) (EP X pins σ Q) X.xe s:=by
  intro T hT its o n e1 e2 e3 rv
  have hI:IntsAre its ns:=eN rv
  refine sO hT e1 e2 e3 hI (by rw [hI.length];exact hl) fun out ns' h1 h2 h3=>?_
  refine ⟨.ref (s.heap.objs.size+1),cn H (s.heap.objs.size+1) (.lst (ns'.map V.int)),I.laid (t':=s.toks) (fun b ob e=>qj e) (NJ _) ?_,rfl,q ns' h2 h3 _ (I.hok.fresh (NJ _))⟩
  obtain ⟨m,e⟩:=qk (h:=s.heap) (vs:=its) (out:=out)
  refine ⟨?_,out.toList,m,lS h1,by simpa using e⟩
  rw [MY,h2.length_eq]
  exact LV (LW hl) (by decide)
 rcases ha with ha | ha
 ·obtain ⟨its, rv, ⟨o, n, e1, e2, _, e3⟩, hz⟩ := I.list ha
  exact core "list" (.inl rfl) its o n e1 e2 e3 rv
 ·obtain ⟨its, rv, ⟨o, e1, e2, n, e3⟩, hz⟩ := I.tuple ha
  exact core "tuple" (.inr rfl) its o n e1 e2 e3 rv
theorem z9 {pins:List (Addr × Obj)}{σ:St}{H:Hp}{s:Shared}{r:Addr}{k:List Int} (I:aS X pins σ H s) (h:fY X.K H r (k.map V.int)):Tk X.prog X.w s.heap k r:=by
 obtain ⟨its,rv,⟨o,e1,e2,n,e3⟩,_⟩:=I.tuple h
 refine ⟨o,its.toArray,n,e1,e2,e3,?_⟩
 have core:∀ (k:List Int) (its:List Value),aY (k.map V.int) its->PySem.ItemsAre (intKind X.prog X.w) k its:=by
  intro k
  induction k with
  | nil=>intro its h;cases h;exact .nil
  | cons i r ih=>
   intro its h
   cases h with
   | cons h1 h2=>
    obtain ⟨t,rfl⟩:=h1
    exact .cons (by simp [intKind,Value.isInt]) (ih _ h2)
 simpa using core k its rv
def jB (qs:List KP):List V:=qs.map fun p=>V.ref p.2
theorem mH:∀ {qs:List KP}{its:List Value},aY (jB qs) its->its=qs.map fun p=>Value.ref p.2
 | [],its,h=>by cases h;rfl
 | q::qs,its,h=>by
  cases h with
  | cons h1 h2=>cases h1;rw [mH h2];rfl
theorem nt:∀ (qs:List KP),aY (jB qs) (aV qs)
 | []=>.nil
 | q::qs=>.cons rfl (nt qs)
def Ae (K:W.Frag) (w:World):List V->Hp->VK->Prop:=fun xs H Q=>∃ (a:Addr) (qs:List KP),xs=[.ref a]/\(fw K H a (jB qs)\/fY K H a (jB qs))/\(∀ p∈qs,p.1∈prs/\fY K H p.2 (p.1.map V.int)) /\
 ∀ l,H l=none->Q (.ref l) (cn H l (.ext fun h=>d2 w h l (eK qs)))
theorem zt (hc:X.calm=true) (hu:X.A.units+64<cLine):cj X (.type "set") (Ae X.K X.w):=by
 intro pins s σ H xs us Q I r h
 obtain ⟨a,qs,rfl,ha,hq,q⟩:=h
 obtain ⟨u,rfl,ru⟩:=eQ r
 cases ru
 have fin:∀ (h':Heap) (tk:Nat),d2 X.w h' s.heap.objs.size (eK qs)->(∀ b o,b<s.heap.objs.size->s.heap.get? b=some o->h'.get? b=some o)->EP X pins σ Q (.ref s.heap.objs.size) { s with heap:=h',toks:=tk }:=by
  intro h' tk hS hk
  refine ⟨.ref s.heap.objs.size,cn H s.heap.objs.size (.ext fun h=>d2 X.w h s.heap.objs.size (eK qs)),I.laid (t':=tk) (fun b ob e=>hk b ob (LO e) e) (Mt _) ?_,rfl,q _ (I.hok.fresh (Mt _))⟩
  refine ⟨hS,?_,fun h1 h2 g k=>g.keeps k⟩
  obtain ⟨o,es,ep,t,Z,S0,_⟩:=hS
  exact ⟨o,S0.ho⟩
 rcases ha with ha | ha
 ·obtain ⟨its, rv, pl, hz⟩ := I.list ha
  exact vc (I.ok.hd hc) pl.isList (by simpa using mH rv) (fun p hp=>(hq p hp).1) (fun p hp=>z9 I (hq p hp).2) (by omega) fin
 ·obtain ⟨its, rv, pl, hz⟩ := I.tuple ha
  exact sQ (I.ok.hd hc) pl (by simpa using mH rv) (fun p hp=>(hq p hp).1) (fun p hp=>z9 I (hq p hp).2) (by omega) fin
def AD (K:W.Frag) (w:World):List V->Hp->VK->Prop:=fun xs H Q=>∃ (a:Addr) (ps:List KP),xs=[.ref a]/\H a=some (.ext fun h=>d2 w h a ps)/\(∀ p∈ps,fY K H p.2 (p.1.map V.int)) /\
 ∀ out:List KP,out.Perm ps->g7 out->∀ l,H l=none->Q (.ref l) (cn H l (.lst (jB out)))
theorem wY (hc:X.calm=true):cj X (.builtin "sorted") (AD X.K X.w):=by
 intro pins s σ H xs us Q I r h
 obtain ⟨a,ps,rfl,ha,hT,q⟩:=h
 obtain ⟨u,rfl,ru⟩:=eQ r
 cases ru
 obtain ⟨hS,_⟩:=(show dA X.prog X.w H s.heap a (.ext fun h=>d2 X.w h a ps) from I.hok a _ ha)
 refine kU (I.ok.hd hc) hS (fun p hp=>z9 I (hT p hp)) fun out hp hr h' D hD hk hn=>?_
 refine ⟨.ref D,cn H D (.lst (jB out)),I.laid (t':=s.toks) (fun b ob e=>hk b ob e) hD ?_,rfl,q out hp hr _ (I.hok.fresh hD)⟩
 obtain ⟨n,e⟩:=hn
 refine ⟨?_,aV out,n,nt out,e⟩
 have hl:out.length<=15:=by
  rw [hp.length_eq]
  obtain ⟨o,es,ep,t,Z,S0,hk,hn⟩:=hS
  exact kc hk hn
 unfold jB
 rw [MY]
 exact LV hl (by decide)
end
end L2
namespace L2
open PySem PySem.Spec PyProof.Rows RS
def gJ (qs:List KI):List KI:=qs.foldl (fun ps p=>tS ps p.1 p.2) []
theorem tF (qs:List KI) (p:KI):gJ (qs++[p])=tS (gJ qs) p.1 p.2:=by unfold gJ;rw [OS];rfl
def mD (ns:List Int):List Int:=ns.foldl (fun acc k=>if k∈acc then acc else acc++[k]) []
theorem l5:∀ (qs ps:List KI),(qs.foldl (fun ps p=>tS ps p.1 p.2) ps).map (·.1)=(qs.map (·.1)).foldl (fun acc k=>if k∈acc then acc else acc++[k]) (ps.map (·.1))
 | [],ps=>rfl
 | q::qs,ps=>by
  rw [NL,l5 qs,Ny,NL]
  congr 1
  unfold tS
  split
  ·rfl
  ·rw [Oq];rfl
theorem vz (qs:List KI):(gJ qs).map (·.1)=mD (qs.map (·.1)):=l5 qs []
theorem lU {w:World}{h:Heap}{a:Addr} (e:h.get? a=some { cls:=.type "set",dict:=none,data:=.set #[] 0 (.fresh 0 0 (lD w)) }):cK w h a []:=
 ⟨_,_,_,_,[],⟨e,⟨rfl,rfl,rfl⟩,rfl,⟨rfl,rfl,List.Pairwise.nil,fun z hz=>by simp at hz,rfl,fun z hz=>by simp at hz⟩,rfl,rfl,.inl ⟨rfl,by decide⟩,List.Perm.nil⟩,fun p hp=>by simp at hp,Oz⟩
def mn (p:KI):Value:=Value.int p.1 p.2
section
variable {prog:Program}{w:World}{A:Around}{E:Value->Shared->Prop}{s:Shared}
theorem rM {qs:List KI}{S:Addr}{u:Nat} (hk:∀ p∈qs,p.1∈ins):z6 prog w u S (qs.map mn) (fun i h=>cK w h S (gJ (qs.take i))):=by
 refine ⟨fun i h h' hk' j1=>j1.keeps fun o e=>hk' S o (Mt _) e,fun A i v s E Q hA hv j1 hQ=>?_⟩
 rw [MU] at hv
 cases e:qs[i]? with
 | none=>rw [e] at hv;cases hv
 | some p=>
  rw [e] at hv
  cases hv
  have hpm:p∈qs:=MW e
  unfold setAdd mn
  refine Mi ?_
  refine Mh (wpAny_pyHash_int ?_)
  refine EW (s:={ s with toks:=s.toks+1 }) j1 (hk p hpm) fun b h' hsb hS2=>?_
  have etk:qs.take (i+1)=qs.take i++[p]:=by rw [O7,e];rfl
  refine hQ b h' _ (Nat.le_add_right _ _) hsb (by rw [etk,tF];exact hS2)
theorem rm:∀ (qs:List KI),IntsAre (qs.map mn) (qs.map (·.1))
 | []=>.nil
 | p::qs=>.cons p.1 p.2 (rm qs)
theorem uQ {vs:List Value}{ns:List Int} (h:IntsAre vs ns):∃ qs:List KI,vs=qs.map mn/\qs.map (·.1)=ns:=by
 induction h with
 | nil=>exact ⟨[],rfl,rfl⟩
 | cons n t _ ih=>
  obtain ⟨qs,e1,e2⟩:=ih
  exact ⟨(n,t)::qs,by rw [e1];rfl,by rw [<- e2];rfl⟩
theorem vb {a:Addr}{ps:List KI}{Q:Value->Shared->Prop} (hh:A.handled=none) (S:cK w s.heap a ps)
  (h:∀ (out:List Value) (ns':List Int),IntsAre out ns'->ns'.Perm (ps.map (·.1))->ns'.Pairwise (·<=·)->∀ h' D,s.heap.objs.size<=D->(∀ b u,s.heap.get? b=some u->h'.get? b=some u)->(∃ n,h'.get? D=some (seqObj "list" out.toArray n))->Q (.ref D) { s with heap:=h' }) :
  wpAny (model prog w) A (call (.builtin "sorted") [.ref a]) Q E s:=by
 obtain ⟨o,es,ep,t,Z,S,hk,hn⟩:=S
 have h6:=jN hk hn
 refine Pu kind_sorted plain_sorted entry_sorted (args_sorted1 _) ?_
 unfold Builtin.«sorted»
 refine Mh (m:=checkCount "sorted" 1 1 _) (Mo ?_)
 refine Mh (nC (by simpa using hh) S (by rw [S.len,MY];omega) fun qs hqs h1 k1 hsz=>?_)
 obtain ⟨rs,q1,q2⟩:=lY hqs ps rfl
 have q3:qs.map (·.2)=rs.map mn:=by rw [q2,N8];rfl
 rw [q3]
 have hvl:(rs.map mn).length<=6:=by rw [MY,q1.length_eq];exact h6
 refine Mh (Pj ?_ (LV hvl (by decide)))
 have hoL:(h1.push (seqObj "list" (rs.map mn).toArray 0)).get? h1.objs.size=some (seqObj "list" (rs.map mn).toArray 0):=Ms _ rfl
 have hnn:∀ b u,h1.get? b=some u->b≠h1.objs.size:=fun b u q=>LR (LO q)
 refine Mh (Mi (Nq slot_list_sort (s:={ s with heap:=h1.push (seqObj "list" (rs.map mn).toArray 0) }) ⟨_,hoL,rfl⟩ Pv ?body (args_list_sort _)))
 case body=>
  refine list_sort_tree (s:={ s with heap:=h1.push (seqObj "list" (rs.map mn).toArray 0) }) hoL (rm rs) (by omega) fun out ns' a1 a2 a3=>⟨_,rfl,?_⟩
  refine Mo ⟨_,rfl,h out.toList ns' a1 (a2.trans (q1.map _)) a3 _ h1.objs.size hsz (fun b u q=>?_) ?_⟩
  ·have hb := hnn b u (k1 b u q)
   unfold sortedHeap
   rw [Pm _ _ _ _ hb]
   refine Mr _ (Mr _ ?_)
   rw [Pm _ _ _ _ hb]
   exact Mr _ (k1 b u q)
  ·unfold sortedHeap
   have g1:=Pi hoL (fun _=>#[])
   have g2:=Mr (seqObj "list" #[] 0) (Mr (seqObj "tuple" (rs.map mn).toArray 0) g1)
   exact ⟨_,Pi g2 (fun _=>out)⟩
end
section
variable {X:Cx}
def Af (K:W.Frag) (w:World):List V->Hp->VK->Prop:=fun xs H Q=>∃ (a:Addr) (ns:List Int),xs=[.ref a]/\(fw K H a (ns.map V.int)\/fY K H a (ns.map V.int))/\(∀ n∈ns,n∈ins) /\
 ∀ l,H l=none->∀ ps:List KI,ps.map (·.1)=mD ns->(∀ p∈ps,p.1∈ins)->(ps.map (·.1)).Nodup->Q (.ref l) (cn H l (.ext fun h=>cK w h l ps))
theorem zu (hc:X.calm=true) (hu:X.A.units+64<cLine):cj X (.type "set") (Af X.K X.w):=by
 intro pins s σ H xs us Q I r h
 obtain ⟨a,ns,rfl,ha,hq,q⟩:=h
 obtain ⟨u,rfl,ru⟩:=eQ r
 cases ru
 have fin:∀ (qs:List KI),qs.map (·.1)=ns->∀ (h':Heap) (tk:Nat),cK X.w h' s.heap.objs.size (gJ qs)->(∀ b o,b<s.heap.objs.size->s.heap.get? b=some o->h'.get? b=some o)->EP X pins σ Q (.ref s.heap.objs.size) { s with heap:=h',toks:=tk }:=by
  intro qs eq h' tk hS hk
  obtain ⟨o,es,ep,t,Z,S0,k1,k2⟩:=id hS
  refine ⟨.ref s.heap.objs.size,cn H s.heap.objs.size (.ext fun h=>cK X.w h s.heap.objs.size (gJ qs)),I.laid (t':=tk) (fun b ob e=>hk b ob (LO e) e) (Mt _) ?_,rfl,q _ (I.hok.fresh (Mt _)) _ (by rw [vz,eq]) k1 k2⟩
  exact ⟨hS,⟨o,S0.ho⟩,fun h1 h2 g k=>g.keeps k⟩
 rcases ha with ha | ha
 ·obtain ⟨its, rv, pl, hz⟩ := I.list ha
  obtain ⟨qs,e1,e2⟩:=uQ (eN rv)
  subst e1
  have hsz:(qs.map mn).toArray.size=qs.length:=by rw [Mz,MY]
  refine lT (I.ok.hd hc) pl.isList (J:=fun i h=>cK X.w h s.heap.objs.size (gJ (qs.take i))) ?_ (fun h' k e=>lU e) fun h' tk j1=>fin qs e2 h' tk ?_
  ·exact rM fun p hp=>hq _ (by rw [<- e2];exact Om hp)
  ·rw [hsz,O8] at j1;exact j1
 ·obtain ⟨its, rv, pl, hz⟩ := I.tuple ha
  obtain ⟨qs,e1,e2⟩:=uQ (eN rv)
  subst e1
  have hsz:(qs.map mn).toArray.size=qs.length:=by rw [Mz,MY]
  refine kC (I.ok.hd hc) pl (J:=fun i h=>cK X.w h s.heap.objs.size (gJ (qs.take i))) ?_ (fun h' k e=>lU e) fun h' tk j1=>fin qs e2 h' tk ?_
  ·exact rM fun p hp=>hq _ (by rw [<- e2];exact Om hp)
  ·rw [hsz,O8] at j1;exact j1
def AC (w:World):List V->Hp->VK->Prop:=fun xs H Q=>∃ (a:Addr) (ps:List KI),xs=[.ref a]/\H a=some (.ext fun h=>cK w h a ps) /\
 ∀ ns':List Int,ns'.Perm (ps.map (·.1))->ns'.Pairwise (·<=·)->∀ l,H l=none->Q (.ref l) (cn H l (.lst (ns'.map V.int)))
theorem wX (hc:X.calm=true):cj X (.builtin "sorted") (AC X.w):=by
 intro pins s σ H xs us Q I r h
 obtain ⟨a,ps,rfl,ha,q⟩:=h
 obtain ⟨u,rfl,ru⟩:=eQ r
 cases ru
 obtain ⟨hS,_⟩:=(show dA X.prog X.w H s.heap a (.ext fun h=>cK X.w h a ps) from I.hok a _ ha)
 obtain ⟨o,es,ep,t,Z,S0,k1,k2⟩:=id hS
 have h6:=jN k1 k2
 refine vb (I.ok.hd hc) hS fun out ns' a1 a2 a3 h' D hD hk hn=>?_
 refine ⟨.ref D,cn H D (.lst (ns'.map V.int)),I.laid (t':=s.toks) (fun b ob e=>hk b ob e) hD ?_,rfl,q ns' a2 a3 _ (I.hok.fresh hD)⟩
 obtain ⟨n,e⟩:=hn
 refine ⟨?_,out,n,lS a1,e⟩
 rw [MY,a2.length_eq,MY]
 exact LV h6 (by decide)
def Fd (w:World):List V->Hp->VK->Prop:=fun xs H Q=>∃ (a:Addr) (ps:List KI),xs=[.ref a]/\H a=some (.ext fun h=>cK w h a ps)/\Q (.int ps.length) H
theorem zB:cj X (.builtin "len") (Fd X.w):=by
 intro pins s σ H xs us Q I r h
 obtain ⟨a,ps,rfl,ha,q⟩:=h
 obtain ⟨u,rfl,ru⟩:=eQ r
 cases ru
 obtain ⟨hS,_⟩:=(show dA X.prog X.w H s.heap a (.ext fun h=>cK X.w h a ps) from I.hok a _ ha)
 obtain ⟨o,es,ep,t,Z,S0,k1,k2⟩:=id hS
 have h6:=jN k1 k2
 have hsz:es.size=ps.length:=by rw [S0.tab.size.2,S0.len,MY]
 refine PySem.call_len_set S0.ho S0.ex S0.hd S0.fits (by rw [hsz];omega) ⟨.int ps.length,H,?_,⟨_,by rw [hsz]⟩,q⟩
 exact I.tok _
def Fe (w:World):List V->Hp->VK->Prop:=fun xs H Q=>∃ (a:Addr) (ps:List KP),xs=[.ref a]/\H a=some (.ext fun h=>d2 w h a ps)/\Q (.int ps.length) H
theorem zC:cj X (.builtin "len") (Fe X.w):=by
 intro pins s σ H xs us Q I r h
 obtain ⟨a,ps,rfl,ha,q⟩:=h
 obtain ⟨u,rfl,ru⟩:=eQ r
 cases ru
 obtain ⟨hS,_⟩:=(show dA X.prog X.w H s.heap a (.ext fun h=>d2 X.w h a ps) from I.hok a _ ha)
 obtain ⟨o,es,ep,t,Z,S0,k1,k2⟩:=id hS
 have h6:=kc k1 k2
 have hsz:es.size=ps.length:=by rw [S0.tab.size.2,S0.len,MY]
 refine PySem.call_len_set S0.ho S0.ex S0.hd S0.fits (by rw [hsz];omega) ⟨.int ps.length,H,?_,⟨_,by rw [hsz]⟩,q⟩
 exact I.tok _
end
end L2
namespace L2
open PySem PySem.Spec PyProof.Rows RS
def ar (k:List Int):D:=.tup (k.map D.int)
def yc:D->Option (List Int)
 | .tup [.int a,.int b]=>if 0<=a/\a<b/\b<6 then some [a,b] else none
 | _=>none
def oK:List D->Option (List (List Int))
 | []=>some []
 | d::r=>match yc d,oK r with
  | some k,some ks=>some (k::ks)
  | _,_=>none
theorem Ey {d:D}{k:List Int} (h:yc d=some k):d=ar k/\k∈prs:=by
 unfold yc at h
 split at h
 ·split at h
  ·rename_i hc
   cases h
   exact ⟨rfl,xE hc.1 hc.2.1 hc.2.2⟩
  ·cases h
 ·cases h
theorem y9 {a b:Int} (h:0<=a/\a<b/\b<6):yc (.tup [.int a,.int b])=some [a,b]:=by
 simp only [yc,LL h]
theorem uO:∀ {ds:List D}{ks:List (List Int)},oK ds=some ks->ds=ks.map ar/\∀ k∈ks,k∈prs
 | [],ks,h=>by cases h;exact ⟨rfl,fun k hk=>by simp at hk⟩
 | d::r,ks,h=>by
  unfold oK at h
  split at h
  ·rename_i k ks' h1 h2
   cases h
   obtain ⟨e1,e2⟩:=Ey h1
   obtain ⟨f1,f2⟩:=uO h2
   refine ⟨by rw [e1,f1];rfl,fun k' hk=>?_⟩
   rcases L4.mp hk with z | z
   ·rw [z];exact e2
   ·exact f2 k' z
  ·cases h
theorem pA:∀ {ks:List (List Int)},(∀ k∈ks,k∈prs)->oK (ks.map ar)=some ks
 | [],_=>rfl
 | k::ks,h=>by
  obtain ⟨a,b,rfl,h1,h2,h3⟩:=gW (h k LY)
  simp only [Ny,oK,pA fun k' hk=>h k' (LZ _ hk)]
  have:yc (ar [a,b])=some [a,b]:=y9 ⟨h1,h2,h3⟩
  rw [this]
def zZ (ks:List (List Int)) (k:List Int):List (List Int):=if k∈ks then ks else ks++[k]
def dY (ks:List (List Int)):List (List Int):=ks.foldl zZ []
def di (ks:List (List Int)):List (List Int):=prs.filter fun k=>decide (k∈ks)
theorem pU:∀ (qs ps:List KP),(qs.foldl (fun ps p=>lu ps p.1 p.2) ps).map (·.1)=(qs.map (·.1)).foldl zZ (ps.map (·.1))
 | [],ps=>rfl
 | q::qs,ps=>by
  rw [NL,Ny,NL,pU qs]
  congr 1
  unfold lu zZ
  split <;> simp
theorem zo (qs:List KP):(eK qs).map (·.1)=dY (qs.map (·.1)):=pU qs []
theorem zm {ks:List (List Int)}{k:List Int}:k∈dY ks↔k∈ks:=by
 have core:∀ (ks acc:List (List Int)),k∈ks.foldl zZ acc↔k∈acc\/k∈ks:=by
  intro ks
  induction ks with
  | nil=>intro acc;simp
  | cons x r ih=>
   intro acc
   rw [NL,ih]
   unfold zZ
   split
   ·rename_i hx
    constructor
    ·rintro (h | h)
     ·exact .inl h
     ·exact .inr (LZ _ h)
    ·rintro (h | h)
     ·exact .inl h
     ·rcases L4.mp h with z | z
      ·exact .inl (by rw [z];exact hx)
      ·exact .inr z
   ·simp [or_assoc]
 unfold dY
 rw [core]
 simp
theorem pM:prs.Pairwise fun a b=>ni a<ni b:=by decide +kernel
theorem Cj {l m:List (List Int)} (hl:l.Pairwise fun a b=>ni a<ni b) (hm:m.Pairwise fun a b=>ni a<ni b) (h:∀ k,k∈l↔k∈m):l=m:=by
 have nl:l.Nodup:=hl.imp fun h e=>by subst e;omega
 have nm:m.Nodup:=hm.imp fun h e=>by subst e;omega
 have hp:l.Perm m:=(OC nl nm).mpr h
 refine hp.eq_of_pairwise (le:=fun a b=>ni a<ni b) (fun a b _ _ h1 h2=>by omega) hl hm
theorem Bj {out:List KP}{ps:List KP} (hk:∀ p∈ps,p.1∈prs) (hp:out.Perm ps) (hr:g7 out):out.map (·.1)=di (ps.map (·.1)):=by
 refine Cj ?_ (pM.filter _) fun k=>?_
 ·unfold g7 at hr
  rw [Pg]
  exact hr
 ·have h1 : k ∈ out.map (·.1) ↔ k ∈ ps.map (·.1) := (hp.map _).mem_iff
  rw [h1]
  unfold di
  rw [LS,PF]
  constructor
  ·intro h
   refine ⟨?_,h⟩
   obtain ⟨p,hp',rfl⟩:=Oh.mp h
   exact hk p hp'
  ·exact fun h=>h.2
theorem nv (ks:List (List Int)):di (dY ks)=di ks:=by
 unfold di
 apply List.filter_congr
 intro k _
 simp only [zm]
theorem Reps.keys {K:W.Frag}{H:Hp}{α:List Addr}:∀ {ks:List (List Int)}{vs:List V},Reps K H α (ks.map ar) vs->∃ qs:List KP,qs.map (·.1)=ks/\vs=jB qs/\∀ p∈qs,fY K H p.2 (p.1.map V.int)
 | [],vs,h=>by simp only [Nx,Reps] at h;exact ⟨[],rfl,h,fun p hp=>by simp at hp⟩
 | k::ks,vs,h=>by
  simp only [Ny,Reps] at h
  obtain ⟨v,r,rfl,h1,h2⟩:=h
  obtain ⟨a,us,rfl,h3,h4⟩:=aF.mp h1
  obtain ⟨qs,e1,e2,e3⟩:=Reps.keys h2
  refine ⟨(k,a)::qs,by rw [Ny,e1],by rw [e2];rfl,fun p hp=>?_⟩
  rcases L4.mp hp with z | z
  ·subst z
   rw [<- h4.ints];exact h3
  ·exact e3 p z
theorem nF {K:W.Frag}{H:Hp}{α:List Addr}:∀ {qs:List KP},(∀ p∈qs,fY K H p.2 (p.1.map V.int))->Reps K H α ((qs.map (·.1)).map ar) (jB qs)
 | [],_=>Reps.nil
 | q::qs,h=>by
  refine Reps.cons (aF.mpr ⟨q.2,_,rfl,h q LY,iw _⟩) (nF fun p hp=>h p (LZ _ hp))
def kx:List D->Option (List Int)
 | []=>some []
 | .int i::r=>(kx r).map (i::·)
 | _::_=>none
theorem fK:∀ {ds:List D}{ns:List Int},kx ds=some ns->ds=ns.map D.int
 | [],bs,h=>by cases h;rfl
 | .int b::r,bs,h=>by
  unfold kx at h
  cases e:kx r with
  | none=>rw [e] at h;cases h
  | some cs=>rw [e] at h;cases h;rw [fK e];rfl
 | .non::r,bs,h=>by cases h
 | .bl _::r,bs,h=>by cases h
 | .str _::r,bs,h=>by cases h
 | .tup _::r,bs,h=>by cases h
 | .frz _::r,bs,h=>by cases h
 | .obj _::r,bs,h=>by cases h
theorem wO {ns:List Int} (h:∀ n∈ns,n∈ins):(mD ns).length<=6:=by
 have core:∀ (l acc:List Int),(∀ n∈l,n∈ins)->(∀ n∈acc,n∈ins)->acc.Nodup->(l.foldl (fun acc k=>if k∈acc then acc else acc++[k]) acc).length<=6:=by
  intro l
  induction l with
  | nil=>
   intro acc _ h2 h3
   have:=iJ h3 (l2:=ins) h2
   exact this
  | cons x l ih=>
   intro acc h1 h2 h3
   rw [NL]
   have hx:=h1 x LY
   split
   ·exact ih acc (fun n hn=>h1 n (LZ _ hn)) h2 h3
   ·rename_i hxa
    refine ih (acc++[x]) (fun n hn=>h1 n (LZ _ hn)) (fun n hn=>?_) ?_
    ·rcases L6.mp hn with z | z
     ·exact h2 n z
     ·rw [N6.mp z];exact hx
    ·refine OM.mpr ⟨h3, by simp, fun u hu v hv e => ?_⟩
     rw [N6.mp hv] at e
     exact hxa (e ▸ hu)
 exact core ns [] h (fun n hn=>by simp at hn) Oz
def FK (xs:List D):Option (List Int):=match kx xs with
 | some ns=>if ns.all (fun n=>decide (0<=n/\n<6))=true then some ns else none
 | none=>none
theorem EF {xs:List D}{ns:List Int} (h:FK xs=some ns):xs=ns.map D.int/\∀ n∈ns,n∈ins:=by
 unfold FK at h
 split at h
 ·rename_i ms hm
  split at h
  ·rename_i ha
   cases h
   refine ⟨fK hm,fun n hn=>EE.mpr ?_⟩
   simpa using OE.mp ha n hn
  ·cases h
 ·cases h
def qF (xs:List D) (μ:aw):aj D:=match oK xs with
 | some ks=>.ok (.obj μ.length) (μ++[.set (dY ks)])
 | none=>match FK xs with
  | some ns=>.ok (.obj μ.length) (μ++[.iset (mD ns)])
  | none=>.bad
def rT (ds:List D) (μ:aw):aj D:=match ds with
 | [.tup xs]=>qF xs μ
 | [.obj n]=>match μ[n]? with
  | some (.lst xs)=>qF xs μ
  | _=>.bad
 | _=>.bad
section
variable {p:Pa}
theorem Ei {H:Hp}{α:List Addr}{μ:aw}{ks:List (List Int)}{vs:List V}{Q:VK} (S:p.S H α μ) (hk:∀ k∈ks,k∈prs) (r:p.Rs H α (ks.map ar) vs) (P:az p H α (.ok (.obj μ.length) (μ++[.set (dY ks)])) (RV p Q)) :
  ∃ qs:List KP,vs=jB qs/\(∀ q∈qs,q.1∈prs/\fY p.K H q.2 (q.1.map V.int))/\∀ l,H l=none->Q (.ref l) (cn H l (.ext fun h=>d2 p.w h l (eK qs))):=by
 obtain ⟨qs,e1,e2,e3⟩:=r.keys
 refine ⟨qs,e2,fun q hq=>⟨hk _ (by rw [<- e1];exact Om hq),e3 q hq⟩,fun l hl=>?_⟩
 have x1:p.X H (cn H l (.ext fun h=>d2 p.w h l (eK qs))) α (α++[l]):=(bM hl).trans (iM [l])
 refine P _ _ x1 (S.more hl ⟨eK qs,by rw [zo,e1],bU,fun q hq=>?_,tE,fun q hq=>?_⟩) _ (aP.mpr ⟨l,rfl,by rw [<- S.len];simp⟩)
 ·exact hk _ (by rw [<- e1];exact Om (k6 hq))
 ·exact x1.tup _ _ (e3 q (k6 hq))
theorem BV {H:Hp}{α:List Addr}{μ:aw}{ns:List Int}{Q:VK} (S:p.S H α μ) (hk:∀ n∈ns,n∈ins) (P:az p H α (.ok (.obj μ.length) (μ++[.iset (mD ns)])) (RV p Q)) :
  ∀ l,H l=none->∀ ps:List KI,ps.map (·.1)=mD ns->(∀ p∈ps,p.1∈ins)->(ps.map (·.1)).Nodup->Q (.ref l) (cn H l (.ext fun h=>cK p.w h l ps)):=fun l hl ps e _ _=>by
 have x1:p.X H (cn H l (.ext fun h=>cK p.w h l ps)) α (α++[l]):=(bM hl).trans (iM [l])
 exact P _ _ x1 (S.more hl ⟨ps,e,bU,wO hk⟩) _ (aP.mpr ⟨l,rfl,by rw [<- S.len];simp⟩)
theorem Az {H:Hp}{α:List Addr}{μ:aw}{xs:List D}{us:List V}{a:Addr}{Q:VK} (S:p.S H α μ) (h1:fw p.K H a us\/fY p.K H a us) (rr:p.Rs H α xs us) (P:az p H α (qF xs μ) (RV p Q)):Ae p.K p.w [.ref a] H Q\/Af p.K p.w [.ref a] H Q:=by
 unfold qF at P
 split at P
 ·rename_i ks hks
  obtain ⟨f1,f2⟩:=uO hks
  rw [f1] at rr
  obtain ⟨qs,e1,e2,e3⟩:=Ei S f2 rr P
  exact .inl ⟨a,qs,rfl,by rw [<- e1];exact h1,e2,e3⟩
 ·split at P
  ·rename_i ns hns
   obtain ⟨f1,f2⟩:=EF hns
   rw [f1] at rr
   exact .inr ⟨a,ns,rfl,by rw [<- rr.ints];exact h1,f2,BV S f2 P⟩
  ·exact P.elim
theorem Hj:tH p rT (fun xs H Q=>Ae p.K p.w xs H Q\/Af p.K p.w xs H Q):=by
 intro ds vs H α μ Q S r P
 unfold rT at P
 split at P
 ·rename_i xs
  obtain ⟨v,rfl,r1⟩:=r.one
  obtain ⟨a,us,rfl,h1,rr⟩:=aF.mp r1
  exact Az S (.inr h1) rr P
 ·rename_i n
  split at P
  ·rename_i xs hx
   obtain ⟨v,rfl,r1⟩:=r.one
   obtain ⟨a,us,rfl,a1,h1,rr⟩:=b8 S r1 hx
   exact Az S (.inl (fw.of h1)) rr P
  ·exact P.elim
 ·exact P.elim
def oG (ns:List Int):List Int:=ns.mergeSort fun a b=>decide (a<=b)
theorem Bk {ns ns':List Int} (hp:ns'.Perm ns) (hs:ns'.Pairwise (·<=·)):ns'=oG ns:=by
 have h1:(oG ns).Perm ns:=List.mergeSort_perm ns _
 have h2:(oG ns).Pairwise (·<=·):=by
  have:=List.pairwise_mergeSort (le:=fun (a b:Int)=>decide (a<=b)) (fun a b c h1 h2=>by simp at *;omega) (fun a b=>by simp;omega) ns
  exact this.imp fun h=>by simpa using h
 exact (hp.trans h1.symm).eq_of_pairwise (fun a b _ _ h1 h2=>PM h1 h2) hs h2
def gI (ds:List D) (μ:aw):aj D:=match ds with
 | [.tup xs]=>match kx xs with
  | some ns=>if ns.length<64 then .ok (.obj μ.length) (μ++[.lst ((oG ns).map D.int)]) else .bad
  | none=>.bad
 | [.obj n]=>match μ[n]? with
  | some (.lst xs)=>match kx xs with
   | some ns=>if ns.length<64 then .ok (.obj μ.length) (μ++[.lst ((oG ns).map D.int)]) else .bad
   | none=>.bad
  | some (.set ks)=>.ok (.obj μ.length) (μ++[.lst ((di ks).map ar)])
  | some (.iset ks)=>.ok (.obj μ.length) (μ++[.lst ((oG ks).map D.int)])
  | _=>.bad
 | _=>.bad
theorem yW:tH p gI (fun xs H Q=>(AE p.K xs H Q\/AD p.K p.w xs H Q)\/AC p.w xs H Q):=by
 intro ds vs H α μ Q S r P
 have fin:∀ {ns:List Int},az p H α (.ok (.obj μ.length) (μ++[.lst ((oG ns).map D.int)])) (RV p Q)->∀ ns':List Int,ns'.Perm ns->ns'.Pairwise (·<=·)->∀ l,H l=none->Q (.ref l) (cn H l (.lst (ns'.map V.int))):=by
  intro ns P ns' h1 h2 l hl
  rw [<- Bk h1 h2] at P
  obtain ⟨x1,x2,x3⟩:=cA S hl (iw ns')
  exact P _ _ x1 x2 _ x3
 unfold gI at P
 split at P
 ·rename_i xs
  split at P
  ·rename_i ns hns
   split at P
   ·rename_i hl
    obtain ⟨v,rfl,r1⟩:=r.one
    obtain ⟨a,us,rfl,h1,rr⟩:=aF.mp r1
    rw [fK hns] at rr
    exact .inl (.inl ⟨a,ns,rfl,.inr (by rw [<- rr.ints];exact h1),hl,fin P⟩)
   ·exact P.elim
  ·exact P.elim
 ·rename_i n
  split at P
  ·rename_i xs hx
   split at P
   ·rename_i ns hns
    split at P
    ·rename_i hl
     obtain ⟨v,rfl,r1⟩:=r.one
     obtain ⟨a,us,rfl,a1,h1,rr⟩:=b8 S r1 hx
     rw [fK hns] at rr
     exact .inl (.inl ⟨a,ns,rfl,.inl (by rw [<- rr.ints];exact fw.of h1),hl,fin P⟩)
    ·exact P.elim
   ·exact P.elim
  ·rename_i ks hx
   obtain ⟨v,rfl,r1⟩:=r.one
   obtain ⟨a,ea,ps,e1,e2,e3,e4,e5⟩:=S.at hx
   obtain ⟨a',rfl,ea'⟩:=aP.mp r1
   rw [ea] at ea';cases ea'
   refine .inl (.inr ⟨a,ps,rfl,e2,e5,fun out hp hr l hl=>?_⟩)
   have rr:p.Rs H α ((out.map (·.1)).map ar) (jB out):=nF fun q hq=>e5 q (hp.mem_iff.mp hq)
   rw [Bj e3 hp hr,e1] at rr
   obtain ⟨x1,x2,x3⟩:=cA S hl rr
   exact P _ _ x1 x2 _ x3
  ·rename_i ks hx
   obtain ⟨v,rfl,r1⟩:=r.one
   obtain ⟨a,ea,ps,e1,e2,e3⟩:=S.at hx
   obtain ⟨a',rfl,ea'⟩:=aP.mp r1
   rw [ea] at ea';cases ea'
   exact .inr ⟨a,ps,rfl,e2,by rw [e1];exact fin P⟩
  ·exact P.elim
 ·exact P.elim
def jx (ds:List D) (μ:aw):aj D:=match ds with
 | [.obj n]=>match μ[n]? with
  | some (.iset ks)=>.ok (.int ks.length) μ
  | some (.set ks)=>.ok (.int ks.length) μ
  | _=>t9 [.obj n] μ
 | _=>t9 ds μ
theorem Hm:tH p jx (fun xs H Q=>((∃ x n,xs=[x]/\FU p.K x H n/\Q (.int n) H)\/Fd p.w xs H Q)\/Fe p.w xs H Q):=by
 intro ds vs H α μ Q S r P
 unfold jx at P
 split at P
 ·rename_i n
  split at P
  ·rename_i ks hx
   obtain ⟨v,rfl,r1⟩:=r.one
   obtain ⟨a,ea,ps,e1,e2,e3⟩:=S.at hx
   obtain ⟨a',rfl,ea'⟩:=aP.mp r1
   rw [ea] at ea';cases ea'
   refine .inl (.inr ⟨a,ps,rfl,e2,P.now S _ (aq.mpr ?_)⟩)
   rw [<- e1,MY]
  ·rename_i ks hx
   obtain ⟨v,rfl,r1⟩:=r.one
   obtain ⟨a,ea,ps,e1,e2,e3⟩:=S.at hx
   obtain ⟨a',rfl,ea'⟩:=aP.mp r1
   rw [ea] at ea';cases ea'
   refine .inr ⟨a,ps,rfl,e2,P.now S _ (aq.mpr ?_)⟩
   rw [<- e1,MY]
  ·exact .inl (.inl (xI _ vs H α μ Q S r P))
 ·exact .inl (.inl (xI _ vs H α μ Q S r P))
end
section
variable {X:Cx}
def Fb (K:W.Frag):List V->Hp->VK->Prop:=fun xs H Q=>∃ (a:Addr) (ns:List Int),xs=[.ref a]/\(fw K H a (ns.map V.int)\/fY K H a (ns.map V.int))/\ns≠[]/\∀ m∈ns,(∀ j∈ns,m<=j)->Q (.int m) H
def Fc (K:W.Frag):List V->Hp->VK->Prop:=fun xs H Q=>∃ (a:Addr) (ns:List Int),xs=[.ref a]/\(fw K H a (ns.map V.int)\/fY K H a (ns.map V.int))/\ns≠[]/\∀ m∈ns,(∀ j∈ns,j<=m)->Q (.int m) H
theorem ke {its:List Value}{ns:List Int} (h:IntsAre its ns) {i:Nat}{v:Value} (e:its.toArray[i]?=some v):∃ t,v=.int (ns.getD i 0) t/\i<ns.length:=by
 have e':its[i]?=some v:=by simpa using e
 obtain ⟨n,t,rfl,hn⟩:=h.at i v e'
 have hi:=(L8.mp hn).1
 exact ⟨t,by rw [Pc,hn];rfl,hi⟩
theorem uU {ns:List Int}{i:Nat} (h:i<ns.length):ns.getD i 0∈ns:=by
 rw [Pc,Pq h]
 exact Pp h
theorem uJ {ns:List Int}{j:Int} (h:j∈ns):∃ i,i<ns.length/\ns.getD i 0=j:=by
 obtain ⟨i,hi,e⟩:=Px h
 exact ⟨i,hi,by rw [Pc,Pq hi];exact e⟩
theorem zy (hc:X.calm=true):cj X (.builtin "min") (Fb X.K):=by
 intro pins s σ H xs us Q I r h
 obtain ⟨a,ns,rfl,ha,hne,q⟩:=h
 obtain ⟨u,rfl,ru⟩:=eQ r
 cases ru
 have hpos:0<ns.length:=List.length_pos_iff.mpr hne
 have core:∀ (its:List Value) (o:Obj),IntsAre its ns->∀ v s',its.toArray[argBest (fun i j=>decide (ns.getD i 0<ns.getD j 0)) (its.toArray.size - 1)]?=some v->Moved [s.heap.objs.size] (fun a b=>b=a) { s with heap:=s.heap.push o } s'->EP X pins σ Q v s':=by
  intro its o hI v s' hv hm
  obtain ⟨t,rfl,hi⟩:=ke hI hv
  have hsz:its.toArray.size - 1=ns.length - 1:=by rw [Mz,hI.length]
  rw [hsz] at hi ⊢
  obtain ⟨b1,b2⟩:=argBest_lt (fun i=>ns.getD i 0) (ns.length - 1)
  obtain ⟨hh,g,d,tk,os⟩:=s'
  have e1:g=s.gens:=hm.gens
  have e2:d=s.drawn:=hm.drawn
  have e3:os=s.os:=hm.os
  subst e1 e2 e3
  refine ⟨.int _,H,I.fresh_it (o:=o) (h':=hh) (tk:=tk) fun b ob hb e=>hm.heap b ob hb e,⟨t,rfl⟩,q _ (uU hi) fun j hj=>?_⟩
  obtain ⟨i,hi',rfl⟩:=uJ hj
  exact b2 i (by omega)
 have cmp:∀ (its:List Value),IntsAre its ns->CmpOf X.prog X.w X.A.in1 .Lt (fun i v=>its.toArray[i]?=some v) (fun i j=>decide (ns.getD i 0<ns.getD j 0)):=by
  intro its hI i j vi vj s' Q' E' h1 h2 hQ
  obtain ⟨t1,rfl,_⟩:=ke hI h1
  obtain ⟨t2,rfl,_⟩:=ke hI h2
  exact (PyProof.Rows.lt_int hQ:wpAny _ _ (compareOp .Lt _ _) _ _ _)
 rcases ha with ha | ha
 ·obtain ⟨its, rv, pl, hz⟩ := I.list ha
  have hI:IntsAre its ns:=eN rv
  have hne:a≠s.heap.objs.size:=by
   obtain ⟨o,n,e,_⟩:=pl
   exact LR (LO e)
  refine call_min_walkS (O1 pl.isList ?_)
  refine ⟨s.heap.objs.size,[s.heap.objs.size,a],[s.heap.objs.size],_,_,_,_,_,rfl,(O5 (A:=X.A.in1) (show X.A.in1.handled=none from I.ok.hd hc) _ a hne its.toArray).toS,⟨⟨_,Ms _ rfl,rfl,rfl⟩,pl.isList.at fun o e=>Mr _ e⟩,fun b hb=>?_,by simp [hI.length,hpos],cmp its hI,fun v s' hv hm=>core its _ hI v s' hv hm⟩
  obtain ⟨o,n,e,_⟩:=pl
  have:=LO e
  simp only [L4,O3,O4] at hb
  show b<(s.heap.push _).objs.size
  rw [Pk]
  rcases hb with rfl|rfl
  ·exact NV _
  ·exact NW this
 ·obtain ⟨its, rv, pl, hz⟩ := I.tuple ha
  have hI:IntsAre its ns:=eN rv
  have hne:a≠s.heap.objs.size:=by
   obtain ⟨o,e,_⟩:=pl
   exact LR (LO e)
  refine call_min_walkS (O6 (show s.heap.IsTuple a its.toArray from pl) ?_)
  refine ⟨s.heap.objs.size,[s.heap.objs.size,a],[s.heap.objs.size],_,_,_,_,_,rfl,(Walks.tuple (A:=X.A.in1) (show X.A.in1.handled=none from I.ok.hd hc) _ a hne its.toArray).toS,⟨⟨_,Ms _ rfl,rfl,rfl⟩,(show s.heap.IsTuple a its.toArray from pl).at fun o e=>Mr _ e⟩,fun b hb=>?_,by simp [hI.length,hpos],cmp its hI,fun v s' hv hm=>core its _ hI v s' hv hm⟩
  obtain ⟨o,e,_⟩:=pl
  have:=LO e
  simp only [L4,O3,O4] at hb
  show b<(s.heap.push _).objs.size
  rw [Pk]
  rcases hb with rfl|rfl
  ·exact NV _
  ·exact NW this
theorem zA (hc:X.calm=true):cj X (.builtin "max") (Fc X.K):=by
 intro pins s σ H xs us Q I r h
 obtain ⟨a,ns,rfl,ha,hne,q⟩:=h
 obtain ⟨u,rfl,ru⟩:=eQ r
 cases ru
 have hpos:0<ns.length:=List.length_pos_iff.mpr hne
 have core:∀ (its:List Value) (o:Obj),IntsAre its ns->∀ v s',its.toArray[argBest (fun i j=>decide (ns.getD i 0 > ns.getD j 0)) (its.toArray.size - 1)]?=some v->Moved [s.heap.objs.size] (fun a b=>b=a) { s with heap:=s.heap.push o } s'->EP X pins σ Q v s':=by
  intro its o hI v s' hv hm
  obtain ⟨t,rfl,hi⟩:=ke hI hv
  have hsz:its.toArray.size - 1=ns.length - 1:=by rw [Mz,hI.length]
  rw [hsz] at hi ⊢
  obtain ⟨b1,b2⟩:=argBest_gt (fun i=>ns.getD i 0) (ns.length - 1)
  obtain ⟨hh,g,d,tk,os⟩:=s'
  have e1:g=s.gens:=hm.gens
  have e2:d=s.drawn:=hm.drawn
  have e3:os=s.os:=hm.os
  subst e1 e2 e3
  refine ⟨.int _,H,I.fresh_it (o:=o) (h':=hh) (tk:=tk) fun b ob hb e=>hm.heap b ob hb e,⟨t,rfl⟩,q _ (uU hi) fun j hj=>?_⟩
  obtain ⟨i,hi',rfl⟩:=uJ hj
  exact b2 i (by omega)
 have cmp:∀ (its:List Value),IntsAre its ns->CmpOf X.prog X.w X.A.in1 .Gt (fun i v=>its.toArray[i]?=some v) (fun i j=>decide (ns.getD i 0 > ns.getD j 0)):=by
  intro its hI i j vi vj s' Q' E' h1 h2 hQ
  obtain ⟨t1,rfl,_⟩:=ke hI h1
  obtain ⟨t2,rfl,_⟩:=ke hI h2
  exact (PyProof.Rows.gt_int hQ:wpAny _ _ (compareOp .Gt _ _) _ _ _)
 rcases ha with ha | ha
 ·obtain ⟨its, rv, pl, hz⟩ := I.list ha
  have hI:IntsAre its ns:=eN rv
  have hne:a≠s.heap.objs.size:=by
   obtain ⟨o,n,e,_⟩:=pl
   exact LR (LO e)
  refine call_max_walkS (O1 pl.isList ?_)
  refine ⟨s.heap.objs.size,[s.heap.objs.size,a],[s.heap.objs.size],_,_,_,_,_,rfl,(O5 (A:=X.A.in1) (show X.A.in1.handled=none from I.ok.hd hc) _ a hne its.toArray).toS,⟨⟨_,Ms _ rfl,rfl,rfl⟩,pl.isList.at fun o e=>Mr _ e⟩,fun b hb=>?_,by simp [hI.length,hpos],cmp its hI,fun v s' hv hm=>core its _ hI v s' hv hm⟩
  obtain ⟨o,n,e,_⟩:=pl
  have:=LO e
  simp only [L4,O3,O4] at hb
  show b<(s.heap.push _).objs.size
  rw [Pk]
  rcases hb with rfl|rfl
  ·exact NV _
  ·exact NW this
 ·obtain ⟨its, rv, pl, hz⟩ := I.tuple ha
  have hI:IntsAre its ns:=eN rv
  have hne:a≠s.heap.objs.size:=by
   obtain ⟨o,e,_⟩:=pl
   exact LR (LO e)
  refine call_max_walkS (O6 (show s.heap.IsTuple a its.toArray from pl) ?_)
  refine ⟨s.heap.objs.size,[s.heap.objs.size,a],[s.heap.objs.size],_,_,_,_,_,rfl,(Walks.tuple (A:=X.A.in1) (show X.A.in1.handled=none from I.ok.hd hc) _ a hne its.toArray).toS,⟨⟨_,Ms _ rfl,rfl,rfl⟩,(show s.heap.IsTuple a its.toArray from pl).at fun o e=>Mr _ e⟩,fun b hb=>?_,by simp [hI.length,hpos],cmp its hI,fun v s' hv hm=>core its _ hI v s' hv hm⟩
  obtain ⟨o,e,_⟩:=pl
  have:=LO e
  simp only [L4,O3,O4] at hb
  show b<(s.heap.push _).objs.size
  rw [Pk]
  rcases hb with rfl|rfl
  ·exact NV _
  ·exact NW this
end
def IZ:List Int->Int
 | []=>0
 | x::r=>r.foldl min x
def I0:List Int->Int
 | []=>0
 | x::r=>r.foldl max x
theorem zg (r:List Int):∀ x:Int,(r.foldl min x=x\/r.foldl min x∈r)/\r.foldl min x<=x/\∀ j∈r,r.foldl min x<=j:=by
 induction r with
 | nil=>intro x;exact ⟨.inl rfl,Int.le_refl _,fun j hj=>by simp at hj⟩
 | cons y r ih=>
  intro x
  obtain ⟨h1,h2,h3⟩:=ih (min x y)
  rw [NL]
  have m1:min x y<=x:=Int.min_le_left _ _
  have m2:min x y<=y:=Int.min_le_right _ _
  refine ⟨?_,by omega,fun j hj=>?_⟩
  ·rcases h1 with h | h
   ·rcases (by omega : min x y = x \/ min x y = y) with e | e
    ·exact .inl (by omega)
    ·exact .inr (by rw [h,e];exact LY)
   ·exact .inr (LZ _ h)
  ·rcases L4.mp hj with e | e
   ·rw [e];omega
   ·exact h3 j e
theorem zh (r:List Int):∀ x:Int,(r.foldl max x=x\/r.foldl max x∈r)/\x<=r.foldl max x/\∀ j∈r,j<=r.foldl max x:=by
 induction r with
 | nil=>intro x;exact ⟨.inl rfl,Int.le_refl _,fun j hj=>by simp at hj⟩
 | cons y r ih=>
  intro x
  obtain ⟨h1,h2,h3⟩:=ih (max x y)
  rw [NL]
  have m1:x<=max x y:=Int.le_max_left _ _
  have m2:y<=max x y:=Int.le_max_right _ _
  refine ⟨?_,by omega,fun j hj=>?_⟩
  ·rcases h1 with h | h
   ·rcases (by omega : max x y = x \/ max x y = y) with e | e
    ·exact .inl (by omega)
    ·exact .inr (by rw [h,e];exact LY)
   ·exact .inr (LZ _ h)
  ·rcases L4.mp hj with e | e
   ·rw [e];omega
   ·exact h3 j e
theorem Em {ns:List Int}{m:Int} (h:m∈ns) (hm:∀ j∈ns,m<=j):m=IZ ns:=by
 cases ns with
 | nil=>simp at h
 | cons x r=>
  obtain ⟨h1,h2,h3⟩:=zg r x
  have a1:m<=r.foldl min x:=by
   rcases h1 with e | e
   ·rw [e];exact hm x LY
   ·exact hm _ (LZ _ e)
  have a2:r.foldl min x<=m:=by
   rcases L4.mp h with e | e
   ·rw [e];exact h2
   ·exact h3 m e
  exact PM a1 a2
theorem En {ns:List Int}{m:Int} (h:m∈ns) (hm:∀ j∈ns,j<=m):m=I0 ns:=by
 cases ns with
 | nil=>simp at h
 | cons x r=>
  obtain ⟨h1,h2,h3⟩:=zh r x
  have a1:r.foldl max x<=m:=by
   rcases h1 with e | e
   ·rw [e];exact hm x LY
   ·exact hm _ (LZ _ e)
  have a2:m<=r.foldl max x:=by
   rcases L4.mp h with e | e
   ·rw [e];exact h2
   ·exact h3 m e
  exact PM a2 a1
def CN (d:D) (μ:aw):Option (List Int):=match d with
 | .tup xs=>kx xs
 | .frz xs=>kx xs
 | .obj n=>match μ[n]? with
  | some (.lst xs)=>kx xs
  | _=>none
 | _=>none
theorem xB {p:Pa}{H:Hp}{α:List Addr}{μ:aw}{d:D}{v:V}{ns:List Int} (S:p.S H α μ) (r:p.R H α d v) (h:CN d μ=some ns):∃ a,v=.ref a/\(fw p.K H a (ns.map V.int)\/fY p.K H a (ns.map V.int)):=by
 unfold CN at h
 split at h
 ·obtain ⟨a, us, rfl, h1, rr⟩ := aF.mp r
  rw [fK h] at rr
  exact ⟨a,rfl,.inr (by rw [<- rr.ints];exact h1)⟩
 ·obtain ⟨a, us, rfl, h1, rr⟩ := bj.mp r
  rw [fK h] at rr
  exact ⟨a,rfl,.inl (by rw [<- rr.ints];exact h1.sq)⟩
 ·split at h
  ·rename_i xs hx
   obtain ⟨a,us,rfl,a1,h1,rr⟩:=b8 S r hx
   rw [fK h] at rr
   exact ⟨a,rfl,.inl (by rw [<- rr.ints];exact fw.of h1)⟩
  ·cases h
 ·cases h
def tQ (ds:List D) (μ:aw):aj D:=match ds with
 | [d]=>match CN d μ with
  | some (n::ns)=>.ok (.int (IZ (n::ns))) μ
  | _=>.bad
 | ds=>Ao ds μ
def qh (ds:List D) (μ:aw):aj D:=match ds with
 | [d]=>match CN d μ with
  | some (n::ns)=>.ok (.int (I0 (n::ns))) μ
  | _=>.bad
 | ds=>Ap ds μ
theorem Hk {p:Pa}:tH p tQ (fun xs H Q=>Fb p.K xs H Q\/∃ i j,xs=[.int i,.int j]/\Q (.int (if j<i then j else i)) H):=by
 intro ds vs H α μ Q S r P
 unfold tQ at P
 split at P
 ·rename_i d
  split at P
  ·rename_i n ns hns
   obtain ⟨v,rfl,r1⟩:=r.one
   obtain ⟨a,rfl,h1⟩:=xB S r1 hns
   refine .inl ⟨a,n::ns,rfl,h1,by simp,fun m hm hj=>?_⟩
   rw [Em hm hj]
   exact P.now S _ (aq.mpr rfl)
  ·exact P.elim
 ·exact .inr (Eb ds vs H α μ Q S r P)
theorem Hl {p:Pa}:tH p qh (fun xs H Q=>Fc p.K xs H Q\/∃ i j,xs=[.int i,.int j]/\Q (.int (if j > i then j else i)) H):=by
 intro ds vs H α μ Q S r P
 unfold qh at P
 split at P
 ·rename_i d
  split at P
  ·rename_i n ns hns
   obtain ⟨v,rfl,r1⟩:=r.one
   obtain ⟨a,rfl,h1⟩:=xB S r1 hns
   refine .inl ⟨a,n::ns,rfl,h1,by simp,fun m hm hj=>?_⟩
   rw [En hm hj]
   exact P.now S _ (aq.mpr rfl)
  ·exact P.elim
 ·exact .inr (Ec ds vs H α μ Q S r P)
theorem pI:∀ {xs:List V}{us:List Value},xs.length=us.length->(∀ (i:Nat) x u,xs[i]?=some x->us[i]?=some u->bF x u)->aY xs us
 | [],[],_,_=>.nil
 | [],_::_,h,_=>by simp at h
 | _::_,[],h,_=>by simp at h
 | x::xs,u::us,h,k=>.cons (k 0 x u rfl rfl) (pI (by simpa using h) fun i x' u' h1 h2=>k (i+1) x' u' (by simpa using h1) (by simpa using h2))
section
variable {X:Cx}
def Jr (ta:TA):TE:=fun σ H Q=>ta σ H fun vs H1=>∃ j:Int,vs=[.int j]/\∀ r,H1 r=none->Q (.ref r) (cn H1 r (.rng 0 j))
theorem yP {a:Expr}{ta:TA}{p pos:Pos} (hg:Gl X "range") (hm:X.mg "range" = none) (ha:PA X [a] ta) (hs:starEach [a] X.env=[(false,eval a X.env)]):PE X (.Call (.Name "range" p) [a] [] pos) (Jr ta):=by
 intro pins s σ H Q I h
 refine Call_ (kO I hg hm boot_range (Mu (cI (ha pos pins s σ H _ I h) fun us s1 ⟨vs,H1,I1,r1,q1⟩=>?_) hs rfl))
 obtain ⟨j,e,q⟩:=q1
 subst e
 cases r1 with
 | cons r rr=>
  cases rr
  obtain ⟨t,rfl⟩:=r
  refine call_range_1 ?_
  refine ⟨.ref s1.heap.objs.size,cn H1 s1.heap.objs.size (.rng 0 j),I1.laid (fun b ob e=>Mr _ e) (Mt _) ⟨_,_,_,Ms _ rfl⟩,rfl,q _ (I1.hok.fresh (Mt _))⟩
def GI:List V->Hp->VK->Prop:=fun xs H Q=>∃ (r:Addr) (j:Int),xs=[.ref r]/\H r=some (.rng 0 j)/\-(2 ^ 62)<=j/\j<=2 ^ 20/\∀ l,H l=none->Q (.ref l) (cn H l (.lst ((List.range j.toNat).map fun (i:Nat)=>V.int (i:Int))))
theorem w8 (hc:X.calm=true):cj X (.type "list") GI:=by
 intro pins s σ H xs us Q I r h
 obtain ⟨r0,j,rfl,ha,j1,j2,q⟩:=h
 obtain ⟨u,rfl,ru⟩:=eQ r
 cases ru
 obtain ⟨t,u,v,hr⟩:=(show dA X.prog X.w H s.heap r0 (.rng 0 j) from I.hok r0 _ ha)
 have hn:Builtin.Range.rangeSize 0 j 1=((j.toNat:Nat):Int):=by rw [rangeSize_one];split <;> omega
 refine call_list_range (n:=j.toNat) (I.ok.hd hc) hr (small_one (by omega) (by omega) (by omega) (by omega)) hn (by omega) fun h' tk acc' c' hk hl hit=>?_
 have hv:aY ((List.range j.toNat).map fun (i:Nat)=>V.int (i:Int)) acc'.toList:=by
  obtain ⟨e1,e2⟩:=hit
  refine pI (by simp [e1]) fun i x u h1 h2=>?_
  rw [MU] at h1
  have hi:i<j.toNat:=by
   have:=(L8.mp h2).1
   simp [e1] at this
   omega
  rw [Pe hi] at h1
  cases h1
  obtain ⟨t,rfl⟩:=e2 i u (by simpa using h2)
  exact ⟨t,by simp⟩
 refine ⟨.ref s.heap.objs.size,cn H s.heap.objs.size (.lst ((List.range j.toNat).map fun (i:Nat)=>V.int (i:Int))),I.laid (fun b ob e=>hk b ob e) (Mt _) ⟨?_,acc'.toList,c',hv,by simpa using hl⟩,rfl,q _ (I.hok.fresh (Mt _))⟩
 have:(sizeLine:Nat)=16777216:=My
 simp only [MY,Oa]
 omega
end
def jI (o1 o2:D->D->aw->aj D) (fa fb fc:ME):ME:=fun ρ μ=>(fa ρ μ).bind fun a μ1=>(fb ρ μ1).bind fun b μ2=>(o1 a b μ2).bind fun z μ3=>(xg z μ3).bind fun k μ4=>
 if k=true then (fc ρ μ4).bind fun c μ5=>o2 b c μ5 else .ok (.bl false) μ4
def ot (o1 o2 o3:D->D->aw->aj D) (fa fb fc fd:ME):ME:=fun ρ μ=>(fa ρ μ).bind fun a μ1=>(fb ρ μ1).bind fun b μ2=>(o1 a b μ2).bind fun z μ3=>(xg z μ3).bind fun k μ4=>
 if k=true then (fc ρ μ4).bind fun c μ5=>(o2 b c μ5).bind fun z2 μ6=>(xg z2 μ6).bind fun k2 μ7=>if k2=true then (fd ρ μ7).bind fun d μ8=>o3 c d μ8 else .ok (.bl false) μ7 else .ok (.bl false) μ4
def xp (r r' r'':R2) (ta tb tc td:TE):TE:=fun σ H Q=>ta σ H fun x H1=>tb σ H1 fun y H2=>r x y H2 fun z H3=>∃ k,z=.bl k /\
 (if k=true then tc σ H3 fun w' H4=>r' y w' H4 fun z' H5=>∃ k',z'=.bl k'/\(if k'=true then td σ H5 fun v' H6=>r'' w' v' H6 Q else Q (.bl false) H5) else Q (.bl false) H3)
section
variable {X:Cx}{p:Pa}{a b c d:Expr}{ta tb tc td:TE}{fa fb fc fd:ME}{pos:Pos}{op op' op'':CmpOp}{r r' r'':R2}{o1 o2 o3:D->D->aw->aj D}
theorem pR (hd1:nK p o1 r) (hd2:nK p o2 r') {σ:St}{H:Hp}{Q:VK} (h:tD p (jI o1 o2 fa fb fc) σ H Q):vQ r r' (tD p fa) (tD p fb) (tD p fc) σ H Q:=by
 obtain ⟨α,ρ,μ,S,R,P⟩:=h
 refine ⟨α,ρ,μ,S,R,(az.bind P).imp fun x μ1 H1 α1 X1 S1 P1 v rv=>⟨α1,ρ,μ1,S1,R.mono X1,(az.bind P1).imp fun y μ2 H2 α2 X2 S2 P2 u ru=>?_⟩⟩
 refine hd1 x y v u H2 α2 μ2 _ S2 (rv.mono X2) ru ((az.bind P2).imp fun z μ3 H3 α3 X3 S3 P3 w rw'=>?_)
 obtain ⟨k,_,e,q⟩:=kT (az.bind P3) rw' S3
 refine ⟨k,e,?_⟩
 cases k with
 | true=>
  rw [LL rfl] at q ⊢
  exact ⟨α3,ρ,μ3,S3,((R.mono X1).mono X2).mono X3,(az.bind q).imp fun c μ5 H5 α5 X5 S5 P5 t rt=>hd2 y c u t H5 α5 μ5 Q S5 ((ru.mono X3).mono X5) rt P5⟩
 | false=>rw [LM Mm] at q ⊢;exact q.now S3 _ (aT.mpr rfl)
theorem Bs (ho:ig X (compareOp op) r) (ho':ig X (compareOp op') r') (hd1:nK p o1 r) (hd2:nK p o2 r') (ha:PE X a (tD p fa)) (hb:PE X b (tD p fb)) (hc:PE X c (tD p fc))
  (hm:lastMarks [op,op'] [b,c]=false):PE X (.Compare a [op,op'] [b,c] pos) (tD p (jI o1 o2 fa fb fc)):=(BK ho ho' ha hb hc hm).weak fun σ H Q h=>pR hd1 hd2 h
theorem yp {t:TE}{f:ME} (hk:∀ σ H Q,tD p f σ H Q->t σ H Q) {σ:St}{H:Hp}{Q:Bool->Hp->Prop} (h:gm p (nj f) σ H Q):Ab t σ H Q:=by
 obtain ⟨α,ρ,μ,S,R,P⟩:=h
 refine hk σ H _ ⟨α,ρ,μ,S,R,(az.bind P).imp fun d μ1 H1 α1 X1 S1 P1 v rv=>?_⟩
 obtain ⟨k,_,e,q⟩:=kT P1 rv S1
 exact ⟨k,e,q⟩
theorem Bb (ho:ig X (compareOp op) r) (ho':ig X (compareOp op') r') (hd1:nK p o1 r) (hd2:nK p o2 r') (ha:PE X a (tD p fa)) (hb:PE X b (tD p fb)) (hc:PE X c (tD p fc))
  (hm:lastMarks [op,op'] [b,c]=false):PT X (.Compare a [op,op'] [b,c] pos) (gm p (nj (jI o1 o2 fa fb fc))):=(BC ho ho' ha hb hc hm).weak fun σ H Q h=>yp (fun σ H Q h=>pR hd1 hd2 h) h
def yb (d:D) (μ:aw):aj Bool:=match d with
 | .non=>.ok false μ
 | .bl b=>.ok b μ
 | .int i=>.ok (i != 0) μ
 | .str x=>if x.length<=sizeLine then .ok ((x.length:Int) != 0) μ else .bad
 | .tup xs=>.ok (!xs.isEmpty) μ
 | .frz xs=>.ok (!xs.isEmpty) μ
 | .obj n=>match μ[n]? with
  | some (.lst xs)=>.ok (!xs.isEmpty) μ
  | _=>.bad
def jz (f:ME):MT:=fun ρ μ=>(f ρ μ).bind yb
theorem Reps.isEmpty {K:W.Frag}{H:Hp}{α:List Addr}{xs:List D}{vs:List V} (r:Reps K H α xs vs):vs.isEmpty=xs.isEmpty:=by
 have:=r.length
 cases xs with
 | nil=>have h:vs=[]:=PH (by simpa using this);rw [h];rfl
 | cons x r=>cases vs with
  | nil=>simp at this
  | cons _ _=>rfl
theorem C7 {d:D}{μ:aw}{H:Hp}{α:List Addr}{v:V}{R:Bool->aw->Hp->List Addr->Prop} (S:p.S H α μ) (r:p.R H α d v) (P:az p H α (yb d μ) R):∃ k,FR p.K v H k/\R k μ H α:=by
 unfold yb at P
 split at P
 ·rw [bA.mp r];exact ⟨false,rfl,P.now S⟩
 ·rename_i b;rw [aT.mp r];exact ⟨b,rfl,P.now S⟩
 ·rename_i i;rw [aq.mp r];exact ⟨_,rfl,P.now S⟩
 ·rename_i x
  split at P
  ·rename_i hl;rw [bu.mp r];exact ⟨_,⟨hl,rfl⟩,P.now S⟩
  ·exact P.elim
 ·obtain ⟨a, vs, rfl, h1, h2⟩ := aF.mp r
  exact ⟨_,.inr (.inl ⟨vs,h1,by rw [h2.isEmpty]⟩),P.now S⟩
 ·obtain ⟨a, vs, rfl, h1, h2⟩ := bj.mp r
  exact ⟨_,.inl ⟨vs,h1.sq,by rw [h2.isEmpty]⟩,P.now S⟩
 ·split at P
  ·rename_i xs hx
   obtain ⟨a,us,rfl,a1,h1,rr⟩:=b8 S r hx
   exact ⟨_,.inl ⟨us,fw.of h1,by rw [rr.isEmpty]⟩,P.now S⟩
  ·exact P.elim
theorem Ba {e:Expr}{f:ME} (hK:X.K=p.K) (h:PE X e (tD p f)) (he:∀ whole,isTrue e X.env whole=(do let v <- whole;standAt e.pos;holding [v] (truthy v))):PT X e (gm p (jz f)):=
 (BB h he).weak fun σ H Q ⟨α, ρ, μ, S, R, P⟩ => ⟨α, ρ, μ, S, R, (az.bind P).imp fun d μ1 H1 α1 X1 S1 P1 v rv => by
  rw [hK];exact C7 S1 rv P1⟩
def mE (ds:List D) (μ:aw):aj D:=match ds with
 | [.int j]=>if -(2 ^ 62)<=j/\j<=2 ^ 20 then .ok (.obj μ.length) (μ++[.lst (bx 0 j.toNat)]) else .bad
 | _=>.bad
theorem Bz {K:W.Frag}{H:Hp}{α:List Addr} (n:Nat):Reps K H α (bx 0 n) ((List.range n).map fun (i:Nat)=>V.int (i:Int)):=by
 have:bx 0 n=((List.range n).map fun (i:Nat)=>((i:Nat):Int)).map D.int:=by
  unfold bx;rw [N8];apply N9;intro i _;simp
 rw [this]
 have h2:((List.range n).map fun (i:Nat)=>V.int (i:Int))=((List.range n).map fun (i:Nat)=>((i:Nat):Int)).map V.int:=by rw [N8];rfl
 rw [h2]
 exact iw _
theorem Br {fr:MA}{pl pr pos p1:Pos} (hc:X.calm=true) (hg:Gl X "range") (hm:X.mg "range" = none) (hgl:Gl X "list") (hml:X.mg "list" = none) (ha:PA X [a] (lg p fr)) (hs:starEach [a] X.env=[(false,eval a X.env)]) :
  PE X (.Call (.Name "list" pl) [.Call (.Name "range" pr) [a] [] p1] [] pos) (tD p (aE mE fr)):=by
 refine (qX (T:="list") (w8 hc) hgl hml boot_list (ik (yP hg hm ha hs) oR rfl) (by decide) (by decide) rfl rfl).weak fun σ H Q ⟨α,ρ,μ,S,R,P⟩=>⟨α,ρ,μ,S,R,(az.bind P).imp fun ds μ1 H1 α1 X1 S1 P1 vs rv=>?_⟩
 unfold mE at P1
 split at P1
 ·rename_i j
  obtain ⟨v,rfl,r1⟩:=rv.one
  split at P1
  ·rename_i hj
   refine ⟨j,by rw [aq.mp r1],fun r0 hr=>?_⟩
   refine ⟨r0,j,rfl,bU,hj.1,hj.2,fun l hl=>?_⟩
   have S2:p.S (cn H1 r0 (.rng 0 j)) α1 μ1:=S1.same (bM hr) fun a ha=>br fun z=>ha (by rw [z];exact hr)
   obtain ⟨x1,x2,x3⟩:=cA S2 hl (Bz j.toNat)
   exact P1 _ _ ((bM hr).trans x1) x2 _ x3
  ·exact P1.elim
 ·exact P1.elim
def Jx:TE:=fun _ H Q=>∀ q,H q=none->Q (.ref q) (cn H q (.dK []))
theorem DY:PE X (.Dict [] [] pos) Jx:=fun pins s σ H Q I h=>by
 have hb:sysModules<s.heap.objs.size:=Nat.lt_trans (by decide) (I.mod.glob.keeps I.bk).lt
 refine wpAny_Dict_empty ⟨.ref s.heap.objs.size,_,I.laid (a:=s.heap.objs.size) (o:=.dK []) (t':=s.toks) (fun _ _ q=>Mr _ q) (Mt _) ?_,rfl,h _ (I.hok.fresh (Mt _))⟩
 exact ⟨N5 _,LJ.mpr (L5 (LR hb)),[],.nil,Heap.DictOf.new s.heap⟩
def zY:ME:=fun _ μ=>.ok (.obj μ.length) (μ++[.dic])
theorem GC:PE X (.Dict [] [] pos) (tD p zY):=DY.weak fun σ H Q ⟨α,ρ,μ,S,R,P⟩ q hq=>by
 have x1:p.X H (cn H q (.dK [])) α (α++[q]):=(bM hq).trans (iM [q])
 exact P _ _ x1 (S.more hq bU) _ (aP.mpr ⟨q,rfl,by rw [<- S.len];simp⟩)
def IH (p:Pa) (f:D->List D->aw->aj D) (r:V->List V->Hp->VK->Prop):Prop:=∀ d ds v vs H α μ Q,p.S H α μ->p.R H α d v->p.Rs H α ds vs->az p H α (f d ds μ) (RV p Q)->r v vs H Q
def vD (d:D) (μ:aw):Bool:=match d with
 | .obj n=>match μ[n]? with
  | some (.lst _)=>true
  | _=>false
 | _=>false
def zO (f:D->List D->aw->aj D) (fo:ME) (fr:MA):ME:=fun ρ μ=>(fo ρ μ).bind fun o μ1=>if vD o μ1=true then (fr ρ μ1).bind fun ds μ2=>f o ds μ2 else .bad
theorem HW {d:D}{μ:aw}{H:Hp}{α:List Addr}{v:V} (S:p.S H α μ) (r:p.R H α d v) (h:vD d μ=true):Ku p.K "list" v H:=by
 unfold vD at h
 split at h
 ·split at h
  ·rename_i xs hx
   obtain ⟨a,us,rfl,a1,h1,rr⟩:=b8 S r hx
   exact .inl ⟨rfl,us,fw.of h1⟩
  ·cases h
 ·cases h
theorem xi {o e:Expr}{es:List Expr}{fo:ME}{fr:MA}{name:Str}{apos cpos:Pos}{id:String}{rr:V->List V->Hp->VK->Prop}{f:D->List D->aw->aj D} (hK:X.K=p.K) (slot:Slot "list" name id) (hty:typeOf (.builtin id)=pure (.type "method_descriptor")) (hm:Lk X id rr) (hf:IH p f rr)
  (ho:PE X o (tD p fo)) (ha:PA X (e::es) (lg p fr)) (hbase:attributeBase o name X.env (eval o X.env)=eval o X.env)
  (hfew : ((backTo cpos (starEach (e :: es) X.env)).all (fun x => !x.1) && (backToKw cpos (keywordEach [] X.env)).all (fun x => x.1.isSome)
   && decide ((e::es).length+([]:List Keyword).length+(if ([]:List Keyword).isEmpty then 0 else 1)<30))=true)
  (hline:(apos.endLine == cpos.line)=true) (hs:starEach (e::es) X.env=(false,eval e X.env)::starEach es X.env) (hplain:(backTo cpos (starEach es X.env)).any (·.1)=false) :
  PE X (.Call (.Attribute o name apos) (e::es) [] cpos) (tD p (zO f fo fr)):=
 (JQ PySem.F.plainAttrs_list slot hty hm ho ha hbase hfew hline hs hplain).weak fun σ H Q ⟨α, ρ, μ, S, R, P⟩ => ⟨α, ρ, μ, S, R, (az.bind P).imp fun d μ1 H1 α1 X1 S1 P1 v rv => by
  by_cases hl:vD d μ1=true
  ·rw [LL hl] at P1
   rw [hK]
   exact ⟨HW S1 rv hl,α1,ρ,μ1,S1,R.mono X1,(az.bind P1).imp fun ds μ2 H2 α2 X2 S2 P2 vs rs=>hf d ds v vs H2 α2 μ2 Q S2 (rv.mono X2) rs P2⟩
  ·rw [LM hl] at P1;exact P1.elim⟩
def oW (d:D) (ds:List D) (μ:aw):aj D:=match d,ds with
 | .obj n,[.int i]=>match μ[n]? with
  | some (.lst xs)=>match xc xs.length i with
   | some k=>match xs[k]? with
    | some y=>if -(2 ^ 63)<=i/\i<2 ^ 63 then .ok y (μ.set n (.lst (xs.eraseIdx k))) else .bad
    | none=>.bad
   | none=>.bad
  | _=>.bad
 | _,_=>.bad
theorem Ek:IH p oW AG:=by
 intro d ds v vs H α μ Q S rd rs P
 unfold oW at P
 split at P
 ·rename_i n i
  split at P
  ·rename_i xs hx
   split at P
   ·rename_i k hk
    split at P
    ·rename_i y hy
     split at P
     ·rename_i hb
      obtain ⟨a,us,rfl,a1,h1,rr⟩:=b8 S rd hx
      obtain ⟨w,rfl,rw'⟩:=rs.one
      obtain ⟨z,hz,rz⟩:=rr.get hy
      have hk':=(sD hk).1
      have q:=rr.eraseIdx k
      refine ⟨a,us,i,k,z,rfl,by rw [aq.mp rw'],h1,hb.1,hb.2,by rw [rr.length];exact hk',hz,?_⟩
      exact P _ _ (gD h1) (S.put hx a1 h1 q) _ (rz.mono (gD h1))
     ·exact P.elim
    ·exact P.elim
   ·exact P.elim
  ·exact P.elim
 ·exact P.elim
def fS (d:D) (ds:List D) (μ:aw):aj D:=match d,ds with
 | .obj n,[y]=>match μ[n]? with
  | some (.lst xs)=>if xs.length<sizeLine then .ok .non (μ.set n (.lst (xs++[y]))) else .bad
  | _=>.bad
 | _,_=>.bad
theorem El:IH p fS xD:=by
 intro d ds v vs H α μ Q S rd rs P
 unfold fS at P
 split at P
 ·rename_i n y
  split at P
  ·rename_i xs hx
   split at P
   ·rename_i hb
    obtain ⟨a,us,rfl,a1,h1,rr⟩:=b8 S rd hx
    obtain ⟨w,rfl,rw'⟩:=rs.one
    have q:=rr.snoc rw'
    exact ⟨a,us,w,rfl,rfl,h1,by rw [rr.length];exact hb,P _ _ (gD h1) (S.put hx a1 h1 q) _ (bA.mpr rfl)⟩
   ·exact P.elim
  ·exact P.elim
 ·exact P.elim
end
abbrev dH (K:W.Frag) (w:World):Pa:=⟨K,w,fun _ _ _ _=>False⟩
abbrev ie:D->D->aw->aj D:=dI fun i j=>.int (i - j)
noncomputable abbrev uc:D->D->aw->aj D:=FG CW fun i j=>.int (i / j)
noncomputable abbrev tP:D->D->aw->aj D:=FG (fun _ j=>0<j) fun i j=>.int (i % j)
noncomputable abbrev FN:D->D->aw->aj D:=FG FV fun i j=>.int (i ^ j.toNat)
def v8 (N:List Str) (sc scope:Scope) (Nc:List Str) (cap:List (Option Nat)):Bool:=
 (scope.kind == .function) && scope.names.all (fun y=>scope.names.lookup y.1 == some y.2) &&
 scope.names.all (fun y=>y.2 != .free || sc.names.lookup y.1 == some .cell || sc.names.lookup y.1 == some .free) && fG N { scope:=sc,globals:=0,builtins:=0,locals:=0,cells:=[],qual:="",func:=none,code:=.none,frame:=none } scope Nc cap
theorem mT {N:List Str}{e1 e2:Env}{scope:Scope}:∀ {Nc:List Str}{cap:List (Option Nat)},fG N e1 scope Nc cap=fG N e2 scope Nc cap
 | [],[]=>rfl
 | _::_,[]=>rfl
 | [],_::_=>rfl
 | _::Nc,none::cap=>by unfold fG;exact mT
 | x::Nc,some j::cap=>by unfold fG;rw [mT (Nc:=Nc) (cap:=cap) (e1:=e1) (e2:=e2)]
theorem zq {X:Cx}{N:List Str}{sc scope:Scope}{Nc:List Str}{cap:List (Option Nat)} (hN:X.N=N) (hk:∀ x,(sc.names.lookup x=some .cell\/sc.names.lookup x=some .free)->X.env.kindOf x=some .cell\/X.env.kindOf x=some .free) (h:v8 N sc scope Nc cap=true):bR X.N X.env scope Nc cap:=by
 unfold v8 at h
 simp only [Nv] at h
 obtain ⟨⟨⟨h1,h3⟩,h4⟩,h5⟩:=h
 refine ⟨eq_of_beq h1,fun y hy=>?_,fun y hy hf=>?_,?_⟩
 ·exact eq_of_beq (OE.mp h3 y hy)
 ·have := OE.mp h4 y hy
  simp only [Bool.or_eq_true,hf] at this
  refine hk _ ?_
  rcases this with (z | z) | z
  ·exact absurd z (by decide)
  ·exact .inl (eq_of_beq z)
  ·exact .inr (eq_of_beq z)
 ·rw [hN,mT];exact h5
theorem cJ {X:Cx}{N:List Str}{sc scope:Scope}{Nc:List Str}{cap:List (Option Nat)} (hN:X.N=N) (hs:X.env.scope=sc) (h:v8 N sc scope Nc cap=true):bR X.N X.env scope Nc cap:=
 zq hN (fun x hx=>by subst hs;exact hx) h
structure Bx (P:Prop):Prop where
 h:P
section
variable {X:Cx}{p:Pa}{a b c d e:Expr}{es:List Expr}{fa fb fc fd f:ME}{fr:MA}{pos:Pos}{ft gt:MT}
theorem aI (i:Nat) {x:Str} (hN:X.N[i]?=some x:=by rfl) (hv:Kh X.env.scope x:=by first | exact Or.inl rfl | exact Or.inr (Or.inl rfl) | exact Or.inr (Or.inr rfl)) (hd:(x == ("__debug__" : Str))=false:=by decide) (hcd:(x == ("__classdict__" : Str))=false:=by decide):Bx (PE X (.Name x pos) (tD p (ai i))):=⟨Gx (GY hN hv hd hcd)⟩
theorem bS {i j}:Bx (PE X (.Constant (.int i) j pos) (tD p (cC (.int i)))):=⟨zQ G4 fun _ _=>aq.mpr rfl⟩
theorem CC {i j}:Bx (PE X (.Constant (.bool i) j pos) (tD p (cC (.bl i)))):=⟨zQ JR fun _ _=>aT.mpr rfl⟩
theorem Ct {j}:Bx (PE X (.Constant .none j pos) (tD p (cC .non))):=⟨zQ AJ fun _ _=>bA.mpr rfl⟩
theorem zL {x j}:Bx (PE X (.Constant (.str x) j pos) (tD p (cC (.str x)))):=⟨zQ G0 fun _ _=>bu.mpr rfl⟩
theorem KB {x:Str}{i:Int} (h:∃ t,X.mg x=some (.int i t)) (hg:Gl X x:=by rfl) (hd:(x == ("__debug__" : Str))=false:=by decide):Bx (PE X (.Name x pos) (tD p (cC (.int i)))):=Bx.mk (by
 obtain ⟨t,ht⟩:=h
 exact zQ (xG (v:=.int i) hg ht ⟨t,rfl⟩ hd) fun _ _=>aq.mpr rfl)
theorem fZ (ha:Bx (PE X a (tD p fa))) (hb:Bx (PE X b (tD p fb))) (hK:X.K=p.K:=by rfl):Bx (PE X (.BinOp a .Add b pos) (tD p (aC cH fa fb))):=⟨mw (r:=Ai p.K) (hK ▸ D8) Hx ha.h hb.h⟩
theorem oF (ha:Bx (PE X a (tD p fa))) (hb:Bx (PE X b (tD p fb))):Bx (PE X (.BinOp a .Sub b pos) (tD p (aC ie fa fb))):=⟨mw G7 (KS fun _ _ _ _=>aq.mpr rfl) ha.h hb.h⟩
theorem tX (ha:Bx (PE X a (tD p fa))) (hb:Bx (PE X b (tD p fb))):Bx (PE X (.BinOp a .Mult b pos) (tD p (aC kr fa fb))):=⟨mw D3 Hs ha.h hb.h⟩
theorem Aw (ha:Bx (PE X a (tD p fa))) (hb:Bx (PE X b (tD p fb))):Bx (PE X (.BinOp a .FloorDiv b pos) (tD p (aC uc fa fb))):=⟨mw D4 (Ak fun _ _ _ _=>aq.mpr rfl) ha.h hb.h⟩
theorem tY (ha:Bx (PE X a (tD p fa))) (hb:Bx (PE X b (tD p fb))):Bx (PE X (.BinOp a .Mod b pos) (tD p (aC tP fa fb))):=⟨mw Hd (Ak fun _ _ _ _=>aq.mpr rfl) ha.h hb.h⟩
theorem Ji (ha:Bx (PE X a (tD p fa))) (hb:Bx (PE X b (tD p fb))):Bx (PE X (.BinOp a .Pow b pos) (tD p (aC FN fa fb))):=⟨mw G9 (Ak fun _ _ _ _=>aq.mpr rfl) ha.h hb.h⟩
theorem Jk (ha:Bx (PE X a (tD p fa))):Bx (PE X (.UnaryOp .USub a pos) (tD p (mh ye fa))):=⟨JD F6 HA ha.h⟩
structure ku (X:Cx) (p:Pa) (op:CmpOp) (o:D->D->aw->aj D):Prop where
 ex:∃ r,ig X (compareOp op) r/\nK p o r
theorem yd (hu:X.A.units+64<cLine) (hK:X.K=p.K:=by rfl):ku X p .Eq (ka false):=⟨zV p.K false,hK ▸ Hg hu,Fj⟩
theorem rR (hu:X.A.units+64<cLine) (hK:X.K=p.K:=by rfl):ku X p .NotEq (ka true):=⟨zV p.K true,hK ▸ Hb hu,Fj⟩
theorem CP (hu:X.A.units+64<cLine) (hK:X.K=p.K:=by rfl):ku X p .In (qD false):=⟨zU p.K false,hK ▸ Hf hu,Fi⟩
theorem xj (hu:X.A.units+64<cLine) (hK:X.K=p.K:=by rfl):ku X p .NotIn (qD true):=⟨zU p.K true,hK ▸ yV hu,Fi⟩
theorem Fq:ku X p .Is (zX false):=⟨_,He,Ht⟩
theorem jD {op:CmpOp} (hu:X.A.units+64<cLine) (ho:tZ op=true:=by rfl) (hK:X.K=p.K:=by rfl):ku X p op (fH op):=⟨Ah p.K op,hK ▸ D5 hu ho,Hu⟩
variable {op op' op'':CmpOp}{o o' o'':D->D->aw->aj D}
theorem jg (k:ku X p op o) (ha:Bx (PE X a (tD p fa))) (hb:Bx (PE X b (tD p fb))) (hm:behindInMarks op b=false:=by rfl):Bx (PE X (.Compare a [op] [b] pos) (tD p (aC o fa fb))):=Bx.mk (let ⟨_,h1,h2⟩:=k.ex;GD h1 h2 ha.h hb.h hm)
theorem fF (k:ku X p op o) (ha:Bx (PE X a (tD p fa))) (hb:Bx (PE X b (tD p fb))) (hm:behindInMarks op b=false:=by rfl):Bx (PT X (.Compare a [op] [b] pos) (gm p (nj (aC o fa fb)))):=Bx.mk (let ⟨_,h1,h2⟩:=k.ex;Ge h1 h2 ha.h hb.h hm)
theorem Jn (k:ku X p op o) (k':ku X p op' o') (ha:Bx (PE X a (tD p fa))) (hb:Bx (PE X b (tD p fb))) (hc:Bx (PE X c (tD p fc))) (hm:lastMarks [op,op'] [b,c]=false:=by rfl):Bx (PE X (.Compare a [op,op'] [b,c] pos) (tD p (jI o o' fa fb fc))):=Bx.mk (let ⟨_,h1,h2⟩:=k.ex;let ⟨_,h3,h4⟩:=k'.ex;Bs h1 h3 h2 h4 ha.h hb.h hc.h hm)
theorem Jp (k:ku X p op o) (k':ku X p op' o') (ha:Bx (PE X a (tD p fa))) (hb:Bx (PE X b (tD p fb))) (hc:Bx (PE X c (tD p fc))) (hm:lastMarks [op,op'] [b,c]=false:=by rfl):Bx (PT X (.Compare a [op,op'] [b,c] pos) (gm p (nj (jI o o' fa fb fc)))):=Bx.mk (let ⟨_,h1,h2⟩:=k.ex;let ⟨_,h3,h4⟩:=k'.ex;Bb h1 h3 h2 h4 ha.h hb.h hc.h hm)
theorem zM (h:Bx (PE X e (tD p f))) (he:∀ whole,isTrue e X.env whole=(do let v <- whole;standAt e.pos;holding [v] (truthy v)):=by intro _;rfl) (hK:X.K=p.K:=by rfl):Bx (PT X e (gm p (jz f))):=⟨Ba hK h.h he⟩
theorem Aa {rest:List Expr} (ha:Bx (PT X a (gm p ft))) (hb:Bx (PW X (.BoolOp .And (b::rest) pos) (gm p gt))):Bx (PW X (.BoolOp .And (a::b::rest) pos) (gm p (qK ft gt))):=⟨Gc ha.h hb.h⟩
theorem vJ {rest:List Expr} (ha:Bx (PT X a (gm p ft))) (hb:Bx (PW X (.BoolOp .Or (b::rest) pos) (gm p gt))):Bx (PW X (.BoolOp .Or (a::b::rest) pos) (gm p (qi ft gt))):=⟨JA ha.h hb.h⟩
theorem vP (ha:Bx (PT X a (gm p ft))):Bx (PW X (.BoolOp .And [a] pos) (gm p ft)):=⟨DJ ha.h⟩
theorem xh (ha:Bx (PT X a (gm p ft))):Bx (PW X (.BoolOp .Or [a] pos) (gm p ft)):=⟨GK ha.h⟩
theorem ly {op} (ha:Bx (PE X a (tD p fa))):Bx (PE X (.BoolOp op [a] pos) (tD p fa)):=⟨G1 ha.h⟩
def vU:Expr->Bool
 | .Starred _ _=>false
 | _=>true
theorem mI {a:Expr}{es:List Expr}{env:Env} (h:vU a=true):starEach (a::es) env=(false,eval a env)::starEach es env:=by
 cases a <;> first | rfl | cases h
theorem aL (ha:Bx (PE X a (tD p fa))) (hr:Bx (PA X es (lg p fr))) (hs:vU a=true:=by rfl):Bx (PA X (a::es) (lg p (ag fa fr))):=⟨DA ha.h hr.h (mI hs)⟩
theorem bp  : Bx (PA X [] (lg p aB)):=⟨GF⟩
theorem bb {k n:Nat}{x:Str}{F:List D->aw->aj D}{px:Pos} (h:dR X.prog X.w X.K X.mg X.base p k x n F) (hr:fD k X.A) (ha:Bx (PA X (a::es) (lg p fr))) (hg:Gl X x:=by rfl) (hdb:(x == ("__debug__" : Str))=false:=by decide) (he:starEach (a::es) X.env=(false,eval a X.env)::starEach es X.env:=by rfl) (hpl:(backTo pos (starEach es X.env)).any (·.1)=false:=by rfl):Bx (PE X (.Call (.Name x px) (a::es) [] pos) (tD p (aE F fr))):=⟨Dy h hr hg ha.h hdb he hpl⟩
structure oE (X:Cx) (p:Pa) (x:Str) (F:List D->aw->aj D):Prop where
 ex:∃ (u:Value) (r:List V->Hp->VK->Prop),((∃ id,u=.builtin id)\/∃ T,u=.type T)/\bootBuiltins x=some u/\cj X u r/\tH p F r/\x ≠ "__name__" /\ (x == ("__debug__" : Str))=false
theorem bO {x:Str}{F:List D->aw->aj D}{px:Pos} (k:oE X p x F) (hm:X.mg x=none) (ha:Bx (PA X (a::es) (lg p fr))) (hg:Gl X x:=by rfl) (he:starEach (a::es) X.env=(false,eval a X.env)::starEach es X.env:=by rfl) (hpl:(backTo pos (starEach es X.env)).any (·.1)=false:=by rfl):Bx (PE X (.Call (.Name x px) (a::es) [] pos) (tD p (aE F fr))):=Bx.mk (by
 obtain ⟨u,r,hu,h1,h2,h3,h4,h5⟩:=k.ex
 rcases hu with ⟨id,rfl⟩ | ⟨T,rfl⟩
 ·exact Bt h2 h3 hg hm h1 ha.h h4 h5 he hpl
 ·exact yG h2 h3 hg hm h1 ha.h h4 h5 he hpl)
theorem kA (hK:X.K=p.K:=by rfl) (hw:X.w=p.w:=by rfl):oE X p "len" jx:=⟨_,_,.inl ⟨_,rfl⟩,PySem.boot_len,(Co.or zB).or zC,by rw [hK,hw];exact Hm,by decide,by decide⟩
theorem qL (hc:X.calm=true:=by rfl) (hK:X.K=p.K:=by rfl):oE X p "all" mq:=⟨_,_,.inl ⟨_,rfl⟩,by decide +kernel,zE hc,hK ▸ Ho,by decide,by decide⟩
theorem sI (hK:X.K=p.K:=by rfl):oE X p "tuple" iX:=⟨_,_,.inr ⟨_,rfl⟩,by decide +kernel,qB,hK ▸ BQ,by decide,by decide⟩
theorem A3 (hK:X.K=p.K:=by rfl):oE X p "list" nq:=⟨_,_,.inr ⟨_,rfl⟩,by decide +kernel,tx,hK ▸ Ed,by decide,by decide⟩
theorem J4:oE X p "int" ua:=⟨_,_,.inr ⟨_,rfl⟩,by decide +kernel,zD,Hn,by decide,by decide⟩
theorem Aq (hc:X.calm=true:=by rfl) (hK:X.K=p.K:=by rfl):oE X p "min" tQ:=⟨_,_,.inl ⟨_,rfl⟩,by decide +kernel,(zy hc).or (zx hc),hK ▸ Hk,by decide,by decide⟩
theorem xm (hc:X.calm=true:=by rfl) (hK:X.K=p.K:=by rfl):oE X p "max" qh:=⟨_,_,.inl ⟨_,rfl⟩,by decide +kernel,(zA hc).or (zz hc),hK ▸ Hl,by decide,by decide⟩
theorem Fz (hu:X.A.units+64<cLine) (hc:X.calm=true:=by rfl) (hK:X.K=p.K:=by rfl) (hw:X.w=p.w:=by rfl):oE X p "set" rT:=⟨_,_,.inr ⟨_,rfl⟩,by decide +kernel,(zt hc hu).or (zu hc hu),by rw [hK,hw];exact Hj,by decide,by decide⟩
theorem u6 (hc:X.calm=true:=by rfl) (hK:X.K=p.K:=by rfl) (hw:X.w=p.w:=by rfl):oE X p "sorted" gI:=⟨_,_,.inl ⟨_,rfl⟩,by decide +kernel,(wZ.or (wY hc)).or (wX hc),by rw [hK,hw];exact yW,by decide,by decide⟩
theorem lz {T:String}{xT:Str}{px pt:Pos} (hT:T∈["int", "bool", "tuple", "list", "str", "dict"]) (hbT:bootBuiltins xT=some (.type T)) (hnT:xT ≠ "__name__") (hdT:(xT == ("__debug__" : Str))=false) (hm:X.mg "isinstance" = none) (hmT:X.mg xT=none) (ha:Bx (PE X a (tD p fa))) (hg:Gl X "isinstance" := by rfl) (hgT:Gl X xT:=by rfl) (hs1:starEach [a,.Name xT pt] X.env=(false,eval a X.env)::starEach [.Name xT pt] X.env:=by rfl) (hK:X.K=p.K:=by rfl):Bx (PE X (.Call (.Name "isinstance" px) [a,.Name xT pt] [] pos) (tD p (mh (dZ T) fa))):=⟨GB hK hT hg hm hgT hmT hbT ha.h hnT hdT hs1⟩
theorem A1:bootBuiltins "int" = some (.type "int"):=by decide +kernel
theorem xY:bootBuiltins "bool" = some (.type "bool"):=by decide +kernel
theorem jS:bootBuiltins "tuple" = some (.type "tuple"):=by decide +kernel
theorem F3 {pl pr p1:Pos} (hm:X.mg "range" = none) (hml:X.mg "list" = none) (ha:Bx (PA X [a] (lg p fr))) (hc:X.calm=true:=by rfl) (hg:Gl X "range" := by rfl) (hgl:Gl X "list" := by rfl) (hs:starEach [a] X.env=[(false,eval a X.env)]:=by rfl):Bx (PE X (.Call (.Name "list" pl) [.Call (.Name "range" pr) [a] [] p1] [] pos) (tD p (aE mE fr))):=⟨Br hc hg hm hgl hml ha.h hs⟩
theorem bP (ha:Bx (PE X a (tD p fa))) (hb:Bx (PE X b (tD p fb))) (hs:sM b:=by exact fun _ _=>rfl) (hK:X.K=p.K:=by rfl):Bx (PE X (.Subscript a b pos) (tD p (aC cq fa fb))):=⟨JE hK ha.h hb.h hs⟩
theorem FI {lo hi:Option Expr}{fl fh:MO}{p2:Pos} (he:Bx (PE X e (tD p fa))) (hl:Bx (PO X lo (EY p fl))) (hu:Bx (PO X hi (EY p fh))) (hK:X.K=p.K:=by rfl):Bx (PE X (.Subscript e (.Slice lo hi none p2) pos) (tD p (E1 fa fl fh))):=⟨Bq hK he.h hl.h hu.h⟩
theorem Jj {fo:ME}{ob:Expr}{apos:Pos} (ho:Bx (PE X ob (tD p fo))) (ha:Bx (PA X [e] (lg p fr))) (hbase:attributeBase ob "pop" X.env (eval ob X.env)=eval ob X.env:=by rfl) (hfew:((backTo pos (starEach [e] X.env)).all (fun x=>!x.1) && (backToKw pos (keywordEach [] X.env)).all (fun x=>x.1.isSome)
   && decide ([e].length+([]:List Keyword).length+(if ([]:List Keyword).isEmpty then 0 else 1)<30))=true:=by rfl) (hline:(apos.endLine == pos.line)=true:=by rfl) (hs:starEach [e] X.env=(false,eval e X.env)::starEach [] X.env:=by rfl) (hpl:(backTo pos (starEach [] X.env)).any (·.1)=false:=by rfl) (hK:X.K=p.K:=by rfl):Bx (PE X (.Call (.Attribute ob "pop" apos) [e] [] pos) (tD p (zO oW fo fr))):=⟨xi hK PySem.F.slot_list_pop PySem.F.type_list_pop BW Ek ho.h ha.h hbase hfew hline hs hpl⟩
theorem E4 {fo:ME}{ob:Expr}{apos:Pos} (ho:Bx (PE X ob (tD p fo))) (ha:Bx (PA X [e] (lg p fr))) (hbase:attributeBase ob "append" X.env (eval ob X.env)=eval ob X.env:=by rfl) (hfew:((backTo pos (starEach [e] X.env)).all (fun x=>!x.1) && (backToKw pos (keywordEach [] X.env)).all (fun x=>x.1.isSome)
   && decide ([e].length+([]:List Keyword).length+(if ([]:List Keyword).isEmpty then 0 else 1)<30))=true:=by rfl) (hline:(apos.endLine == pos.line)=true:=by rfl) (hs:starEach [e] X.env=(false,eval e X.env)::starEach [] X.env:=by rfl) (hpl:(backTo pos (starEach [] X.env)).any (·.1)=false:=by rfl) (hK:X.K=p.K:=by rfl):Bx (PE X (.Call (.Attribute ob "append" apos) [e] [] pos) (tD p (zO fS fo fr))):=⟨xi hK PySem.F.slot_list_append PySem.F.type_list_append qZ El ho.h ha.h hbase hfew hline hs hpl⟩
variable {tg iter elt:Expr}{fi:MI}{g:MG}{u:CK}
theorem vA (hl:Bx (PE X e (tD p f))) (hK:X.K=p.K:=by rfl):Bx (PI X tg e (rO p (iD f))):=⟨Gu hK hl.h⟩
theorem qg {px:Pos} (hm:X.mg "range" = none) (ha:Bx (PA X [a] (lg p fr))) (hg:Gl X "range" := by rfl) (hs:starEach [a] X.env=[(false,eval a X.env)]:=by rfl):Bx (PI X tg (.Call (.Name "range" px) [a] [] pos) (rO p (js jr fr))):=⟨yE hg hm ha.h hs⟩
theorem FL {px:Pos} (hm:X.mg "range" = none) (ha:Bx (PA X [a,b] (lg p fr))) (hg:Gl X "range" := by rfl) (hs:starEach [a,b] X.env=[(false,eval a X.env),(false,eval b X.env)]:=by rfl) (hs2:starEach [b] X.env=[(false,eval b X.env)]:=by rfl):Bx (PI X tg (.Call (.Name "range" px) [a,b] [] pos) (rO p (js tN fr))):=⟨yD hg hm ha.h hs hs2⟩
theorem iH (i:Nat) {x:Str} (hN:X.N.Nodup) (hi:X.N[i]?=some x:=by rfl) (hx:ya X.env.scope x:=by first | exact Or.inl rfl | exact Or.inr rfl) (hf:X.fn x=true\/X.env.scope.names.lookup x=some .local:=by first | exact .inl rfl | exact .inr rfl):Bx (PG X (.Name x pos) (ng p (ak i))):=⟨Du hN hi hx hf⟩
theorem lF  : Bx (vE X [] (tM p dr)):=⟨Dt⟩
theorem dh (h1:Bx (PG X e (ng p g))) (h2:Bx (vE X es (tM p u))) (hs:(assignEach (e::es) X.env).map (·.2)=assign e X.env::(assignEach es X.env).map (·.2):=by rfl):Bx (vE X (e::es) (tM p (aZ g u))):=⟨Bl h1.h h2.h hs⟩
theorem lE {k n:Nat} (h:Bx (vE X es (tM p u))) (hc:X.calm=true:=by rfl) (hn:(assignEach es X.env).length=n:=by rfl) (hst:(assignEach es X.env).findIdx? (·.1)=none:=by rfl) (hK:X.K=p.K:=by rfl):Bx (PG X (.Tuple es k pos) (ng p (dq n u))):=⟨Gv hK hc h.h hn hst⟩
theorem qH {fo fi:ME} (ho:Bx (PE X a (tD p fo))) (hi:Bx (PE X b (tD p fi))) (ha:∀ v,assign (.Subscript a b pos) X.env v=(do
   let ov <- holding [v] (eval a X.env)
   let iv <- holding [v,ov] (eval b X.env)
   standAt pos
   holding [v,ov,iv] (setItem ov iv v)
   release [v,ov,iv] []):=by intro _;rfl):Bx (PG X (.Subscript a b pos) (ng p (kz fo fi))):=⟨Gw ho.h hi.h ha⟩
variable {ifs:List Expr}{scope:Scope}{Nc:List Str}{cap:List (Option Nat)}{tt:MT}{te:ME}
theorem iU (S:bR X.N X.env scope Nc cap) (hi:Bx (PI X tg iter (rO p fi))) (hg:∀ cl C s H fp,Bx (PG (iI X Nc scope cl C s H fp) tg (ng p.nx g))) (ht:∀ cl C s H fp,Bx (qf (iI X Nc scope cl C s H fp) ifs (gm p.nx tt))) (he:∀ cl C s H fp,Bx (PE (iI X Nc scope cl C s H fp) elt (tD p.nx te))) (hc:X.calm=true:=by rfl) (hs:∀ x,foldedSetIterable iter X.env x=pure x:=by intro _;rfl):Bx (PE X (.ListComp elt [⟨tg,iter,ifs,0⟩] scope pos) (tD p (d0 fi cap g tt te))):=⟨Dx hc S hi.h (fun cl C s H fp=>(hg cl C s H fp).h) (fun cl C s H fp=>(ht cl C s H fp).h) (fun cl C s H fp=>(he cl C s H fp).h) hs⟩
def sL (gs:List Comprehension):Bool:=gs.all fun g=>g.is_async == 0
theorem xq {gs:List Comprehension} (h:sL gs=true):∀ g∈gs,g.is_async=0:=fun g hg=>eq_of_beq (OE.mp h g hg)
variable {mb:MB}{cl0:Comprehension}{rest:List Comprehension}{d:Nat}{acc:Addr}
theorem K8 {gens:List Comprehension} (hg:gens[d]?=none) (hel:Bx (PE X elt (tD p.nx te))) (hxe:X.xe=tK:=by rfl):Bx (vF X (.ListComp elt gens scope pos) d acc (x8 p.nx (oM te) acc)):=⟨Dz hg hxe hel.h⟩
theorem K7 {gens:List Comprehension} (hg:gens[d]?=some ⟨tg,iter,ifs,0⟩) (hi:Bx (PI X tg iter (rO p.nx fi))) (hgc:Bx (PG X tg (ng p.nx g))) (htc:Bx (qf X ifs (gm p.nx tt))) (hb:Bx (vF X (.ListComp elt gens scope pos) (d+1) acc (x8 p.nx mb acc)))
  (hz:sL gens=true:=by rfl) (hxe:X.xe=tK:=by rfl) (hc:X.calm=true:=by rfl) (hs:∀ x,foldedSetIterable iter X.env x=pure x:=by intro _;rfl):Bx (vF X (.ListComp elt gens scope pos) d acc (x8 p.nx (oU fi g tt mb) acc)):=
 ⟨Bu (e:=.ListComp elt gens scope pos) (cl:=⟨tg,iter,ifs,0⟩) rfl (xq hz) hg hxe hc hi.h hgc.h htc.h hb.h hs⟩
theorem DC (i:Nat) {x:Str}{pos1 pos2:Pos} (hN:X.N.Nodup) (S:bR X.N X.env scope Nc cap) (hi:Bx (PI X tg iter (rO p fi))) (hg:∀ cl C s H fp,Bx (PG (iI X Nc scope cl C s H fp) tg (ng p.nx g))) (ht:∀ cl C s H fp,Bx (qf (iI X Nc scope cl C s H fp) ifs (gm p.nx tt))) (hb:∀ cl C s H fp acc,Bx (vF (iI X Nc scope cl C s H fp) (.ListComp elt (⟨tg,iter,ifs,0⟩::rest) scope pos) 1 acc (x8 p.nx mb acc))) (hz:sL (⟨tg,iter,ifs,0⟩::rest)=true:=by rfl) (hix:X.N[i]?=some x:=by rfl) (hx:X.env.scope.names.lookup x=some .local:=by rfl) (hc:X.calm=true:=by rfl) (hsw:swapsWith (.ListComp elt (⟨tg,iter,ifs,0⟩::rest) scope pos) (some (.Name x pos1)) pos2.line X.env=pure true:=by rfl) (hs:∀ x,foldedSetIterable iter X.env x=pure x:=by intro _;rfl):Bx (PS X (.Assign [.Name x pos1] (.ListComp elt (⟨tg,iter,ifs,0⟩::rest) scope pos) pos2) (fX p (bI (mF fi cap g tt mb) (ak i)))):=
 ⟨Bd (cl0:=⟨tg,iter,ifs,0⟩) hc (xq hz) hN hix hx S hi.h (fun cl C s H fp=>(hg cl C s H fp).h) (fun cl C s H fp=>(ht cl C s H fp).h) (fun cl C s H fp acc=>(hb cl C s H fp acc).h) hsw hs⟩
variable {fs gs:MS}{st:Stmt}{sts A B body:List Stmt}
theorem dj (i:Nat) {x:Str}{pos':Pos} (hN:X.N.Nodup) (he:Bx (PE X e (tD p f))) (hi:X.N[i]?=some x:=by rfl) (hx:ya X.env.scope x:=by first | exact Or.inl rfl | exact Or.inr rfl) (hs:swapsWith e (some (.Name x pos')) pos.line X.env=pure false:=by rfl) (hf:X.fn x=true\/X.env.scope.names.lookup x=some .local:=by first | exact .inl rfl | exact .inr rfl):Bx (PS X (.Assign [.Name x pos'] e pos) (fX p (bI f (ak i)))):=⟨Gf hN hi hx he.h hs hf⟩
theorem mx (i:Nat) {x:Str}{pos1 pos2:Pos} (hN:X.N.Nodup) (S:bR X.N X.env scope Nc cap) (hi:Bx (PI X tg iter (rO p fi))) (hg:∀ cl C s H fp,Bx (PG (iI X Nc scope cl C s H fp) tg (ng p.nx g))) (ht:∀ cl C s H fp,Bx (qf (iI X Nc scope cl C s H fp) ifs (gm p.nx tt))) (he:∀ cl C s H fp,Bx (PE (iI X Nc scope cl C s H fp) elt (tD p.nx te))) (hix:X.N[i]?=some x:=by rfl) (hx:X.env.scope.names.lookup x=some .local:=by rfl) (hc:X.calm=true:=by rfl) (hsw:swapsWith (.ListComp elt [⟨tg,iter,ifs,0⟩] scope pos) (some (.Name x pos1)) pos2.line X.env=pure true:=by rfl) (hs:∀ x,foldedSetIterable iter X.env x=pure x:=by intro _;rfl):Bx (PS X (.Assign [.Name x pos1] (.ListComp elt [⟨tg,iter,ifs,0⟩] scope pos) pos2) (fX p (bI (d0 fi cap g tt te) (ak i)))):=⟨Df hc hN hix hx S hi.h (fun cl C s H fp=>(hg cl C s H fp).h) (fun cl C s H fp=>(ht cl C s H fp).h) (fun cl C s H fp=>(he cl C s H fp).h) hsw hs⟩
theorem lA (he:Bx (PE X e (tD p f))) (hg:Bx (PG X tg (ng p g))) (hs:swapsWithSole [tg] e pos.line X.env=pure false:=by rfl) (hw:swappedStores [tg] e X.env=pure none:=by rfl) (h1:(assignEach [tg] X.env).map (·.2)=[assign tg X.env]:=by rfl):Bx (PS X (.Assign [tg] e pos) (fX p (bI f g))):=⟨Gm he.h hg.h hs hw h1⟩
theorem rX (he:Bx (PE X e (tD p f))) (hs:swapsWith e none pos.line X.env=pure false:=by rfl):Bx (PS X (.Expr e pos) (fX p (oH f))):=⟨Dg he.h hs⟩
theorem jh (hp:PassesOwn (model X.prog X.w) X.A X.env X.xe) (hi:Bx (PI X tg iter (rO p fi))) (hg:Bx (PG X tg (ng p g))) (hb:Bx (iA X body (fX p fs))) (hc:X.calm=true:=by rfl) (hs:∀ x,foldedSetIterable iter X.env x=pure x:=by intro _;rfl):Bx (PS X (.For tg iter body [] pos) (fX p (kq fi g fs))):=⟨Gj hp hc hi.h hg.h hb.h hs⟩
theorem DB (n:Nat) (hp:PassesOwn (model X.prog X.w) X.A X.env X.xe) (hc:Bx (PT X c (gm p ft))) (hb:Bx (iA X body (fX p fs))):Bx (PS X (.While c body [] pos) (fX p (rY n ft fs))):=⟨Bc hp hc.h hb.h⟩
end
section
variable {X:Cx}{p:Pa}{a b c e:Expr}{es rest:List Expr}{fa fb f:ME}{fr:MA}{ft gt:MT}{pos:Pos}{fs gs:MS}{st:Stmt}{sts A B:List Stmt}
theorem E3 (ha:Bx (PE X a (tD p fa))):Bx (PE X (.UnaryOp .Not a pos) (tD p (ud fa))):=⟨Gz ha.h⟩
theorem jf (ha:Bx (PE X a (tD p fa))) (hb:Bx (PE X (.BoolOp .And (b::rest) pos) (tD p fb))):Bx (PE X (.BoolOp .And (a::b::rest) pos) (tD p (g5 fa fb))):=⟨GE ha.h hb.h⟩
theorem cg {k:Nat} (h:Bx (PA X es (lg p fr))):Bx (PE X (.Tuple es k pos) (tD p (ck fr))):=⟨Gy h.h⟩
theorem eU (h:Bx (PA X es (lg p fr))):Bx (PE X (.List es pos) (tD p (fC fr))):=⟨GA h.h⟩
theorem Jh:Bx (PE X (.Dict [] [] pos) (tD p zY)):=⟨GC⟩
theorem xn:Bx (PO X none (EY p FE)):=⟨Dq⟩
theorem n6 (h:Bx (PE X e (tD p f))):Bx (PO X (some e) (EY p (lC f))):=⟨Dp h.h⟩
theorem lx (ha:Bx (PT X a (gm p ft))):Bx (PT X (.UnaryOp .Not a pos) (gm p (jj ft))):=⟨Gd ha.h⟩
theorem vH (h:Bx (PW X e (gm p ft))):Bx (PT X e (gm p ft)):=⟨h.h.pt⟩
theorem jd:Bx (qf X [] (gm p bD)):=⟨Dc⟩
theorem tW (h:Bx (PT X c (gm p ft))):Bx (qf X [c] (gm p ft)):=⟨Da h.h⟩
theorem ij:Bx (iA X [] (fX p f6)):=⟨Gi⟩
theorem aQ (h1:Bx (PS X st (fX p fs))) (h2:Bx (iA X sts (fX p gs))):Bx (iA X (st::sts) (fX p (bB fs gs))):=⟨Dh h1.h h2.h⟩
theorem aX (h1:Bx (PS X st (fX p fs))):Bx (iA X [st] (fX p fs)):=⟨Gh h1.h⟩
theorem bt (h:Bx (PE X e (tD p f))):Bx (PS X (.Return (some e) pos) (fX p (bZ f))):=⟨Gg h.h⟩
theorem lj (hc:Bx (PT X c (gm p ft))) (ha:Bx (iA X A (fX p fs))) (hb:Bx (iA X B (fX p gs))):Bx (PS X (.If c A B pos) (fX p (tJ ft fs gs))):=⟨JB hc.h ha.h hb.h⟩
end
theorem cv {P:Program}{w:World}{K:W.Frag}{mg:Str->Option Value}{base:Heap}{p:Pa}{k n:Nat}{x qual:Str}{st:Stmt}{f:Addr}{fd:FuncData}{N ps:List Str}{fb:MS}
  (F:gk K x qual st f fd) (S:aR N ps (av st)) (hn:ps.length=n) (hm:mg x=some (.ref f)) (hb:f7 K fd ps [])
  (body : ∀ (cdv : Value) (A : Around) (outer : List Env) (s : Shared) (H : Hp) (E : XK), fD k (A.deeper (envOfC qual (av st) s.heap.objs.size f cdv)) ->
   Bx (iA (oB vG P w K mg base N qual (av st) f cdv A outer s H E).nox (bQ st) (fX p fb))):dR P w K mg base p (k+1) x n (gT n N.length fb):=
 Iq F S hn hm hb fun cdv A outer s H E hr=>(body cdv A outer s H E hr).h
end L2
namespace L2
open PySem RS
section
variable {ρ:Ro}{μ:aw}{fa fb fc fd f:ME}{fr:MA}{ft gt:MT}{op o1 o2 o3:D->D->aw->aj D}{fs gs:MS}{g:MG}
@[simp] theorem ah {d:D}{r:Ro}:ai 0 (some d::r) μ=.ok d μ:=Py (Pz _)
@[simp] theorem ao {i:Nat}{x:Option D}{r:Ro}:ai (i+1) (x::r) μ=ai i r μ:=Py (Pz _)
@[simp] theorem bf {d:D}:cC d ρ μ=.ok d μ:=Py (Pz _)
@[simp] theorem aH:aC op fa fb ρ μ=(fa ρ μ).bind fun a μ1=>(fb ρ μ1).bind fun b μ2=>op a b μ2:=Py (Pz _)
@[simp] theorem gZ {o:D->aw->aj D}:mh o fa ρ μ=(fa ρ μ).bind fun a μ1=>o a μ1:=Py (Pz _)
@[simp] theorem ax:aB ρ μ=.ok [] μ:=Py (Pz _)
@[simp] theorem au:ag fa fr ρ μ=(fa ρ μ).bind fun a μ1=>(fr ρ μ1).bind fun r μ2=>.ok (a::r) μ2:=Py (Pz _)
@[simp] theorem aD {F:List D->aw->aj D}:aE F fr ρ μ=(fr ρ μ).bind F:=Py (Pz _)
@[simp] theorem eJ:ck fr ρ μ=(fr ρ μ).bind fun ds μ=>if ds.length<=sizeLine then .ok (.tup ds) μ else .bad:=Py (Pz _)
@[simp] theorem cW:fC fr ρ μ=(fr ρ μ).bind fun ds μ=>if ds.length<=sizeLine then .ok (.obj μ.length) (μ++[.lst ds]) else .bad:=Py (Pz _)
@[simp] theorem ba {b:Bool}:xg (.bl b) μ=.ok b μ:=Py (Pz _)
@[simp] theorem eR:nj f ρ μ=(f ρ μ).bind xg:=Py (Pz _)
@[simp] theorem om:qK ft gt ρ μ=(ft ρ μ).bind fun b μ1=>if b=true then gt ρ μ1 else .ok false μ1:=Py (Pz _)
@[simp] theorem jH:qi ft gt ρ μ=(ft ρ μ).bind fun b μ1=>if b=true then .ok true μ1 else gt ρ μ1:=Py (Pz _)
@[simp] theorem dJ:jj ft ρ μ=(ft ρ μ).bind fun b μ1=>.ok (!b) μ1:=Py (Pz _)
@[simp] theorem eW:g5 fa fb ρ μ=(fa ρ μ).bind fun a μ1=>(xg a μ1).bind fun b μ2=>if b=true then fb ρ μ2 else .ok (.bl false) μ2:=Py (Pz _)
@[simp] theorem xS:ud f ρ μ=(f ρ μ).bind fun a μ1=>(xg a μ1).bind fun b μ2=>.ok (.bl (!b)) μ2:=Py (Pz _)
@[simp] theorem lQ:jI o1 o2 fa fb fc ρ μ=(fa ρ μ).bind fun a μ1=>(fb ρ μ1).bind fun b μ2=>(o1 a b μ2).bind fun z μ3=>(xg z μ3).bind fun k μ4=>
 if k=true then (fc ρ μ4).bind fun c μ5=>o2 b c μ5 else .ok (.bl false) μ4:=Py (Pz _)
@[simp] theorem zk:ot o1 o2 o3 fa fb fc fd ρ μ=(fa ρ μ).bind fun a μ1=>(fb ρ μ1).bind fun b μ2=>(o1 a b μ2).bind fun z μ3=>(xg z μ3).bind fun k μ4=>
 if k=true then (fc ρ μ4).bind fun c μ5=>(o2 b c μ5).bind fun z2 μ6=>(xg z2 μ6).bind fun k2 μ7=>if k2=true then (fd ρ μ7).bind fun d μ8=>o3 c d μ8 else .ok (.bl false) μ7 else .ok (.bl false) μ4:=Py (Pz _)
@[simp] theorem dX:jz f ρ μ=(f ρ μ).bind yb:=Py (Pz _)
@[simp] theorem cx {b:Bool}:yb (.bl b) μ=.ok b μ:=Py (Pz _)
@[simp] theorem Fu {fl fh:MO}:E1 fa fl fh ρ μ=(fa ρ μ).bind fun a μ1=>(fl ρ μ1).bind fun lo μ2=>(fh ρ μ2).bind fun hi μ3=>EZ a lo hi μ3:=Py (Pz _)
@[simp] theorem Ih:FE ρ μ=.ok none μ:=Py (Pz _)
@[simp] theorem uY:lC f ρ μ=(f ρ μ).bind Kg:=Py (Pz _)
@[simp] theorem AY {i:Int}:Kg (.int i) μ=.ok (some i) μ:=Py (Pz _)
@[simp] theorem Ik:zY ρ μ=.ok (.obj μ.length) (μ++[.dic]):=Py (Pz _)
@[simp] theorem t6 {F:D->List D->aw->aj D}{fo:ME}:zO F fo fr ρ μ=(fo ρ μ).bind fun o μ1=>if vD o μ1=true then (fr ρ μ1).bind fun ds μ2=>F o ds μ2 else .bad:=Py (Pz _)
@[simp] theorem aW:bZ f ρ μ=(f ρ μ).bindS fun d μ'=>.ret d μ':=Py (Pz _)
@[simp] theorem cf:f6 ρ μ=.next ρ μ:=Py (Pz _)
@[simp] theorem aO:bB fs gs ρ μ=(fs ρ μ).bind gs:=Py (Pz _)
@[simp] theorem cm:tJ ft fs gs ρ μ=(ft ρ μ).bindS fun b μ1=>if b=true then fs ρ μ1 else gs ρ μ1:=Py (Pz _)
@[simp] theorem bc:bI f g ρ μ=(f ρ μ).bindS fun d μ1=>(g d ρ μ1).bindS fun ρ' μ2=>.next ρ' μ2:=Py (Pz _)
@[simp] theorem iY:oH f ρ μ=(f ρ μ).bindS fun _ μ1=>.next ρ μ1:=Py (Pz _)
@[simp] theorem aJ {g:MS}:(SO.next ρ μ).bind g=g ρ μ:=Py (Pz _)
@[simp] theorem g6 {d:D}{g:MS}:(SO.ret d μ).bind g=.ret d μ:=Py (Pz _)
@[simp] theorem sC {g:MS}:(SO.next ρ μ).loop g=g ρ μ:=Py (Pz _)
@[simp] theorem aM {d:D}:(SO.ret d μ).out=.ok d μ:=Py (Pz _)
@[simp] theorem BP:(SO.next ρ μ).out=.ok .non μ:=Py (Pz _)
@[simp] theorem bW {i:Nat}{d:D}:ak i d ρ μ=.ok (ρ.set i (some d)) μ:=Py (Pz _)
@[simp] theorem kg {fo fi:ME}{d:D}:kz fo fi d ρ μ=(fo ρ μ).bind fun o μ1=>(fi ρ μ1).bind fun i μ2=>(vL o i d μ2).bind fun _ μ3=>.ok ρ μ3:=Py (Pz _)
@[simp] theorem EM {n:Nat}{u:CK}{xs:List D}:dq n u (.tup xs) ρ μ=if xs.length=n then u xs ρ μ else .bad:=Py (Pz _)
@[simp] theorem EN:dr [] ρ μ=.ok ρ μ:=Py (Pz _)
@[simp] theorem Cf {u:CK}{d:D}{r:List D}:aZ g u (d::r) ρ μ=(g d ρ μ).bind fun ρ' μ'=>u r ρ' μ':=Py (Pz _)
@[simp] theorem gq {fi:MI}:kq fi g fs ρ μ=(fi ρ μ).bindS fun src μ1=>ic src g fs src.items ρ μ1:=Py (Pz _)
@[simp] theorem cX:iD f ρ μ=(f ρ μ).bind vK:=Py (Pz _)
@[simp] theorem dv {F:List D->aw->aj nZ}:js F fr ρ μ=(fr ρ μ).bind F:=Py (Pz _)
@[simp] theorem kf {xs:List D}:vK (.tup xs) μ=.ok (.fix xs) μ:=Py (Pz _)
@[simp] theorem cY {fi:MI}{cap:List (Option Nat)}:d0 fi cap g ft f ρ μ=(fi ρ μ).bind fun src μ1=>compLoop src μ1.length g ft f src.items (fB cap ρ) (μ1++[.lst []]):=Py (Pz _)
@[simp] theorem bh {xs:List D}:(nZ.fix xs).items=xs:=Py (Pz _)
@[simp] theorem dN {n:Nat}{xs:List D}:(nZ.own n xs).items=xs:=Py (Pz _)
@[simp] theorem Kt:fB [] ρ=[]:=Py (Pz _)
@[simp] theorem Ka {r:List (Option Nat)}:fB (none::r) ρ=none::fB r ρ:=Py (Pz _)
@[simp] theorem J9 {r:List (Option Nat)}{j:Nat}:fB (some j::r) ρ=(ρ[j]?).join::fB r ρ:=Py (Pz _)
theorem cb {N:Nat}{a:D}:gT 1 N fs [a] μ=qe μ (fs (some a::List.replicate (N - 1) none) μ).out:=LL rfl
theorem b9 {N:Nat}{a b:D}:gT 2 N fs [a,b] μ=qe μ (fs (some a::some b::List.replicate (N - 2) none) μ).out:=LL rfl
theorem mC {N:Nat}{a b c:D}:gT 3 N fs [a,b,c] μ=qe μ (fs (some a::some b::some c::List.replicate (N - 3) none) μ).out:=LL rfl
@[simp] theorem gG {op:CmpOp}{i j:Int}:fH op (.int i) (.int j) μ=.ok (.bl (cU op i j)) μ:=Py (Pz _)
@[simp] theorem oq {i j:Int}:cH (.int i) (.int j) μ=.ok (.int (i+j)) μ:=Py (Pz _)
@[simp] theorem An {gg:Int->Int->D}{i j:Int}:dI gg (.int i) (.int j) μ=.ok (gg i j) μ:=Py (Pz _)
@[simp] theorem oV {C:Int->Int->Prop}{gg:Int->Int->D}{i j:Int} (h:C i j):FG C gg (.int i) (.int j) μ=.ok (gg i j) μ:=by unfold FG;simp [h]
@[simp] theorem Ks {i j:Int} (h:tV i j):kr (.int i) (.int j) μ=.ok (.int (i * j)) μ:=by unfold kr;simp [h]
@[simp] theorem Ii {i:Int}:ye (.int i) μ=.ok (.int (-i)) μ:=Py (Pz _)
@[simp] theorem iW {neg:Bool}{i j:Int}:ka neg (.int i) (.int j) μ=.ok (.bl (if neg then !(i == j) else i == j)) μ:=Py (Pz _)
@[simp] theorem AX {neg:Bool}{i j:Bool}:ka neg (.bl i) (.bl j) μ=.ok (.bl (if neg then !(i == j) else i == j)) μ:=Py (Pz _)
@[simp] theorem AW {neg:Bool}{a:D}:zX neg a .non μ=.ok (.bl (if neg then !a.isNon else a.isNon)) μ:=Py (Pz _)
@[simp] theorem eB {xs:List D}:jx [.tup xs] μ=.ok (.int xs.length) μ:=Py (Pz _)
@[simp] theorem xU {xs:List D}:jx [.frz xs] μ=.ok (.int xs.length) μ:=Py (Pz _)
theorem EL {n:Nat}{xs:List D} (h:μ[n]?=some (.lst xs)):jx [.obj n] μ=.ok (.int xs.length) μ:=by unfold jx t9;simp [h]
theorem sF {n:Nat}{xs:List D} (h:μ[n]?=some (.lst xs)):iX [.obj n] μ=.ok (.tup xs) μ:=by unfold iX;simp [h]
theorem gH {n:Nat}{bs:List Bool} (h:μ[n]?=some (.lst (bs.map D.bl))):mq [.obj n] μ=.ok (.bl (bs.all id)) μ:=by unfold mq;simp [h,zG]
theorem fI {xs:List D}{i:Int}{d:D} (h:atI xs i=some d):cq (.tup xs) (.int i) μ=.ok d μ:=by unfold cq;simp [h]
theorem Ij {xs:List D}{i:Int}{d:D} (h:atI xs i=some d):cq (.frz xs) (.int i) μ=.ok d μ:=by unfold cq;simp [h]
theorem fJ {n:Nat}{xs:List D}{i:Int}{d:D} (hm:μ[n]?=some (.lst xs)) (h:atI xs i=some d):cq (.obj n) (.int i) μ=.ok d μ:=by unfold cq;simp [hm,h]
theorem lJ {n j:Nat}{xs:List D}{i:Int}{d:D} (hm:μ[n]?=some (.lst xs)) (h:xc xs.length i=some j):vL (.obj n) (.int i) d μ=.ok () (μ.set n (.lst (xs.set j d))):=by unfold vL;simp [hm,h]
theorem gE {n:Nat}{xs:List D} (hm:μ[n]?=some (.lst xs)):vK (.obj n) μ=.ok (.own n xs) μ:=by unfold vK;simp [hm]
theorem gF {j:Int} (h0:0<=j) (h:j<1000):jr [.int j] μ=.ok (.fix (bx 0 j.toNat)) μ:=by
 unfold jr;dsimp only;rw [LL];omega
theorem oj {i j:Int} (h0:0<=i) (h1:i<1000) (h2:-1000<=j) (h:j<1000):tN [.int i,.int j] μ=.ok (.fix (bx i (j - i).toNat)) μ:=by
 unfold tN;dsimp only;rw [LL];omega
theorem nr {α:Type}{x:α}{r:List α}:atI (x::r) 0=some x:=by unfold atI xc;simp
theorem ue {α:Type}{x y:α}{r:List α}:atI (x::y::r) 1=some y:=iZ (j:=1) rfl
theorem FA {α:Type}{x y z:α}{r:List α}:atI (x::y::z::r) 2=some z:=iZ (j:=2) rfl
@[simp] theorem du {x:D}{r:List D}:cq (.tup (x::r)) (.int 0) μ=.ok x μ:=fI nr
@[simp] theorem il {x y:D}{r:List D}:cq (.tup (x::y::r)) (.int 1) μ=.ok y μ:=fI ue
theorem mG {α:Type}{xs:List α}{i:Int}{x:α} (h0:0<=i) (h:xs[i.toNat]?=some x):atI xs i=some x:=by
 have:=iZ h
 rwa [show ((i.toNat:Nat):Int)=i by omega] at this
theorem mB {n:Nat}{i:Int} (h0:0<=i) (h:i<n):xc n i=some i.toNat:=by unfold xc;simp [h0,h]
end
section
variable {μ g:aw}{d:D}
@[simp] theorem Es {n:Nat}{i:Int}:(D.int i).low n=True:=by simp [D.low]
@[simp] theorem Ld {n:Nat}{i:Bool}:(D.bl i).low n=True:=by simp [D.low]
@[simp] theorem Kr {n:Nat}:D.non.low n=True:=by simp [D.low]
@[simp] theorem Kq {n:Nat}{x:Str}:(D.str x).low n=True:=by simp [D.low]
@[simp] theorem Ep {n:Nat}{xs:List D}:(D.tup xs).low n=D.lows n xs:=by simp [D.low]
@[simp] theorem Er {n m:Nat}:(D.obj m).low n=(m<n):=by simp [D.low]
@[simp] theorem J8 {n:Nat}:D.lows n []=True:=by simp [D.lows]
@[simp] theorem ID {n:Nat}{x:D}{xs:List D}:D.lows n (x::xs)=(x.low n/\D.lows n xs):=by simp [D.lows]
theorem g9 {n:Nat}:∀ {xs:List D},D.lows n xs↔∀ x∈xs,x.low n
 | []=>by simp
 | x::xs=>by simp [g9 (xs:=xs)]
theorem dU (hd:d.low μ.length):qe μ (.ok d (μ++g))=.ok d μ:=by
 unfold qe
 dsimp only
 rw [LL]
 ·simp
 ·refine ⟨hd, by simp, fun i o hi h => .inl ?_⟩
  rw [MR hi] at h
  exact h
theorem aA (hd:d.low μ.length):qe μ (.ok d μ)=.ok d μ:=by
 have:=dU (μ:=μ) (g:=[]) hd
 simpa using this
theorem vY {i:Nat}{o:O} (hd:d.low μ.length) (ho:o.low μ.length):qe μ (.ok d (μ.set i o++g))=.ok d (μ.set i o):=by
 unfold qe
 dsimp only
 rw [LL]
 ·congr 1
  rw [PN (by simp)]
  exact Og (by simp)
 ·refine ⟨hd, by simp, fun j o' hj h => ?_⟩
  rw [MR (by simpa using hj)] at h
  by_cases hij:i=j
  ·subst hij
   rw [Ma hj] at h
   cases h
   exact .inr ho
  ·rw [Mb hij] at h
   exact .inl h
theorem xP {i:Nat}{o:O} (hd:d.low μ.length) (ho:o.low μ.length):qe μ (.ok d (μ.set i o))=.ok d (μ.set i o):=by
 have:=vY (μ:=μ) (g:=[]) (i:=i) hd ho
 simpa using this
theorem xk {μ':aw} (h:¬ d.low μ.length):qe μ (.ok d μ')=.ok d μ':=by
 unfold qe
 dsimp only
 rw [LM fun z=>h z.1]
theorem AU {μ':aw}:qe μ (.ok d μ')=.ok d μ'\/(qe μ (.ok d μ')=.ok d (μ'.take μ.length)/\d.low μ.length):=by
 unfold qe
 dsimp only
 by_cases h:FM μ μ' d
 ·rw [LL h];exact .inr ⟨rfl,h.1⟩
 ·rw [LM h];exact .inl rfl
end
theorem jK {μ1 g:aw}{a b:O}:(μ1++a::g).set μ1.length b=μ1++b::g:=by
 rw [List.set_append_right _ _ (Mt _),OA];rfl
theorem ay {μ1 g:aw}{a:O}:(μ1++a::g)[μ1.length]?=some a:=by
 rw [MP (Mt _),OA];rfl
theorem kl {μ1 g:aw}{ys:List D}{y:D} (h:ys.length<sizeLine):qG μ1.length y (μ1++.lst ys::g)=.ok () (μ1++.lst (ys++[y])::g):=by
 unfold qG
 rw [ay]
 dsimp only
 rw [LL h,jK]
theorem de {src:nZ}{g:MG}{t:MT}{e:ME}{μ1:aw}{q:D->Bool}{h:D->D} (R:Ro->Prop) (ho:∀ a,cG src (μ1++[.lst a])) :
  ∀ {xs acc:List D}{ρ:Ro},R ρ->acc.length+xs.length<=sizeLine->(∀ x∈xs,∀ a ρ,R ρ->∃ ρ1,R ρ1/\g x ρ (μ1++[.lst a])=.ok ρ1 (μ1++[.lst a])/\t ρ1 (μ1++[.lst a])=.ok (q x) (μ1++[.lst a])/\(q x=true->e ρ1 (μ1++[.lst a])=.ok (h x) (μ1++[.lst a]))) ->
   compLoop src μ1.length g t e xs ρ (μ1++[.lst acc])=.ok (.obj μ1.length) (μ1++[.lst (acc++(xs.filter q).map h)])
 | [],acc,ρ,hr,hl,he=>by
  unfold compLoop
  rw [LL (ho acc)]
  simp
 | x::xs,acc,ρ,hr,hl,he=>by
  obtain ⟨ρ1,r1,e1,e2,e3⟩:=he x LY acc ρ hr
  unfold compLoop
  rw [LL (ho acc),e1]
  simp only [af,aa]
  rw [e2]
  simp only [af,aa]
  have he':=fun y hy=>he y (LZ _ hy)
  simp only [NU] at hl
  cases hq:q x with
  | false=>
   rw [LM Mm,de R ho r1 (by omega) he',PQ,hq]
   rfl
  | true=>
   rw [LL rfl,e3 hq]
   simp only [af,aa]
   rw [kl (by omega)]
   simp only [aa]
   rw [de R ho r1 (by simp;omega) he',PQ,hq]
   simp
theorem jR {src:nZ}{g:MG}{t:MT}{e:ME}{n:Nat} (J:List D->List D->Ro->aw->aw->Prop)
  (fin:∀ ys ρ μ1 s,J [] ys ρ μ1 s->μ1.length=n/\cG src (μ1++.lst ys::s))
  (step : ∀ x r ys ρ μ1 s, J (x :: r) ys ρ μ1 s -> μ1.length = n /\ cG src (μ1 ++ .lst ys :: s) /\ ∃ ρ1 μa sa b μb sb, g x ρ (μ1 ++ .lst ys :: s) = .ok ρ1 (μa ++ .lst ys :: sa) /\ t ρ1 (μa ++ .lst ys :: sa) = .ok b (μb ++ .lst ys :: sb) /\
   (b=true->∃ y μc sc,e ρ1 (μb++.lst ys::sb)=.ok y (μc++.lst ys::sc)/\ys.length<sizeLine/\μc.length=n/\J r (ys++[y]) ρ1 μc sc)/\(b=false->J r ys ρ1 μb sb)) :
  ∀ {xs ys:List D}{ρ:Ro}{μ1 s:aw},J xs ys ρ μ1 s->∃ ys' ρ' μ1' s',J [] ys' ρ' μ1' s'/\compLoop src n g t e xs ρ (μ1++.lst ys::s)=.ok (.obj n) (μ1'++.lst ys'::s')
 | [],ys,ρ,μ1,s,hJ=>by
  refine ⟨ys,ρ,μ1,s,hJ,?_⟩
  unfold compLoop
  rw [LL (fin ys ρ μ1 s hJ).2]
 | x::xs,ys,ρ,μ1,s,hJ=>by
  obtain ⟨hn,ho,ρ1,μa,sa,b,μb,sb,e1,e2,e3,e4⟩:=step x xs ys ρ μ1 s hJ
  unfold compLoop
  rw [LL ho,e1]
  simp only [af,aa]
  rw [e2]
  simp only [af,aa]
  cases b with
  | false=>
   rw [LM Mm]
   exact jR J fin step (e4 rfl)
  | true=>
   obtain ⟨y,μc,sc,f1,f2,f3,f4⟩:=e3 rfl
   rw [LL rfl,f1]
   simp only [af,aa]
   subst f3
   rw [kl f2]
   simp only [aa]
   exact jR J fin step f4
theorem fR {src:nZ}{g:MG}{fb:MS} (J:List D->Ro->aw->Prop) (fin:∀ ρ μ,J [] ρ μ->cG src μ)
  (step:∀ x r ρ μ,J (x::r) ρ μ->cG src μ/\∃ ρ1 μ1 ρ2 μ2,g x ρ μ=.ok ρ1 μ1/\fb ρ1 μ1=.next ρ2 μ2/\J r ρ2 μ2) :
  ∀ {xs:List D}{ρ:Ro}{μ:aw},J xs ρ μ->∃ ρ' μ',J [] ρ' μ'/\ic src g fb xs ρ μ=.next ρ' μ'
 | [],ρ,μ,h=>⟨ρ,μ,h,by unfold ic;rw [LL (fin ρ μ h)]⟩
 | x::xs,ρ,μ,h=>by
  obtain ⟨ho,ρ1,μ1,ρ2,μ2,e1,e2,h2⟩:=step x xs ρ μ h
  obtain ⟨ρ',μ',h3,e3⟩:=fR J fin step h2
  refine ⟨ρ',μ',h3,?_⟩
  unfold ic
  rw [LL ho,e1]
  simp only [ae]
  rw [e2]
  exact e3
end L2
namespace L2
open PySem PySem.Spec PyProof.Rows RS
theorem J2 {P:Program}{w:World}{K:W.Frag}{mg:Str->Option Value}{base:Heap}{p:Pa}{k n:Nat}{x qual:Str}{st:Stmt}{f:Addr}{fd:FuncData}{N ps:List Str}{fb:MS}
  (F:gk K x qual st f fd) (S:aR N ps (av st)) (hn:ps.length=n)
  (body : ∀ (cdv : Value) (A : Around) (outer : List Env) (s : Shared) (H : Hp) (E : XK), fD k (A.deeper (envOfC qual (av st) s.heap.objs.size f cdv)) ->
   Bx (iA (oB vG P w K mg base N qual (av st) f cdv A outer s H E).nox (bQ st) (fX p fb))):oD P w K mg base vG (k+1) f fd ps (Cv p n (gT n N.length fb)):=by
 refine F.ok S (fun vs H Q E h=>h.1.trans hn.symm) fun cdv A outer s H vs Q E hr h=>?_
 refine ⟨_,(body cdv A outer s H E hr).h,?_⟩
 obtain ⟨hl,α,ds,μ,S1,R1,P1⟩:=h
 unfold gT at P1
 have hd:ds.length=n:=by rw [<- R1.length];exact hl
 rw [LL hd] at P1
 have P2:=oi S1 P1
 unfold start
 rw [hl]
 refine ⟨α,_,μ,S1,i9 R1 _,?_⟩
 cases e:fb (ds.map some++List.replicate (N.length - n) none) μ with
 | ret d μ'=>rw [e] at P2;exact fun H' α' v x s r=>P2 H' α' x s v r
 | next ρ μ'=>rw [e] at P2;exact fun H' α' σ' x s r=>P2 H' α' x s .non (bA.mpr rfl)
 | exc x μ'=>rw [e] at P2;exact P2
 | brk ρ μ'=>rw [e] at P2;exact P2.elim
 | cnt ρ μ'=>rw [e] at P2;exact P2.elim
 | bad=>rw [e] at P2;exact P2.elim
theorem qV {K:W.Frag}{H:Hp}{α:List Addr}:∀ ns:List Int,Reps K H α (ns.map D.int) (ns.map V.int)
 | []=>by simp only [Nx,Reps]
 | n::ns=>by
  simp only [Ny,Reps]
  exact ⟨_,_,rfl,aq.mpr rfl,qV ns⟩
theorem B0 {K:W.Frag}{w:World}{F:List D->aw->aj D}{H:Hp}{a:Addr}{ns:List Int}{E:XK} (hF:∃ μ',F [.frz (ns.map D.int)] []=.ok (.bl true) μ') (hO:CT H) (hS:fw K H a (ns.map V.int)) :
  Cv (dH K w) 1 F [.ref a] H (fun v _=>v=.bl true) E:=by
 obtain ⟨μ',e⟩:=hF
 have fz:E2 K H a (ns.map V.int):=by
  rcases hS with (h | h) | h
  ·rcases hO a with z | ⟨o, xs, z⟩
   ·rw [h] at z;cases z
   ·rw [h] at z;cases z
  ·exact .inl h
  ·exact .inr h
 refine ⟨rfl,[],[.frz (ns.map D.int)],[],⟨rfl,Oz,fun n o a h=>by simp at h⟩,?_,?_⟩
 ·simp only [Reps]
  exact ⟨_,_,rfl,bj.mpr ⟨a,_,rfl,fz,qV ns⟩,rfl⟩
 ·rw [e]
  exact fun H' α' x s v r=>aT.mp r
end L2
namespace L2
open PySem PySem.Spec PyProof.Rows RS
section
variable {X:Cx}{p:Pa}
def vT (K:W.Frag):List V->Hp->VK->Prop:=fun xs H Q=>∃ a d,xs=[.ref a]/\lh K H d (.ref a)/\d.showable=true/\d.hasDict=false/\d.depth<=60/\d.shown.length<=sizeLine/\Q (.str d.shown) H
theorem w4 (hu:X.A.units+64<cLine) (hg:X.A.guards=some []):cj X (.builtin "repr") (vT X.K):=by
 intro pins s σ H xs us Q I r h
 obtain ⟨a,d,rfl,h1,hs,hd,hdp,hz,q⟩:=h
 obtain ⟨u,rfl,ru⟩:=eQ r
 cases ru
 obtain ⟨as,r1⟩:=cz I d (.ref a) (.ref a) h1 rfl
 exact PySem.repr_of_reads' (h₀:=s.heap) r1 hs (by rw [hd];nofun) hg (by omega) (fun _ _ e=>e) (fun h' u tk hk=>⟨.str _,H,I.kept hk,⟨u,rfl⟩,q⟩) hz
def AR:D->Bool
 | .tup _=>true
 | .frz _=>true
 | .obj _=>true
 | _=>false
def sd (q:PyData):Bool:=q.showable && !q.hasDict && decide (q.depth<=60) && decide (q.shown.length<=sizeLine)
def t8 (ds:List D) (μ:aw):aj D:=match ds with
 | [d]=>match ju μ d with
  | some q=>if AR d=true/\sd q=true then .ok (.str q.shown) μ else .bad
  | none=>.bad
 | _=>.bad
theorem wJ {K:W.Frag}{H:Hp}{α:List Addr}{d:D}{v:V} (h:AR d=true) (r:aN K H α d v):∃ a,v=.ref a:=by
 cases d with
 | tup xs=>obtain ⟨a,us,rfl,_⟩:=aF.mp r;exact ⟨a,rfl⟩
 | frz xs=>obtain ⟨a,us,rfl,_⟩:=bj.mp r;exact ⟨a,rfl⟩
 | obj n=>obtain ⟨a,rfl,_⟩:=aP.mp r;exact ⟨a,rfl⟩
 | _=>cases h
theorem D9:tH p t8 (vT p.K):=by
 intro ds vs H α μ Q S r P
 unfold t8 at P
 split at P
 ·rename_i d
  split at P
  ·rename_i q hq
   split at P
   ·rename_i hf
    obtain ⟨v,rfl,r1⟩:=r.one
    obtain ⟨a,rfl⟩:=wJ hf.1 r1
    have h2:=hf.2
    unfold sd at h2
    simp only [Nv,Bool.not_eq_true',PF] at h2
    exact ⟨a,q,rfl,iV S hq r1,h2.1.1.1,h2.1.1.2,h2.1.2,h2.2,P.now S _ (bu.mpr rfl)⟩
   ·exact P.elim
  ·exact P.elim
 ·exact P.elim
theorem qm:seqSlot? (.type "list") (dunderI "add")=pure (some (.builtin "list.__iadd__")):=PySem.seqSlot_of PR.lookup (by decide +kernel)
theorem la {M:Model}{A:Around}{E:Value->Shared->Prop}{s:Shared}{a b:Value}{Q:Value->Shared->Prop} (ha:s.TypeIs a "list") (hb:s.TypeIs b "list")
  (hc:wpAny M A (call (.builtin "list.__iadd__") [a,b]) Q E s):wpAny M A (inplaceOp .Add a b) Q E s:=by
 unfold inplaceOp
 refine Mi ?_
 have hfi:fillsInplaceSlot (.type "list") "add" (Operator.Add == .Add)=pure false:=by
  unfold fillsInplaceSlot
  show (typeLookup (.type "list") (dunderI "add") >>= fun fi=>pure (fi.isSome && !isSeqSlot fi))=pure false
  rw [PR.lookup]
  rfl
 refine Mh (Nu ha (Mh (N4 hfi ?_)))
 show wpAny M A (if false=true then _ else _) Q E s
 rw [LM Mm]
 refine Mh (wpAny_binaryOp1_none (nm:="add") ha hb noFill_list_add ?_)
 refine Mh (N4 qm ?_)
 exact Mh (N3 hc)
def Ff:IG:=fun x y H Q=>(∃ i j,x=.int i/\y=.int j/\Q (.int (i+j)) H) \/
 ∃ l b xs zs,x=.ref l/\y=.ref b/\H l=some (.lst xs)/\H b=some (.lst zs)/\xs.length+zs.length<=sizeLine/\Q (.ref l) (cn H l (.lst (xs++zs)))
theorem ED:Kj X .Add Ff:=by
 intro pins s σ H x y v u Q I r1 r2 h
 rcases h with h | h
 ·exact HX pins s σ H x y v u Q I r1 r2 h
 ·obtain ⟨l, b, xs, zs, rfl, rfl, hH, hB, hz, q⟩ := h
  cases r1
  cases r2
  obtain ⟨z,its,n,r,hl,e⟩:=I.lstM hH
  obtain ⟨z2,its2,n2,r2,hl2,e2⟩:=I.lstM hB
  have hsz:its.toArray.size+its2.toArray.size<=sizeLine:=by rw [Mz,Mz];omega
  have hlong:¬ (!its.toArray.isEmpty && Builtin.List.listTooLong (its.toArray.size+its2.toArray.size))=true:=by
   rw [uG hsz,OR]
   exact Mm
  refine la ⟨_,e,rfl⟩ ⟨_,e2,rfl⟩ ?_
  refine NM PR ⟨_,e,rfl⟩ F.entry_list_iadd (F.args_list_iadd_2 _ _)
   (AutoSeq1.list___iadd___list_list_0 l its.toArray n b its2.toArray n2 hlong (by rw [Mz];omega) (by omega)) ⟨e,e2,?_⟩
  refine ⟨.ref l,_,I.lset (its':=its++its2) hH e (by simp) (r.append r2) ?_,rfl,q⟩
  rw [MX]
  omega
def ub (a b:D) (μ:aw):aj D:=match a,b with
 | .int i,.int j=>.ok (.int (i+j)) μ
 | .obj m,.obj n=>match μ[m]?,μ[n]? with
  | some (.lst xs),some (.lst ys)=>if xs.length+ys.length<=sizeLine then .ok (.obj m) (μ.set m (.lst (xs++ys))) else .bad
  | _,_=>.bad
 | _,_=>.bad
theorem Eh:nK p ub Ff:=by
 intro a b v y H α μ Q S ra rb P
 unfold ub at P
 split at P
 ·rename_i i j
  obtain rfl:=aq.mp ra
  obtain rfl:=aq.mp rb
  exact .inl ⟨i,j,rfl,rfl,P.now S _ (aq.mpr rfl)⟩
 ·rename_i m n
  split at P
  ·rename_i xs ys hx hy
   split at P
   ·rename_i hb
    obtain ⟨a,us,rfl,a1,h1,rr⟩:=b8 S ra hx
    obtain ⟨a',us',rfl,a1',h1',rr'⟩:=b8 S rb hy
    have q:=rr.append rr'
    exact .inr ⟨a,a',us,us',rfl,rfl,h1,h1',by rw [rr.length,rr'.length];exact hb,P _ _ (gD h1) (S.put hx a1 h1 q) _ (aP.mpr ⟨a,rfl,a1⟩)⟩
   ·exact P.elim
  ·exact P.elim
 ·exact P.elim
theorem JF {e:Expr}{f:ME}{pos pos':Pos} (i:Nat) {x:Str} (hN:X.N.Nodup) (he:Bx (PE X e (tD p f))) (hi:X.N[i]?=some x:=by rfl) (hx:ya X.env.scope x:=by first | exact Or.inl rfl | exact Or.inr rfl) (hf:X.fn x=true\/X.env.scope.names.lookup x=some .local:=by first | exact .inl rfl | exact .inr rfl) :
  Bx (PS X (.AugAssign (.Name x pos') .Add e pos) (fX p (zS i ub f))):=⟨Gk hN hi hx he.h ED Eh hf⟩
def yf (neg:Bool) (a b:D) (μ:aw):aj D:=match a,b with
 | .str x,.str y=>.ok (.bl (if neg then !decide (x=y) else decide (x=y))) μ
 | _,_=>.bad
theorem Dd {x y:Str}:decide (V.str x=V.str y)=decide (x=y):=by
 by_cases e:x=y
 ·subst e;simp
 ·rw [LI e, LI]
  intro z;cases z;exact e rfl
theorem Hr:nK p (yf true) Kw:=by
 intro a b v y H α μ Q S ra rb P
 unfold yf at P
 split at P
 ·rename_i x z
  obtain rfl:=bu.mp ra
  obtain rfl:=bu.mp rb
  exact ⟨rfl,by rw [Dd];exact P.now S _ (aT.mpr rfl)⟩
 ·exact P.elim
theorem JW:ku X p .NotEq (yf true):=⟨Kw,JT,Hr⟩
end
end L2
namespace L2
open PySem PySem.W PyProof.Rows RS
section
variable {prog:Program}{w:World}{A:Around}{E:Value->Shared->Prop}
theorem Ic {id:String}{b:Builtin}{us:List Value}{kw:List (Str × Value)}{Q:Value->Shared->Prop}{s:Shared} (h1:builtinKind id=none) (h2:plainId id=true) (h3:entryFor table id=some b) (h4:argsOk id ⟨us,kw⟩)
  (go : wpAny (model prog w) A.in1 (b ⟨us, kw⟩) (fun fin s' => match fin with
   | .done f=>(match (Except.ok f:Result) with | .ok (.ret v)=>Q v s' | .ok _=>False | .error e=>E e s')
   | .again c=>c.quiet=true/\codeAny (model prog w) A c (fun r s'=>match r with | .ok (.ret v)=>Q v s' | .ok _=>False | .error e=>E e s') s') E s):wpAny (model prog w) A (call (.builtin id) us kw) Q E s:=by
 refine MD (O0 h2 h3 ?_)
 simp only [checkBuiltinCall,h1]
 cases z:Manifest.signature? id with
 | none=>exact Mo go
 | some sg=>
  have z2:Bind.checkArgs id sg ⟨us,kw⟩=pure ():=by simpa only [argsOk,z] using h4
  simp only [z2]
  exact Mo go
def Jc (vs:Array Value) (c:Nat):Obj:={ cls:=.type "list",dict:=none,data:=.seq vs c,slots:=#[] }
abbrev Kp (s0:Shared) (h:Heap):Prop:=∀ b ob,s0.heap.get? b=some ob->h.get? b=some ob
theorem stay {s0:Shared} (hA:A.in1.handled=none) {its:List Value}{J S l:Addr} (n1:J≠S) (n2:l≠S) (n3:l≠J) (n4:s0.heap.get? J=none) (n5:s0.heap.get? S=none) {v0:Value}{kw:List (Str × Value)}{R:Result->Shared->Prop}
  (hc:∀ (i:Nat) v,1<=i->its[i]?=some v->∀ h tk,Kp s0 h->yg .Lt A.in1 { s0 with heap:=h,toks:=tk } v v0 false)
  (hR:∀ h tk,Kp s0 h->R (.ok (.ret v0)) { s0 with heap:=h,toks:=tk }) :
  ∀ (k j:Nat) (h:Heap) (tk c:Nat),its.length - j=k->1<=j->j<=its.length->Kp s0 h->h.IsListIter J l j->h.IsList l its.toArray->h.get? S=some (Jc #[v0,v0] c) ->
   codeAny (model prog w) A (.builtin "min.loop" ⟨[.ref J,.none,.ref S],kw⟩) R { s0 with heap:=h,toks:=tk }:=by
 have nm:(toString "min" ++ toString ".loop" : String) = "min.loop" := by decide
 have Wk:=O5 (prog:=prog) (w:=w) (A:=A.in1) hA J l n3 its.toArray
 have kJ:∀ {h h':Heap},Kp s0 h->(∀ b o,b ∉ [J]->h.get? b=some o->h'.get? b=some o)->Kp s0 h':=fun k1 k2 b ob e=>k2 b ob (fun z=>by
  simp only [L4,O3,O4] at z
  subst z;rw [n4] at e;cases e) (k1 b ob e)
 have kS:∀ {h:Heap}{o:Obj->Obj},Kp s0 h->Kp s0 (h.update S o):=fun k1 b ob e=>by
  have:S≠b:=fun z=>by subst z;rw [n5] at e;cases e
  exact (NC _ _ this).trans (k1 b ob e)
 intro k
 induction k with
 | zero=>
  intro j h tk c hk h1 hj kp hi hl hS
  have je:j=its.length:=by omega
  subst je
  refine OT PU ?_
  rw [OU PV _]
  refine Mh (OH (a:=S) hS rfl ?_)
  refine Mh (PX (Wk.done _ _ _ (by simpa using (⟨hi,hl⟩:h.IsListIter J l its.length/\_)) fun h' tk' hm=>?_))
  have hS':=hm S _ (by simpa using n1.symm) hS
  refine Mh (m:=updateSeq S fun _=>#[]) ?_
  exact wpAny_updateSeq hS' rfl (Mh (wpAny_letGo (Mo (hR _ _ (kS (kJ kp hm))))))
 | succ k ih=>
  intro j h tk c hk h1 hj kp hi hl hS
  have jl:j<its.length:=by omega
  refine OT PU ?_
  rw [OU PV _]
  refine Mh (OH (a:=S) hS rfl ?_)
  refine Mh (PX (Wk.item j _ _ _ (by simpa using jl) ⟨hi,hl⟩ fun v h' tk' hP hst hm=>?_))
  have hS':=hm S _ (by simpa using n1.symm) hS
  have kp':=kJ kp hm
  refine Mh (m:=tryCatch (holding [v,v] (richCompare .Lt v v0 >>= _)) _) (PX (Mi (Mh (hc j v h1 (by simpa using hP) h' tk' kp' prog w _ _ ?_))))
  refine Mh (Mi (Md (Mh (wpAny_letGo (Mo ?_)))))
  simp only [NT,Nd]
  refine Mh (wpAny_letGo ?_)
  rw [nm]
  exact Mo ⟨OW PV _,ih (j+1) h' tk' c (by omega) (by omega) jl kp' hst.1 hst.2 hS'⟩
theorem Iw {s0:Shared} (hA:A.in1.handled=none) {its:List Value}{J S l:Addr} (n1:J≠S) (n2:l≠S) (n3:l≠J) (n4:s0.heap.get? J=none) (n5:s0.heap.get? S=none) {d:Value}{R:Result->Shared->Prop}
  (hc:∀ v0,its[0]?=some v0->∀ (i:Nat) v,1<=i->its[i]?=some v->∀ h tk,Kp s0 h->yg .Lt A.in1 { s0 with heap:=h,toks:=tk } v v0 false)
  (hR:∀ h tk,Kp s0 h->R (.ok (.ret (its.head?.getD d))) { s0 with heap:=h,toks:=tk }) {h:Heap}{tk c:Nat} (kp:Kp s0 h) (hi:h.IsListIter J l 0) (hl:h.IsList l its.toArray) (hS:h.get? S=some (Jc #[] c)) :
  codeAny (model prog w) A (.builtin "min.loop" ⟨[.ref J,.none,.ref S],[(Str.ofString "default",d)]⟩) R { s0 with heap:=h,toks:=tk }:=by
 have nm:(toString "min" ++ toString ".loop" : String) = "min.loop" := by decide
 have Wk:=O5 (prog:=prog) (w:=w) (A:=A.in1) hA J l n3 its.toArray
 have kJ:∀ {h h':Heap},Kp s0 h->(∀ b o,b ∉ [J]->h.get? b=some o->h'.get? b=some o)->Kp s0 h':=fun k1 k2 b ob e=>k2 b ob (fun z=>by
  simp only [L4,O3,O4] at z
  subst z;rw [n4] at e;cases e) (k1 b ob e)
 have kS:∀ {h:Heap}{o:Obj->Obj},Kp s0 h->Kp s0 (h.update S o):=fun k1 b ob e=>by
  have:S≠b:=fun z=>by subst z;rw [n5] at e;cases e
  exact (NC _ _ this).trans (k1 b ob e)
 refine OT PU ?_
 rw [OU PV _]
 refine Mh (OH (a:=S) hS rfl ?_)
 cases its with
 | nil=>
  refine Mh (PX (Wk.done _ _ _ (by simpa using (⟨hi,hl⟩:h.IsListIter J l 0/\_)) fun h' tk' hm=>?_))
  exact Mh (N3 (Mo (hR _ _ (kJ kp hm))))
 | cons v0 r=>
  refine Mh (PX (Wk.item 0 _ _ _ (by simp) ⟨hi,hl⟩ fun v h' tk' hP hst hm=>?_))
  have hv:v=v0:=by simpa using hP.symm
  subst hv
  have hS':=hm S _ (by simpa using n1.symm) hS
  refine Mh (m:=updateSeq S fun _=>#[v,v]) ?_
  refine wpAny_updateSeq hS' rfl ?_
  rw [nm]
  refine Mo ⟨OW PV _,stay hA (its:=v::r) n1 n2 n3 n4 n5 (hc v rfl) hR (r.length) 1 _ tk' _ (by simp) (Mt _) (by simp) (kS (kJ kp hm)) ?_ ?_ (NB _ hS' rfl)⟩
  ·exact hst.1.at fun o e=>(NC _ _ n1.symm).trans e
  ·exact hst.2.at fun o e=>(NC _ _ n2.symm).trans e
end
section
variable {X:Cx}
theorem xJ {h:Heap}{a:Addr} (k:h.objs.size<=a):h.get? a=none:=by
 cases e:h.get? a with
 | none=>rfl
 | some o=>exact absurd (LO e) (Nat.not_lt.mpr k)
def Ag (K:W.Frag):List V->Hp->VK->Prop:=fun xs H Q=>∃ (a:Addr) (vs:List V),xs=[.ref a]/\fw K H a vs/\(∀ v0,vs[0]?=some v0->∀ v∈vs,∃ p q,lh K H p v/\lh K H q v0/\cT p=true/\cT q=true/\fA .Lt p q=some false)/\Q (vs.head?.getD .non) H
theorem zI (x d:Value):argsOk "min" ⟨[x],[(Str.ofString "default",d)]⟩:=by unfold argsOk;kernel_rfl
theorem zw (hc:X.calm=true) (hu:X.A.units+64<cLine) {pins:List (Addr × Obj)}{s:Shared}{σ:St}{H:Hp}{xs:List V}{us:List Value}{Q:VK} (I:aS X pins σ H s) (r:aY xs us) (h:Ag X.K xs H Q) :
  wpAny (model X.prog X.w) X.A (call (.builtin "min") us [(Str.ofString "default",Value.none)]) (EP X pins σ Q) X.xe s:=by
 obtain ⟨a,vs,rfl,ha,hcm,q⟩:=h
 obtain ⟨u,rfl,ru⟩:=eQ r
 cases ru
 obtain ⟨its,rv,pl,hz⟩:=I.list ha
 have alt:a<s.heap.objs.size:=by obtain ⟨o,n,e,_⟩:=pl;exact LO e
 have nm:(toString "min" ++ toString ".loop" : String) = "min.loop" := by decide
 refine Ic F.kind_min F.plain_min F.entry_min (zI _ _) ?_
 refine Mh (m:=Builtin.Builtins.bindParams "min" ["key", "default"] 0 ⟨[],[(Str.ofString "default",Value.none)]⟩) (N4 (a:=[none,some Value.none]) rfl ?_)
 refine Mh (Mo ?_)
 refine Mh (O1 pl.isList ?_)
 refine Mh (Nw ?_)
 rw [nm]
 refine Mo ⟨OW PV _,Iw (s0:=s) (A:=X.A) (show X.A.in1.handled=none from I.ok.hd hc) (its:=its) (J:=s.heap.objs.size) (l:=a) ?_ ?_ (LR alt) ?_ ?_ ?_ ?_ ?_ ?_ ?_ (Ms _ rfl)⟩
 ·rw [Pk];exact LR (NV _)
 ·rw [Pk];exact LR (NW alt)
 ·exact xJ (Mt _)
 ·rw [Pk];exact xJ (NJ _)
 ·intro v0 e0 i v hi ev h tk kp pr wo E' Q' hQ
  have i0:(0:Nat)<vs.length:=by
   have:=(L8.mp e0).1
   rw [rv.length];exact this
  have i1:i<vs.length:=by
   have:=(L8.mp ev).1
   rw [rv.length];exact this
  obtain ⟨u0,e0',r0⟩:=rv.get (Pq i0)
  obtain ⟨u1,e1',r1⟩:=rv.get (Pq i1)
  rw [e0] at e0';cases e0'
  rw [ev] at e1';cases e1'
  obtain ⟨p,q,h1,h2,h3,h4,h5⟩:=hcm _ (Pq i0) _ (Pp i1)
  have I':aS X pins σ H { s with heap:=h,toks:=tk }:=I.kept kp
  obtain ⟨as,k1⟩:=cz I' p _ _ h1 r1
  obtain ⟨bs,k2⟩:=cz I' q _ _ h2 r0
  refine pd rfl p q X.A.in1 _ _ _ as bs false k1 k2 (bH h3) (bH h4) ?_ h5 pr wo E' Q' hQ
  unfold cT at h3
  simp only [Nv,PF] at h3
  have:=Nat.min_le_left p.depth q.depth
  show X.A.units+1+_<_
  omega
 ·intro h tk kp
  refine ⟨_,H,I.kept kp,?_,q⟩
  cases rv with
  | nil=>rfl
  | cons r rr=>exact r
 ·exact fun b ob e=>Mr _ (Mr _ e)
 ·exact ⟨_,Mr _ (Ms _ rfl),rfl,rfl⟩
 ·exact pl.isList.at fun o e=>Mr _ (Mr _ e)
def CO (μ:aw) (y x:D):Bool:=match ju μ y,ju μ x with
 | some p,some q=>cT p && cT q && decide (fA .Lt p q=some false)
 | _,_=>false
def qJ (ds:List D) (μ:aw):aj D:=match ds with
 | [.obj n]=>match μ[n]? with
  | some (.lst [])=>.ok .non μ
  | some (.lst (x::r))=>if (x::r).all (fun y=>CO μ y x)=true then .ok x μ else .bad
  | _=>.bad
 | _=>.bad
theorem Ea {p:Pa}:tH p qJ (Ag p.K):=by
 intro ds vs H α μ Q S r P
 unfold qJ at P
 split at P
 ·rename_i n
  split at P
  ·rename_i hx
   obtain ⟨v,rfl,r1⟩:=r.one
   obtain ⟨a,us,rfl,a1,h1,rr⟩:=b8 S r1 hx
   simp only [Reps] at rr
   subst rr
   exact ⟨a,[],rfl,fw.of h1,fun v0 e=>by simp at e,P.now S _ (bA.mpr rfl)⟩
  ·rename_i x xs hx
   split at P
   ·rename_i hall
    obtain ⟨v,rfl,r1⟩:=r.one
    obtain ⟨a,us,rfl,a1,h1,rr⟩:=b8 S r1 hx
    have rr':=rr
    simp only [Reps] at rr'
    obtain ⟨u0,us',rfl,q0,qr⟩:=rr'
    refine ⟨a,u0::us',rfl,fw.of h1,fun v0 e v hv=>?_,P.now S _ q0⟩
    cases e
    obtain ⟨i,hi,rfl⟩:=Px hv
    obtain ⟨y,hy,ry⟩:=rr.getV (Pq hi)
    have hl:=OE.mp hall y (MW hy)
    unfold CO at hl
    split at hl
    ·rename_i pp qq e1 e2
     simp only [Nv,PF] at hl
     exact ⟨pp,qq,iV S e1 ry,iV S e2 q0,hl.1.1,hl.1.2,hl.2⟩
    ·cases hl
   ·exact P.elim
  ·exact P.elim
 ·exact P.elim
theorem zF:bootBuiltins "min" = some (.builtin "min"):=by decide +kernel
theorem DW {a:Expr}{t:TA}{p pk pos:Pos}{kp:Pos}{j:Nat} (hc:X.calm=true) (hu:X.A.units+64<cLine) (hg:Gl X "min") (hm:X.mg "min" = none) (ha:PA X [a] t)
  (he:backTo pos (starEach [a] X.env)=(false,eval a X.env)::backTo pos (starEach [] X.env)) (hp:(backTo pos (starEach [a] X.env)).any (·.1)=false):PE X (.Call (.Name "min" p) [a] [⟨some "default",.Constant .none j pk,kp⟩] pos) (Kv (Ag X.K) t):=by
 intro pins s σ H Q I h
 refine MH (kO I hg hm zF ?_ (by decide) (by decide))
 refine callWith_kw (cI (ha pos pins s σ H _ I h) fun us s1 ⟨vs,H1,I1,r1,q1⟩=>?_) he hp
 refine kws_cons (cI (AJ pins s1 σ H1 (fun v H'=>v=.non/\H'=H1) I1 ⟨rfl,rfl⟩) fun u s2 ⟨v,H2,I2,rv,hv,hH⟩=>kws_nil ?_)
 subst hv hH
 cases rv
 exact zw hc hu I2 r1 q1
theorem F2 {a:Expr}{fa:ME}{pa:Pa}{p pk pos:Pos}{kp:Pos}{j:Nat} (hu:X.A.units+64<cLine) (hm:X.mg "min" = none) (ha:Bx (PE X a (tD pa fa))) (hc:X.calm=true:=by rfl) (hg:Gl X "min" := by rfl) (hs:vU a=true:=by rfl) (hK:X.K=pa.K:=by rfl):Bx (PE X (.Call (.Name "min" p) [a] [⟨some "default",.Constant .none j pk,kp⟩] pos) (tD pa (aE qJ (ag fa aB)))):=Bx.mk (by
 refine (DW (t:=lg pa (ag fa aB)) hc hu hg hm (aL ha bp hs).h ?_ ?_).weak fun σ H Q ⟨α,ρ,μ,S,R,P⟩=>⟨α,ρ,μ,S,R,P.bind.imp fun ds μ1 H1 α1 X1 S1 P1 vs rv=>by rw [hK];exact Ea ds vs H1 α1 μ1 Q S1 rv P1⟩
 ·rw [mI hs];rfl
 ·rw [mI hs];rfl)
def AF (K:W.Frag):List V->Hp->VK->Prop:=fun xs H Q=>vT K xs H Q\/(xs=[.non]/\Q (.str "None") H)\/∃ a:Int,xs=[.int a]/\a.natAbs.log2<1920/\Q (.str (toString a)) H
theorem w6 (hu:X.A.units+64<cLine) (hg:X.A.guards=some []):cj X (.builtin "repr") (AF X.K):=by
 intro pins s σ H xs us Q I r h
 rcases h with h | ⟨rfl,q⟩ | ⟨a,rfl,ha,q⟩
 ·exact w4 hu hg pins s σ H xs us Q I r h
 ·obtain ⟨u, rfl, ru⟩ := eQ r
  cases ru
  exact PySem.P.repr_of_none ⟨.str _,H,I.kept (fun _ _ e=>e),⟨_,rfl⟩,q⟩
 ·obtain ⟨u, rfl, t, rfl⟩ := eQ r
  exact PySem.P.repr_of_int ha ⟨.str _,H,I.kept (fun _ _ e=>e),⟨_,rfl⟩,q⟩
def kQ (ds:List D) (μ:aw):aj D:=match ds with
 | [.non]=>.ok (.str "None") μ
 | [.int a]=>if a.natAbs.log2<1920 then .ok (.str (toString a)) μ else .bad
 | ds=>t8 ds μ
theorem BR {p:Pa}:tH p kQ (AF p.K):=by
 intro ds vs H α μ Q S r P
 unfold kQ at P
 split at P
 ·obtain ⟨v, rfl, r1⟩ := r.one
  rw [bA.mp r1]
  exact .inr (.inl ⟨rfl,P.now S _ (bu.mpr rfl)⟩)
 ·obtain ⟨v, rfl, r1⟩ := r.one
  rw [aq.mp r1]
  split at P
  ·rename_i ha
   exact .inr (.inr ⟨_,rfl,ha,P.now S _ (bu.mpr rfl)⟩)
  ·exact P.elim
 ·exact .inl (D9 _ vs H α μ Q S r P)
theorem xZ {p:Pa}{k:Nat} (hr:fD k X.A) (hK:X.K=p.K:=by rfl):oE X p "repr" kQ:=⟨_,_,.inl ⟨_,rfl⟩,by decide +kernel,w6 hr.units hr.gd,hK ▸ BR,by decide,by decide⟩
end
theorem Lo {α:Type}{P:List α->Prop} (h:∀ a,P [a]):∀ us:List α,us.length=1->P us
 | [a],_=>h a
theorem Ln {α:Type}{P:List α->Prop} (h:∀ a b,P [a,b]):∀ us:List α,us.length=2->P us
 | [a,b],_=>h a b
theorem Lm {α:Type}{P:List α->Prop} (h:∀ a b c,P [a,b,c]):∀ us:List α,us.length=3->P us
 | [a,b,c],_=>h a b c
theorem gk.b1 {K:W.Frag}{x qual:Str}{st:Stmt}{f:Addr}{fd:FuncData}{ps:List Str} (F:gk K x qual st f fd) (hl:ps.length=1) (h:∀ (kV doc pm:Value) (an:Option Addr) (cdv ct a:Value),bindArgs (W.fnOf x qual (dM st) (bQ st) (av st) .none kV doc pm an cdv ct) ⟨[a],[]⟩=pure (ps.zip [a])):f7 K fd ps []:=
 F.binds fun kV doc pm an cdv ct us e=>Lo (P:=fun us=>bindArgs (W.fnOf x qual (dM st) (bQ st) (av st) .none kV doc pm an cdv ct) ⟨us,[]⟩=pure (ps.zip us)) (fun a=>h kV doc pm an cdv ct a) us (e.trans hl)
theorem gk.b2 {K:W.Frag}{x qual:Str}{st:Stmt}{f:Addr}{fd:FuncData}{ps:List Str} (F:gk K x qual st f fd) (hl:ps.length=2) (h:∀ (kV doc pm:Value) (an:Option Addr) (cdv ct a b:Value),bindArgs (W.fnOf x qual (dM st) (bQ st) (av st) .none kV doc pm an cdv ct) ⟨[a,b],[]⟩=pure (ps.zip [a,b])):f7 K fd ps []:=
 F.binds fun kV doc pm an cdv ct us e=>Ln (P:=fun us=>bindArgs (W.fnOf x qual (dM st) (bQ st) (av st) .none kV doc pm an cdv ct) ⟨us,[]⟩=pure (ps.zip us)) (fun a b=>h kV doc pm an cdv ct a b) us (e.trans hl)
theorem gk.b3 {K:W.Frag}{x qual:Str}{st:Stmt}{f:Addr}{fd:FuncData}{ps:List Str} (F:gk K x qual st f fd) (hl:ps.length=3) (h:∀ (kV doc pm:Value) (an:Option Addr) (cdv ct a b c:Value),bindArgs (W.fnOf x qual (dM st) (bQ st) (av st) .none kV doc pm an cdv ct) ⟨[a,b,c],[]⟩=pure (ps.zip [a,b,c])):f7 K fd ps []:=
 F.binds fun kV doc pm an cdv ct us e=>Lm (P:=fun us=>bindArgs (W.fnOf x qual (dM st) (bQ st) (av st) .none kV doc pm an cdv ct) ⟨us,[]⟩=pure (ps.zip us)) (fun a b c=>h kV doc pm an cdv ct a b c) us (e.trans hl)
end L2
namespace L2
open PySem PySem.Spec PyProof.Rows RS
section
variable {X:Cx}{d:Nat}{acc:Addr}
variable {e:Expr}{cl0:Comprehension}{rest:List Comprehension}{scope:Scope}{Nc:List Str}{cap:List (Option Nat)}{wi:TI}{g:TG}{tt:TT}{tb:Addr->Cz}{elt:Expr}{pos:Pos}
end
section
variable {K:W.Frag}{w:World}{H:Hp}{α:List Addr}{μ:aw}
end
section
variable {p:Pa}
variable {X:Cx}{elt tg iter:Expr}{ifs:List Expr}{rest:List Comprehension}{scope:Scope}{Nc:List Str}{cap:List (Option Nat)}{fi:MI}{g:MG}{tt:MT}{te:ME}{mb:MB}{pos:Pos}{d:Nat}{acc:Addr}
end
theorem yM (its:List Value):slicePick its.toArray none none (some (-1))=its.reverse.toArray:=by
 unfold slicePick
 have hb:sliceBounds none none (some (-1)) its.toArray.size=((its.toArray.size:Int) - 1,-1,-1):=by
  simp [sliceBounds]
 rw [hb]
 dsimp only
 have hr:sliceRange ((its.toArray.size:Int) - 1) (-1) (-1)=(List.range its.toArray.size).map fun m:Nat=>(((its.toArray.size:Int) - 1)+(m:Int) * (-1)).toNat:=by
  unfold sliceRange
  have hc:(if (-1:Int) > 0 then if (its.toArray.size:Int) - 1 < -1 then (-1 - ((its.toArray.size:Int) - 1)+-1 - 1) / -1 else 0 else if (its.toArray.size:Int) - 1 > -1 then ((its.toArray.size:Int) - 1 - -1 - -1 - 1) / - -1 else 0)=(its.toArray.size:Int):=by
   rw [LM (by decide)]
   split
   ·rw [show - (-1:Int)=1 from rfl,Int.ediv_one];omega
   ·omega
  simp only [hc,Na]
  apply N9
  intro m _
  congr 1
  omega
 rw [hr,Ni]
 exact uC its.toArray
def Js (K:W.Frag) (te ts:TE):TE:=fun σ H Q=>te σ H fun x H1=>ts σ H1 fun y H2=>y=.int (-1)/\∃ a xs,x=.ref a /\
 ((fY K H2 a xs/\∀ p,H2 p=none->Q (.ref p) (cn H2 p (.tup xs.reverse)))\/(fw K H2 a xs/\∀ p,H2 p=none->Q (.ref p) (cn H2 p (.lst xs.reverse))))
theorem DV {X:Cx}{e st:Expr}{te ts:TE}{pos p2:Pos} (he:PE X e te) (hs:PE X st ts):PE X (.Subscript e (.Slice none none (some st) p2) pos) (Js X.K te ts):=by
 intro pins s σ H Q I h
 refine Subscript_ (cI (he pins s σ H _ I h) fun v s1 ⟨x,H1,I1,r1,q1⟩=>?_)
 refine wpAny_Slice ?_
 rw [evalPart_none]
 refine Mo (Mo ?_)
 rw [evalPart_some]
 refine cI (hs pins s1 σ H1 _ I1 q1) fun vs s3 ⟨y,H3,I3,r3,q3⟩=>?_
 obtain ⟨rfl,a,xs,rfl,hq⟩:=q3
 obtain ⟨tk,rfl⟩:=r3
 cases r1
 have I4:aS X pins σ H3 { s3 with heap:=s3.heap.push { cls:=.type "slice",data:=.fields #[.none,.none,.int (-1) tk] } }:=I3.kept (t':=s3.toks) fun b ob q=>Mr _ q
 show wpAny (model X.prog X.w) X.A (subscriptTail e (.Slice none none (some st) p2) (.ref a) (.ref s3.heap.objs.size)) (EP X pins σ Q) X.xe { s3 with heap:=s3.heap.push { cls:=.type "slice",data:=.fields #[.none,.none,.int (-1) tk] } }
 have hsl:=Nz s3.heap .none .none (.int (-1) tk)
 rcases hq with ⟨hx,q⟩ | ⟨hx,q⟩
 ·obtain ⟨its, r, ht, hz⟩ := I4.tuple hx
  refine tail_any (ops:=[.ref a,.ref s3.heap.objs.size]) ht.typeIs Np.lookup ?_ (by with_unfolding_all rfl)
  refine me ht (Nz ..) ?_ (by rw [Mz,<- r.length];exact hz)
  generalize { s3 with heap:=s3.heap.push { cls:=.type "slice",data:=.fields #[.none,.none,.int (-1) tk] } }=s5 at I4 ht
  refine ⟨.ref s5.heap.objs.size,_,I4.laid (t':=s5.toks) (o:=.tup xs.reverse) (fun b ob q=>Mr _ q) (Mt _) ?_,rfl,q _ (I4.hok.fresh (Mt _))⟩
  exact ⟨by rw [PY];exact hz,its.reverse,r.reverse,IsTup.new _ _⟩
 ·obtain ⟨its, r, ht, hz⟩ := I4.list hx
  refine tail_any (ops:=[.ref a,.ref s3.heap.objs.size]) ht.isList.typeIs NA.lookup ?_ (by with_unfolding_all rfl)
  refine wpAny_getItem_list_slice ht.isList (Nz ..) .none .none (.int (-1) tk) (by simp) ?_ (by rw [Mz,<- r.length];exact hz)
  rw [yM]
  generalize { s3 with heap:=s3.heap.push { cls:=.type "slice",data:=.fields #[.none,.none,.int (-1) tk] } }=s5 at I4 ht
  refine ⟨.ref s5.heap.objs.size,_,I4.laid (t':=s5.toks) (o:=.lst xs.reverse) (fun b ob q=>Mr _ q) (Mt _) ?_,rfl,q _ (I4.hok.fresh (Mt _))⟩
  exact ⟨by rw [PY];exact hz,its.reverse,0,r.reverse,Ms _ rfl⟩
def qI (a b:D) (μ:aw):aj D:=match a,b with
 | .tup xs,.int i=>if i=-1 then .ok (.tup xs.reverse) μ else .bad
 | .obj n,.int i=>match μ[n]? with
  | some (.lst xs)=>if i=-1 then .ok (.obj μ.length) (μ++[.lst xs.reverse]) else .bad
  | _=>.bad
 | _,_=>.bad
theorem F1 {p:Pa}{X:Cx}{e st:Expr}{fa fs:ME}{pos p2:Pos} (he:Bx (PE X e (tD p fa))) (hs:Bx (PE X st (tD p fs))) (hK:X.K=p.K:=by rfl):Bx (PE X (.Subscript e (.Slice none none (some st) p2) pos) (tD p (aC qI fa fs))):=
 ⟨(DV he.h hs.h).weak fun σ H Q ⟨α, ρ, μ, S, R, P⟩ => ⟨α, ρ, μ, S, R, (az.bind P).imp fun x μ1 H1 α1 X1 S1 P1 v rv => ⟨α1, ρ, μ1, S1, R.mono X1, (az.bind P1).imp fun y μ2 H2 α2 X2 S2 P2 u ru => by
   rw [hK]
   unfold qI at P2
   split at P2
   ·rename_i xs i
    split at P2
    ·rename_i hi
     subst hi
     obtain ⟨a,us,rfl,h1,r1⟩:=aF.mp (rv.mono X2)
     exact ⟨aq.mp ru,a,us,rfl,.inl ⟨h1,fun q hq=>P2 _ _ (bM hq) (S2.tuple hq) _ (aF.mpr ⟨q,_,rfl,fY.of bU,r1.reverse.mono (bM hq)⟩)⟩⟩
    ·exact P2.elim
   ·rename_i n i
    split at P2
    ·rename_i xs hx
     split at P2
     ·rename_i hi
      subst hi
      obtain ⟨a,rfl,h1⟩:=aP.mp (rv.mono X2)
      obtain ⟨a',ea,vs,hH,rr⟩:=S2.at hx
      have eaa:a=a':=LN (h1.symm.trans ea)
      subst eaa
      refine ⟨aq.mp ru,a,vs,rfl,.inr ⟨.inl (.inl hH),fun q hq=>?_⟩⟩
      obtain ⟨x1,s1,r1⟩:=cA S2 hq rr.reverse
      exact P2 _ _ x1 s1 _ r1
     ·exact P2.elim
    ·exact P2.elim
   ·exact P2.elim⟩⟩⟩
section
variable {p:Pa}{X:Cx}{e:Expr}{fr:MA}{pos:Pos}
end
end L2
namespace L2
open PySem PySem.Spec PyProof.Rows RS
abbrev FD (K:W.Frag) (w:World) (E:XK):Pa:=⟨K,w,fun x _ H _=>∃ C,W.nsIn K mainGlobals x.cls=some (some (.ref C))/\∀ ea,H ea=none->E (.ref C) (some ea) H⟩
def Lf (K:W.Frag) (w:World) (n:Nat) (F:List D->aw->aj D):Sp:=fun vs H Q E=>vs.length=n/\∃ α ds μ,gn K w H α μ/\Reps K H α ds vs/\az (FD K w E) H α (F ds μ) (RV (FD K w E) Q)
structure yk (P:Program) (w:World) (K:W.Frag) (mg:Str->Option Value) (base:Heap) (k:Nat) (x:Str) (n:Nat) (F:List D->aw->aj D):Prop where
 len:∀ ds μ,ds.length≠n->F ds μ=.bad
 fn:∃ f fd ps,mg x=some (.ref f)/\W.keepIn K (.ref f)=true/\f7 K fd ps []/\oD P w K mg base (II P w) k f fd ps (Lf K w n F)
theorem Av {P:Program}{w:World}{K:W.Frag}{mg:Str->Option Value}{base:Heap}{k n:Nat}{x qual:Str}{st:Stmt}{f:Addr}{fd:FuncData}{N ps:List Str}{fb:MS}
  (F:gk K x qual st f fd) (S:aR N ps (av st)) (hn:ps.length=n) (hm:mg x=some (.ref f)) (hb:f7 K fd ps [])
  (body : ∀ (cdv : Value) (A : Around) (outer : List Env) (s : Shared) (H : Hp) (E : XK), fD k (A.deeper (envOfC qual (av st) s.heap.objs.size f cdv)) ->
   Bx (iA (Cy P w K mg base N qual (av st) f cdv A outer s H E) (bQ st) (fX (FD K w E) fb))):yk P w K mg base (k+1) x n (gT n N.length fb):=by
 refine ⟨fun ds μ h=>by unfold gT;rw [LM h],f,fd,ps,hm,F.kp,hb,?_⟩
 obtain ⟨oc,od,kV,doc,pm,an,cdv,ct,osl,rfl,lk,hcd⟩:=F.ex
 refine Ft lk hcd S (fun vs H Q E h=>h.1.trans hn.symm) fun A outer s H vs Q E hr h=>?_
 refine ⟨_,(body cdv A outer s H E hr).h,?_⟩
 obtain ⟨hl,α,ds,μ,S1,R1,P1⟩:=h
 unfold gT at P1
 have hd:ds.length=n:=by rw [<- R1.length];exact hl
 rw [LL hd] at P1
 have P2:=oi S1 P1
 unfold start
 rw [hl]
 refine ⟨α,_,μ,S1,i9 R1 _,?_⟩
 cases e:fb (ds.map some++List.replicate (N.length - n) none) μ with
 | ret d μ'=>rw [e] at P2;exact fun H' α' v x s r=>P2 H' α' x s v r
 | next ρ μ'=>rw [e] at P2;exact fun H' α' σ' x s r=>P2 H' α' x s .non (bA.mpr rfl)
 | exc x μ'=>rw [e] at P2;exact P2
 | brk ρ μ'=>rw [e] at P2;exact P2.elim
 | cnt ρ μ'=>rw [e] at P2;exact P2.elim
 | bad=>rw [e] at P2;exact P2.elim
section
variable {X:Cx}{E:XK}{k n:Nat}{x:Str}{F:List D->aw->aj D}{a:Expr}{es:List Expr}{fr:MA}{pos px:Pos}
theorem sj (h:yk X.prog X.w X.K X.mg X.base k x n F) (hp:jJ (II X.prog X.w) X E) (hr:fD k X.A) (ha:Bx (PA X (a::es) (lg (FD X.K X.w E) fr))) (hg:Gl X x:=by rfl) (hdb:(x == ("__debug__" : Str))=false:=by decide)
  (he:starEach (a::es) X.env=(false,eval a X.env)::starEach es X.env:=by rfl) (hpl:(backTo pos (starEach es X.env)).any (·.1)=false:=by rfl):Bx (PE X (.Call (.Name x px) (a::es) [] pos) (tD (FD X.K X.w E) (aE F fr))):=Bx.mk (by
 obtain ⟨f,fd,ps,h1,h2,h3,h4⟩:=h.fn
 refine (sx (dvs:=[]) (E:=E) h4 hr hg h1 h2 h3 .nil hp ha.h hdb he hpl).weak fun σ H Q ⟨α,ρ,μ,S,R,P⟩=>⟨α,ρ,μ,S,R,(az.bind P).imp fun ds μ1 H1 α1 X1 S1 P1 vs rv=>?_⟩
 show Lf X.K X.w n F (vs++[]) H1 Q E
 rw [MC]
 refine ⟨?_,α1,ds,μ1,S1,rv,P1⟩
 by_cases hl:ds.length=n
 ·rw [rv.length];exact hl
 ·rw [h.len ds μ1 hl] at P1;exact P1.elim)
theorem C4 {p:Pa} (h:dR X.prog X.w X.K X.mg X.base p.nx k x n F) (hr:fD k X.A) (ha:Bx (PA X (a::es) (lg p fr))) (hg:Gl X x:=by rfl) (hdb:(x == ("__debug__" : Str))=false:=by decide)
  (he:starEach (a::es) X.env=(false,eval a X.env)::starEach es X.env:=by rfl) (hpl:(backTo pos (starEach es X.env)).any (·.1)=false:=by rfl):Bx (PE X (.Call (.Name x px) (a::es) [] pos) (tD p (aE (fun ds μ=>(F ds μ).nox) fr))):=Bx.mk (by
 obtain ⟨f,fd,ps,h1,h2,h3,h4⟩:=h.fn
 refine (sx (dvs:=[]) (E:=E0) h4 hr hg h1 h2 h3 .nil Aj ha.h hdb he hpl).weak fun σ H Q ⟨α,ρ,μ,S,R,P⟩=>⟨α,ρ,μ,S,R,(az.bind P).imp fun ds μ1 H1 α1 X1 S1 P1 vs rv=>?_⟩
 show Cv p.nx n F (vs++[]) H1 Q E0
 rw [MC]
 have P2:az p.nx H1 α1 (F ds μ1) (RV p.nx Q):=by
  cases e:F ds μ1 with
  | ok d μ'=>rw [e] at P1;exact P1
  | exc y μ'=>rw [e] at P1;exact False.elim P1
  | bad=>rw [e] at P1;exact P1
 refine ⟨?_,α1,ds,μ1,S1,rv,P2⟩
 by_cases hl:ds.length=n
 ·rw [rv.length];exact hl
 ·rw [h.len ds μ1 hl] at P2;exact P2.elim)
end
def vR (c:Str):MS:=fun _ μ=>.exc ⟨c,[]⟩ μ
section
variable {P:Program}{w:World}{K:W.Frag}{mg:Str->Option Value}{base:Heap}{N:List Str}{qual:Str}{scope:Scope}{f:Addr}{cdv:Value}{A:Around}{outer:List Env}{s0:Shared}{H0:Hp}{E:XK}
theorem CY {c:Str}{C:Addr}{np cpos pos:Pos} (hc:W.nsIn K mainGlobals c=some (some (.ref C))) (O:yh mg base c C) (hg:Gl (Cy P w K mg base N qual scope f cdv A outer s0 H0 E) c:=by rfl) (hd:(c == ("__debug__" : Str))=false:=by decide) :
  Bx (PS (Cy P w K mg base N qual scope f cdv A outer s0 H0 E) (.Raise (some (.Call (.Name c np) [] [] cpos)) none pos) (fX (FD K w E) (vR c))):=Bx.mk (by
 refine (yK O hg hd).weak fun D σ H ⟨α,ρ,μ,S,R,P⟩=>?_
 obtain ⟨C',h1,h2⟩:=P H α jv.refl S
 rw [hc] at h1
 cases h1
 exact h2)
end
def SO.ro (o:SO):SO:=match o with
 | .ret d μ=>.ret d μ
 | _=>.bad
def zR (known:List Str) (i N:Nat) (fb fh:MS):MS:=fun ρ μ=>match fb ρ μ with
 | .exc x μ'=>if known.contains x.cls=true then (fh ((List.replicate N none).set i (some (.obj μ'.length))) (μ'++[.exc x.cls])).ro else .bad
 | o=>o
def ug (K:W.Frag) (r:Str) (R:Addr) (known:List Str):Prop:=∀ c∈known,∃ C,W.nsIn K mainGlobals c=some (some (.ref C))/\W.exmOne K (.ref C) (.ref R)=some true
theorem dt.ro {p:Pa}{H:Hp}{α:List Addr}{o:SO}{D:mv} (h:dt p H α o.ro D):dt p H α o { nx:=fun _ _=>False,rt:=D.rt }:=by
 cases o with
 | ret d μ=>exact h
 | next ρ μ=>exact False.elim h
 | brk ρ μ=>exact False.elim h
 | cnt ρ μ=>exact False.elim h
 | exc x μ=>exact False.elim h
 | bad=>exact False.elim h
theorem Jg {X:Cx}{xw:DX->aw->Hp->List Addr->Prop}{r n:Str}{R:Addr}{known:List Str}{i m:Nat}{np hpos pos:Pos}{body suite:List Stmt}{b0:Stmt}{fb fh:MS}
  (F:X.Fn) (hN:X.N.Nodup) (hk:ug X.K r R known) (hm:X.mg r=some (.ref R)) (hb:∀ pins E,Bx (iA (X.tri pins E) body (fX (FD X.K X.w E) fb))) (hs:∀ ea,Bx (iA (X.hnd ea) (b0::suite) (fX ⟨X.K,X.w,xw⟩ fh)))
  (hl:X.N.length=m:=by rfl) (hi:X.N[i]?=some n:=by rfl) (hx:ya X.env.scope n:=by exact Or.inl rfl) (hlo:X.env.kindOf n=some .local:=by rfl) (hg:Gl X r:=by rfl) (hd:(r == ("__debug__" : Str))=false:=by decide) :
  Bx (PS X (.Try body [.ExceptHandler (some (.Name r np)) (some n) (b0::suite) hpos] [] [] pos) (fX ⟨X.K,X.w,xw⟩ (zR known i m fb fh))):=Bx.mk (by
 refine (GN F hN hi hx hlo hg hm hd (fun pins E=>(hb pins E).h) fun ea=>(hs ea).h).weak fun D σ H ⟨α,ρ,μ,S,Rl,P⟩=>?_
 refine ⟨fun cls ea' H'=>∃ C ea,cls=.ref C/\ea'=some ea/\(W.exmOne X.K (.ref C) (.ref R)=some true/\∀ σ':St,σ'.length=X.N.length->fX ⟨X.K,X.w,xw⟩ fh { nx:=fun _ _=>False,rt:=D.rt } (σ'.set i (some (.ref ea))) (cn H' ea (tU ea C))),
  fun C ea H' h _=>?_,α,ρ,μ,S,Rl,?_⟩
 ·obtain ⟨C', ea', h1, h2, h3⟩ := h
  cases h1
  cases h2
  exact h3
 ·unfold zR at P
  cases e:fb ρ μ with
  | ret d μ'=>rw [e] at P;exact P
  | next ρ' μ'=>rw [e] at P;exact P
  | brk ρ' μ'=>rw [e] at P;exact P
  | cnt ρ' μ'=>rw [e] at P;exact P
  | bad=>rw [e] at P;exact P
  | exc x μ'=>
   rw [e] at P
   dsimp only at P
   by_cases hc:known.contains x.cls=true
   ·rw [LL hc] at P
    obtain ⟨C,c1,c2⟩:=hk x.cls (List.contains_iff_mem.mp hc)
    intro H' α' X' S'
    refine ⟨C,c1,fun ea hea=>⟨C,ea,rfl,rfl,c2,fun σ' hσ=>?_⟩⟩
    have X3:jv X.K H H' α α':=X'
    have X2:jv X.K H' (cn H' ea (tU ea C)) α' (α'++[ea]):=(bM hea).trans (iM [ea])
    have S2:gn X.K X.w (cn H' ea (tU ea C)) (α'++[ea]) (μ'++[.exc x.cls]):=gn.more S' hea ⟨C,c1,bU⟩
    refine ⟨α'++[ea],_,_,S2,⟨by simp [hσ,hl],fun j d hj=>?_⟩,(dt.from (p:=⟨X.K,X.w,xw⟩) (X3.trans X2) P).ro⟩
    by_cases hji:j=i
    ·subst hji
     have hlt:j<(List.replicate m (none:Option L2.D)).length:=by
      have:=(L8.mp hi).1
      simp;omega
     rw [Ma hlt] at hj
     cases hj
     refine ⟨.ref ea,by rw [Ma (by rw [hσ];simpa [hl] using hlt)],aP.mpr ⟨ea,rfl,?_⟩⟩
     have hla:α'.length=μ'.length:=S'.len
     rw [<- hla,MP (Mt _)]
     simp
    ·rw [Mb (L5 hji), MQ] at hj
     split at hj <;> cases hj
   ·rw [LM hc] at P
    exact False.elim P)
theorem AV {CX:tI}{P:Program}{w:World}{K:W.Frag}{mg:Str->Option Value}{base:Heap}{N:List Str}{qual:Str}{scope:Scope}{f:Addr}{cdv:Value}{A:Around}{outer:List Env}{s:Shared}{H:Hp}{E:XK}:(oB CX P w K mg base N qual scope f cdv A outer s H E).nox.Fn:=⟨rfl,rfl,rfl⟩
theorem rG {x:V}:∀ {xs:List V}{us:List Value},aY xs us->xs.all jF=true->us.countP (FF x)=xs.countP fun y=>xf y x
 | _,_,.nil,_=>rfl
 | y::xs,u::us,.cons r t,f=>by
  rw [NF,Nv] at f
  rw [List.countP_cons,List.countP_cons,v5 r f.1,rG t f.2]
def AI:V->List V->Hp->VK->Prop:=fun x vs H Q=>∃ l xs y,x=.ref l/\vs=[y]/\H l=some (.lst xs)/\jF y=true/\xs.all jF=true/\Q (.int (xs.countP fun z=>xf z y:Nat)) H
def AH:V->List V->Hp->VK->Prop:=fun x vs H Q=>∃ l xs y j,x=.ref l/\vs=[y]/\H l=some (.lst xs)/\jF y=true/\xs.all jF=true/\(∃ z,xs[j]?=some z/\xf z y=true)/\(∀ m z,m<j->xs[m]?=some z->xf z y=false)/\xs.length<1000/\Q (.int (j:Nat)) H
section
variable {X:Cx}
theorem BY:Km X "list.count" AI:=by
 intro pins s σ H x vs v us Q I rx rv h
 obtain ⟨l,xs,y,rfl,rfl,hH,fy,fs,q⟩:=h
 cases rx
 obtain ⟨u,rfl,ru⟩:=rv.one
 obtain ⟨z,its,n,r,hl,e⟩:=I.lstM hH
 refine NM F.slot_list_count ⟨_,e,rfl⟩ F.entry_list_count (F.args_list_count_2 _ _) (SeqAt.list_countAt l its.toArray n none #[] u (FF y)) ⟨e,fun w hw=>pq ru fy r fs w (by simpa using hw),?_⟩
 refine ⟨.int (xs.countP fun z=>xf z y:Nat),H,I.tok _,⟨s.toks,?_⟩,q⟩
 rw [<- rG r fs]
theorem BX:Km X "list.index" AH:=by
 intro pins s σ H x vs v us Q I rx rv h
 obtain ⟨l,xs,y,j,rfl,rfl,hH,fy,fs,⟨z0,hz,ht⟩,hno,hsz,q⟩:=h
 cases rx
 obtain ⟨u,rfl,ru⟩:=rv.one
 obtain ⟨z,its,n,r,hl,e⟩:=I.lstM hH
 have hlt:j<xs.length:=(L8.mp hz).1
 have hb:∀ m w,its[m]?=some w->∃ z,xs[m]?=some z/\FF y w=xf z y:=fun m w hw=>by
  have hm:m<its.length:=(L8.mp hw).1
  have hm':m<xs.length:=by rw [r.length];exact hm
  obtain ⟨u',hu',ru'⟩:=r.get (Pq hm')
  rw [hw] at hu'
  cases hu'
  exact ⟨_,Pq hm',v5 ru' (OE.mp fs _ (Pp hm'))⟩
 have hlen:=r.length
 refine NM F.slot_list_index ⟨_,e,rfl⟩ F.entry_list_index (F.args_list_index_2 _ _) (SeqAt.list_indexAt l its.toArray n none #[] u (FF y) j (by rw [Mz];omega) (by omega) ?_ ?_) ⟨e,fun w hw=>pq ru fy r fs w (by simpa using hw),?_⟩
 ·have hw : its[j]? = some its[j] := Pq (by omega)
  obtain ⟨z1,a1,a2⟩:=hb j _ hw
  rw [hz] at a1
  cases a1
  show FF y its.toArray[j]=true
  rw [List.getElem_toArray,a2];exact ht
 ·intro m hm hmj
  have hm':m<its.length:=by rw [Mz] at hm;exact hm
  obtain ⟨z1,a1,a2⟩:=hb m _ (Pq hm')
  rw [List.getElem_toArray,a2]
  exact hno m z1 hmj a1
 ·exact ⟨.int (j:Nat),H,I.tok _,⟨s.toks,rfl⟩,q⟩
end
def jE:List D->Bool
 | []=>true
 | .bl _::r=>jE r
 | _::_=>false
def mr:D->Bool
 | .bl b=>b
 | _=>false
theorem u5 {K:W.Frag}{H:Hp}{α:List Addr}{xs:List D}:∀ {vs:List V},Reps K H α xs vs->jE xs=true->vs=xs.map fun d=>V.bl (mr d):=by
 induction xs with
 | nil=>intro vs h _;simp only [Reps] at h;exact h
 | cons d r ih=>
  intro vs h q
  simp only [Reps] at h
  obtain ⟨v,r',rfl,h1,h2⟩:=h
  cases d with
  | bl b=>rw [aT.mp h1,ih h2 (by simpa only [jE] using q)];rfl
  | non=>simp only [jE] at q;cases q
  | int i=>simp only [jE] at q;cases q
  | str i=>simp only [jE] at q;cases q
  | tup i=>simp only [jE] at q;cases q
  | frz i=>simp only [jE] at q;cases q
  | obj i=>simp only [jE] at q;cases q
theorem pE:∀ xs:List D,(xs.map fun d=>V.bl (mr d)).all jF=true
 | []=>rfl
 | _::xs=>by rw [Ny,NF,pE xs];rfl
def ki (d:D) (ds:List D) (μ:aw):aj D:=match d,ds with
 | .obj n,[.bl true]=>match μ[n]? with
  | some (.lst xs)=>if jE xs=true then .ok (.int (xs.countP mr:Nat)) μ else .bad
  | _=>.bad
 | _,_=>.bad
def kh (d:D) (ds:List D) (μ:aw):aj D:=match d,ds with
 | .obj n,[.bl true]=>match μ[n]? with
  | some (.lst xs)=>if jE xs=true/\xs.length<1000/\xs.any mr=true then .ok (.int (xs.findIdx mr:Nat)) μ else .bad
  | _=>.bad
 | _,_=>.bad
section
variable {p:Pa}
theorem y6:IH p ki AI:=by
 intro d ds v vs H α μ Q S rd rs P
 unfold ki at P
 split at P
 ·split at P
  ·rename_i n xs hx
   split at P
   ·rename_i hb
    obtain ⟨a,us,rfl,a1,h1,rr⟩:=b8 S rd hx
    have hv:=u5 rr hb
    simp only [Reps] at rs
    obtain ⟨y,r',rfl,h3,rfl⟩:=rs
    rw [aT.mp h3]
    refine ⟨a,us,.bl true,rfl,rfl,h1,rfl,by rw [hv];exact pE xs,?_⟩
    have z:=P.now S (.int (xs.countP mr:Nat)) (aq.mpr rfl)
    have e:(us.countP fun z=>xf z (.bl true))=xs.countP mr:=by
     rw [hv,List.countP_map]
     congr 1
     funext d
     cases h:mr d <;> simp [xf,h]
    rw [e];exact z
   ·exact P.elim
  ·exact P.elim
 ·exact P.elim
theorem y0:IH p kh AH:=by
 intro d ds v vs H α μ Q S rd rs P
 unfold kh at P
 split at P
 ·split at P
  ·rename_i n xs hx
   split at P
   ·rename_i hb
    obtain ⟨hb,hlen,hany⟩:=hb
    obtain ⟨a,us,rfl,a1,h1,rr⟩:=b8 S rd hx
    have hv:=u5 rr hb
    simp only [Reps] at rs
    obtain ⟨y,r',rfl,h3,rfl⟩:=rs
    rw [aT.mp h3]
    have hlt:xs.findIdx mr<xs.length:=List.findIdx_lt_length_of_exists (by simpa using hany)
    refine ⟨a,us,.bl true,xs.findIdx mr,rfl,rfl,h1,rfl,by rw [hv];exact pE xs,⟨.bl true,?_,rfl⟩,fun m z hm hz=>?_,by rw [hv,MY];exact hlen,P.now S (.int (xs.findIdx mr:Nat)) (aq.mpr rfl)⟩
    ·rw [hv, MU, Pq hlt]
     have:=List.findIdx_getElem (w:=hlt)
     simp [this]
    ·rw [hv, MU, Pq (by omega : m < xs.length)] at hz
     cases hz
     have hf:=List.not_of_lt_findIdx hm
     show (mr _ == true)=false
     rw [beq_true]
     cases z:mr xs[m] with
     | false=>rfl
     | true=>rw [z] at hf;exact absurd hf (by decide)
   ·exact P.elim
  ·exact P.elim
 ·exact P.elim
end
def kL (subs known:List Str) (d:D) (μ:aw):aj D:=match d with
 | .obj n=>match μ[n]? with
  | some (.exc c)=>if known.contains c=true then .ok (.bl (subs.contains c)) μ else .bad
  | _=>.bad
 | _=>.bad
def bC (K:W.Frag) (u:Value) (subs known:List Str):Prop:=∀ c∈known,∃ C,W.nsIn K mainGlobals c=some (some (.ref C))/\W.excCls K C=true/\W.kitOne K (.ref C) u=some (subs.contains c)
theorem AQ {p:Pa}{K:W.Frag}{u:Value}{v x:V}{subs known:List Str}{d:D}{H:Hp}{α:List Addr}{μ:aw}{Q:VK} (hK:K=p.K) (hk:bC K u subs known) (ru:bF v u) (S:p.S H α μ) (r:p.R H α d x) (P:az p H α (kL subs known d μ) (RV p Q)):IV K u [x,v] H Q:=by
 subst hK
 unfold kL at P
 split at P
 ·split at P
  ·rename_i n c hx
   split at P
   ·rename_i hc
    obtain ⟨a,ea,C,h1,h2⟩:=S.at hx
    obtain ⟨a',rfl,ea'⟩:=aP.mp r
    rw [ea] at ea';cases ea'
    obtain ⟨C',k1,k2,k3⟩:=hk c (List.contains_iff_mem.mp hc)
    rw [h1] at k1
    cases k1
    exact ⟨a,C,_,v,rfl,ru,h2,k2,k3,P.now S _ (aT.mpr rfl)⟩
   ·exact P.elim
  ·exact P.elim
 ·exact P.elim
section
variable {X:Cx}{p:Pa}{a e ob:Expr}{fa fo:ME}{fr:MA}{pos px pt apos:Pos}{xT:Str}{subs known:List Str}
theorem nk {C:Addr} (hk:bC X.K (.ref C) subs known) (hm:X.mg "isinstance" = none) (hmT:X.mg xT=some (.ref C)) (ha:Bx (PE X a (tD p fa))) (hg:Gl X "isinstance" := by rfl) (hgT:Gl X xT:=by rfl) (hdT:(xT == ("__debug__" : Str))=false:=by decide)
  (hs1:starEach [a,.Name xT pt] X.env=(false,eval a X.env)::starEach [.Name xT pt] X.env:=by rfl) (hK:X.K=p.K:=by rfl):Bx (PE X (.Call (.Name "isinstance" px) [a,.Name xT pt] [] pos) (tD p (mh (kL subs known) fa))):=Bx.mk (by
 have hb:PE X (.Name xT pt) (tC (.ref C)):=xG hgT hmT rfl hdT
 refine (lO (u4 (u:=.ref C) fun v w h1 h2=>?_) hg hm PJ (ik ha.h (ik hb oR rfl) hs1) (by decide) (by decide) hs1 rfl).weak fun σ H Q ⟨α,ρ,μ,S,R,P⟩=>⟨α,ρ,μ,S,R,(az.bind P).imp fun d μ1 H1 α1 X1 S1 P1 v rv=>?_⟩
 ·cases v with
  | ref b=>cases (show Value.ref C=Value.ref b from h1);exact h2
  | non=>cases (show Value.ref C=Value.none from h1)
  | bl b=>cases (show Value.ref C=Value.bool b from h1)
  | int b=>obtain ⟨t,z⟩:=(show ∃ t,Value.ref C=Value.int b t from h1);cases z
  | str b=>obtain ⟨t,z⟩:=(show ∃ t,Value.ref C=Value.str b t from h1);cases z
  | byt b=>obtain ⟨t,z⟩:=(show ∃ t,Value.ref C=Value.bytes b t from h1);cases z
  | flt b=>obtain ⟨t,z⟩:=(show ∃ t,Value.ref C=Value.float b t from h1);cases z
  | ty b=>cases (show Value.ref C=Value.type b from h1)
 ·exact AQ hK hk rfl S1 rv P1)
theorem F4 {T:String} (hk:bC X.K (.type T) subs known) (hm:X.mg "isinstance" = none) (hmT:X.mg xT=none) (hbT:bootBuiltins xT=some (.type T)) (ha:Bx (PE X a (tD p fa))) (hg:Gl X "isinstance" := by rfl) (hgT:Gl X xT:=by rfl) (hnT:xT ≠ "__name__" := by decide) (hdT:(xT == ("__debug__" : Str))=false:=by decide)
  (hs1:starEach [a,.Name xT pt] X.env=(false,eval a X.env)::starEach [.Name xT pt] X.env:=by rfl) (hK:X.K=p.K:=by rfl):Bx (PE X (.Call (.Name "isinstance" px) [a,.Name xT pt] [] pos) (tD p (mh (kL subs known) fa))):=Bx.mk (by
 have hb:PE X (.Name xT pt) (tC (.ty T)):=xH hgT hmT hbT rfl hnT hdT
 refine (lO (u4 (u:=.type T) fun v w h1 h2=>?_) hg hm PJ (ik ha.h (ik hb oR rfl) hs1) (by decide) (by decide) hs1 rfl).weak fun σ H Q ⟨α,ρ,μ,S,R,P⟩=>⟨α,ρ,μ,S,R,(az.bind P).imp fun d μ1 H1 α1 X1 S1 P1 v rv=>?_⟩
 ·cases v with
  | ty b=>cases (show Value.type T=Value.type b from h1);exact h2
  | non=>cases (show Value.type T=Value.none from h1)
  | bl b=>cases (show Value.type T=Value.bool b from h1)
  | int b=>obtain ⟨t,z⟩:=(show ∃ t,Value.type T=Value.int b t from h1);cases z
  | str b=>obtain ⟨t,z⟩:=(show ∃ t,Value.type T=Value.str b t from h1);cases z
  | byt b=>obtain ⟨t,z⟩:=(show ∃ t,Value.type T=Value.bytes b t from h1);cases z
  | flt b=>obtain ⟨t,z⟩:=(show ∃ t,Value.type T=Value.float b t from h1);cases z
  | ref b=>cases (show Value.type T=Value.ref b from h1)
 ·exact AQ hK hk rfl S1 rv P1)
theorem Jm (ho:Bx (PE X ob (tD p fo))) (ha:Bx (PA X [e] (lg p fr))) (hbase:attributeBase ob "count" X.env (eval ob X.env)=eval ob X.env:=by rfl) (hfew:((backTo pos (starEach [e] X.env)).all (fun x=>!x.1) && (backToKw pos (keywordEach [] X.env)).all (fun x=>x.1.isSome)
   && decide ([e].length+([]:List Keyword).length+(if ([]:List Keyword).isEmpty then 0 else 1)<30))=true:=by rfl) (hline:(apos.endLine == pos.line)=true:=by rfl) (hs:starEach [e] X.env=(false,eval e X.env)::starEach [] X.env:=by rfl) (hpl:(backTo pos (starEach [] X.env)).any (·.1)=false:=by rfl) (hK:X.K=p.K:=by rfl):Bx (PE X (.Call (.Attribute ob "count" apos) [e] [] pos) (tD p (zO ki fo fr))):=
 ⟨xi hK PySem.F.slot_list_count PySem.F.type_list_count BY y6 ho.h ha.h hbase hfew hline hs hpl⟩
theorem Jl (ho:Bx (PE X ob (tD p fo))) (ha:Bx (PA X [e] (lg p fr))) (hbase:attributeBase ob "index" X.env (eval ob X.env)=eval ob X.env:=by rfl) (hfew:((backTo pos (starEach [e] X.env)).all (fun x=>!x.1) && (backToKw pos (keywordEach [] X.env)).all (fun x=>x.1.isSome)
   && decide ([e].length+([]:List Keyword).length+(if ([]:List Keyword).isEmpty then 0 else 1)<30))=true:=by rfl) (hline:(apos.endLine == pos.line)=true:=by rfl) (hs:starEach [e] X.env=(false,eval e X.env)::starEach [] X.env:=by rfl) (hpl:(backTo pos (starEach [] X.env)).any (·.1)=false:=by rfl) (hK:X.K=p.K:=by rfl):Bx (PE X (.Call (.Attribute ob "index" apos) [e] [] pos) (tD p (zO kh fo fr))):=
 ⟨xi hK PySem.F.slot_list_index PySem.F.type_list_index BX y0 ho.h ha.h hbase hfew hline hs hpl⟩
end
structure CV (P:Program) (w:World) (K:W.Frag) (mg:Str->Option Value) (base:Heap) (p:Pa) (k:Nat) (x:Str) (n:Nat) (F:List D->aw->aj D):Prop where
 len:∀ ds μ,ds.length≠n->F ds μ=.bad
 fn:∃ f fd ps,mg x=some (.ref f)/\W.keepIn K (.ref f)=true/\f7 K fd ps []/\uh P w K mg base vG k f fd ps (Cv p n F)
theorem FY {P:Program}{w:World}{K:W.Frag}{mg:Str->Option Value}{base:Heap}{p:Pa}{k n:Nat}{x qual:Str}{st:Stmt}{f:Addr}{fd:FuncData}{N ps:List Str}{fb:MS}
  (F:gk K x qual st f fd) (S:aR N ps (av st)) (hn:ps.length=n) (hm:mg x=some (.ref f)) (hb:f7 K fd ps [])
  (body : ∀ (cdv : Value) (A : Around) (outer : List Env) (s : Shared) (H : Hp) (E : XK), d3 k (A.deeper (envOfC qual (av st) s.heap.objs.size f cdv)) ->
   Bx (iA (oN vG P w K mg base N qual (av st) f cdv A outer s H E).nox (bQ st) (fX p fb))):CV P w K mg base p (k+1) x n (gT n N.length fb):=by
 refine ⟨fun ds μ h=>by unfold gT;rw [LM h],f,fd,ps,hm,F.kp,hb,?_⟩
 refine F.okH S (fun vs H Q E h=>h.1.trans hn.symm) fun cdv A outer s H vs Q E hr h=>?_
 refine ⟨_,(body cdv A outer s H E hr).h,?_⟩
 obtain ⟨hl,α,ds,μ,S1,R1,P1⟩:=h
 unfold gT at P1
 have hd:ds.length=n:=by rw [<- R1.length];exact hl
 rw [LL hd] at P1
 have P2:=oi S1 P1
 unfold start
 rw [hl]
 refine ⟨α,_,μ,S1,i9 R1 _,?_⟩
 cases e:fb (ds.map some++List.replicate (N.length - n) none) μ with
 | ret d μ'=>rw [e] at P2;exact fun H' α' v x s r=>P2 H' α' x s v r
 | next ρ μ'=>rw [e] at P2;exact fun H' α' σ' x s r=>P2 H' α' x s .non (bA.mpr rfl)
 | exc x μ'=>rw [e] at P2;exact P2
 | brk ρ μ'=>rw [e] at P2;exact P2.elim
 | cnt ρ μ'=>rw [e] at P2;exact P2.elim
 | bad=>rw [e] at P2;exact P2.elim
theorem C5 {X:Cx}{p:Pa}{k n:Nat}{x:Str}{F:List D->aw->aj D}{a:Expr}{es:List Expr}{fr:MA}{pos px:Pos} (h:CV X.prog X.w X.K X.mg X.base p k x n F) (hr:d3 k X.A) (ha:Bx (PA X (a::es) (lg p fr))) (hg:Gl X x:=by rfl) (hdb:(x == ("__debug__" : Str))=false:=by decide)
  (he:starEach (a::es) X.env=(false,eval a X.env)::starEach es X.env:=by rfl) (hpl:(backTo pos (starEach es X.env)).any (·.1)=false:=by rfl):Bx (PE X (.Call (.Name x px) (a::es) [] pos) (tD p (aE F fr))):=Bx.mk (by
 obtain ⟨f,fd,ps,h1,h2,h3,h4⟩:=h.fn
 refine (BL (dvs:=[]) (E:=E0) h4 hr hg h1 h2 h3 .nil Aj ha.h hdb he hpl).weak fun σ H Q ⟨α,ρ,μ,S,R,P⟩=>⟨α,ρ,μ,S,R,(az.bind P).imp fun ds μ1 H1 α1 X1 S1 P1 vs rv=>?_⟩
 show Cv p n F (vs++[]) H1 Q E0
 rw [MC]
 refine ⟨?_,α1,ds,μ1,S1,rv,P1⟩
 by_cases hl:ds.length=n
 ·rw [rv.length];exact hl
 ·rw [h.len ds μ1 hl] at P1;exact P1.elim)
theorem qC:bootBuiltins "ValueError" = some (.type "ValueError"):=PyProof.Rows.Boot.«ValueError»
def B2 (K:W.Frag) (u:Value) (subs known:List Str):Bool:=known.all fun c=>match W.nsIn K mainGlobals c with
 | some (some (.ref C))=>W.excCls K C && W.kitOne K (.ref C) u == some (subs.contains c)
 | _=>false
theorem bC.of {K:W.Frag}{u:Value}{subs known:List Str} (h:B2 K u subs known=true):bC K u subs known:=fun c hc=>by
 have q:=OE.mp h c hc
 split at q
 ·rename_i C e
  rw [Nv] at q
  exact ⟨C,e,q.1,Pw.mp q.2⟩
 ·cases q
def HK (K:W.Frag) (R:Addr) (known:List Str):Bool:=known.all fun c=>match W.nsIn K mainGlobals c with
 | some (some (.ref C))=>W.exmOne K (.ref C) (.ref R) == some true
 | _=>false
theorem ug.of {K:W.Frag}{r:Str}{R:Addr}{known:List Str} (h:HK K R known=true):ug K r R known:=fun c hc=>by
 have q:=OE.mp h c hc
 split at q
 ·rename_i C e
  exact ⟨C,e,Pw.mp q⟩
 ·cases q
theorem yh.of {K:W.Frag}{base:Heap}{mg:Str->Option Value}{x nm q:Str}{C N:Addr}{bs bm:List Value}{hd:Bool}{sn:List Str}{sub:List Value}{ab:Bool}{col:Option Bool}{dd:Option Addr}{k0 k1 k2 k3 k5:Option Value} (X:K.In base) (G:base.Ns mainGlobals mg) (e:W.nsIn K mainGlobals x=some (some (.ref C)))
  (l:K.lookup C=some (excClassObj nm q C N bs bm hd sn sub ab col dd k0 k1 k2 k3 k5 "ValueError.__new__")) (h1:W.nsOkIn K N=true) (h2:W.nsIn K N "__init__" = some none) (h3:W.tailIn K [.type "ValueError",.type "Exception",.type "BaseException",.type "object"] bm=true):yh mg base x C:=
 ⟨_,_,_,_,⟨W.mg_of X G e,bm,N,nm,q,bs,hd,sn,sub,ab,col,dd,k0,k1,k2,k3,k5,_,X _ _ l,.of_isNs (W.isNs_of_in X h1),W.nsMap_none_of_in X h1 h2,W.tail_of_in X h3⟩,PySem.F.excBase_ValueError⟩
end L2
namespace L2
open PySem PySem.Spec PyProof.Rows RS
section
variable {X:Cx}{k n:Nat}{x:Str}{F:List D->aw->aj D}{a b c d:Expr}{es:List Expr}{fr:MA}{pos px:Pos}
variable {p:Pa}{ta tb tc td:TE}{fa fb fc fd:ME}{op op' op'':CmpOp}{r r' r'':R2}{o1 o2 o3:D->D->aw->aj D}
theorem yQ (ho:ig X (compareOp op) r) (ho':ig X (compareOp op') r') (ho'':ig X (compareOp op'') r'') (ha:PE X a ta) (hb:PE X b tb) (hc:PE X c tc) (hd:PE X d td)
  (hm:lastMarks [op,op',op''] [b,c,d]=false):PE X (.Compare a [op,op',op''] [b,c,d] pos) (xp r r' r'' ta tb tc td):=by
 intro pins s σ H Q I h
 refine Compare_chain (cI (ha pins s σ H _ I h) fun v s1 ⟨x,H1,I1,r1,q1⟩=>chain_link (cI (hb pins s1 σ H1 _ I1 q1) fun u s2 ⟨y,H2,I2,r2,q2⟩=>
  cI (ho pins s2 σ H2 x y v u _ I2 r1 r2 q2) fun d s3 ⟨z,H3,I3,r3,k,e,q3⟩=>?_)) hm
 subst e
 cases r3
 refine Md ?_
 cases k with
 | false=>exact ite_ff ⟨.bl false,H3,I3,rfl,q3⟩
 | true=>
  refine ite_tt (chain_link (cI (hc pins s3 σ H3 _ I3 q3) fun w' s4 ⟨z',H4,I4,r4,q4⟩=>cI (ho' pins s4 σ H4 y z' u w' _ I4 r2 r4 q4) fun d' s5 ⟨z2,H5,I5,r5,k2,e2,q5⟩=>?_))
  subst e2
  cases r5
  refine Md ?_
  cases k2 with
  | false=>exact ite_ff ⟨.bl false,H5,I5,rfl,q5⟩
  | true=>exact ite_tt (chain_last (cI (hd pins s5 σ H5 _ I5 q5) fun w'' s6 ⟨z'',H6,I6,r6,q6⟩=>ho'' pins s6 σ H6 z' z'' w' w'' Q I6 r4 r6 q6))
theorem vw (hd1:nK p o1 r) (hd2:nK p o2 r') (hd3:nK p o3 r'') {σ:St}{H:Hp}{Q:VK} (h:tD p (ot o1 o2 o3 fa fb fc fd) σ H Q):xp r r' r'' (tD p fa) (tD p fb) (tD p fc) (tD p fd) σ H Q:=by
 obtain ⟨α,ρ,μ,S,R,P⟩:=h
 refine ⟨α,ρ,μ,S,R,(az.bind P).imp fun x μ1 H1 α1 X1 S1 P1 v rv=>⟨α1,ρ,μ1,S1,R.mono X1,(az.bind P1).imp fun y μ2 H2 α2 X2 S2 P2 u ru=>?_⟩⟩
 refine hd1 x y v u H2 α2 μ2 _ S2 (rv.mono X2) ru ((az.bind P2).imp fun z μ3 H3 α3 X3 S3 P3 w rw'=>?_)
 obtain ⟨k,_,e,q⟩:=kT (az.bind P3) rw' S3
 refine ⟨k,e,?_⟩
 cases k with
 | true=>
  rw [LL rfl] at q ⊢
  refine ⟨α3,ρ,μ3,S3,((R.mono X1).mono X2).mono X3,(az.bind q).imp fun c μ5 H5 α5 X5 S5 P5 t rt=>?_⟩
  refine hd2 y c u t H5 α5 μ5 _ S5 ((ru.mono X3).mono X5) rt ((az.bind P5).imp fun z2 μ6 H6 α6 X6 S6 P6 w2 rw2=>?_)
  obtain ⟨k2,_,e2,q2⟩:=kT (az.bind P6) rw2 S6
  refine ⟨k2,e2,?_⟩
  cases k2 with
  | true=>
   rw [LL rfl] at q2 ⊢
   exact ⟨α6,ρ,μ6,S6,((((R.mono X1).mono X2).mono X3).mono X5).mono X6,(az.bind q2).imp fun d μ7 H7 α7 X7 S7 P7 t7 rt7=>hd3 c d t t7 H7 α7 μ7 _ S7 ((rt.mono X6).mono X7) rt7 P7⟩
  | false=>rw [LM Mm] at q2 ⊢;exact q2.now S6 _ (aT.mpr rfl)
 | false=>rw [LM Mm] at q ⊢;exact q.now S3 _ (aT.mpr rfl)
theorem F5 (k:ku X p op o1) (k':ku X p op' o2) (k'':ku X p op'' o3) (ha:Bx (PE X a (tD p fa))) (hb:Bx (PE X b (tD p fb))) (hc:Bx (PE X c (tD p fc))) (hd:Bx (PE X d (tD p fd))) (hm:lastMarks [op,op',op''] [b,c,d]=false:=by rfl):Bx (PE X (.Compare a [op,op',op''] [b,c,d] pos) (tD p (ot o1 o2 o3 fa fb fc fd))):=
 Bx.mk (let ⟨_,h1,h2⟩:=k.ex;let ⟨_,h3,h4⟩:=k'.ex;let ⟨_,h5,h6⟩:=k''.ex;(yQ h1 h3 h5 ha.h hb.h hc.h hd.h hm).weak fun σ H Q h=>vw h2 h4 h6 h)
end
section
variable {X:Cx}
end
section
variable {p:Pa}
end
section
variable {X:Cx}{p:Pa}{e ob:Expr}{fo:ME}{fr:MA}{pos apos:Pos}
end
end L2
namespace Lw
open PySem L2
section
variable {P:Program}{w:World}{K:W.Frag}{mg:Str->Option Value}{base:Heap}
structure Nm (mg:Str->Option Value):Prop where
 ValueError:mg "ValueError" = none
 all:mg "all" = none
 bool:mg "bool" = none
 int:mg "int" = none
 isinstance:mg "isinstance" = none
 len:mg "len" = none
 list:mg "list" = none
 max:mg "max" = none
 min:mg "min" = none
 range:mg "range" = none
 repr:mg "repr" = none
 set:mg "set" = none
 sorted:mg "sorted" = none
 tuple:mg "tuple" = none
theorem vd:aR ["thing"] ["thing"] (av ir):=⟨rfl,rfl,rfl,by decide +kernel,rfl,by decide +kernel,by decide +kernel⟩
noncomputable def ja:MS:=bZ (g5 (mh (dZ "int") (ai 0)) (ud (mh (dZ "bool") (ai 0))))
noncomputable def cZ:List D->aw->aj D:=gT 1 1 ja
theorem m5:aR ["thing", "least", "most"] ["thing", "least", "most"] (av dO):=⟨rfl,rfl,rfl,by decide +kernel,rfl,by decide +kernel,by decide +kernel⟩
noncomputable def eH:MS:=bZ (g5 (aE cZ (ag (ai 0) (aB))) (jI (fH .LtE) (fH .LtE) (ai 1) (ai 0) (ai 2)))
noncomputable def bg:List D->aw->aj D:=gT 3 3 eH
theorem ve:aR ["many", "thing"] ["many", "thing"] (av iu):=⟨rfl,rfl,rfl,by decide +kernel,rfl,by decide +kernel,by decide +kernel⟩
noncomputable def k9:MS:=bZ (aE bg (ag (ai 1) (ag (cC (.int 0)) (ag (aC ie (ai 0) (cC (.int 1))) (aB)))))
noncomputable def eP:List D->aw->aj D:=gT 2 2 k9
theorem sT:aR ["many", "thing"] ["many", "thing"] (av eZ):=⟨rfl,rfl,rfl,by decide +kernel,rfl,by decide +kernel,by decide +kernel⟩
theorem p8:(["place", "many"]:List Str).Nodup:=by decide +kernel
noncomputable def fV:ME:=aE eP (ag (ai 1) (ag (ai 0) (aB)))
noncomputable def jY:MS:=bZ (g5 (mh (dZ "tuple") (ai 1)) (aE mq (ag (d0 (iD (ai 1)) [none,some 0] (ak 0) (bD) (fV)) (aB))))
noncomputable def cS:List D->aw->aj D:=gT 2 2 jY
theorem sS:aR ["things"] ["things"] (av eY):=⟨rfl,rfl,rfl,by decide +kernel,rfl,by decide +kernel,by decide +kernel⟩
theorem p7:(["at", "things"]:List Str).Nodup:=by decide +kernel
noncomputable def iG:ME:=aC (fH .Lt) (aC cq (ai 1) (aC ie (ai 0) (cC (.int 1)))) (aC cq (ai 1) (ai 0))
noncomputable def jX:MS:=bZ (aE mq (ag (d0 (js tN (ag (cC (.int 1)) (ag (aE jx (ag (ai 0) (aB))) (aB)))) [none,some 0] (ak 0) (bD) (iG)) (aB)))
noncomputable def cR:List D->aw->aj D:=gT 1 1 jX
theorem wx:aR ["thing"] ["thing"] (av i6):=⟨rfl,rfl,rfl,by decide +kernel,rfl,by decide +kernel,by decide +kernel⟩
noncomputable def mY:MS:=bZ (aE bg (ag (ai 0) (ag (cC (.int 1)) (ag (cC (.int 6)) (aB)))))
noncomputable def fN:List D->aw->aj D:=gT 1 1 mY
theorem wu:aR ["many", "thing"] ["many", "thing"] (av i4):=⟨rfl,rfl,rfl,by decide +kernel,rfl,by decide +kernel,by decide +kernel⟩
noncomputable def mX:MS:=bZ (g5 (aE cS (ag (ai 0) (ag (ai 1) (aB)))) (g5 (aC (ka false) (aE jx (ag (ai 1) (aB))) (cC (.int 2))) (aC (ka true) (aC cq (ai 1) (cC (.int 0))) (aC cq (ai 1) (cC (.int 1))))))
noncomputable def fM:List D->aw->aj D:=gT 2 2 mX
theorem yI:aR ["many", "thing"] ["many", "thing"] (av kj):=⟨rfl,rfl,rfl,by decide +kernel,rfl,by decide +kernel,by decide +kernel⟩
noncomputable def pH:MS:=bZ (g5 (aE fM (ag (ai 0) (ag (ai 1) (aB)))) (aC (fH .Lt) (aC cq (ai 1) (cC (.int 0))) (aC cq (ai 1) (cC (.int 1)))))
noncomputable def hW:List D->aw->aj D:=gT 2 2 pH
theorem wq:aR ["many", "thing"] ["many", "thing"] (av hX):=⟨rfl,rfl,rfl,by decide +kernel,rfl,by decide +kernel,by decide +kernel⟩
theorem tq:(["tie", "many"]:List Str).Nodup:=by decide +kernel
noncomputable def iy:ME:=aE hW (ag (ai 1) (ag (ai 0) (aB)))
noncomputable def mW:MS:=bZ (g5 (mh (dZ "tuple") (ai 1)) (g5 (aE mq (ag (d0 (iD (ai 1)) [none,some 0] (ak 0) (bD) (iy)) (aB))) (aE cR (ag (ai 1) (aB)))))
noncomputable def fL:List D->aw->aj D:=gT 2 2 mW
theorem jT:aR ["thing", "many", "ties"] ["thing"] (av iq):=⟨rfl,rfl,rfl,by decide +kernel,rfl,by decide +kernel,by decide +kernel⟩
noncomputable def k8:MS:=bB (tJ (qi (jj (jz (mh (dZ "tuple") (ai 0)))) (nj (aC (ka true) (aE jx (ag (ai 0) (aB))) (cC (.int 2))))) (bZ (cC (.bl false))) (f6))
 (bB (bI (ai 0) (dq 2 (aZ (ak 1) (aZ (ak 2) (dr)))))
 (bZ (g5 (aE fN (ag (ai 1) (aB))) (aE fL (ag (ai 1) (ag (ai 2) (aB)))))))
noncomputable def eO:List D->aw->aj D:=gT 1 3 k8
theorem wt:aR ["web", "one", "other"] ["web", "one", "other"] (av i3):=⟨rfl,rfl,rfl,by decide +kernel,rfl,by decide +kernel,by decide +kernel⟩
noncomputable def rN:MS:=bZ (aC (qD false) (ck (ag (aE tQ (ag (ai 1) (ag (ai 2) (aB)))) (ag (aE qh (ag (ai 1) (ag (ai 2) (aB)))) (aB)))) (aC cq (ai 0) (cC (.int 1))))
noncomputable def gX:List D->aw->aj D:=gT 3 3 rN
theorem pX:aR ["ties", "front"] ["ties", "front"] (av cL):=⟨rfl,rfl,rfl,by decide +kernel,rfl,by decide +kernel,by decide +kernel⟩
theorem iS:(["a", "b", "front"]:List Str).Nodup:=by decide +kernel
theorem iR:(["a", "b", "front"]:List Str).Nodup:=by decide +kernel
noncomputable def jo:ME:=ai 1
noncomputable def gx:MT:=nj (aC (qD false) (ai 0) (ai 2))
noncomputable def jn:ME:=ai 0
noncomputable def gv:MT:=nj (aC (qD false) (ai 1) (ai 2))
noncomputable def kH:MS:=bZ (aC cH (d0 (iD (ai 0)) [none,none,some 1] (dq 2 (aZ (ak 0) (aZ (ak 1) (dr)))) (gx) (jo)) (d0 (iD (ai 0)) [none,none,some 1] (dq 2 (aZ (ak 0) (aZ (ak 1) (dr)))) (gv) (jn)))
noncomputable def eu:List D->aw->aj D:=gT 2 2 kH
theorem bV:aR ["web", "start", "many", "ties", "fars", "far", "front", "place"] ["web", "start"] (av e9):=⟨rfl,rfl,rfl,by decide +kernel,rfl,by decide +kernel,by decide +kernel⟩
theorem p9:(["place", "fars"]:List Str).Nodup:=by decide +kernel
noncomputable def kG:ME:=ai 0
noncomputable def iE:MT:=nj (aC (zX false) (aC cq (ai 1) (ai 0)) (cC .non))
noncomputable def d8:MS:=bI (ai 5) (kz (ai 4) (ai 7))
noncomputable def d7:MS:=bB (zS 5 ub (cC (.int 1)))
 (bB (bI (d0 (iD (aE eu (ag (ai 3) (ag (ai 6) (aB))))) [none,some 4] (ak 0) (iE) (kG)) (ak 6))
 (kq (iD (ai 6)) (ak 7) d8))
noncomputable def nH:MS:=bB (bI (ai 0) (dq 2 (aZ (ak 2) (aZ (ak 3) (dr)))))
 (bB (bI (aC kr (fC (ag (cC .non) (aB))) (ai 2)) (ak 4))
 (bB (bI (cC (.int 0)) (kz (ai 4) (ai 1)))
 (bB (bI (cC (.int 0)) (ak 5))
 (bB (bI (fC (ag (ai 1) (aB))) (ak 6))
 (bB (rY 100 (jz (ai 6)) d7)
 (bZ (ai 4)))))))
noncomputable def gh:List D->aw->aj D:=gT 2 8 nH
theorem sR:aR ["thing"] ["thing"] (av gK):=⟨rfl,rfl,rfl,by decide +kernel,rfl,by decide +kernel,by decide +kernel⟩
noncomputable def jW:MS:=bZ (g5 (aE eO (ag (ai 0) (aB))) (g5 (aC (ka false) (aE jx (ag (aC cq (ai 0) (cC (.int 1))) (aB))) (aC ie (aC cq (ai 0) (cC (.int 0))) (cC (.int 1)))) (aC (qD true) (cC .non) (aE gh (ag (ai 0) (ag (cC (.int 0)) (aB)))))))
noncomputable def bo:List D->aw->aj D:=gT 1 1 jW
theorem qo:aR ["thing"] ["thing"] (av fT):=⟨rfl,rfl,rfl,by decide +kernel,rfl,by decide +kernel,by decide +kernel⟩
noncomputable def jc:MS:=tJ (jj (jz (aE (fun ds μ=>(bo ds μ).nox) (ag (ai 0) (aB))))) (vR "NoTree") (f6)
noncomputable def cE:List D->aw->aj D:=gT 1 1 jc
theorem kD:aR ["one", "other", "names", "last"] ["one", "other", "names"] (av d5):=⟨rfl,rfl,rfl,by decide +kernel,rfl,by decide +kernel,by decide +kernel⟩
theorem nV:(["at", "one", "last", "other", "names"]:List Str).Nodup:=by decide +kernel
noncomputable def hZ:ME:=aC (ka false) (aE gX (ag (ai 1) (ag (ai 0) (ag (ai 2) (aB))))) (aE gX (ag (ai 3) (ag (aC cq (ai 4) (ai 0)) (ag (aC cq (ai 4) (ai 2)) (aB)))))
noncomputable def l6:MS:=bB (bI (aC ie (aE jx (ag (ai 2) (aB))) (cC (.int 1))) (ak 3))
 (bZ (aE mq (ag (d0 (js jr (ag (ai 3) (aB))) [none,some 0,some 3,some 1,some 2] (ak 0) (bD) (hZ)) (aB))))
noncomputable def fe:List D->aw->aj D:=gT 3 4 l6
theorem cO:aR ["one", "other", "many", "starts", "place", "longer"] ["one", "other"] (av cM):=⟨rfl,rfl,rfl,by decide +kernel,rfl,by decide +kernel,by decide +kernel⟩
theorem iT:(["start", "name", "many"]:List Str).Nodup:=by decide +kernel
theorem nc:(["start", "one", "other"]:List Str).Nodup:=by decide +kernel
noncomputable def gC:ME:=aC cH (ai 0) (ck (ag (ai 1) (aB)))
noncomputable def gA:MT:=nj (aC (qD true) (ai 1) (ai 0))
noncomputable def eG:MB:=oU (js jr (ag (ai 2) (aB))) (ak 1) (gA) (oM (gC))
noncomputable def gB:ME:=ai 0
noncomputable def gy:MT:=jz (aE fe (ag (ai 1) (ag (ai 2) (ag (ai 0) (aB)))))
noncomputable def dc:MS:=bB (bI (mF (iD (ai 3)) [none,none,some 2] (ak 0) (bD) (eG)) (ak 5))
 (bI (d0 (iD (ai 5)) [none,some 0,some 1] (ak 0) (gy) (gB)) (ak 3))
noncomputable def fW:MS:=bB (oH (aE cE (ag (ai 0) (aB))))
 (bB (oH (aE cE (ag (ai 1) (aB))))
 (bB (bI (aC cq (ai 0) (cC (.int 0))) (ak 2))
 (bB (tJ (nj (aC (ka true) (ai 2) (aC cq (ai 1) (cC (.int 0))))) (bZ (cC .non)) (f6))
 (bB (bI (fC (ag (ck (aB)) (aB))) (ak 3))
 (bB (kq (js jr (ag (ai 2) (aB))) (ak 4) dc)
 (bZ (aE qJ (ag (ai 3) (aB)))))))))
noncomputable def bz:List D->aw->aj D:=gT 2 6 fW
theorem nP:aR ["_law_script", "_law_k"] ["_law_script", "_law_k"] (av eE):=⟨rfl,rfl,rfl,by decide +kernel,rfl,by decide +kernel,by decide +kernel⟩
noncomputable def h7:MS:=bB (tJ (nj (aC (fH .Lt) (ai 1) (aE jx (ag (ai 0) (aB))))) (bZ (aC cq (ai 0) (ai 1))) (f6))
 (bZ (cC (.int 0)))
noncomputable def dF:List D->aw->aj D:=gT 2 2 h7
theorem lW:aR ["_law_seed"] ["_law_seed"] (av gN):=⟨rfl,rfl,rfl,by decide +kernel,rfl,by decide +kernel,by decide +kernel⟩
noncomputable def nJ:MS:=bB (bI (aC tP (aC cH (ai 0) (cC (.int 7919))) (cC (.int 2147483647))) (ak 0))
 (bZ (aC tP (aC cH (aC cH (aC kr (ai 0) (ai 0)) (aC kr (cC (.int 48271)) (ai 0))) (cC (.int 12345))) (cC (.int 2147483629))))
noncomputable def eT:List D->aw->aj D:=gT 1 1 nJ
theorem j4:aR ["_law_cell", "_law_left"] ["_law_cell"] (av fj):=⟨rfl,rfl,rfl,by decide +kernel,rfl,by decide +kernel,by decide +kernel⟩
noncomputable def kI:MS:=bB (bI (aE qh (ag (ai 0) (ag (aC ie (cC (.int 0)) (ai 0)) (aB)))) (ak 1))
 (bZ (fC (ag (ai 1) (ag (aE ua (ag (aC (fH .GtE) (ai 1) (aC FN (cC (.int 10)) (cC (.int 18)))) (aB))) (ag (aC tP (ai 1) (cC (.int 1000003))) (aB))))))
noncomputable def eA:List D->aw->aj D:=gT 1 2 kI
theorem lX:aR ["_law_pen", "_law_many", "_law_found"] ["_law_pen", "_law_many"] (av gO):=⟨rfl,rfl,rfl,by decide +kernel,rfl,by decide +kernel,by decide +kernel⟩
noncomputable def j3:MS:=bB (tJ (nj (aC (ka false) (aC cq (ai 0) (cC (.int 1))) (cC (.int 1)))) (bB (bI (aC tP (aC cq (ai 0) (cC (.int 0))) (ai 1)) (ak 2))
 (bB (bI (aC uc (aC cq (ai 0) (cC (.int 0))) (ai 1)) (kz (ai 0) (cC (.int 0))))
 (bZ (ai 2)))) (f6))
 (bB (bI (aE eT (ag (aC cH (aE eT (ag (aC cq (ai 0) (cC (.int 2))) (aB))) (cC (.int 7))) (aB))) (kz (ai 0) (cC (.int 2))))
 (bZ (aC tP (aC uc (aC cq (ai 0) (cC (.int 2))) (cC (.int 64))) (ai 1))))
noncomputable def bw:List D->aw->aj D:=gT 2 3 j3
theorem qp:aR ["_law_found"] ["_law_found"] (av fU):=⟨rfl,rfl,rfl,by decide +kernel,rfl,by decide +kernel,by decide +kernel⟩
noncomputable def tG:MS:=bZ (g5 (mh (dZ "int") (ai 0)) (ud (mh (dZ "bool") (ai 0))))
noncomputable def gS:List D->aw->aj D:=gT 1 1 tG
theorem gu:aR ["_law_e", "_law_marks"] ["_law_e"] (av eD):=⟨rfl,rfl,rfl,by decide +kernel,rfl,by decide +kernel,by decide +kernel⟩
noncomputable def j9:MS:=bB (bI (fC (ag (mh (kL [] ["NoTree"]) (ai 0)) (ag (mh (kL [] ["NoTree"]) (ai 0)) (ag (mh (kL [] ["NoTree"]) (ai 0)) (ag (mh (kL [] ["NoTree"]) (ai 0)) (aB)))))) (ak 1))
 (bB (bI (aC cH (ai 1) (fC (ag (mh (kL ["NoTree"] ["NoTree"]) (ai 0)) (ag (mh (kL [] ["NoTree"]) (ai 0)) (ag (mh (kL [] ["NoTree"]) (ai 0)) (ag (mh (kL [] ["NoTree"]) (ai 0)) (aB))))))) (ak 1))
 (bB (tJ (qi (jj (jz (mh (kL ["NoTree"] ["NoTree"]) (ai 0)))) (nj (aC (ka true) (zO ki (ai 1) (ag (cC (.bl true)) (aB))) (cC (.int 1))))) (bZ (cC (.str "other"))) (f6))
 (bZ (aC cq (fC (ag (cC (.str "place")) (ag (cC (.str "number")) (ag (cC (.str "line")) (ag (cC (.str "root")) (ag (cC (.str "tree")) (ag (cC (.str "web")) (ag (cC (.str "text")) (ag (cC (.str "great")) (aB)))))))))) (zO kh (ai 1) (ag (cC (.bl true)) (aB)))))))
noncomputable def dE:List D->aw->aj D:=gT 1 2 j9
theorem kE:aR ["_law_web", "_law_names", "_law_ties"] ["_law_web", "_law_names"] (av dg):=⟨rfl,rfl,rfl,by decide +kernel,rfl,by decide +kernel,by decide +kernel⟩
theorem jk:(["_law_one", "_law_other", "_law_names"]:List Str).Nodup:=by decide +kernel
theorem nW:(["_law_tie"]:List Str).Nodup:=by decide +kernel
noncomputable def fu:ME:=ck (ag (aC cq (ai 2) (ai 0)) (ag (aC cq (ai 2) (ai 1)) (aB)))
noncomputable def fq:ME:=ck (ag (aE tQ (ag (ai 0) (aB))) (ag (aE qh (ag (ai 0) (aB))) (aB)))
noncomputable def l7:MS:=bB (bI (d0 (iD (aC cq (ai 0) (cC (.int 1)))) [none,none,some 1] (dq 2 (aZ (ak 0) (aZ (ak 1) (dr)))) (bD) (fu)) (ak 2))
 (bZ (ck (ag (aC cq (ai 0) (cC (.int 0))) (ag (aE iX (ag (aE gI (ag (aE rT (ag (d0 (iD (ai 2)) [none] (ak 0) (bD) (fq)) (aB))) (aB))) (aB))) (aB)))))
noncomputable def bN:List D->aw->aj D:=gT 2 3 l7
theorem iQ:aR ["_law_pen", "_law_many", "_law_left"] ["_law_pen", "_law_many"] (av cP):=⟨rfl,rfl,rfl,by decide +kernel,rfl,by decide +kernel,by decide +kernel⟩
theorem lb:(["_law_place", "_law_left", "_law_pen"]:List Str).Nodup:=by decide +kernel
noncomputable def dw:ME:=zO oW (ai 1) (ag (aE bw (ag (ai 2) (ag (aE jx (ag (ai 1) (aB))) (aB)))) (aB))
noncomputable def jq:MS:=bB (bI (aE mE (ag (ai 1) (aB))) (ak 2))
 (bZ (aE iX (ag (d0 (js jr (ag (ai 1) (aB))) [none,some 2,some 0] (ak 0) (bD) (dw)) (aB))))
noncomputable def bE:List D->aw->aj D:=gT 2 3 jq
theorem cB:aR ["_law_web", "_law_many", "_law_far_here", "_law_place", "_law_size", "_law_one", "_law_other", "_law_a", "_law_b"] ["_law_web"] (av gb):=⟨rfl,rfl,rfl,by decide +kernel,rfl,by decide +kernel,by decide +kernel⟩
theorem qy:(["_law_place", "_law_many"]:List Str).Nodup:=by decide +kernel
noncomputable def fg:ME:=aC kr (fC (ag (cC .non) (aB))) (ai 1)
noncomputable def jb:MS:=tJ (qK (nj (aC (ka false) (aC cq (aC cq (ai 2) (ai 3)) (ai 7)) (aC ie (ai 4) (cC (.int 1))))) (nj (aC (zX false) (aC cq (aC cq (ai 2) (ai 3)) (ai 8)) (cC .non)))) (bI (ai 4) (kz (aC cq (ai 2) (ai 3)) (ai 8))) (f6)
noncomputable def gR:MS:=kq (iD (fC (ag (ck (ag (ai 5) (ag (ai 6) (aB)))) (ag (ck (ag (ai 6) (ag (ai 5) (aB)))) (aB))))) (dq 2 (aZ (ak 7) (aZ (ak 8) (dr)))) jb
noncomputable def gQ:MS:=kq (iD (aC cq (ai 0) (cC (.int 1)))) (dq 2 (aZ (ak 5) (aZ (ak 6) (dr)))) gR
noncomputable def gP:MS:=bB (bI (cC (.int 0)) (kz (aC cq (ai 2) (ai 3)) (ai 3)))
 (kq (js tN (ag (cC (.int 1)) (ag (ai 1) (aB)))) (ak 4) gQ)
noncomputable def pV:MS:=bB (bI (aC cq (ai 0) (cC (.int 0))) (ak 1))
 (bB (bI (d0 (js jr (ag (ai 1) (aB))) [none,some 1] (ak 0) (bD) (fg)) (ak 2))
 (bB (kq (js jr (ag (ai 1) (aB))) (ak 3) gP)
 (bZ (ai 2))))
noncomputable def fP:List D->aw->aj D:=gT 1 9 pV
theorem gr:aR ["_law_pen", "_law_many", "_law_ties"] ["_law_pen"] (av c8):=⟨rfl,rfl,rfl,by decide +kernel,rfl,by decide +kernel,by decide +kernel⟩
theorem ma:(["_law_place", "_law_pen"]:List Str).Nodup:=by decide +kernel
noncomputable def dP:ME:=ck (ag (aE bw (ag (ai 1) (ag (ai 0) (aB)))) (ag (ai 0) (aB)))
noncomputable def j7:MS:=bB (bI (aC cH (cC (.int 1)) (aE bw (ag (ai 0) (ag (cC (.int 6)) (aB))))) (ak 1))
 (bB (bI (d0 (js tN (ag (cC (.int 1)) (ag (ai 1) (aB)))) [none,some 0] (ak 0) (bD) (dP)) (ak 2))
 (bZ (aE bN (ag (ck (ag (ai 1) (ag (aE iX (ag (ai 2) (aB))) (aB)))) (ag (aE bE (ag (ai 0) (ag (ai 1) (aB)))) (aB))))))
noncomputable def cc:List D->aw->aj D:=gT 1 3 j7
theorem cu:aR ["_law_pen", "_law_web", "_law_many", "_law_ties", "_law_spot", "_law_some"] ["_law_pen", "_law_web"] (av eC):=⟨rfl,rfl,rfl,by decide +kernel,rfl,by decide +kernel,by decide +kernel⟩
noncomputable def j8:MS:=bB (bI (ai 1) (dq 2 (aZ (ak 2) (aZ (ak 3) (dr)))))
 (bB (bI (aE bw (ag (ai 0) (ag (aC cH (aE jx (ag (ai 3) (aB))) (cC (.int 1))) (aB)))) (ak 4))
 (bB (bI (fC (ag (ck (ag (ai 2) (ag (aC cH (E1 (ai 3) (FE) (lC (ai 4))) (E1 (ai 3) (lC (aC cH (ai 4) (cC (.int 1)))) (FE))) (aB)))) (ag (ck (ag (ai 2) (ag (aC cH (aC qI (ai 3) (mh ye (cC (.int 1)))) (ck (ag (ck (ag (cC (.int 0)) (ag (ai 2) (aB)))) (aB)))) (aB)))) (ag (ck (ag (aC cH (ai 2) (cC (.int 1))) (ag (ai 3) (aB)))) (ag (fC (ag (ai 2) (ag (ai 3) (aB)))) (aB)))))) (ak 5))
 (bB (bI (aC cH (ai 5) (fC (ag (ck (ag (ai 2) (ag (aE nq (ag (ai 3) (aB))) (aB)))) (ag (cC .non) (ag (cC (.int 0)) (ag (ck (aB)) (ag (zY) (ag (cC (.str "tree")) (ag (ck (ag (cC (.int 3)) (ag (ck (ag (ck (ag (cC (.int 0)) (ag (cC (.int 1)) (aB)))) (ag (ck (ag (cC (.int 0)) (ag (cC (.int 2)) (aB)))) (ag (ck (ag (cC (.int 1)) (ag (cC (.int 2)) (aB)))) (aB))))) (aB)))) (aB)))))))))) (ak 5))
 (bB (oH (zO fS (ai 5) (ag (ck (ag (cC (.int 4)) (ag (ck (ag (ck (ag (cC (.int 0)) (ag (cC (.int 1)) (aB)))) (ag (ck (ag (cC (.int 0)) (ag (cC (.int 2)) (aB)))) (ag (ck (ag (cC (.int 1)) (ag (cC (.int 2)) (aB)))) (aB))))) (aB)))) (aB))))
 (bZ (aC cq (ai 5) (aE bw (ag (ai 0) (ag (cC (.int 12)) (aB))))))))))
noncomputable def dD:List D->aw->aj D:=gT 2 6 j8
theorem nO:aR ["_law_thing"] ["_law_thing"] (av c9):=⟨rfl,rfl,rfl,by decide +kernel,rfl,by decide +kernel,by decide +kernel⟩
theorem iz:(["_law_one", "_law_other", "_law_thing"]:List Str).Nodup:=by decide +kernel
noncomputable def dQ:ME:=ot (fH .LtE) (fH .Lt) (fH .Lt) (cC (.int 0)) (ai 0) (ai 1) (aC cq (ai 2) (cC (.int 0)))
noncomputable def dG:MS:=bB (tJ (qi (jj (jz (mh (dZ "tuple") (ai 0)))) (qi (nj (aC (ka true) (aE jx (ag (ai 0) (aB))) (cC (.int 2)))) (qi (jj (jz (aE gS (ag (aC cq (ai 0) (cC (.int 0))) (aB))))) (jj (nj (jI (fH .LtE) (fH .LtE) (cC (.int 1)) (aC cq (ai 0) (cC (.int 0))) (cC (.int 6)))))))) (bZ (cC (.bl false))) (f6))
 (bB (tJ (qi (jj (jz (mh (dZ "tuple") (aC cq (ai 0) (cC (.int 1)))))) (qi (nj (aC (ka true) (aE jx (ag (aC cq (ai 0) (cC (.int 1))) (aB))) (aC ie (aC cq (ai 0) (cC (.int 0))) (cC (.int 1))))) (nj (aC (ka true) (aE nq (ag (aC cq (ai 0) (cC (.int 1))) (aB))) (aE gI (ag (aE rT (ag (aC cq (ai 0) (cC (.int 1))) (aB))) (aB))))))) (bZ (cC (.bl false))) (f6))
 (bB (tJ (jj (jz (aE mq (ag (d0 (iD (aC cq (ai 0) (cC (.int 1)))) [none,none,some 0] (dq 2 (aZ (ak 0) (aZ (ak 1) (dr)))) (bD) (dQ)) (aB))))) (bZ (cC (.bl false))) (f6))
 (bZ (aC (qD true) (cC .non) (aC cq (aE fP (ag (ai 0) (aB))) (cC (.int 0)))))))
noncomputable def aU:List D->aw->aj D:=gT 1 1 dG
theorem sU:aR ["_law_web", "_law_one", "_law_other"] ["_law_web", "_law_one", "_law_other"] (av gM):=⟨rfl,rfl,rfl,by decide +kernel,rfl,by decide +kernel,by decide +kernel⟩
noncomputable def nI:MS:=bZ (aC (qD false) (ck (ag (aE tQ (ag (ai 1) (ag (ai 2) (aB)))) (ag (aE qh (ag (ai 1) (ag (ai 2) (aB)))) (aB)))) (aC cq (ai 0) (cC (.int 1))))
noncomputable def eS:List D->aw->aj D:=gT 3 3 nI
theorem bY:aR ["_law_web", "_law_other", "_law_ways", "_law_at", "_law_longer", "_law_way", "_law_place", "_law_alike"] ["_law_web", "_law_other"] (av d6):=⟨rfl,rfl,rfl,by decide +kernel,rfl,by decide +kernel,by decide +kernel⟩
theorem nX:(["_law_k", "_law_web", "_law_at", "_law_other", "_law_place", "_law_way"]:List Str).Nodup:=by decide +kernel
noncomputable def fv:ME:=aC (ka false) (aE eS (ag (ai 1) (ag (ai 0) (ag (ai 2) (aB))))) (aE eS (ag (ai 3) (ag (aC cq (ai 5) (ai 0)) (ag (ai 4) (aB)))))
noncomputable def fm:MS:=bB (bI (d0 (js jr (ag (ai 3) (aB))) [none,some 0,some 3,some 1,some 6,some 5] (ak 0) (bD) (fv)) (ak 7))
 (tJ (qK (nj (aC (qD true) (ai 6) (ai 5))) (jz (aE mq (ag (ai 7) (aB))))) (oH (zO fS (ai 4) (ag (aC cH (ai 5) (ck (ag (ai 6) (aB)))) (aB)))) (f6))
noncomputable def fk:MS:=kq (js jr (ag (aC cq (ai 0) (cC (.int 0))) (aB))) (ak 6) fm
noncomputable def dC:MS:=bB (bI (fC (aB)) (ak 4))
 (bB (kq (iD (ai 2)) (ak 5) fk)
 (bI (ai 4) (ak 2)))
noncomputable def l9:MS:=bB (tJ (nj (aC (ka true) (aC cq (ai 0) (cC (.int 0))) (aC cq (ai 1) (cC (.int 0))))) (bZ (cC .non)) (f6))
 (bB (bI (fC (ag (ck (aB)) (aB))) (ak 2))
 (bB (kq (js jr (ag (aC cq (ai 0) (cC (.int 0))) (aB))) (ak 3) dC)
 (bZ (aC cq (aC cH (ai 2) (fC (ag (cC .non) (aB)))) (cC (.int 0))))))
noncomputable def ff:List D->aw->aj D:=gT 2 8 l9
theorem lV:aR ["_law_web", "_law_other", "_law_e"] ["_law_web", "_law_other"] (av gL):=⟨rfl,rfl,rfl,by decide +kernel,rfl,by decide +kernel,by decide +kernel⟩
noncomputable def d9:MS:=bZ (aE bz (ag (ai 0) (ag (ai 1) (aB))))
noncomputable def iF:MS:=bZ (aE dE (ag (ai 2) (aB)))
noncomputable def jZ:MS:=zR ["NoTree"] 2 3 d9 iF
noncomputable def bX:List D->aw->aj D:=gT 2 3 jZ
theorem jG:aR ["_law_script", "_law_cell", "_law_pen", "_law_web", "_law_other", "_law_turn", "_law_thing", "_law_told_here"] ["_law_script"] (av kN):=⟨rfl,rfl,rfl,by decide +kernel,rfl,by decide +kernel,by decide +kernel⟩
noncomputable def oy:MS:=tJ (nj (aC (yf true) (aE kQ (ag (aE bX (ag (ai 3) (ag (ai 4) (aB)))) (aB))) (aE kQ (ag (aE ff (ag (ai 3) (ag (ai 4) (aB)))) (aB))))) (bZ (cC (.bl false))) (f6)
noncomputable def lK:MS:=bB (bI (aE dD (ag (ai 2) (ag (ai 3) (aB)))) (ak 6))
 (bB (bI (fC (ag (aE bX (ag (ai 6) (ag (ai 3) (aB)))) (ag (aE bX (ag (ai 3) (ag (ai 6) (aB)))) (ag (aE bX (ag (ai 6) (ag (ai 6) (aB)))) (aB))))) (ak 7))
 (tJ (qK (jj (jz (aE aU (ag (ai 6) (aB))))) (nj (aC (ka true) (ai 7) (aC kr (fC (ag (cC (.str "tree")) (aB))) (cC (.int 3)))))) (bZ (cC (.bl false))) (f6)))
noncomputable def ou:MS:=bB (bI (aE eA (ag (ai 1) (aB))) (ak 2))
 (bB (bI (aE cc (ag (ai 2) (aB))) (ak 3))
 (bB (kq (iD (fC (ag (aE bN (ag (ai 3) (ag (aE bE (ag (ai 2) (ag (aC cq (ai 3) (cC (.int 0))) (aB)))) (aB)))) (ag (aE cc (ag (ai 2) (aB))) (ag (ai 3) (aB)))))) (ak 4) oy)
 (kq (js jr (ag (cC (.int 3)) (aB))) (ak 5) lK)))
noncomputable def FC:MS:=bB (kq (iD (aC cH (fC (ag (aE dF (ag (ai 0) (ag (cC (.int 0)) (aB)))) (aB))) (E1 (ai 0) (lC (cC (.int 1))) (lC (cC (.int 5)))))) (ak 1) ou)
 (bZ (cC (.bl true)))
noncomputable def ui:List D->aw->aj D:=gT 1 8 FC
theorem vg (nm:Nm mg) {f:Addr}{fd:FuncData} (F:gk K "is_whole" "is_whole" ir f fd) (hm:mg "is_whole" = some (.ref f)):dR P w K mg base (dH K w) 1 "is_whole" 1 cZ:=
 cv F vd rfl hm (F.b1 (by rfl) fun _ _ _ _ _ _ _=>by rfl) fun cdv A outer s H E hr=>
 aX (bt (jf (lz (T:="int") (by decide) A1 (by decide) (by decide) nm.isinstance nm.int (aI 0)) (ly (E3 (lz (T:="bool") (by decide) xY (by decide) (by decide) nm.isinstance nm.bool (aI 0))))))
theorem m7 (nm:Nm mg) {f:Addr}{fd:FuncData} (F:gk K "is_whole_from" "is_whole_from" dO f fd) (hm:mg "is_whole_from" = some (.ref f)) (d_is_whole:dR P w K mg base (dH K w) 1 "is_whole" 1 cZ):dR P w K mg base (dH K w) 2 "is_whole_from" 3 bg:=
 cv F m5 rfl hm (F.b3 (by rfl) fun _ _ _ _ _ _ _ _ _=>by rfl) fun cdv A outer s H E hr=>
 aX (bt (jf (bb d_is_whole (hr.mono (by decide)) (aL (aI 0) (bp))) (ly (Jn (jD (op:=.LtE) hr.units) (jD (op:=.LtE) hr.units) (aI 1) (aI 0) (aI 2)))))
theorem vh (nm:Nm mg) {f:Addr}{fd:FuncData} (F:gk K "is_place" "is_place" iu f fd) (hm:mg "is_place" = some (.ref f)) (d_is_whole_from:dR P w K mg base (dH K w) 2 "is_whole_from" 3 bg):dR P w K mg base (dH K w) 3 "is_place" 2 eP:=
 cv F ve rfl hm (F.b2 (by rfl) fun _ _ _ _ _ _ _ _=>by rfl) fun cdv A outer s H E hr=>
 aX (bt (bb d_is_whole_from (hr.mono (by decide)) (aL (aI 1) (aL (bS) (aL (oF (aI 0) (bS)) (bp))))))
theorem sX (nm:Nm mg) {f:Addr}{fd:FuncData} (F:gk K "is_places" "is_places" eZ f fd) (hm:mg "is_places" = some (.ref f)) (d_is_place:dR P w K mg base (dH K w) 3 "is_place" 2 eP):dR P w K mg base (dH K w) 4 "is_places" 2 cS:=
 cv F sT rfl hm (F.b2 (by rfl) fun _ _ _ _ _ _ _ _=>by rfl) fun cdv A outer s H E hr=>
 aX (bt (jf (lz (T:="tuple") (by decide) jS (by decide) (by decide) nm.isinstance nm.tuple (aI 1)) (ly (bO qL nm.all (aL (iU (cJ (N:=["many", "thing"]) (sc:=av eZ) (Nc:=["place", "many"]) (cap:=[none,some 0]) rfl rfl (by decide +kernel)) (vA (aI 1)) (fun _ _ _ _ _=>iH 0 p8) (fun _ _ _ _ _=>jd) (fun _ _ _ _ _=>bb d_is_place (hr.mono (by decide)) (aL (aI 1) (aL (aI 0) (bp))))) (bp))))))
theorem sW (nm:Nm mg) {f:Addr}{fd:FuncData} (F:gk K "is_rising" "is_rising" eY f fd) (hm:mg "is_rising" = some (.ref f)):dR P w K mg base (dH K w) 1 "is_rising" 1 cR:=
 cv F sS rfl hm (F.b1 (by rfl) fun _ _ _ _ _ _ _=>by rfl) fun cdv A outer s H E hr=>
 aX (bt (bO qL nm.all (aL (iU (cJ (N:=["things"]) (sc:=av eY) (Nc:=["at", "things"]) (cap:=[none,some 0]) rfl rfl (by decide +kernel)) (FL nm.range (aL (bS) (aL (bO kA nm.len (aL (aI 0) (bp))) (bp)))) (fun _ _ _ _ _=>iH 0 p7) (fun _ _ _ _ _=>jd) (fun _ _ _ _ _=>jg (jD (op:=.Lt) hr.units) (bP (aI 1) (oF (aI 0) (bS))) (bP (aI 1) (aI 0)))) (bp))))
theorem wH (nm:Nm mg) {f:Addr}{fd:FuncData} (F:gk K "is_many" "is_many" i6 f fd) (hm:mg "is_many" = some (.ref f)) (c_MOST_PLACES:∃ t,mg "MOST_PLACES" = some (.int 6 t)) (d_is_whole_from:dR P w K mg base (dH K w) 2 "is_whole_from" 3 bg):dR P w K mg base (dH K w) 3 "is_many" 1 fN:=
 cv F wx rfl hm (F.b1 (by rfl) fun _ _ _ _ _ _ _=>by rfl) fun cdv A outer s H E hr=>
 aX (bt (bb d_is_whole_from (hr.mono (by decide)) (aL (aI 0) (aL (bS) (aL (KB c_MOST_PLACES) (bp))))))
theorem wG (nm:Nm mg) {f:Addr}{fd:FuncData} (F:gk K "is_pair" "is_pair" i4 f fd) (hm:mg "is_pair" = some (.ref f)) (d_is_places:dR P w K mg base (dH K w) 4 "is_places" 2 cS):dR P w K mg base (dH K w) 5 "is_pair" 2 fM:=
 cv F wu rfl hm (F.b2 (by rfl) fun _ _ _ _ _ _ _ _=>by rfl) fun cdv A outer s H E hr=>
 aX (bt (jf (bb d_is_places (hr.mono (by decide)) (aL (aI 0) (aL (aI 1) (bp)))) (jf (jg (yd hr.units) (bO kA nm.len (aL (aI 1) (bp))) (bS)) (ly (jg (rR hr.units) (bP (aI 1) (bS)) (bP (aI 1) (bS)))))))
theorem yX (nm:Nm mg) {f:Addr}{fd:FuncData} (F:gk K "is_tie" "is_tie" kj f fd) (hm:mg "is_tie" = some (.ref f)) (d_is_pair:dR P w K mg base (dH K w) 5 "is_pair" 2 fM):dR P w K mg base (dH K w) 6 "is_tie" 2 hW:=
 cv F yI rfl hm (F.b2 (by rfl) fun _ _ _ _ _ _ _ _=>by rfl) fun cdv A outer s H E hr=>
 aX (bt (jf (bb d_is_pair (hr.mono (by decide)) (aL (aI 0) (aL (aI 1) (bp)))) (ly (jg (jD (op:=.Lt) hr.units) (bP (aI 1) (bS)) (bP (aI 1) (bS))))))
theorem wD (nm:Nm mg) {f:Addr}{fd:FuncData} (F:gk K "is_ties" "is_ties" hX f fd) (hm:mg "is_ties" = some (.ref f)) (d_is_tie:dR P w K mg base (dH K w) 6 "is_tie" 2 hW) (d_is_rising:dR P w K mg base (dH K w) 1 "is_rising" 1 cR):dR P w K mg base (dH K w) 7 "is_ties" 2 fL:=
 cv F wq rfl hm (F.b2 (by rfl) fun _ _ _ _ _ _ _ _=>by rfl) fun cdv A outer s H E hr=>
 aX (bt (jf (lz (T:="tuple") (by decide) jS (by decide) (by decide) nm.isinstance nm.tuple (aI 1)) (jf (bO qL nm.all (aL (iU (cJ (N:=["many", "thing"]) (sc:=av hX) (Nc:=["tie", "many"]) (cap:=[none,some 0]) rfl rfl (by decide +kernel)) (vA (aI 1)) (fun _ _ _ _ _=>iH 0 tq) (fun _ _ _ _ _=>jd) (fun _ _ _ _ _=>bb d_is_tie (hr.mono (by decide)) (aL (aI 1) (aL (aI 0) (bp))))) (bp))) (ly (bb d_is_rising (hr.mono (by decide)) (aL (aI 1) (bp)))))))
theorem vf (nm:Nm mg) {f:Addr}{fd:FuncData} (F:gk K "web_good" "web_good" iq f fd) (hm:mg "web_good" = some (.ref f)) (d_is_many:dR P w K mg base (dH K w) 3 "is_many" 1 fN) (d_is_ties:dR P w K mg base (dH K w) 7 "is_ties" 2 fL):dR P w K mg base (dH K w) 8 "web_good" 1 eO:=
 cv F jT rfl hm (F.b1 (by rfl) fun _ _ _ _ _ _ _=>by rfl) fun cdv A outer s H E hr=>
 aQ (lj (vH (vJ (lx (zM (lz (T:="tuple") (by decide) jS (by decide) (by decide) nm.isinstance nm.tuple (aI 0)))) (xh (fF (rR hr.units) (bO kA nm.len (aL (aI 0) (bp))) (bS))))) (aX (bt (CC))) (ij))
 (aQ (lA (aI 0) (lE (dh (iH 1 jT.nd) (dh (iH 2 jT.nd) (lF)))))
 (aX (bt (jf (bb d_is_many (hr.mono (by decide)) (aL (aI 1) (bp))) (ly (bb d_is_ties (hr.mono (by decide)) (aL (aI 1) (aL (aI 2) (bp)))))))))
theorem wF (nm:Nm mg) {f:Addr}{fd:FuncData} (F:gk K "is_tied" "is_tied" i3 f fd) (hm:mg "is_tied" = some (.ref f)):dR P w K mg base (dH K w) 1 "is_tied" 3 gX:=
 cv F wt rfl hm (F.b3 (by rfl) fun _ _ _ _ _ _ _ _ _=>by rfl) fun cdv A outer s H E hr=>
 aX (bt (jg (CP hr.units) (cg (aL (bO Aq nm.min (aL (aI 1) (aL (aI 2) (bp)))) (aL (bO xm nm.max (aL (aI 1) (aL (aI 2) (bp)))) (bp)))) (bP (aI 0) (bS))))
theorem pY (nm:Nm mg) {f:Addr}{fd:FuncData} (F:gk K "next_places" "next_places" cL f fd) (hm:mg "next_places" = some (.ref f)):dR P w K mg base (dH K w) 1 "next_places" 2 eu:=
 cv F pX rfl hm (F.b2 (by rfl) fun _ _ _ _ _ _ _ _=>by rfl) fun cdv A outer s H E hr=>
 aX (bt (fZ (iU (cJ (N:=["ties", "front"]) (sc:=av cL) (Nc:=["a", "b", "front"]) (cap:=[none,none,some 1]) rfl rfl (by decide +kernel)) (vA (aI 0)) (fun _ _ _ _ _=>lE (dh (iH 0 iS) (dh (iH 1 iS) (lF)))) (fun _ _ _ _ _=>tW (fF (CP hr.units) (aI 0) (aI 2))) (fun _ _ _ _ _=>aI 1)) (iU (cJ (N:=["ties", "front"]) (sc:=av cL) (Nc:=["a", "b", "front"]) (cap:=[none,none,some 1]) rfl rfl (by decide +kernel)) (vA (aI 0)) (fun _ _ _ _ _=>lE (dh (iH 0 iR) (dh (iH 1 iR) (lF)))) (fun _ _ _ _ _=>tW (fF (CP hr.units) (aI 1) (aI 2))) (fun _ _ _ _ _=>aI 0))))
theorem sY (nm:Nm mg) {f:Addr}{fd:FuncData} (F:gk K "fars_from" "fars_from" e9 f fd) (hm:mg "fars_from" = some (.ref f)) (d_next_places:dR P w K mg base (dH K w) 1 "next_places" 2 eu):dR P w K mg base (dH K w) 2 "fars_from" 2 gh:=
 cv F bV rfl hm (F.b2 (by rfl) fun _ _ _ _ _ _ _ _=>by rfl) fun cdv A outer s H E hr=>
 aQ (lA (aI 0) (lE (dh (iH 2 bV.nd) (dh (iH 3 bV.nd) (lF)))))
 (aQ (dj 4 bV.nd (tX (eU (aL (Ct) (bp))) (aI 2)))
 (aQ (lA (bS) (qH (aI 4) (aI 1)))
 (aQ (dj 5 bV.nd (bS))
 (aQ (dj 6 bV.nd (eU (aL (aI 1) (bp))))
 (aQ (DB 100 PZ (zM (aI 6)) (aQ (JF 5 bV.nd (bS))
 (aQ (mx 6 bV.nd (cJ (N:=["web", "start", "many", "ties", "fars", "far", "front", "place"]) (sc:=av e9) (Nc:=["place", "fars"]) (cap:=[none,some 4]) rfl rfl (by decide +kernel)) (vA (bb d_next_places (hr.mono (by decide)) (aL (aI 3) (aL (aI 6) (bp))))) (fun _ _ _ _ _=>iH 0 p9) (fun _ _ _ _ _=>tW (fF (Fq) (bP (aI 1) (aI 0)) (Ct))) (fun _ _ _ _ _=>aI 0))
 (aX (jh PZ (vA (aI 6)) (iH 7 bV.nd) (aX (lA (aI 5) (qH (aI 4) (aI 7)))))))))
 (aX (bt (aI 4))))))))
theorem sV (nm:Nm mg) {f:Addr}{fd:FuncData} (F:gk K "tree_good" "tree_good" gK f fd) (hm:mg "tree_good" = some (.ref f)) (d_web_good:dR P w K mg base (dH K w) 8 "web_good" 1 eO) (d_fars_from:dR P w K mg base (dH K w) 2 "fars_from" 2 gh):dR P w K mg base (dH K w) 9 "tree_good" 1 bo:=
 cv F sR rfl hm (F.b1 (by rfl) fun _ _ _ _ _ _ _=>by rfl) fun cdv A outer s H E hr=>
 aX (bt (jf (bb d_web_good (hr.mono (by decide)) (aL (aI 0) (bp))) (jf (jg (yd hr.units) (bO kA nm.len (aL (bP (aI 0) (bS)) (bp))) (oF (bP (aI 0) (bS)) (bS))) (ly (jg (xj hr.units) (Ct) (bb d_fars_from (hr.mono (by decide)) (aL (aI 0) (aL (bS) (bp)))))))))
theorem qu (nm:Nm mg) {f:Addr}{fd:FuncData} (F:gk K "check_tree" "check_tree" fT f fd) (hm:mg "check_tree" = some (.ref f)) {a_NoTree:Addr} (k_NoTree:W.nsIn K mainGlobals "NoTree" = some (some (.ref a_NoTree))) (o_NoTree:yh mg base "NoTree" a_NoTree) (d_tree_good:dR P w K mg base (dH K w) 9 "tree_good" 1 bo):yk P w K mg base 10 "check_tree" 1 cE:=
 Av F qo rfl hm (F.b1 (by rfl) fun _ _ _ _ _ _ _=>by rfl) fun cdv A outer s H E hr=>
 aX (lj (lx (zM (C4 d_tree_good (hr.mono (by decide)) (aL (aI 0) (bp))))) (aX (CY k_NoTree o_NoTree)) (ij))
theorem qt (nm:Nm mg) {f:Addr}{fd:FuncData} (F:gk K "keeps_last" "keeps_last" d5 f fd) (hm:mg "keeps_last" = some (.ref f)) (d_is_tied:dR P w K mg base (dH K w) 1 "is_tied" 3 gX):dR P w K mg base (dH K w) 2 "keeps_last" 3 fe:=
 cv F kD rfl hm (F.b3 (by rfl) fun _ _ _ _ _ _ _ _ _=>by rfl) fun cdv A outer s H E hr=>
 aQ (dj 3 kD.nd (oF (bO kA nm.len (aL (aI 2) (bp))) (bS)))
 (aX (bt (bO qL nm.all (aL (iU (cJ (N:=["one", "other", "names", "last"]) (sc:=av d5) (Nc:=["at", "one", "last", "other", "names"]) (cap:=[none,some 0,some 3,some 1,some 2]) rfl rfl (by decide +kernel)) (qg nm.range (aL (aI 3) (bp))) (fun _ _ _ _ _=>iH 0 nV) (fun _ _ _ _ _=>jd) (fun _ _ _ _ _=>jg (yd hr.units) (bb d_is_tied (hr.mono (by decide)) (aL (aI 1) (aL (aI 0) (aL (aI 2) (bp))))) (bb d_is_tied (hr.mono (by decide)) (aL (aI 3) (aL (bP (aI 4) (aI 0)) (aL (bP (aI 4) (aI 2)) (bp))))))) (bp)))))
theorem pZ (nm:Nm mg) {f:Addr}{fd:FuncData} (F:gk K "alike_trees" "alike_trees" cM f fd) (hm:mg "alike_trees" = some (.ref f)) (d_check_tree:yk P w K mg base 10 "check_tree" 1 cE) (d_keeps_last:dR P w K mg base (dH K w) 2 "keeps_last" 3 fe):yk P w K mg base 11 "alike_trees" 2 bz:=
 Av F cO rfl hm (F.b2 (by rfl) fun _ _ _ _ _ _ _ _=>by rfl) fun cdv A outer s H E hr=>
 aQ (rX (sj d_check_tree Fh (hr.mono (by decide)) (aL (aI 0) (bp))))
 (aQ (rX (sj d_check_tree Fh (hr.mono (by decide)) (aL (aI 1) (bp))))
 (aQ (dj 2 cO.nd (bP (aI 0) (bS)))
 (aQ (lj (fF (rR hr.units) (aI 2) (bP (aI 1) (bS))) (aX (bt (Ct))) (ij))
 (aQ (dj 3 cO.nd (eU (aL (cg (bp)) (bp))))
 (aQ (jh PassesOwn.leaving (qg nm.range (aL (aI 2) (bp))) (iH 4 cO.nd) (aQ (DC 5 cO.nd (cJ (N:=["one", "other", "many", "starts", "place", "longer"]) (sc:=av cM) (Nc:=["start", "name", "many"]) (cap:=[none,none,some 2]) rfl rfl (by decide +kernel)) (vA (aI 3)) (fun _ _ _ _ _=>iH 0 iT) (fun _ _ _ _ _=>jd) (fun _ _ _ _ _ _=>K7 rfl (qg nm.range (aL (aI 2) (bp))) (iH 1 iT) (tW (fF (xj hr.units) (aI 1) (aI 0))) (K8 rfl (fZ (aI 0) (cg (aL (aI 1) (bp)))))))
 (aX (mx 3 cO.nd (cJ (N:=["one", "other", "many", "starts", "place", "longer"]) (sc:=av cM) (Nc:=["start", "one", "other"]) (cap:=[none,some 0,some 1]) rfl rfl (by decide +kernel)) (vA (aI 5)) (fun _ _ _ _ _=>iH 0 nc) (fun _ _ _ _ _=>tW (zM (bb d_keeps_last (hr.mono (by decide)) (aL (aI 1) (aL (aI 2) (aL (aI 0) (bp))))))) (fun _ _ _ _ _=>aI 0)))))
 (aX (bt (F2 hr.units nm.min (aI 3)))))))))
theorem nU (nm:Nm mg) {f:Addr}{fd:FuncData} (F:gk K "_law_cell_at" "_law_cell_at" eE f fd) (hm:mg "_law_cell_at" = some (.ref f)):dR P w K mg base (dH K w) 1 "_law_cell_at" 2 dF:=
 cv F nP rfl hm (F.b2 (by rfl) fun _ _ _ _ _ _ _ _=>by rfl) fun cdv A outer s H E hr=>
 aQ (lj (fF (jD (op:=.Lt) hr.units) (aI 1) (bO kA nm.len (aL (aI 0) (bp)))) (aX (bt (bP (aI 0) (aI 1)))) (ij))
 (aX (bt (bS)))
theorem tj (nm:Nm mg) {f:Addr}{fd:FuncData} (F:gk K "_law_next" "_law_next" gN f fd) (hm:mg "_law_next" = some (.ref f)):dR P w K mg base (dH K w) 1 "_law_next" 1 eT:=
 cv F lW rfl hm (F.b1 (by rfl) fun _ _ _ _ _ _ _=>by rfl) fun cdv A outer s H E hr=>
 aQ (dj 0 lW.nd (tY (fZ (aI 0) (bS)) (bS)))
 (aX (bt (tY (fZ (fZ (tX (aI 0) (aI 0)) (tX (bS) (aI 0))) (bS)) (bS))))
theorem p6 (nm:Nm mg) {f:Addr}{fd:FuncData} (F:gk K "_law_pen_of" "_law_pen_of" fj f fd) (hm:mg "_law_pen_of" = some (.ref f)):dR P w K mg base (dH K w) 1 "_law_pen_of" 1 eA:=
 cv F j4 rfl hm (F.b1 (by rfl) fun _ _ _ _ _ _ _=>by rfl) fun cdv A outer s H E hr=>
 aQ (dj 1 j4.nd (bO xm nm.max (aL (aI 0) (aL (oF (bS) (aI 0)) (bp)))))
 (aX (bt (eU (aL (aI 1) (aL (bO J4 nm.int (aL (jg (jD (op:=.GtE) hr.units) (aI 1) (Ji (bS) (bS))) (bp))) (aL (tY (aI 1) (bS)) (bp)))))))
theorem tm (nm:Nm mg) {f:Addr}{fd:FuncData} (F:gk K "_law_draw" "_law_draw" gO f fd) (hm:mg "_law_draw" = some (.ref f)) (d__law_next:dR P w K mg base (dH K w) 1 "_law_next" 1 eT):dR P w K mg base (dH K w) 2 "_law_draw" 2 bw:=
 cv F lX rfl hm (F.b2 (by rfl) fun _ _ _ _ _ _ _ _=>by rfl) fun cdv A outer s H E hr=>
 aQ (lj (fF (yd hr.units) (bP (aI 0) (bS)) (bS)) (aQ (dj 2 lX.nd (tY (bP (aI 0) (bS)) (aI 1)))
 (aQ (lA (Aw (bP (aI 0) (bS)) (aI 1)) (qH (aI 0) (bS)))
 (aX (bt (aI 2))))) (ij))
 (aQ (lA (bb d__law_next (hr.mono (by decide)) (aL (fZ (bb d__law_next (hr.mono (by decide)) (aL (bP (aI 0) (bS)) (bp))) (bS)) (bp))) (qH (aI 0) (bS)))
 (aX (bt (tY (Aw (bP (aI 0) (bS)) (bS)) (aI 1)))))
theorem qv (nm:Nm mg) {f:Addr}{fd:FuncData} (F:gk K "_law_whole" "_law_whole" fU f fd) (hm:mg "_law_whole" = some (.ref f)):dR P w K mg base (dH K w) 1 "_law_whole" 1 gS:=
 cv F qp rfl hm (F.b1 (by rfl) fun _ _ _ _ _ _ _=>by rfl) fun cdv A outer s H E hr=>
 aX (bt (jf (lz (T:="int") (by decide) A1 (by decide) (by decide) nm.isinstance nm.int (aI 0)) (ly (E3 (lz (T:="bool") (by decide) xY (by decide) (by decide) nm.isinstance nm.bool (aI 0))))))
theorem nS (nm:Nm mg) {f:Addr}{fd:FuncData} (F:gk K "_law_kind_of" "_law_kind_of" eD f fd) (hm:mg "_law_kind_of" = some (.ref f)) {a_NoLine a_NoNumber a_NoPlace a_NoRoot a_NoText a_NoTree a_NoWeb a_TooGreat:Addr} (q_NoLine:bC K (.ref a_NoLine) [] ["NoTree"]) (q_NoNumber:bC K (.ref a_NoNumber) [] ["NoTree"]) (q_NoPlace:bC K (.ref a_NoPlace) [] ["NoTree"]) (q_NoRoot:bC K (.ref a_NoRoot) [] ["NoTree"]) (q_NoText:bC K (.ref a_NoText) [] ["NoTree"]) (q_NoTree:bC K (.ref a_NoTree) ["NoTree"] ["NoTree"]) (q_NoWeb:bC K (.ref a_NoWeb) [] ["NoTree"]) (q_TooGreat:bC K (.ref a_TooGreat) [] ["NoTree"]) (q_ValueError:bC K (.type "ValueError") ["NoTree"] ["NoTree"]) (m_NoLine:mg "NoLine" = some (.ref a_NoLine)) (m_NoNumber:mg "NoNumber" = some (.ref a_NoNumber)) (m_NoPlace:mg "NoPlace" = some (.ref a_NoPlace)) (m_NoRoot:mg "NoRoot" = some (.ref a_NoRoot)) (m_NoText:mg "NoText" = some (.ref a_NoText)) (m_NoTree:mg "NoTree" = some (.ref a_NoTree)) (m_NoWeb:mg "NoWeb" = some (.ref a_NoWeb)) (m_TooGreat:mg "TooGreat" = some (.ref a_TooGreat)):CV P w K mg base (dH K w) 1 "_law_kind_of" 1 dE:=
 FY F gu rfl hm (F.b1 (by rfl) fun _ _ _ _ _ _ _=>by rfl) fun cdv A outer s H E hr=>
 aQ (dj 1 gu.nd (eU (aL (nk q_NoPlace nm.isinstance m_NoPlace (aI 0)) (aL (nk q_NoNumber nm.isinstance m_NoNumber (aI 0)) (aL (nk q_NoLine nm.isinstance m_NoLine (aI 0)) (aL (nk q_NoRoot nm.isinstance m_NoRoot (aI 0)) (bp)))))))
 (aQ (dj 1 gu.nd (fZ (aI 1) (eU (aL (nk q_NoTree nm.isinstance m_NoTree (aI 0)) (aL (nk q_NoWeb nm.isinstance m_NoWeb (aI 0)) (aL (nk q_NoText nm.isinstance m_NoText (aI 0)) (aL (nk q_TooGreat nm.isinstance m_TooGreat (aI 0)) (bp))))))))
 (aQ (lj (vH (vJ (lx (zM (F4 q_ValueError nm.isinstance nm.ValueError qC (aI 0)))) (xh (fF (rR hr.units) (Jm (aI 1) (aL (CC) (bp))) (bS))))) (aX (bt (zL))) (ij))
 (aX (bt (bP (eU (aL (zL) (aL (zL) (aL (zL) (aL (zL) (aL (zL) (aL (zL) (aL (zL) (aL (zL) (bp)))))))))) (Jl (aI 1) (aL (CC) (bp))))))))
theorem qw (nm:Nm mg) {f:Addr}{fd:FuncData} (F:gk K "_law_named" "_law_named" dg f fd) (hm:mg "_law_named" = some (.ref f)):dR P w K mg base (dH K w) 1 "_law_named" 2 bN:=
 cv F kE rfl hm (F.b2 (by rfl) fun _ _ _ _ _ _ _ _=>by rfl) fun cdv A outer s H E hr=>
 aQ (mx 2 kE.nd (cJ (N:=["_law_web", "_law_names", "_law_ties"]) (sc:=av dg) (Nc:=["_law_one", "_law_other", "_law_names"]) (cap:=[none,none,some 1]) rfl rfl (by decide +kernel)) (vA (bP (aI 0) (bS))) (fun _ _ _ _ _=>lE (dh (iH 0 jk) (dh (iH 1 jk) (lF)))) (fun _ _ _ _ _=>jd) (fun _ _ _ _ _=>cg (aL (bP (aI 2) (aI 0)) (aL (bP (aI 2) (aI 1)) (bp)))))
 (aX (bt (cg (aL (bP (aI 0) (bS)) (aL (bO sI nm.tuple (aL (bO u6 nm.sorted (aL (bO (Fz hr.units) nm.set (aL (iU (cJ (N:=["_law_web", "_law_names", "_law_ties"]) (sc:=av dg) (Nc:=["_law_tie"]) (cap:=[none]) rfl rfl (by decide +kernel)) (vA (aI 2)) (fun _ _ _ _ _=>iH 0 nW) (fun _ _ _ _ _=>jd) (fun _ _ _ _ _=>cg (aL (bO Aq nm.min (aL (aI 0) (bp))) (aL (bO xm nm.max (aL (aI 0) (bp))) (bp))))) (bp))) (bp))) (bp))) (bp))))))
theorem m8 (nm:Nm mg) {f:Addr}{fd:FuncData} (F:gk K "_law_names_by" "_law_names_by" cP f fd) (hm:mg "_law_names_by" = some (.ref f)) (d__law_draw:dR P w K mg base (dH K w) 2 "_law_draw" 2 bw):dR P w K mg base (dH K w) 3 "_law_names_by" 2 bE:=
 cv F iQ rfl hm (F.b2 (by rfl) fun _ _ _ _ _ _ _ _=>by rfl) fun cdv A outer s H E hr=>
 aQ (dj 2 iQ.nd (F3 nm.range nm.list (aL (aI 1) (bp))))
 (aX (bt (bO sI nm.tuple (aL (iU (cJ (N:=["_law_pen", "_law_many", "_law_left"]) (sc:=av cP) (Nc:=["_law_place", "_law_left", "_law_pen"]) (cap:=[none,some 2,some 0]) rfl rfl (by decide +kernel)) (qg nm.range (aL (aI 1) (bp))) (fun _ _ _ _ _=>iH 0 lb) (fun _ _ _ _ _=>jd) (fun _ _ _ _ _=>Jj (aI 1) (aL (bb d__law_draw (hr.mono (by decide)) (aL (aI 2) (aL (bO kA nm.len (aL (aI 1) (bp))) (bp)))) (bp)))) (bp)))))
theorem vk (nm:Nm mg) {f:Addr}{fd:FuncData} (F:gk K "_law_far" "_law_far" gb f fd) (hm:mg "_law_far" = some (.ref f)):dR P w K mg base (dH K w) 1 "_law_far" 1 fP:=
 cv F cB rfl hm (F.b1 (by rfl) fun _ _ _ _ _ _ _=>by rfl) fun cdv A outer s H E hr=>
 aQ (dj 1 cB.nd (bP (aI 0) (bS)))
 (aQ (mx 2 cB.nd (cJ (N:=["_law_web", "_law_many", "_law_far_here", "_law_place", "_law_size", "_law_one", "_law_other", "_law_a", "_law_b"]) (sc:=av gb) (Nc:=["_law_place", "_law_many"]) (cap:=[none,some 1]) rfl rfl (by decide +kernel)) (qg nm.range (aL (aI 1) (bp))) (fun _ _ _ _ _=>iH 0 qy) (fun _ _ _ _ _=>jd) (fun _ _ _ _ _=>tX (eU (aL (Ct) (bp))) (aI 1)))
 (aQ (jh PZ (qg nm.range (aL (aI 1) (bp))) (iH 3 cB.nd) (aQ (lA (bS) (qH (bP (aI 2) (aI 3)) (aI 3)))
 (aX (jh PZ (FL nm.range (aL (bS) (aL (aI 1) (bp)))) (iH 4 cB.nd) (aX (jh PZ (vA (bP (aI 0) (bS))) (lE (dh (iH 5 cB.nd) (dh (iH 6 cB.nd) (lF)))) (aX (jh PZ (vA (eU (aL (cg (aL (aI 5) (aL (aI 6) (bp)))) (aL (cg (aL (aI 6) (aL (aI 5) (bp)))) (bp))))) (lE (dh (iH 7 cB.nd) (dh (iH 8 cB.nd) (lF)))) (aX (lj (vH (Aa (fF (yd hr.units) (bP (bP (aI 2) (aI 3)) (aI 7)) (oF (aI 4) (bS))) (vP (fF (Fq) (bP (bP (aI 2) (aI 3)) (aI 8)) (Ct))))) (aX (lA (aI 4) (qH (bP (aI 2) (aI 3)) (aI 8)))) (ij)))))))))))
 (aX (bt (aI 2)))))
theorem nQ (nm:Nm mg) {f:Addr}{fd:FuncData} (F:gk K "_law_tree_by" "_law_tree_by" c8 f fd) (hm:mg "_law_tree_by" = some (.ref f)) (d__law_draw:dR P w K mg base (dH K w) 2 "_law_draw" 2 bw) (d__law_named:dR P w K mg base (dH K w) 1 "_law_named" 2 bN) (d__law_names_by:dR P w K mg base (dH K w) 3 "_law_names_by" 2 bE):dR P w K mg base (dH K w) 4 "_law_tree_by" 1 cc:=
 cv F gr rfl hm (F.b1 (by rfl) fun _ _ _ _ _ _ _=>by rfl) fun cdv A outer s H E hr=>
 aQ (dj 1 gr.nd (fZ (bS) (bb d__law_draw (hr.mono (by decide)) (aL (aI 0) (aL (bS) (bp))))))
 (aQ (mx 2 gr.nd (cJ (N:=["_law_pen", "_law_many", "_law_ties"]) (sc:=av c8) (Nc:=["_law_place", "_law_pen"]) (cap:=[none,some 0]) rfl rfl (by decide +kernel)) (FL nm.range (aL (bS) (aL (aI 1) (bp)))) (fun _ _ _ _ _=>iH 0 ma) (fun _ _ _ _ _=>jd) (fun _ _ _ _ _=>cg (aL (bb d__law_draw (hr.mono (by decide)) (aL (aI 1) (aL (aI 0) (bp)))) (aL (aI 0) (bp)))))
 (aX (bt (bb d__law_named (hr.mono (by decide)) (aL (cg (aL (aI 1) (aL (bO sI nm.tuple (aL (aI 2) (bp))) (bp)))) (aL (bb d__law_names_by (hr.mono (by decide)) (aL (aI 0) (aL (aI 1) (bp)))) (bp)))))))
theorem nR (nm:Nm mg) {f:Addr}{fd:FuncData} (F:gk K "_law_no_tree" "_law_no_tree" eC f fd) (hm:mg "_law_no_tree" = some (.ref f)) (d__law_draw:dR P w K mg base (dH K w) 2 "_law_draw" 2 bw):dR P w K mg base (dH K w) 3 "_law_no_tree" 2 dD:=
 cv F cu rfl hm (F.b2 (by rfl) fun _ _ _ _ _ _ _ _=>by rfl) fun cdv A outer s H E hr=>
 aQ (lA (aI 1) (lE (dh (iH 2 cu.nd) (dh (iH 3 cu.nd) (lF)))))
 (aQ (dj 4 cu.nd (bb d__law_draw (hr.mono (by decide)) (aL (aI 0) (aL (fZ (bO kA nm.len (aL (aI 3) (bp))) (bS)) (bp)))))
 (aQ (dj 5 cu.nd (eU (aL (cg (aL (aI 2) (aL (fZ (FI (aI 3) (xn) (n6 (aI 4))) (FI (aI 3) (n6 (fZ (aI 4) (bS))) (xn))) (bp)))) (aL (cg (aL (aI 2) (aL (fZ (F1 (aI 3) (Jk (bS))) (cg (aL (cg (aL (bS) (aL (aI 2) (bp)))) (bp)))) (bp)))) (aL (cg (aL (fZ (aI 2) (bS)) (aL (aI 3) (bp)))) (aL (eU (aL (aI 2) (aL (aI 3) (bp)))) (bp)))))))
 (aQ (dj 5 cu.nd (fZ (aI 5) (eU (aL (cg (aL (aI 2) (aL (bO A3 nm.list (aL (aI 3) (bp))) (bp)))) (aL (Ct) (aL (bS) (aL (cg (bp)) (aL (Jh) (aL (zL) (aL (cg (aL (bS) (aL (cg (aL (cg (aL (bS) (aL (bS) (bp)))) (aL (cg (aL (bS) (aL (bS) (bp)))) (aL (cg (aL (bS) (aL (bS) (bp)))) (bp))))) (bp)))) (bp)))))))))))
 (aQ (rX (E4 (aI 5) (aL (cg (aL (bS) (aL (cg (aL (cg (aL (bS) (aL (bS) (bp)))) (aL (cg (aL (bS) (aL (bS) (bp)))) (aL (cg (aL (bS) (aL (bS) (bp)))) (bp))))) (bp)))) (bp))))
 (aX (bt (bP (aI 5) (bb d__law_draw (hr.mono (by decide)) (aL (aI 0) (aL (bS) (bp)))))))))))
theorem nT (nm:Nm mg) {f:Addr}{fd:FuncData} (F:gk K "_law_is_tree" "_law_is_tree" c9 f fd) (hm:mg "_law_is_tree" = some (.ref f)) (d__law_whole:dR P w K mg base (dH K w) 1 "_law_whole" 1 gS) (d__law_far:dR P w K mg base (dH K w) 1 "_law_far" 1 fP):dR P w K mg base (dH K w) 2 "_law_is_tree" 1 aU:=
 cv F nO rfl hm (F.b1 (by rfl) fun _ _ _ _ _ _ _=>by rfl) fun cdv A outer s H E hr=>
 aQ (lj (vH (vJ (lx (zM (lz (T:="tuple") (by decide) jS (by decide) (by decide) nm.isinstance nm.tuple (aI 0)))) (vJ (fF (rR hr.units) (bO kA nm.len (aL (aI 0) (bp))) (bS)) (vJ (lx (zM (bb d__law_whole (hr.mono (by decide)) (aL (bP (aI 0) (bS)) (bp))))) (xh (lx (Jp (jD (op:=.LtE) hr.units) (jD (op:=.LtE) hr.units) (bS) (bP (aI 0) (bS)) (bS)))))))) (aX (bt (CC))) (ij))
 (aQ (lj (vH (vJ (lx (zM (lz (T:="tuple") (by decide) jS (by decide) (by decide) nm.isinstance nm.tuple (bP (aI 0) (bS))))) (vJ (fF (rR hr.units) (bO kA nm.len (aL (bP (aI 0) (bS)) (bp))) (oF (bP (aI 0) (bS)) (bS))) (xh (fF (rR hr.units) (bO A3 nm.list (aL (bP (aI 0) (bS)) (bp))) (bO u6 nm.sorted (aL (bO (Fz hr.units) nm.set (aL (bP (aI 0) (bS)) (bp))) (bp)))))))) (aX (bt (CC))) (ij))
 (aQ (lj (lx (zM (bO qL nm.all (aL (iU (cJ (N:=["_law_thing"]) (sc:=av c9) (Nc:=["_law_one", "_law_other", "_law_thing"]) (cap:=[none,none,some 0]) rfl rfl (by decide +kernel)) (vA (bP (aI 0) (bS))) (fun _ _ _ _ _=>lE (dh (iH 0 iz) (dh (iH 1 iz) (lF)))) (fun _ _ _ _ _=>jd) (fun _ _ _ _ _=>F5 (jD (op:=.LtE) hr.units) (jD (op:=.Lt) hr.units) (jD (op:=.Lt) hr.units) (bS) (aI 0) (aI 1) (bP (aI 2) (bS)))) (bp))))) (aX (bt (CC))) (ij))
 (aX (bt (jg (xj hr.units) (Ct) (bP (bb d__law_far (hr.mono (by decide)) (aL (aI 0) (bp))) (bS)))))))
theorem tf (nm:Nm mg) {f:Addr}{fd:FuncData} (F:gk K "_law_tied" "_law_tied" gM f fd) (hm:mg "_law_tied" = some (.ref f)):dR P w K mg base (dH K w) 1 "_law_tied" 3 eS:=
 cv F sU rfl hm (F.b3 (by rfl) fun _ _ _ _ _ _ _ _ _=>by rfl) fun cdv A outer s H E hr=>
 aX (bt (jg (CP hr.units) (cg (aL (bO Aq nm.min (aL (aI 1) (aL (aI 2) (bp)))) (aL (bO xm nm.max (aL (aI 1) (aL (aI 2) (bp)))) (bp)))) (bP (aI 0) (bS))))
theorem qx (nm:Nm mg) {f:Addr}{fd:FuncData} (F:gk K "_law_first" "_law_first" d6 f fd) (hm:mg "_law_first" = some (.ref f)) (d__law_tied:dR P w K mg base (dH K w) 1 "_law_tied" 3 eS):dR P w K mg base (dH K w) 2 "_law_first" 2 ff:=
 cv F bY rfl hm (F.b2 (by rfl) fun _ _ _ _ _ _ _ _=>by rfl) fun cdv A outer s H E hr=>
 aQ (lj (fF (rR hr.units) (bP (aI 0) (bS)) (bP (aI 1) (bS))) (aX (bt (Ct))) (ij))
 (aQ (dj 2 bY.nd (eU (aL (cg (bp)) (bp))))
 (aQ (jh PZ (qg nm.range (aL (bP (aI 0) (bS)) (bp))) (iH 3 bY.nd) (aQ (dj 4 bY.nd (eU (bp)))
 (aQ (jh PZ (vA (aI 2)) (iH 5 bY.nd) (aX (jh PZ (qg nm.range (aL (bP (aI 0) (bS)) (bp))) (iH 6 bY.nd) (aQ (mx 7 bY.nd (cJ (N:=["_law_web", "_law_other", "_law_ways", "_law_at", "_law_longer", "_law_way", "_law_place", "_law_alike"]) (sc:=av d6) (Nc:=["_law_k", "_law_web", "_law_at", "_law_other", "_law_place", "_law_way"]) (cap:=[none,some 0,some 3,some 1,some 6,some 5]) rfl rfl (by decide +kernel)) (qg nm.range (aL (aI 3) (bp))) (fun _ _ _ _ _=>iH 0 nX) (fun _ _ _ _ _=>jd) (fun _ _ _ _ _=>jg (yd hr.units) (bb d__law_tied (hr.mono (by decide)) (aL (aI 1) (aL (aI 0) (aL (aI 2) (bp))))) (bb d__law_tied (hr.mono (by decide)) (aL (aI 3) (aL (bP (aI 5) (aI 0)) (aL (aI 4) (bp)))))))
 (aX (lj (vH (Aa (fF (xj hr.units) (aI 6) (aI 5)) (vP (zM (bO qL nm.all (aL (aI 7) (bp))))))) (aX (rX (E4 (aI 4) (aL (fZ (aI 5) (cg (aL (aI 6) (bp)))) (bp))))) (ij)))))))
 (aX (dj 2 bY.nd (aI 4))))))
 (aX (bt (bP (fZ (aI 2) (eU (aL (Ct) (bp)))) (bS))))))
theorem sZ (nm:Nm mg) {f:Addr}{fd:FuncData} (F:gk K "_law_told" "_law_told" gL f fd) (hm:mg "_law_told" = some (.ref f)) {a_RootError:Addr} (m_RootError:mg "RootError" = some (.ref a_RootError)) (kn_RootError:ug K "RootError" a_RootError ["NoTree"]) (d_alike_trees:yk P w K mg base 11 "alike_trees" 2 bz) (d__law_kind_of:CV P w K mg base (dH K w) 1 "_law_kind_of" 1 dE):dR P w K mg base (dH K w) 12 "_law_told" 2 bX:=
 cv F lV rfl hm (F.b2 (by rfl) fun _ _ _ _ _ _ _ _=>by rfl) fun cdv A outer s H E hr=>
 aX (Jg AV lV.nd kn_RootError m_RootError (fun pins E=>aX (bt (sj d_alike_trees (JS AV) (hr.mono (by decide)) (aL (aI 0) (aL (aI 1) (bp)))))) (fun ea=>aX (bt (C5 d__law_kind_of ((hr.h.mark _).mono (by decide)) (aL (aI 2) (bp))))))
theorem Ig (nm:Nm mg) {f:Addr}{fd:FuncData} (F:gk K "law" "law" kN f fd) (d__law_cell_at:dR P w K mg base (dH K w) 1 "_law_cell_at" 2 dF) (d__law_pen_of:dR P w K mg base (dH K w) 1 "_law_pen_of" 1 eA) (d__law_tree_by:dR P w K mg base (dH K w) 4 "_law_tree_by" 1 cc) (d__law_named:dR P w K mg base (dH K w) 1 "_law_named" 2 bN) (d__law_names_by:dR P w K mg base (dH K w) 3 "_law_names_by" 2 bE) (d__law_told:dR P w K mg base (dH K w) 12 "_law_told" 2 bX) (d__law_first:dR P w K mg base (dH K w) 2 "_law_first" 2 ff) (d__law_no_tree:dR P w K mg base (dH K w) 3 "_law_no_tree" 2 dD) (d__law_is_tree:dR P w K mg base (dH K w) 2 "_law_is_tree" 1 aU):oD P w K mg base vG 13 f fd ["_law_script"] (Cv (dH K w) 1 ui):=
 J2 F jG rfl fun cdv A outer s H E hr=>
 aQ (jh PZ (vA (fZ (eU (aL (bb d__law_cell_at (hr.mono (by decide)) (aL (aI 0) (aL (bS) (bp)))) (bp))) (FI (aI 0) (n6 (bS)) (n6 (bS))))) (iH 1 jG.nd) (aQ (dj 2 jG.nd (bb d__law_pen_of (hr.mono (by decide)) (aL (aI 1) (bp))))
 (aQ (dj 3 jG.nd (bb d__law_tree_by (hr.mono (by decide)) (aL (aI 2) (bp))))
 (aQ (jh PZ (vA (eU (aL (bb d__law_named (hr.mono (by decide)) (aL (aI 3) (aL (bb d__law_names_by (hr.mono (by decide)) (aL (aI 2) (aL (bP (aI 3) (bS)) (bp)))) (bp)))) (aL (bb d__law_tree_by (hr.mono (by decide)) (aL (aI 2) (bp))) (aL (aI 3) (bp)))))) (iH 4 jG.nd) (aX (lj (fF (JW) (bO (xZ hr) nm.repr (aL (bb d__law_told (hr.mono (by decide)) (aL (aI 3) (aL (aI 4) (bp)))) (bp))) (bO (xZ hr) nm.repr (aL (bb d__law_first (hr.mono (by decide)) (aL (aI 3) (aL (aI 4) (bp)))) (bp)))) (aX (bt (CC))) (ij))))
 (aX (jh PZ (qg nm.range (aL (bS) (bp))) (iH 5 jG.nd) (aQ (dj 6 jG.nd (bb d__law_no_tree (hr.mono (by decide)) (aL (aI 2) (aL (aI 3) (bp)))))
 (aQ (dj 7 jG.nd (eU (aL (bb d__law_told (hr.mono (by decide)) (aL (aI 6) (aL (aI 3) (bp)))) (aL (bb d__law_told (hr.mono (by decide)) (aL (aI 3) (aL (aI 6) (bp)))) (aL (bb d__law_told (hr.mono (by decide)) (aL (aI 6) (aL (aI 6) (bp)))) (bp))))))
 (aX (lj (vH (Aa (lx (zM (bb d__law_is_tree (hr.mono (by decide)) (aL (aI 6) (bp))))) (vP (fF (rR hr.units) (aI 7) (tX (eU (aL (zL) (bp))) (bS)))))) (aX (bt (CC))) (ij)))))))))))
 (aX (bt (CC)))
end
end Lw
namespace Lv
variable {adj:Int->Int->Prop}{p:Int}
def R (adj:Int->Int->Prop) (p:Int):Nat->Int->Prop
 | 0,q=>q=p
 | n+1,q=>R adj p n q\/∃ r,adj r q/\R adj p n r
def rP (adj:Int->Int->Prop) (p:Int):Nat->Int->Prop
 | 0,q=>q=p
 | n+1,q=>R adj p (n+1) q/\¬ R adj p n q
theorem R.up {n:Nat}{q:Int} (h:R adj p n q):R adj p (n+1) q:=.inl h
theorem R.mono {n m:Nat}{q:Int} (h:R adj p n q) (hm:n<=m):R adj p m q:=by
 induction hm with
 | refl=>exact h
 | step _ ih=>exact ih.up
theorem rP.r {n:Nat}{q:Int} (h:rP adj p n q):R adj p n q:=by
 cases n with
 | zero=>exact h
 | succ n=>exact h.1
theorem R.lev {n:Nat}{q:Int} (h:R adj p n q):∃ j,j<=n/\rP adj p j q:=by
 induction n with
 | zero=>exact ⟨0,Mt _,h⟩
 | succ n ih=>
  by_cases hr:R adj p n q
  ·obtain ⟨j, hj, hl⟩ := ih hr
   exact ⟨j,by omega,hl⟩
  ·exact ⟨n+1,Mt _,h,hr⟩
theorem rP.low {n j:Nat}{q:Int} (h:rP adj p n q) (hj:j<n):¬ R adj p j q:=by
 cases n with
 | zero=>omega
 | succ n=>exact fun hr=>h.2 (hr.mono (by omega))
theorem rP.one {n m:Nat}{q:Int} (h:rP adj p n q) (h':rP adj p m q):n=m:=by
 rcases Nat.lt_trichotomy n m with z | z | z
 ·exact absurd h.r (h'.low z)
 ·exact z
 ·exact absurd h'.r (h.low z)
theorem iK {n:Nat}{q:Int}:rP adj p (n+1) q↔¬ R adj p n q/\∃ r,adj r q/\rP adj p n r:=by
 constructor
 ·rintro ⟨h1, h2⟩
  refine ⟨h2,?_⟩
  rcases h1 with h1 | ⟨r,ha,hr⟩
  ·exact absurd h1 h2
  ·refine ⟨r, ha, ?_⟩
   cases n with
   | zero=>exact hr
   | succ n=>exact ⟨hr,fun z=>h2 (.inr ⟨r,ha,z⟩)⟩
 ·rintro ⟨h1, r, ha, hr⟩
  exact ⟨.inr ⟨r,ha,hr.r⟩,h1⟩
def Up (adj:Int->Int->Prop) (p:Int) (D:Int->Prop) (n:Nat) (f:Int->Option Nat):Prop:=∀ q,D q->∀ j,f q=some j↔(j<=n/\rP adj p j q)
theorem Up.none {D:Int->Prop}{n:Nat}{f:Int->Option Nat} (h:Up adj p D n f) {q:Int} (hq:D q):f q=none↔¬ R adj p n q:=by
 constructor
 ·intro e hr
  obtain ⟨j,hj,hl⟩:=hr.lev
  have:=(h q hq j).mpr ⟨hj,hl⟩
  rw [e] at this;cases this
 ·intro hr
  cases e:f q with
  | none=>rfl
  | some j=>
   obtain ⟨hj,hl⟩:=(h q hq j).mp e
   exact absurd (hl.r.mono hj) hr
theorem x5 {D:Int->Prop}{f:Int->Option Nat} (h:∀ q,D q->f q=if q=p then some 0 else Option.none):Up adj p D 0 f:=fun q hq j=>by
 rw [h q hq]
 by_cases e:q=p
 ·rw [LL e]
  constructor
  ·intro z;cases z;exact ⟨Mt _,e⟩
  ·rintro ⟨h1, _⟩
   have:j=0:=by omega
   rw [this]
 ·rw [LM e]
  constructor
  ·intro z;cases z
  ·rintro ⟨h1, h2⟩
   have:j=0:=by omega
   subst this
   exact absurd h2 e
theorem Up.next {D:Int->Prop}{n:Nat}{f f':Int->Option Nat} (h:Up adj p D n f) (hD:∀ a b,adj a b->D a) (e:∀ q,D q->∀ j,f' q=some j↔(f q=some j\/(f q=Option.none/\j=n+1/\∃ r,adj r q/\f r=some n))):Up adj p D (n+1) f':=fun q hq j=>by
 rw [e q hq j]
 constructor
 ·rintro (z | ⟨z1, z2, r, z3, z4⟩)
  ·obtain ⟨hj, hl⟩ := (h q hq j).mp z
   exact ⟨by omega,hl⟩
  ·subst z2
   refine ⟨Mt _,iK.mpr ⟨(h.none hq).mp z1,r,z3,?_⟩⟩
   exact ((h r (hD r q z3) n).mp z4).2
 ·rintro ⟨hj, hl⟩
  by_cases hn:j<=n
  ·exact .inl ((h q hq j).mpr ⟨hn,hl⟩)
  ·have : j = n + 1 := by omega
   subst this
   obtain ⟨h1,r,ha,hr⟩:=iK.mp hl
   exact .inr ⟨(h.none hq).mpr h1,rfl,r,ha,(h r (hD r q ha) n).mpr ⟨Mt _,hr⟩⟩
def vN (adj:Int->Int->Prop) (p:Int) (D:Int->Prop) (f:Int->Option Nat):Prop:=∀ q,D q->∀ j,f q=some j↔rP adj p j q
theorem rP.below {n:Nat}:∀ {q:Int},rP adj p n q->∀ j,j<=n->∃ r,rP adj p j r:=by
 induction n with
 | zero => intro q h j hj; exact ⟨q, by have : j = 0 := by omega
                                        subst this;exact h⟩
 | succ n ih=>
  intro q h j hj
  by_cases e:j=n+1
  ·subst e;exact ⟨q,h⟩
  ·obtain ⟨_, r, _, hr⟩ := iK.mp h
   exact ih hr j (by omega)
theorem Up.full {D:Int->Prop}{n:Nat}{f:Int->Option Nat} (h:Up adj p D n f) (hD:∀ a b,adj a b->D b) (e:∀ q,D q->¬ rP adj p (n+1) q):vN adj p D f:=fun q hq j=>by
 rw [h q hq j]
 constructor
 ·exact fun z=>z.2
 ·intro hl
  refine ⟨?_,hl⟩
  apply Nat.le_of_not_lt
  intro hj
  obtain ⟨r,hr⟩:=hl.below (n+1) (by omega)
  obtain ⟨_,s,hs,_⟩:=iK.mp hr
  exact e r (hD s r hs) hr
theorem AM {m:Nat} (hp:0<=p/\p<m) (hD:∀ a b,adj a b->0<=b/\b<m) {n:Nat}{q:Int} (h:rP adj p n q):n<m:=by
 have hr:∀ j,∃ r,j<=n->rP adj p j r:=fun j=>by
  by_cases hj:j<=n
  ·obtain ⟨r,hr⟩:=h.below j hj;exact ⟨r,fun _=>hr⟩
  ·exact ⟨0,fun z=>absurd z hj⟩
 let r:Nat->Int:=fun j=>(hr j).choose
 have hr':∀ j,j<=n->rP adj p j (r j):=fun j hj=>(hr j).choose_spec hj
 have rng:∀ j,j<=n->0<=r j/\r j<m:=fun j hj=>by
  have:=hr' j hj
  cases j with
  | zero=>rw [show r 0=p from this];exact hp
  | succ j=>
   obtain ⟨_,s,hs,_⟩:=iK.mp this
   exact hD s _ hs
 have nd:((List.range (n+1)).map fun j=>(r j).toNat).Nodup:=by
  rw [List.Nodup,Pg]
  refine List.Pairwise.imp_of_mem (R:=(·<·)) ?_ OB
  intro a b ha hb hab e
  rw [LU] at ha hb
  have r1:=rng a (by omega)
  have r2:=rng b (by omega)
  have e':r a=r b:=by omega
  have h1:=hr' a (by omega)
  have h2:=hr' b (by omega)
  rw [e'] at h1
  have:=h1.one h2
  omega
 have sub:((List.range (n+1)).map fun j=>(r j).toNat) ⊆ List.range m:=fun x hx=>by
  obtain ⟨j,hj,rfl⟩:=Oh.mp hx
  rw [LU] at hj ⊢
  have:=rng j (by omega)
  omega
 have:=nd.length_le_of_subset sub
 rw [MY,Oa,Oa] at this;omega
end Lv
namespace Lv
def kK (f:Int->Option Nat) (r:Int) (v:Nat):Int->Option Nat:=fun q=>if q=r then some v else f q
def zN (n:Nat) (f:Int->Option Nat) (qr:Int × Int):Int->Option Nat:=if f qr.1=some n/\f qr.2=none then kK f qr.2 (n+1) else f
theorem De {n:Nat}{f0 f:Int->Option Nat}{done:List (Int × Int)}{qr:Int × Int}
  (h:∀ q j,f q=some j↔(f0 q=some j\/(f0 q=none/\j=n+1/\∃ r,(r,q)∈done/\f0 r=some n))) :
  ∀ q j,zN n f qr q=some j↔(f0 q=some j\/(f0 q=none/\j=n+1/\∃ r,(r,q)∈done++[qr]/\f0 r=some n)):=by
 intro q j
 have hn:∀ r,f r=some n↔f0 r=some n:=fun r=>by
  rw [h r n]
  constructor
  ·rintro (z | ⟨_, z, _⟩)
   ·exact z
   ·omega
  ·exact .inl
 have h0:∀ r,f r=none->f0 r=none:=fun r e=>by
  cases e0:f0 r with
  | none=>rfl
  | some i=>
   have:=(h r i).mpr (.inl e0)
   rw [e] at this;cases this
 obtain ⟨a,b⟩:=qr
 unfold zN
 dsimp only
 by_cases c:f a=some n/\f b=none
 ·rw [LL c]
  unfold kK
  by_cases e:q=b
  ·subst e
   rw [LL rfl]
   have z:=h0 q c.2
   constructor
   ·intro e; cases e
    exact .inr ⟨z,rfl,a,by simp,(hn a).mp c.1⟩
   ·rintro (y | ⟨_, y, _⟩)
    ·rw [z] at y;cases y
    ·rw [y]
  ·rw [LM e, h q j]
   constructor
   ·rintro (y | ⟨y1, y2, r, y3, y4⟩)
    ·exact .inl y
    ·exact .inr ⟨y1,y2,r,L7 _ y3,y4⟩
   ·rintro (y | ⟨y1, y2, r, y3, y4⟩)
    ·exact .inl y
    ·rcases L6.mp y3 with y3 | y3
     ·exact .inr ⟨y1,y2,r,y3,y4⟩
     ·simp at y3;exact absurd y3.2 e
 ·rw [LM c, h q j]
  constructor
  ·rintro (y | ⟨y1, y2, r, y3, y4⟩)
   ·exact .inl y
   ·exact .inr ⟨y1,y2,r,L7 _ y3,y4⟩
  ·rintro (y | ⟨y1, y2, r, y3, y4⟩)
   ·exact .inl y
   ·rcases L6.mp y3 with y3 | y3
    ·exact .inr ⟨y1,y2,r,y3,y4⟩
    ·simp at y3
     obtain ⟨rfl,rfl⟩:=y3
     have c2:f q≠none:=fun z=>c ⟨(hn r).mpr y4,z⟩
     cases e:f q with
     | none=>exact absurd e c2
     | some i=>
      have:=(h q i).mp e
      rcases this with w | ⟨w1,w2,w3⟩
      ·rw [y1] at w;cases w
      ·exact .inr ⟨y1,y2,w3⟩
theorem uW {n:Nat}{f0:Int->Option Nat}:∀ (qs done:List (Int × Int)) (f:Int->Option Nat),
  (∀ q j,f q=some j↔(f0 q=some j\/(f0 q=none/\j=n+1/\∃ r,(r,q)∈done/\f0 r=some n))) ->
  ∀ q j,qs.foldl (zN n) f q=some j↔(f0 q=some j\/(f0 q=none/\j=n+1/\∃ r,(r,q)∈done++qs/\f0 r=some n))
 | [],done,f,h=>by simpa using h
 | qr::qs,done,f,h=>by
  have:=uW qs (done++[qr]) (zN n f qr) (De h)
  simpa [NK] using this
theorem Bw {adj:Int->Int->Prop}{p:Int}{D:Int->Prop}{n:Nat}{f:Int->Option Nat}{qs:List (Int × Int)} (h:Up adj p D n f) (hD:∀ a b,adj a b->D a) (ha:∀ a b,adj a b↔(a,b)∈qs):Up adj p D (n+1) (qs.foldl (zN n) f):=by
 refine h.next hD fun q hq j=>?_
 have:=uW (n:=n) (f0:=f) qs [] f (fun q j=>by simp) q j
 rw [this]
 simp only [NP,ha]
end Lv
namespace Lw
open PySem L2 RS
theorem bG:1000<=sizeLine:=by decide
theorem lN {lo:Int}{n:Nat}:bx lo n=(List.range n).map fun (i:Nat)=>D.int (lo+(i:Int)):=rfl
theorem xu {μ:aw} (s:Int):∃ r:Int,eT [.int s] μ=.ok (.int r) μ:=by
 have h0:0<=(s+7919) % 2147483647:=P0 _ (by decide)
 have h1:(s+7919) % 2147483647<2147483647:=P8 _ (by decide)
 generalize ht:(s+7919) % 2147483647=t at h0 h1
 refine ⟨(t * t+48271 * t+12345) % 2147483629,?_⟩
 have c1:tV t t:=.inl ⟨by omega,by omega⟩
 have c2:tV 48271 t:=.inl ⟨by omega,by omega⟩
 unfold eT
 rw [cb]
 simp [nJ,ht,c1,c2]
 exact aA (by simp)
def bL (a b c:Int):O:=.lst [.int a,.int b,.int c]
theorem og {n:Nat}{a b c:Int}:(bL a b c).low n:=by simp [bL,O.low]
theorem Gq {μ:aw} (x:Int):∃ a b c:Int,eA [.int x] μ=.ok (.obj μ.length) (μ++[bL a b c]):=by
 have e:∀ i j:Int,qh [.int i,.int j] μ=.ok (.int (if j > i then j else i)) μ:=fun _ _=>rfl
 have p1:FV 10 18:=⟨by decide,by decide,by decide⟩
 have ib:∀ k:Bool,∀ μ,ua [.bl k] μ=.ok (.int (if k then 1 else 0)) μ:=fun _ _=>rfl
 refine ⟨(if 0 - x > x then 0 - x else x),(if cU .GtE (if 0 - x > x then 0 - x else x) (10 ^ (18:Int).toNat) then 1 else 0),(if 0 - x > x then 0 - x else x) % 1000003,?_⟩
 unfold eA
 rw [cb]
 have l3:(3:Nat)<=sizeLine:=by decide
 simp only [kI,aO,bc,aD,au,ax,ah,ao,aH,bf,aa,af,ae,An,e,bW,aJ,aW,cW,List.set,List.replicate,P9,Qa]
 have pw:FN (.int 10) (.int 18) μ=.ok (.int (10 ^ (18:Int).toNat)) μ:=oV p1
 have md:∀ x,tP (.int x) (.int 1000003) μ=.ok (.int (x % 1000003)) μ:=fun x=>oV (show (0:Int)<1000003 by decide)
 simp only [pw,md,aa,af,gG,ib,NU,Ob,LL l3,ae,aM]
 rw [xk (by simp)]
 rfl
theorem xv {μ:aw}{i:Nat}{a b c m:Int} (hp:μ[i]?=some (bL a b c)) (h0:0<m) (h1:m<1000) :
  ∃ r a' b' c':Int,0<=r/\r<m/\bw [.obj i,.int m] μ=.ok (.int r) (μ.set i (bL a' b' c')):=by
 have hi:i<μ.length:=(L8.mp hp).1
 have hp':μ[i]?=some (.lst [.int a,.int b,.int c]):=hp
 have md:∀ {x:Int}{μ:aw},tP (.int x) (.int m) μ=.ok (.int (x % m)) μ:=fun {x μ}=>oV (show (fun _ j=>(0:Int)<j) x m from h0)
 have fd:∀ {x:Int}{μ:aw},uc (.int x) (.int m) μ=.ok (.int (x / m)) μ:=fun {x μ}=>oV (show CW x m from ⟨h0,by omega⟩)
 have f64:∀ {x:Int}{μ:aw},uc (.int x) (.int 64) μ=.ok (.int (x / 64)) μ:=fun {x μ}=>oV (show CW x 64 from ⟨by decide,by decide⟩)
 unfold bw
 rw [b9]
 by_cases hb:b=1
 ·subst hb
  refine ⟨a % m,a / m,1,c,P0 _ (by omega),P8 _ h0,?_⟩
  simp only [j3,aO,cm,eR,aH,ah,ao,bf,aa,af]
  rw [fJ hp' ue]
  simp only [aa,af,iW,NS,Nf,ba,ae,aO,bc,aH,ah,ao,bf]
  simp only [NT,Nd,Nf,aO,bc,aH,ah,ao,bf,aa,af]
  rw [fJ hp' nr]
  simp only [aa,af,md,ae,bW,aJ,List.replicate,P9,Qa,ah,ao,bf,aH,bc,aO]
  rw [fJ hp' nr]
  simp only [aa,af,fd,ae,kg,ah,ao,bf]
  rw [lJ hp' (mB (by decide) (by simp))]
  simp only [aa,af,ae,aJ,aW,ah,ao,g6,aM]
  exact xP (by simp only [Es]) (og (a:=a / m) (b:=1) (c:=c))
 ·obtain ⟨s1, e1⟩ := xu (μ := μ) c
  obtain ⟨s2,e2⟩:=xu (μ:=μ) (s1+7)
  refine ⟨s2 / 64 % m,a,b,s2,P0 _ (by omega),P8 _ h0,?_⟩
  have hb':(b == 1)=false:=by simpa using hb
  simp only [j3,aO,cm,eR,aH,ah,ao,bf,aa,af]
  rw [fJ hp' ue]
  simp only [aa,af,iW,hb',ba,ae,NT,Nd,cf,aJ,aO,bc,aD,au,ax,aH,ah,ao,bf]
  rw [fJ hp' FA]
  simp only [aa,af,e1,oq,e2,ae,kg,ah,ao,bf]
  rw [lJ hp' (mB (by decide) (by simp))]
  have hg:(μ.set i (.lst ([D.int a,D.int b,D.int c].set (2:Int).toNat (.int s2))))[i]?=some (.lst [D.int a,D.int b,D.int s2]):=by rw [Ma hi];rfl
  simp only [aa,af,ae,aJ,aW,aH,ah,ao,bf]
  rw [fJ hg FA]
  simp only [aa,af,f64,md,ae,aM]
  exact xP (by simp) (og (a:=a) (b:=b) (c:=s2))
theorem aK {μ g:aw}{i:Nat}{o:O} (h:μ[i]?=some o):(μ++g)[i]?=some o:=by
 rw [MR (L8.mp h).1];exact h
theorem oa {μ g:aw}{i:Nat}{o:O} (h:i<μ.length):(μ++g).set i o=μ.set i o++g:=by
 rw [List.set_append_left _ _ h]
theorem fQ {μ:aw}{i:Nat}{o:O} (h:i<μ.length):(μ.set i o)[i]?=some o:=Ma h
theorem rF {β γ:Type}{f:β->γ}:∀ {l:List β}{i:Nat},(l.map f).eraseIdx i=(l.eraseIdx i).map f
 | [],_=>rfl
 | _::_,0=>rfl
 | x::r,i+1=>by simp [rF (l:=r) (i:=i)]
theorem Ej {μ:aw}{i:Nat}{a b c:Int}{L:List Int}{ys:List D}{x:D} (hi:i<μ.length) (hL:0<L.length) (hL2:L.length<1000) :
  ∃ (r:Nat) (y:Int) (a' b' c':Int),L[r]?=some y/\dw [some x,some (.obj μ.length),some (.obj i)] ((μ.set i (bL a b c)++[.lst (L.map D.int)])++.lst ys::[]) =
   .ok (.int y) ((μ.set i (bL a' b' c')++[.lst ((L.eraseIdx r).map D.int)])++.lst ys::[]):=by
 have hn:((μ.set i (bL a b c)++[.lst (L.map D.int)])++.lst ys::[])[μ.length]?=some (.lst (L.map D.int)):=by
  have e:μ.length=(μ.set i (bL a b c)).length:=by simp
  rw [NK,e]
  exact ay
 have hp:((μ.set i (bL a b c)++[.lst (L.map D.int)])++.lst ys::[])[i]?=some (bL a b c):=aK (aK (fQ hi))
 obtain ⟨r,a',b',c',h0,h1,e⟩:=xv (m:=(L.length:Int)) hp (by omega) (by omega)
 have hr:r.toNat<L.length:=by omega
 refine ⟨r.toNat,L[r.toNat],a',b',c',Pq hr,?_⟩
 have hset:((μ.set i (bL a b c)++[O.lst (L.map D.int)])++O.lst ys::[]).set i (bL a' b' c')=(μ.set i (bL a' b' c')++[O.lst (L.map D.int)])++O.lst ys::[]:=by
  rw [oa (by simp;omega),oa (by simpa using hi),List.set_set]
 have hn':((μ.set i (bL a' b' c')++[.lst (L.map D.int)])++.lst ys::[])[μ.length]?=some (.lst (L.map D.int)):=by
  have e:μ.length=(μ.set i (bL a' b' c')).length:=by simp
  rw [NK,e]
  exact ay
 have hl:vD (.obj μ.length) ((μ.set i (bL a b c)++[.lst (L.map D.int)])++.lst ys::[])=true:=by
  unfold vD;simp only [hn]
 unfold dw
 simp only [t6,ao,ah,aa,af,hl,Nf,au,ax,aD]
 rw [EL hn]
 simp only [aa,af,MY]
 rw [e]
 simp only [aa,af,hset]
 unfold oW
 dsimp only
 rw [hn']
 dsimp only
 rw [mB h0 (by simpa using h1)]
 dsimp only
 rw [MU,Pq hr]
 dsimp only [Option.map_some]
 rw [LL (by omega)]
 congr 1
 have e2:μ.length=(μ.set i (bL a' b' c')).length:=by simp
 rw [NK,e2]
 show (μ.set i (bL a' b' c')++O.lst (L.map D.int)::[O.lst ys]).set _ _=_
 rw [jK,NK]
 congr 2
 congr 1
 exact rF
theorem wB {L:List Int}{r:Nat}{y:Int} (h:L[r]?=some y):L.Perm (y::L.eraseIdx r):=by
 induction L generalizing r with
 | nil=>simp at h
 | cons x l ih=>
  cases r with
  | zero=>simp at h;subst h;exact List.Perm.refl _
  | succ r=>
   simp at h
   exact ((ih h).cons x).trans (List.Perm.swap y x _)
theorem uo {μ:aw}{i:Nat}{a b c m:Int} (hp:μ[i]?=some (bL a b c)) (h0:1<=m) (h1:m<=6) :
  ∃ (ns:List Int) (a' b' c':Int),ns.Nodup/\(ns.length:Int)=m/\(∀ n∈ns,0<=n/\n<m)/\bE [.obj i,.int m] μ=.ok (.tup (ns.map D.int)) (μ.set i (bL a' b' c')):=by
 have hi:i<μ.length:=(L8.mp hp).1
 have h00:μ=μ.set i (bL a b c):=by
  apply Pd
  intro j
  by_cases hj:i=j
  ·subst hj;rw [fQ hi];exact hp
  ·rw [Mb hj]
 let N0:List Int:=(List.range m.toNat).map fun (k:Nat)=>(k:Int)
 have hN0:bx 0 m.toNat=N0.map D.int:=by
  simp only [bx,N0,N8]
  apply N9;intro k _;simp
 have run:=jR (src:=.fix (bx 0 m.toNat)) (g:=ak 0) (t:=bD) (e:=dw) (n:=μ.length+1)
  (fun xs ys ρ μ1 s=>s=[]/\∃ (o:Option D) (L ns:List Int) (a b c:Int),ρ=[o,some (.obj μ.length),some (.obj i)]/\μ1=μ.set i (bL a b c)++[.lst (L.map D.int)]/\ys=ns.map D.int/\(ns++L).Perm N0/\L.length=xs.length/\xs.length<=6)
  (fun ys ρ μ1 s ⟨_,o,L,ns,a,b,c,_,e,_⟩=>⟨by rw [e];simp,trivial⟩)
  (fun x r ys ρ μ1 s hJJ => by
   obtain ⟨es,o,L,ns,a,b,c,e1,e2,e3,e4,e5,e6⟩:=hJJ
   subst es
   refine ⟨by rw [e2];simp,trivial,[some x,some (.obj μ.length),some (.obj i)],μ1,[],true,μ1,[],by rw [e1];rfl,rfl,fun _=>?_,fun z=>by cases z⟩
   simp only [NU] at e5 e6
   obtain ⟨j,y,a',b',c',hj,e⟩:=Ej (a:=a) (b:=b) (c:=c) (L:=L) (ys:=ys) (x:=x) hi (by omega) (by omega)
   rw [e2]
   refine ⟨.int y,_,[],e,?_,by simp,rfl,some x,L.eraseIdx j,ns++[y],a',b',c',rfl,rfl,by rw [e3];simp,?_,?_,by omega⟩
   ·rw [e3, MY]
    have:=e4.length_eq
    have hN:N0.length=m.toNat:=by simp [N0]
    rw [MX,hN] at this
    exact LP (show ns.length<1000 by omega) bG
   ·rw [NK]
    exact (List.Perm.append_left ns (wB hj).symm).trans e4
   ·have hlt := (L8.mp hj).1
    rw [List.length_eraseIdx,LL hlt];omega)
  (xs:=bx 0 m.toNat) (ys:=[]) (ρ:=[none,some (.obj μ.length),some (.obj i)]) (μ1:=μ++[.lst (bx 0 m.toNat)]) (s:=[])
  ⟨rfl,none,N0,[],a,b,c,rfl,by rw [<- h00,hN0],rfl,by simp,by simp [N0,bx],by simp [bx];omega⟩
 obtain ⟨ys',ρ',μ1',s',⟨es,o,L,ns,a',b',c',f1,f2,f3,f4,f5,_⟩,run⟩:=run
 have hLn:L=[]:=PH (by simpa using f5)
 subst hLn es
 rw [MC] at f4
 refine ⟨ns,a',b',c',?_,?_,fun n hn=>?_,?_⟩
 ·rw [f4.nodup_iff]
  simp only [N0]
  rw [List.nodup_iff_pairwise_ne,Pg]
  exact (Oj (n:=m.toNat)).imp fun h e=>h (by omega)
 ·have := f4.length_eq
  rw [this];simp [N0];omega
 ·have := f4.mem_iff.mp hn
  simp only [N0,Oh,LU] at this
  obtain ⟨k,hk,rfl⟩:=this
  omega
 ·unfold bE
  rw [b9]
  have lr:mE [.int m] μ=.ok (.obj μ.length) (μ++[.lst (bx 0 m.toNat)]):=by
   unfold mE;dsimp only;rw [LL (by omega)]
  simp only [jq,aO,bc,aD,au,ax,ao,ah,aa,af,lr,ae,bW,aJ,aW,cY,dv]
  simp only [List.replicate,P9,Qa,ao,ah,aa,af]
  rw [gF (by omega) (by omega)]
  simp only [aa,af,bh,MX,NU,Ob]
  rw [show fB [none,some 2,some 0] [some (D.obj i),some (D.int m),some (D.obj μ.length)]=[none,some (.obj μ.length),some (.obj i)] from rfl]
  rw [run]
  simp only [aa,af]
  have hl:(μ1'++[O.lst ys'])[μ.length+1]?=some (.lst ys'):=by
   have:μ1'.length=μ.length+1:=by rw [f2];simp
   rw [<- this];exact ay
  rw [sF hl]
  simp only [ae,af,aM]
  rw [f2,f3,NK]
  exact vY (g9.mpr (by simp)) og
def oz (m:Int) (k:List Int):Prop:=∃ a b:Int,k=[a,b]/\0<=a/\a<b/\b<m
theorem oz.prs {m:Int}{k:List Int} (h:oz m k) (hm:m<=6):k∈prs:=by
 obtain ⟨a,b,rfl,h1,h2,h3⟩:=h
 exact xE h1 h2 (by omega)
def kB (d:D) (m:Int) (ks:List (List Int)):Prop:=d=.tup [.int m,.tup (ks.map ar)]/\1<=m/\m<=6/\(ks.Pairwise fun a b=>ni a<ni b)/\∀ k∈ks,oz m k
theorem nu {m:Int}{ks:List (List Int)} (h0:1<=m) (h1:m<=6) (hk:∀ k∈ks,oz m k):kB (.tup [.int m,.tup ((di ks).map ar)]) m (di ks):=by
 refine ⟨rfl,h0,h1,pM.filter _,fun k h=>?_⟩
 unfold di at h
 rw [LS,PF] at h
 exact hk k h.2
theorem iL {m:Int}{ks:List (List Int)}{d:D} (h:kB d m ks):ks.length<=15:=by
 obtain ⟨_,_,hm,hp,hk⟩:=h
 have hn:ks.Nodup:=hp.imp fun h e=>by subst e;omega
 have hs:ks ⊆ prs:=fun k h=>(hk k h).prs hm
 have:=hn.length_le_of_subset hs
 rw [xF] at this
 exact this
def kn (p:Int × Int):D:=.tup [.int p.1,.int p.2]
theorem l2:(2:Nat)<=sizeLine:=by decide
theorem KW {u v:Int}{μ:aw}:tQ [.tup [.int u,.int v]] μ=.ok (.int (min u v)) μ:=rfl
theorem KY {u v:Int}{μ:aw}:qh [.tup [.int u,.int v]] μ=.ok (.int (max u v)) μ:=rfl
theorem B9 {n:Nat}{d:D}{m:Int}{ks:List (List Int)} (h:kB d m ks):d.low n:=by
 obtain ⟨rfl,_⟩:=h
 simp
 exact g9.mpr fun x hx=>by
  obtain ⟨k,_,rfl⟩:=Oh.mp hx
  simp [ar]
  exact g9.mpr (by simp)
theorem gU {lo:Int}{n:Nat}:bx lo (n+1)=.int lo::bx (lo+1) n:=by
 unfold bx
 rw [N7,Ny,N8]
 congr 1
 ·simp
 ·apply N9
  intro i _
  simp only [Function.comp_apply]
  congr 1
  omega
theorem iO {lo:Int}:bx lo 0=[]:=rfl
theorem jL {lo:Int}{n:Nat} (h:bx lo n=[]):n=0:=by
 cases n with
 | zero=>rfl
 | succ n=>rw [gU] at h;cases h
theorem pC {x:D}:∀ k:Nat,(List.replicate k [x]).flatten=List.replicate k x
 | 0=>rfl
 | k+1=>by rw [NH,NI,pC k];rfl
theorem l1:(1:Nat)<=sizeLine:=by decide
theorem K4 {M:aw}{m:Nat}{x:D} (hm:m<=6):fg [some x,some (.int m)] M=.ok (.obj (M.length+1)) (M++[.lst [.non],.lst (List.replicate m .non)]):=by
 unfold fg
 simp only [aH,cW,au,ax,bf,aa,af,NU,Ob,LL l1,ao,ah]
 unfold kr
 dsimp only
 rw [ay]
 dsimp only
 have hz:(6:Nat)<=sizeLine:=by decide
 rw [LL (by refine ⟨by omega,by omega,?_⟩;simp only [NU,Ob];omega)]
 simp only [Na,pC,MX,NU,Ob,NK,Od,NP]
end Lw
namespace Lw
open PySem L2 RS Lv
def nL:Option Nat->D
 | none=>.non
 | some n=>.int n
theorem yU (o:Option Nat):nL o=.non\/∃ i,nL o=.int i:=by
 cases o with
 | none=>exact .inl rfl
 | some n=>exact .inr ⟨n,rfl⟩
def dS (m:Nat) (f:Int->Option Nat):List D:=(List.range m).map fun q:Nat=>nL (f q)
theorem uw {m:Nat}{f:Int->Option Nat}{q:Int} (q0:0<=q) (q1:q<m):atI (dS m f) q=some (nL (f q)):=by
 refine mG q0 ?_
 unfold dS
 rw [MU,Pe (by omega)]
 simp only [Option.map_some,OF q0]
theorem pb {m:Nat}{f:Int->Option Nat}{q:Int}{v:Nat} (q0:0<=q) (q1:q<m):(dS m f).set q.toNat (.int v)=dS m (kK f q v):=by
 unfold dS
 apply Pd
 intro i
 rw [List.getElem?_set,MY,Oa,MU,MU]
 by_cases e:q.toNat=i
 ·rw [LL e, LL (by omega), Pe (by omega), <- e]
  simp only [Option.map_some,OF q0,kK,LL rfl]
  rfl
 ·rw [LM e]
  by_cases hi:i<m
  ·rw [Pe hi]
   simp only [Option.map_some,kK]
   rw [LM (by omega)]
  ·rw [Pf (by rw [Oa]; omega)]
   rfl
def iB (T:Int->Int->Option Nat) (p:Int) (f:Int->Option Nat):Int->Int->Option Nat:=fun p'=>if p'=p then f else T p'
theorem mJ {T:Int->Int->Option Nat}{p:Int}{f:Int->Option Nat}:iB T p f p=f:=LL rfl
theorem uu {T:Int->Int->Option Nat}{p:Int}{f g:Int->Option Nat}:iB (iB T p f) p g=iB T p g:=by
 funext p'
 unfold iB
 by_cases e:p'=p
 ·rw [LL e,LL e]
 ·rw [LM e,LM e,LM e]
def FT (μ0:aw) (m a:Nat) (T:Int->Int->Option Nat) (μ:aw):Prop:=μ0.length<=a/\(∀ i,i<μ0.length->μ[i]?=μ0[i]?)/\∃ bs:List Nat,bs.Nodup/\μ[a]?=some (.lst (bs.map D.obj))/\bs.length=m /\
 ∀ (p b:Nat),bs[p]?=some b->μ0.length<=b/\b≠a/\μ[b]?=some (.lst (dS m (T p)))
theorem FT.app {μ0 μ g:aw}{m a:Nat}{T:Int->Int->Option Nat} (h:FT μ0 m a T μ):FT μ0 m a T (μ++g):=by
 obtain ⟨h1,h2,bs,h0,h3,h4,h5⟩:=h
 have hl:μ0.length<=μ.length:=LV h1 (LW (L8.mp h3).1)
 refine ⟨h1,fun i hi=>?_,bs,h0,aK h3,h4,fun p b hb=>?_⟩
 ·rw [MR (by omega)];exact h2 i hi
 ·obtain ⟨g1, g2, g3⟩ := h5 p b hb
  exact ⟨g1,g2,aK g3⟩
theorem FT.pre {μ0 μ:aw}{m a:Nat}{T:Int->Int->Option Nat} (h:FT μ0 m a T μ):∃ g,μ=μ0++g:=by
 obtain ⟨h1,h2,bs,h0,h3,h4,h5⟩:=h
 refine ⟨μ.drop μ0.length,?_⟩
 apply Pd
 intro i
 by_cases hi:i<μ0.length
 ·rw [MR hi,h2 i hi]
 ·rw [MP (by omega), Ow]
  congr 1;omega
theorem FT.get {μ0 μ:aw}{m a:Nat}{T:Int->Int->Option Nat}{p:Int} (h:FT μ0 m a T μ) (p0:0<=p) (p1:p<m):∃ b,cq (.obj a) (.int p) μ=.ok (.obj b) μ/\(∀ q:Int,0<=q->q<m->cq (.obj b) (.int q) μ=.ok (nL (T p q)) μ) /\
  ∀ (q:Int) (v:Nat),0<=q->q<m->∃ μ',vL (.obj b) (.int q) (.int v) μ=.ok () μ'/\(∀ (n:Nat) xs t,μ[n]?=some (.lst xs)->D.tup t∈xs->μ'[n]?=some (.lst xs))/\FT μ0 m a (iB T p (kK (T p) q v)) μ':=by
 obtain ⟨h1,h2,bs,h0,h3,h4,h5⟩:=h
 have hp:p.toNat<bs.length:=by omega
 have hpe:((p.toNat:Nat):Int)=p:=OF p0
 obtain ⟨g1,g2,g3⟩:=h5 p.toNat bs[p.toNat] (Pq hp)
 rw [hpe] at g3
 refine ⟨bs[p.toNat],fJ h3 (mG p0 (by rw [MU,Pq hp];rfl)),fun q q0 q1=>fJ g3 (uw q0 q1),fun q v q0 q1=>?_⟩
 have hlen:(dS m (T p)).length=m:=by unfold dS;rw [MY,Oa]
 refine ⟨_,lJ g3 (mB q0 (by rw [hlen];exact q1)),fun n xs t hn ht=>?_,h1,fun i hi=>?_,bs,h0,?_,h4,fun p' b hb=>?_⟩
 ·by_cases e : bs[p.toNat] = n
  ·subst e
   rw [g3] at hn
   cases hn
   unfold dS at ht
   obtain ⟨j,_,hj⟩:=Oh.mp ht
   rcases yU (T p j) with z | ⟨i,z⟩ <;> (rw [z] at hj;cases hj)
  ·rw [Mb e];exact hn
 ·rw [Mb (by omega)];exact h2 i hi
 ·rw [Mb (by omega)];exact h3
 ·obtain ⟨k1, k2, k3⟩ := h5 p' b hb
  obtain ⟨hp',hbe⟩:=L8.mp hb
  refine ⟨k1,k2,?_⟩
  by_cases e:p'=p.toNat
  ·subst e
   rw [hbe,fQ (L8.mp (hbe ▸ g3)).1,pb q0 q1,hpe,mJ]
  ·have hne : bs[p.toNat] ≠ b := fun z => e ((L9 h0).mp (hbe.trans z.symm))
   rw [Mb hne,k3]
   unfold iB
   rw [LM (by omega)]
def tO (ks:List (List Int)):List (Int × Int):=ks.flatMap fun k=>match k with
 | [u,v]=>[(u,v),(v,u)]
 | _=>[]
def mj (ks:List (List Int)) (a b:Int):Prop:=(a,b)∈tO ks
theorem Il {μ:aw}{o:Option Nat}{n:Nat}:ka false (nL o) (.int ((n:Int)+1 - 1)) μ=.ok (.bl (decide (o=some n))) μ:=by
 cases o with
 | none=>rfl
 | some k=>
  show ka false (.int k) (.int ((n:Int)+1 - 1)) μ=_
  rw [iW]
  simp only [NT,Nd]
  congr 2
  by_cases e:k=n
  ·subst e;simp
  ·have : ¬ (k : Int) = (n : Int) + 1 - 1 := by omega
   rw [LI (show ¬ some k=some n by simp [e])]
   exact LJ.mpr this
theorem rk {o:Option Nat}:(nL o).isNon=decide (o=none):=by
 cases o <;> rfl
section
variable {μ0 μ:aw}{m a:Nat}{web:D}{M p u v q r:Int}{n:Nat}{T:Int->Int->Option Nat}{f:Int->Option Nat}
theorem Lh (h:FT μ0 m a (iB T p f) μ) (p0:0<=p) (p1:p<m) (q0:0<=q) (q1:q<m) (r0:0<=r) (r1:r<m) :
  ∃ μ',jb [some web,some (.int M),some (.obj a),some (.int p),some (.int ((n:Int)+1)),some (.int u),some (.int v),some (.int q),some (.int r)] μ=.next [some web,some (.int M),some (.obj a),some (.int p),some (.int ((n:Int)+1)),some (.int u),some (.int v),some (.int q),some (.int r)] μ' /\
   (∀ (n:Nat) xs t,μ[n]?=some (.lst xs)->D.tup t∈xs->μ'[n]?=some (.lst xs))/\FT μ0 m a (iB T p (zN n f (q,r))) μ':=by
 obtain ⟨b,e1,e2,k⟩:=h.get p0 p1
 rw [mJ] at k e2
 have sub1:∀ x:Int,ie (.int x) (.int 1) μ=.ok (.int (x - 1)) μ:=fun _=>rfl
 unfold jb
 simp only [cm,om,eR,aH,ao,ah,bf,aa,af,e1,e2 q q0 q1,sub1,Il,ba]
 unfold zN
 dsimp only
 by_cases c1:f q=some n
 ·simp only [NQ c1, Nf, e1, e2 r r0 r1, aa, af, AW, rk, NT, Nd, ba, ae]
  by_cases c2:f r=none
  ·obtain ⟨μ', g1, g2, g3⟩ := k r (n + 1) r0 r1
   rw [uu] at g3
   rw [show ((n+1:Nat):Int)=(n:Int)+1 by push_cast;rfl] at g1
   simp only [NQ c2,Nf,bc,ao,ah,ae,kg,aH,aa,af,e1,g1]
   rw [LL ⟨c1,c2⟩]
   exact ⟨μ',rfl,g2,g3⟩
  ·simp only [LI c2, NT, Nd, cf]
   rw [LM fun z=>c2 z.2]
   exact ⟨μ,rfl,fun _ _ _ h _=>h,h⟩
 ·simp only [LI c1, NT, Nd, ae, af, cf]
  rw [LM fun z=>c1 z.1]
  exact ⟨μ,rfl,fun _ _ _ h _=>h,h⟩
theorem fr3 (h:FT μ0 m a (iB T p f) μ) (p0:0<=p) (p1:p<m) (u0:0<=u) (u1:u<m) (v0:0<=v) (v1:v<m) {o7 o8:Option D} :
  ∃ o7' o8' μ',gR [some web,some (.int M),some (.obj a),some (.int p),some (.int ((n:Int)+1)),some (.int u),some (.int v),o7,o8] μ=.next [some web,some (.int M),some (.obj a),some (.int p),some (.int ((n:Int)+1)),some (.int u),some (.int v),o7',o8'] μ'/\FT μ0 m a (iB T p (zN n (zN n f (u,v)) (v,u))) μ':=by
 unfold gR
 simp only [gq,cX,cW,au,ax,eJ,ao,ah,aa,af,NU,Ob,LL l2]
 rw [gE ay]
 simp only [ae,af,dN]
 have hn:(μ++[O.lst [.tup [.int u,.int v],.tup [.int v,.int u]]])[μ.length]?=some (.lst [.tup [.int u,.int v],.tup [.int v,.int u]]):=ay
 obtain ⟨μ1,e1,e2,e3⟩:=Lh (web:=web) (M:=M) (n:=n) (u:=u) (v:=v) (h.app (g:=[O.lst [.tup [.int u,.int v],.tup [.int v,.int u]]])) p0 p1 u0 u1 v0 v1
 have hn1:=e2 _ _ _ hn LY
 obtain ⟨μ2,f1,f2,f3⟩:=Lh (web:=web) (M:=M) (n:=n) (u:=u) (v:=v) e3 p0 p1 v0 v1 u0 u1
 have hn2:=f2 _ _ _ hn1 LY
 refine ⟨some (.int v),some (.int u),μ2,?_,f3⟩
 have g1:dq 2 (aZ (ak 7) (aZ (ak 8) dr)) (.tup [.int u,.int v]) [some web,some (.int M),some (.obj a),some (.int p),some (.int ((n:Int)+1)),some (.int u),some (.int v),o7,o8] (μ++[O.lst [.tup [.int u,.int v],.tup [.int v,.int u]]])=.ok [some web,some (.int M),some (.obj a),some (.int p),some (.int ((n:Int)+1)),some (.int u),some (.int v),some (.int u),some (.int v)] (μ++[O.lst [.tup [.int u,.int v],.tup [.int v,.int u]]]):=rfl
 have g2:dq 2 (aZ (ak 7) (aZ (ak 8) dr)) (.tup [.int v,.int u]) [some web,some (.int M),some (.obj a),some (.int p),some (.int ((n:Int)+1)),some (.int u),some (.int v),some (.int u),some (.int v)] μ1=.ok [some web,some (.int M),some (.obj a),some (.int p),some (.int ((n:Int)+1)),some (.int u),some (.int v),some (.int v),some (.int u)] μ1:=rfl
 unfold ic
 rw [LL (show cG (.own μ.length _) _ from hn),g1,ae,e1,sC]
 unfold ic
 rw [LL (show cG (.own μ.length _) _ from hn1),g2,ae,f1,sC]
 unfold ic
 rw [LL (show cG (.own μ.length _) _ from hn2)]
theorem Lz {ks:List (List Int)} (hk:∀ k∈ks,oz m k) (h:FT μ0 m a (iB T p f) μ) (p0:0<=p) (p1:p<m) {o5 o6 o7 o8:Option D} :
  ∃ o5' o6' o7' o8' μ',gQ [some (.tup [.int M,.tup (ks.map ar)]),some (.int M),some (.obj a),some (.int p),some (.int ((n:Int)+1)),o5,o6,o7,o8] μ=.next [some (.tup [.int M,.tup (ks.map ar)]),some (.int M),some (.obj a),some (.int p),some (.int ((n:Int)+1)),o5',o6',o7',o8'] μ'/\FT μ0 m a (iB T p ((tO ks).foldl (zN n) f)) μ':=by
 unfold gQ
 simp only [gq,cX,aH,ah,bf,aa,af,il,kf,ae,bh]
 have run:=fR (src:=.fix (ks.map ar)) (g:=dq 2 (aZ (ak 5) (aZ (ak 6) dr))) (fb:=gR)
  (fun xs ρ μ1=>∃ ys zs:List (List Int),xs=zs.map ar/\ks=ys++zs/\FT μ0 m a (iB T p ((tO ys).foldl (zN n) f)) μ1/\∃ o5 o6 o7 o8,ρ=[some (.tup [.int M,.tup (ks.map ar)]),some (.int M),some (.obj a),some (.int p),some (.int ((n:Int)+1)),o5,o6,o7,o8])
  (fun _ _ _=>trivial)
  (fun x xs ρ μ1 hJJ => by
   obtain ⟨ys,zs,hx,hks,hF,o5,o6,o7,o8,e⟩:=hJJ
   subst e
   cases zs with
   | nil=>cases hx
   | cons k zs=>
    injection hx with hx1 hx2
    subst hx1 hx2
    obtain ⟨u,v,rfl,u0,uv,v1⟩:=hk k (by rw [hks];simp)
    obtain ⟨o7',o8',μ3,e1,e3⟩:=fr3 (web:=.tup [.int M,.tup (ks.map ar)]) (M:=M) (n:=n) (u:=u) (v:=v) (o7:=o7) (o8:=o8) hF p0 p1 u0 (by omega) (by omega) v1
    refine ⟨trivial,_,μ1,_,μ3,rfl,e1,ys++[[u,v]],zs,rfl,by rw [hks];simp,?_,_,_,_,_,rfl⟩
    have:tO (ys++[[u,v]])=tO ys++[(u,v),(v,u)]:=by simp [tO]
    rw [this,OS]
    exact e3)
  (xs:=ks.map ar) (ρ:=[some (.tup [.int M,.tup (ks.map ar)]),some (.int M),some (.obj a),some (.int p),some (.int ((n:Int)+1)),o5,o6,o7,o8]) (μ:=μ)
  ⟨[],ks,rfl,rfl,h,o5,o6,o7,o8,rfl⟩
 obtain ⟨ρ',μ',⟨ys,zs,hx,hks,hF,o5',o6',o7',o8',e⟩,run⟩:=run
 subst e
 have hz:zs=[]:=by cases zs with
  | nil=>rfl
  | cons=>cases hx
 subst hz
 rw [MC] at hks
 subst hks
 exact ⟨o5',o6',o7',o8',μ',run,hF⟩
theorem eX {ks:List (List Int)} (hk:∀ k∈ks,oz m k) {x y:Int} (h:mj ks x y):(0<=x/\x<m)/\(0<=y/\y<m):=by
 unfold mj tO at h
 obtain ⟨k,hk',hm⟩:=Qb.mp h
 obtain ⟨u,v,rfl,u0,uv,v1⟩:=hk k hk'
 simp at hm
 omega
theorem fr5 {ks:List (List Int)} (hk:∀ k∈ks,oz m k) (h:FT μ0 m a (iB T p fun _=>none) μ) (p0:0<=p) (p1:p<m) (hm:m<=6) {o4 o5 o6 o7 o8:Option D} :
  ∃ o4' o5' o6' o7' o8' μ' f,gP [some (.tup [.int m,.tup (ks.map ar)]),some (.int m),some (.obj a),some (.int p),o4,o5,o6,o7,o8] μ=.next [some (.tup [.int m,.tup (ks.map ar)]),some (.int m),some (.obj a),some (.int p),o4',o5',o6',o7',o8'] μ'/\FT μ0 m a (iB T p f) μ'/\vN (mj ks) p (fun q=>0<=q/\q<m) f:=by
 obtain ⟨b,e1,_,k⟩:=h.get p0 p1
 obtain ⟨μ1,e3,_,h1⟩:=k p 0 p0 p1
 rw [uu,mJ] at h1
 unfold gP
 simp only [aO,bc,bf,ae,kg,aH,ao,ah,aa,af,e1]
 rw [show (D.int 0)=.int ((0:Nat):Int) from rfl,e3]
 simp only [aa,af,ae,aJ,gq,dv,au,ax,bf,ao,ah]
 rw [oj (by omega) (by omega) (by omega) (by omega)]
 simp only [ae,af,bh]
 have run:=fR (src:=.fix (bx 1 ((m:Int) - 1).toNat)) (g:=ak 4) (fb:=gQ)
  (fun xs ρ μ1=>∃ (n c:Nat) (f:Int->Option Nat),xs=bx ((n:Int)+1) c/\n+1+c=m/\FT μ0 m a (iB T p f) μ1/\Up (mj ks) p (fun q=>0<=q/\q<m) n f/\∃ o4 o5 o6 o7 o8,ρ=[some (.tup [.int m,.tup (ks.map ar)]),some (.int m),some (.obj a),some (.int p),o4,o5,o6,o7,o8])
  (fun _ _ _=>trivial)
  (fun x xs ρ μ1 hJJ => by
   obtain ⟨n,c,f,hx,hc,hF,hU,o4,o5,o6,o7,o8,e⟩:=hJJ
   subst e
   cases c with
   | zero=>rw [iO] at hx;cases hx
   | succ c=>
    rw [gU] at hx
    injection hx with hx1 hx2
    subst hx1 hx2
    obtain ⟨o5',o6',o7',o8',μ3,e1,e3⟩:=Lz (M:=m) (n:=n) (o5:=o5) (o6:=o6) (o7:=o7) (o8:=o8) hk hF p0 p1
    exact ⟨trivial,_,μ1,_,μ3,rfl,e1,n+1,c,_,by push_cast;rfl,by omega,e3,Bw hU (fun a b h=>(eX hk h).1) (fun a b=>Iff.rfl),_,_,_,_,_,rfl⟩)
  (xs:=bx 1 ((m:Int) - 1).toNat) (ρ:=[some (.tup [.int m,.tup (ks.map ar)]),some (.int m),some (.obj a),some (.int p),o4,o5,o6,o7,o8]) (μ:=μ1)
  ⟨0,m - 1,_,by rw [show ((m:Int) - 1).toNat=m - 1 by omega];rfl,by omega,h1,x5 (fun q _=>by unfold kK;rfl),o4,o5,o6,o7,o8,rfl⟩
 obtain ⟨ρ',μ',⟨n,c,f,hx,hc,hF,hU,o4',o5',o6',o7',o8',e⟩,run⟩:=run
 subst e
 have hz:=jL hx.symm
 subst hz
 refine ⟨o4',o5',o6',o7',o8',μ',f,run,hF,hU.full (fun a b h=>(eX hk h).2) fun q hq hl=>?_⟩
 have:=AM (m:=m) ⟨p0,p1⟩ (fun a b h=>(eX hk h).2) hl
 omega
end
theorem qU {m:Nat}:dS m (fun _=>none)=List.replicate m .non:=by
 unfold dS nL
 rw [List.map_const',Oa]
theorem EI {μ:aw}{m:Nat} (hm:m<=6):∃ (bs:List Nat) (s:aw),compLoop (.fix (bx 0 m)) μ.length (ak 0) bD fg (bx 0 m) [none,some (.int m)] (μ++[.lst []])=.ok (.obj μ.length) (μ++.lst (bs.map D.obj)::s)/\bs.length=m/\bs.Nodup/\∀ b∈bs,∃ j,b=μ.length+1+j/\s[j]?=some (.lst (List.replicate m .non)):=by
 have run:=jR (src:=.fix (bx 0 m)) (g:=ak 0) (t:=bD) (e:=fg) (n:=μ.length)
  (fun xs ys ρ μ1 s=>μ1=μ/\(∃ o,ρ=[o,some (.int m)])/\∃ bs:List Nat,ys=bs.map D.obj/\bs.length+xs.length=m/\bs.Nodup/\∀ b∈bs,∃ j,b=μ.length+1+j/\s[j]?=some (.lst (List.replicate m .non)))
  (fun ys ρ μ1 s ⟨e,_⟩=>⟨by rw [e],trivial⟩)
  (fun x r ys ρ μ1 s hJJ => by
   obtain ⟨e1,⟨o,e2⟩,bs,e3,e4,e6,e5⟩:=hJJ
   subst e1 e2
   refine ⟨rfl,trivial,[some x,some (.int m)],_,s,true,_,s,rfl,rfl,fun _=>?_,fun z=>by cases z⟩
   have e:=K4 (M:=μ1++.lst ys::s) (x:=x) hm
   simp only [NU] at e4
   refine ⟨.obj ((μ1++O.lst ys::s).length+1),μ1,s++[.lst [.non],.lst (List.replicate m .non)],by rw [e];simp,?_,rfl,rfl,⟨_,rfl⟩,bs++[(μ1++O.lst ys::s).length+1],by rw [e3];simp,by simp;omega,?_,fun b hb=>?_⟩
   ·rw [e3, MY]
    exact LP (show bs.length<1000 by omega) bG
   ·rw [OM]
    refine ⟨e6,by simp,fun b hb c hc=>?_⟩
    obtain ⟨j,f1,f2⟩:=e5 b hb
    have:=(L8.mp f2).1
    simp only [N6,MX,NU] at hc
    omega
   ·rcases L6.mp hb with z | z
    ·obtain ⟨j, f1, f2⟩ := e5 b z
     exact ⟨j,f1,aK f2⟩
    ·refine ⟨s.length + 1, ?_, ?_⟩
     ·simp only [N6,MX,NU] at z;omega
     ·rw [MP (by omega)];simp)
  (xs:=bx 0 m) (ys:=[]) (ρ:=[none,some (.int m)]) (μ1:=μ) (s:=[])
  ⟨rfl,⟨_,rfl⟩,[],rfl,by simp [bx],by simp,by simp⟩
 obtain ⟨ys',ρ',μ1',s',⟨e1,_,bs,e3,e4,e6,e5⟩,run⟩:=run
 subst e1 e3
 exact ⟨bs,s',run,by simpa using e4,e6,e5⟩
theorem Dm {μ:aw}{k:Nat}{ks:List (List Int)} (h:kB (.tup [.int k,.tup (ks.map ar)]) k ks):∃ a μ' T,fP [.tup [.int k,.tup (ks.map ar)]] μ=.ok (.obj a) μ'/\FT μ k a T μ'/\∀ p:Int,0<=p->p<k->vN (mj ks) p (fun q=>0<=q/\q<k) (T p):=by
 obtain ⟨_,h0,h1,hp,hk⟩:=h
 have hk6:k<=6:=by omega
 obtain ⟨bs,s,e1,e2,e4,e3⟩:=EI (μ:=μ) hk6
 have F0:FT μ k μ.length (fun _ _=>none) (μ++.lst (bs.map D.obj)::s):=by
  refine ⟨Mt _,fun i hi=>by rw [MR hi],bs,e4,ay,e2,fun p b hb=>?_⟩
  obtain ⟨j,rfl,f⟩:=e3 b (MW hb)
  refine ⟨by omega,by omega,?_⟩
  rw [MP (by omega),show μ.length+1+j - μ.length=j+1 by omega,qU]
  exact f
 have run:=fR (src:=.fix (bx 0 k)) (g:=ak 3) (fb:=gP)
  (fun xs ρ μ1=>∃ (n c:Nat) (T:Int->Int->Option Nat),xs=bx n c/\n+c=k/\FT μ k μ.length T μ1/\(∀ p:Int,(n:Int)<=p->T p=fun _=>none)/\(∀ p:Int,0<=p->p<n->vN (mj ks) p (fun q=>0<=q/\q<k) (T p))/\∃ o3 o4 o5 o6 o7 o8,ρ=[some (.tup [.int k,.tup (ks.map ar)]),some (.int k),some (.obj μ.length),o3,o4,o5,o6,o7,o8])
  (fun _ _ _=>trivial)
  (fun x xs ρ μ1 hJJ => by
   obtain ⟨n,c,T,hx,hc,hF,hN,hU,o3,o4,o5,o6,o7,o8,e⟩:=hJJ
   subst e
   cases c with
   | zero=>rw [iO] at hx;cases hx
   | succ c=>
    rw [gU] at hx
    injection hx with hx1 hx2
    subst hx1 hx2
    have hT:iB T n (fun _=>none)=T:=by
     funext p'
     unfold iB
     by_cases e:p'=(n:Int)
     ·rw [LL e,e,hN n (Int.le_refl _)]
     ·rw [LM e]
    obtain ⟨o4',o5',o6',o7',o8',μ3,f,g1,g3,g4⟩:=fr5 (T:=T) (p:=(n:Int)) (o4:=o4) (o5:=o5) (o6:=o6) (o7:=o7) (o8:=o8) hk (by rw [hT];exact hF) (by omega) (by omega) hk6
    refine ⟨trivial,_,μ1,_,μ3,rfl,g1,n+1,c,_,by push_cast;rfl,by omega,g3,fun p hp=>?_,fun p p0 p1=>?_,_,_,_,_,_,_,rfl⟩
    ·unfold iB
     rw [LM (by omega)]
     exact hN p (by omega)
    ·unfold iB
     by_cases e:p=(n:Int)
     ·rw [LL e,e];exact g4
     ·rw [LM e];exact hU p p0 (by omega))
  (xs:=bx 0 k) (ρ:=[some (.tup [.int k,.tup (ks.map ar)]),some (.int k),some (.obj μ.length),none,none,none,none,none,none]) (μ:=μ++.lst (bs.map D.obj)::s)
  ⟨0,k,_,rfl,by omega,F0,fun _ _=>rfl,fun p p0 p1=>by omega,_,_,_,_,_,_,rfl⟩
 obtain ⟨ρ',μ',⟨n,c,T,hx,hc,hF,hN,hU,o3,o4,o5,o6,o7,o8,e⟩,run⟩:=run
 subst e
 have hz:=jL hx.symm
 subst hz
 have hnk:n=k:=by omega
 subst hnk
 refine ⟨μ.length,μ',T,?_,hF,hU⟩
 unfold fP
 rw [cb]
 simp only [pV,aO,bc,aH,ah,bf,aa,af,du,ae,bW,aJ,cY,dv,au,ax]
 simp only [List.replicate,P9,Qa,ao,ah,aa,af]
 rw [gF (by omega) (by omega)]
 simp only [aa,af,bh,Na]
 rw [show fB [none,some 1] [some (D.tup [D.int n,D.tup (List.map ar ks)]),some (D.int n),none,none,none,none,none,none,none]=[none,some (.int n)] from rfl,e1]
 simp only [ae,bW,aJ,aO,gq,dv,au,ax,P9,Qa,ao,ah,aa,af]
 rw [gF (by omega) (by omega)]
 simp only [ae,af,bh,Na]
 rw [run]
 simp only [aJ,aW,ao,ah,ae,af,aM]
 exact xk (by simp)
def Lx (k:Int):Option Nat->Bool
 | some j=>decide ((j:Int)<=k)
 | none=>false
def FJ (T:Int->Int->Option Nat) (k p lo:Int) (c:Nat):List (List Int):=(((List.range c).map fun i:Nat=>lo+(i:Int)).filter fun q=>Lx k (T p q)).map fun q=>[p,q]
theorem Bv {T:Int->Int->Option Nat}{k p lo:Int}{c:Nat}:(FJ T k p lo c).length<=c:=by
 unfold FJ
 rw [MY]
 refine LV (Qc _ _) ?_
 rw [MY,Oa]
 exact Mt _
section
variable {μ0 μ:aw}{m a:Nat}{p q:Int}{k:Int}{T:Int->Int->Option Nat}
end
theorem jQ {m:Nat}{T:Int->Int->Option Nat}{k:Int} (h:m<=6):∀ n,((List.range n).flatMap fun p:Nat=>FJ T k p ((p:Int)+1) (m - (p+1))).length<=6 * n
 | 0=>by simp
 | n+1=>by
  rw [List.range_succ,Qd,MX]
  have:=jQ (T:=T) (k:=k) h n
  have h2:=Bv (T:=T) (k:=k) (p:=n) (lo:=(n:Int)+1) (c:=m - (n+1))
  simp only [Qe,List.flatMap_nil,MC]
  omega
theorem jO {μ:aw}:∀ fs:List Int,fE μ (fs.map D.int)=some (fs.map PyData.int)
 | []=>rfl
 | x::fs=>by simp only [Ny,fE,jO fs];rfl
theorem jP:∀ fs:List Int,PyData.canLayAll0 (fs.map PyData.int)=true/\PyData.depthAll (fs.map PyData.int)=0
 | []=>by simp [PyData.canLayAll0,PyData.depthAll]
 | x::fs=>by
  have:=jP fs
  simp only [Ny,PyData.canLayAll0,PyData.depthAll,PyData.canLay0,PyData.depth,this.1,this.2]
  exact ⟨rfl,rfl⟩
theorem xO {μ:aw}{F:Nat}{fs:List Int}{a:Int} (h:μ[F]?=some (.lst (fs.map D.int))):qD false (.int a) (.obj F) μ=.ok (.bl (decide (a∈fs))) μ:=by
 have e1:ju μ (.int a)=some (.int a):=rfl
 have e2:ju μ (.obj F)=some (.list (fs.map PyData.int)):=by
  unfold ju
  dsimp only
  rw [h]
  dsimp only
  rw [jO]
  rfl
 have f1:cT (.int a)=true:=rfl
 have f2:cT (.list (fs.map PyData.int))=true:=by
  have:=jP fs
  simp only [cT,PyData.canLay0,this.1,PyData.depth,this.2,Qf]
  rfl
 unfold qD
 rw [e1,e2]
 dsimp only [oS]
 rw [LL ⟨f1,f2⟩]
 simp only [NT,Nd]
 congr 2
 rw [Qg]
 apply Mx.mpr
 rw [Qh,PF]
 constructor
 ·rintro ⟨x, hx, e⟩
  have:x=a:=by simpa [PyData.eqv] using e
  subst this;exact hx
 ·intro hx
  exact ⟨a,hx,by simp [PyData.eqv]⟩
theorem ip {m:Int}{ks:List (List Int)} (hk:∀ k∈ks,oz m k) {a b:Int}:mj ks a b↔([a,b]∈ks\/[b,a]∈ks):=by
 unfold mj tO
 rw [Qb]
 constructor
 ·rintro ⟨k, hk', hm⟩
  obtain ⟨u,v,rfl,_⟩:=hk k hk'
  simp at hm
  rcases hm with ⟨rfl,rfl⟩ | ⟨rfl,rfl⟩
  ·exact .inl hk'
  ·exact .inr hk'
 ·rintro (h | h)
  ·exact ⟨_,h,by simp⟩
  ·exact ⟨_,h,by simp⟩
theorem mQ {m:Int}{t e:List Int->Int}:∀ {ks:List (List Int)},(∀ k∈ks,oz m k)->∀ (P:Int->Bool),∃ l:List Int,
  ((ks.map ar).filter (fun d=>match d with | .tup [.int a,.int b]=>P (t [a,b]) | _=>false)).map (fun d=>match d with | .tup [.int a,.int b]=>.int (e [a,b]) | _=>.non)=l.map D.int/\l.length<=ks.length/\∀ x,x∈l↔∃ k∈ks,P (t k)=true/\x=e k
 | [],_,P=>⟨[],rfl,Mt _,by simp⟩
 | k::ks,h,P=>by
  obtain ⟨l,e1,e2,e3⟩:=mQ (t:=t) (e:=e) (ks:=ks) (fun x hx=>h x (LZ _ hx)) P
  obtain ⟨a,b,rfl,_⟩:=h k LY
  rw [Ny,PQ]
  show ∃ l:List Int,List.map _ (if P (t [a,b])=true then _ else _)=_/\_
  by_cases c:P (t [a,b])=true
  ·rw [LL c, Ny, e1]
   refine ⟨e [a,b]::l,rfl,by simp;omega,fun x=>?_⟩
   simp only [L4,e3]
   constructor
   ·rintro (rfl | ⟨k, hk, z⟩)
    ·exact ⟨[a,b],.inl rfl,c,rfl⟩
    ·exact ⟨k,.inr hk,z⟩
   ·rintro ⟨k, rfl | hk, z1, z2⟩
    ·exact .inl z2
    ·exact .inr ⟨k,hk,z1,z2⟩
  ·rw [LM c, e1]
   refine ⟨l,rfl,by simp;omega,fun x=>?_⟩
   simp only [L4,e3]
   constructor
   ·rintro ⟨k,hk,z⟩;exact ⟨k,.inr hk,z⟩
   ·rintro ⟨k, rfl | hk, z1, z2⟩
    ·exact absurd z1 c
    ·exact ⟨k,hk,z1,z2⟩
def CS:List Int->Int
 | [a,_]=>a
 | _=>0
def CM:List Int->Int
 | [_,b]=>b
 | _=>0
theorem Bh {μ:aw}{m:Int}{F:Nat}{fs:List Int}{ks:List (List Int)} (hk:∀ k∈ks,oz m k) (hl:ks.length<=15) (h:μ[F]?=some (.lst (fs.map D.int))) :
  ∃ (t:Nat) (g:aw) (ns:List Int),eu [.tup (ks.map ar),.obj F] μ=.ok (.obj t) (μ++g)/\(μ++g)[t]?=some (.lst (ns.map D.int))/\ns.length<=30/\μ.length<=t/\∀ q,q∈ns↔∃ r∈fs,mj ks r q:=by
 obtain ⟨l1,a1,a2,a3⟩:=mQ (t:=CS) (e:=CM) hk fun x=>decide (x∈fs)
 obtain ⟨l2',b1,b2,b3⟩:=mQ (t:=CM) (e:=CS) hk fun x=>decide (x∈fs)
 have c1:=de (src:=.fix (ks.map ar)) (g:=dq 2 (aZ (ak 0) (aZ (ak 1) (dr)))) (t:=gx) (e:=jo) (μ1:=μ)
  (q:=fun d=>match d with | .tup [.int a,.int b]=>decide (CS [a,b]∈fs) | _=>false) (h:=fun d=>match d with | .tup [.int a,.int b]=>.int (CM [a,b]) | _=>.non)
  (fun ρ=>∃ o1 o2,ρ=[o1,o2,some (.obj F)]) (fun _=>trivial) (xs:=ks.map ar) (acc:=[]) (ρ:=[none,none,some (.obj F)]) ⟨_,_,rfl⟩
  (by rw [MY,Ob];exact LV (by omega) bG)
  (fun x hx a ρ hJJ => by
   obtain ⟨o1,o2,ho⟩:=hJJ
   obtain ⟨k,hk',rfl⟩:=Oh.mp hx
   obtain ⟨u,v,rfl,_⟩:=hk k hk'
   subst ho
   refine ⟨[some (.int u),some (.int v),some (.obj F)],⟨_,_,rfl⟩,rfl,?_,fun _=>rfl⟩
   unfold gx
   simp only [eR,aH,ao,ah,aa,af]
   rw [xO (aK h)]
   rfl)
 have c2:=fun M:aw=>fun hM:M[F]?=some (.lst (fs.map D.int))=>de (src:=.fix (ks.map ar)) (g:=dq 2 (aZ (ak 0) (aZ (ak 1) (dr)))) (t:=gv) (e:=jn) (μ1:=M)
  (q:=fun d=>match d with | .tup [.int a,.int b]=>decide (CM [a,b]∈fs) | _=>false) (h:=fun d=>match d with | .tup [.int a,.int b]=>.int (CS [a,b]) | _=>.non)
  (fun ρ=>∃ o1 o2,ρ=[o1,o2,some (.obj F)]) (fun _=>trivial) (xs:=ks.map ar) (acc:=[]) (ρ:=[none,none,some (.obj F)]) ⟨_,_,rfl⟩
  (by rw [MY,Ob];exact LV (by omega) bG)
  (fun x hx a ρ hJJ => by
   obtain ⟨o1,o2,ho⟩:=hJJ
   obtain ⟨k,hk',rfl⟩:=Oh.mp hx
   obtain ⟨u,v,rfl,_⟩:=hk k hk'
   subst ho
   refine ⟨[some (.int u),some (.int v),some (.obj F)],⟨_,_,rfl⟩,rfl,?_,fun _=>rfl⟩
   unfold gv
   simp only [eR,aH,ao,ah,aa,af]
   rw [xO (aK hM)]
   rfl)
 rw [NP,a1] at c1
 have c2':=c2 (μ++[O.lst (l1.map D.int)]) (aK h)
 rw [NP,b1] at c2'
 refine ⟨((μ++[O.lst (l1.map D.int)])++[O.lst (l2'.map D.int)]).length,([O.lst (l1.map D.int)]++[O.lst (l2'.map D.int)])++[O.lst ((l1++l2').map D.int)],l1++l2',?_,?_,by rw [MX];omega,by simp,fun q=>?_⟩
 ·unfold eu
  rw [b9]
  simp only [kH,aW,aH,cY,cX,ah,aa,af,kf,bh,List.replicate]
  rw [show fB [none,none,some 1] (some (D.tup (List.map ar ks))::some (D.obj F)::List.replicate (2 - 2) none)=[none,none,some (.obj F)] from rfl,c1]
  simp only [aa,af]
  rw [c2']
  simp only [aa,af]
  have ad:cH (.obj μ.length) (.obj (μ++[O.lst (l1.map D.int)]).length) ((μ++[O.lst (l1.map D.int)])++[O.lst (l2'.map D.int)])=.ok (.obj ((μ++[O.lst (l1.map D.int)])++[O.lst (l2'.map D.int)]).length) (((μ++[O.lst (l1.map D.int)])++[O.lst (l2'.map D.int)])++[O.lst ((l1++l2').map D.int)]):=by
   unfold cH
   dsimp only
   rw [ay,aK ay]
   dsimp only
   rw [LL,Oq]
   rw [MY,MY]
   exact LV (show _<=1000 by omega) bG
  rw [ad,ae,aM,xk (by simp)]
  simp only [NK]
 ·rw [<- NK,<- NK];exact ay
 ·rw [L6, a3, b3]
  constructor
  ·rintro (⟨k, hk', z1, z2⟩ | ⟨k, hk', z1, z2⟩)
   ·obtain ⟨u, v, rfl, _⟩ := hk k hk'
    subst z2
    exact ⟨u,Qi z1,(ip hk).mpr (.inl hk')⟩
   ·obtain ⟨u, v, rfl, _⟩ := hk k hk'
    subst z2
    exact ⟨v,Qi z1,(ip hk).mpr (.inr hk')⟩
  ·rintro ⟨r, hr, ha⟩
   rcases (ip hk).mp ha with z | z
   ·exact .inl ⟨_,z,NQ hr,rfl⟩
   ·exact .inr ⟨_,z,NQ hr,rfl⟩
theorem pB {μ:aw}{i j:Nat}{o o':O} (h:μ[j]?=some o') (ne:i≠j):(μ.set i o)[j]?=some o':=by rw [Mb ne];exact h
def jC (k:List Int):PyData:=.tuple (k.map PyData.int)
theorem mK {μ:aw}{m:Int}:∀ {ks:List (List Int)},(∀ k∈ks,oz m k)->fE μ (ks.map ar)=some (ks.map jC)
 | [],_=>rfl
 | k::ks,h=>by
  obtain ⟨a,b,rfl,_⟩:=h k LY
  have ih:=mK (μ:=μ) fun x hx=>h x (LZ _ hx)
  simp only [Ny,fE,ih]
  rfl
theorem mL {m:Int}:∀ {ks:List (List Int)},(∀ k∈ks,oz m k)->PyData.canLayAll0 (ks.map jC)=true/\PyData.depthAll (ks.map jC)<=1
 | [],_=>by simp [PyData.canLayAll0,PyData.depthAll]
 | k::ks,h=>by
  obtain ⟨a,b,rfl,_⟩:=h k LY
  have ih:=mL fun x hx=>h x (LZ _ hx)
  simp only [Ny,PyData.canLayAll0,PyData.depthAll,ih.1,jC,Nx,PyData.canLay0,PyData.depth]
  refine ⟨rfl,?_⟩
  have:=ih.2
  omega
end Lw
namespace Lw
open PySem L2 RS
def Pn (μ0:aw) (i:Nat) (μ:aw):Prop:=∃ a b c g,μ=μ0.set i (bL a b c)++g
theorem Pn.app {μ0 μ g:aw}{i:Nat} (h:Pn μ0 i μ):Pn μ0 i (μ++g):=by
 obtain ⟨a,b,c,g',rfl⟩:=h
 exact ⟨a,b,c,g'++g,by rw [NK]⟩
theorem Pn.get {μ0 μ:aw}{i:Nat} (h:Pn μ0 i μ) (hi:i<μ0.length):∃ a b c,μ[i]?=some (bL a b c):=by
 obtain ⟨a,b,c,g',rfl⟩:=h
 exact ⟨a,b,c,aK (fQ hi)⟩
theorem Pn.set {μ0 μ:aw}{i:Nat}{a b c:Int} (h:Pn μ0 i μ) (hi:i<μ0.length):Pn μ0 i (μ.set i (bL a b c)):=by
 obtain ⟨a',b',c',g',rfl⟩:=h
 exact ⟨a,b,c,g',by rw [oa (by simpa using hi),List.set_set]⟩
theorem Pn.len {μ0 μ:aw}{i:Nat} (h:Pn μ0 i μ):μ0.length<=μ.length:=by
 obtain ⟨a',b',c',g',rfl⟩:=h
 simp
theorem Pn.self {μ0:aw}{i:Nat}{a b c:Int} (h:μ0[i]?=some (bL a b c)):Pn μ0 i μ0:=by
 refine ⟨a,b,c,[],?_⟩
 rw [MC]
 apply Pd
 intro j
 by_cases e:i=j
 ·subst e;rw [fQ (L8.mp h).1,h]
 ·rw [Mb e]
theorem Pn.draw {μ0 μ:aw}{i:Nat}{m:Int} (h:Pn μ0 i μ) (hi:i<μ0.length) (h0:0<m) (h1:m<1000) :
  ∃ r a b c:Int,0<=r/\r<m/\bw [.obj i,.int m] μ=.ok (.int r) (μ.set i (bL a b c))/\Pn μ0 i (μ.set i (bL a b c)):=by
 obtain ⟨a,b,c,hp⟩:=h.get hi
 obtain ⟨r,a',b',c',r0,r1,e⟩:=xv hp h0 h1
 exact ⟨r,a',b',c',r0,r1,e,h.set hi⟩
theorem Pn.gc {μ0 μ:aw}{i:Nat}{d:D} (h:Pn μ0 i μ) (hd:d.low μ0.length):∃ a b c,qe μ0 (.ok d μ)=.ok d (μ0.set i (bL a b c)):=by
 obtain ⟨a,b,c,g',rfl⟩:=h
 exact ⟨a,b,c,vY hd og⟩
theorem yT {m:Int}{ks:List (List Int)} (h:∀ k∈ks,oz m k):cT (.tuple (ks.map jC))=true:=by
 have:=mL h
 simp only [cT,PyData.canLay0,this.1,PyData.depth,Qf]
 exact NQ (by omega)
theorem B8 {m:Int}{ks ks':List (List Int)}{d:D} (h:kB d m ks) (hs:ks'.Sublist ks):kB (.tup [.int m,.tup (ks'.map ar)]) m ks':=by
 obtain ⟨_,h0,h1,hp,hk⟩:=h
 exact ⟨rfl,h0,h1,hp.sublist hs,fun k hk'=>hk k (hs.subset hk')⟩
theorem Iu {β:Type}{xs:List β}{r:Nat} (h:r<=xs.length):jy xs none (some (r:Int))=xs.take r:=by
 unfold jy
 rw [HT.sIx_none,HT.sIx_nat]
 simp [Nat.min_eq_left h]
end Lw
namespace Lv
def ko (ks:List (List Int)) (a b:Int):Bool:=decide ([min a b,max a b]∈ks)
def rg (m:Nat):List Int:=(List.range m).map Int.ofNat
theorem my {m:Nat}{p:Int}:p∈rg m↔0<=p/\p<m:=by
 unfold rg
 rw [Oh]
 constructor
 ·rintro ⟨i, hi, rfl⟩
  have:=LU.mp hi
  exact ⟨Int.natCast_nonneg _,by simpa using this⟩
 ·rintro ⟨h0, h1⟩
  exact ⟨p.toNat,LU.mpr (by omega),by simp;omega⟩
theorem rZ {m:Nat}:(rg m).length=m:=by simp [rg]
theorem JG {m:Nat}:(rg m).Pairwise (·<·):=by
 unfold rg
 rw [Pg]
 exact OB.imp fun h=>by simpa using h
structure LF (m k:Nat) (w:List Int):Prop where
 len:w.length=k+1
 nd:w.Nodup
 rng:∀ p∈w,0<=p/\p<(m:Int)
theorem jQ {m:Nat}{f:List Int->List (List Int)} (h:∀ w,(f w).length<=m):∀ l:List (List Int),(l.flatMap f).length<=l.length * m
 | []=>by simp
 | w::l=>by
  rw [Qe,MX,NU,Nat.succ_mul]
  have:=h w;have:=jQ h l;omega
def iC:List Int->List Int->Bool
 | [],[]=>false
 | [],_::_=>true
 | _::_,[]=>false
 | a::as,b::bs=>if a=b then iC as bs else decide (a<b)
theorem xK:∀ w,iC w w=false
 | []=>rfl
 | a::r=>by simp [iC,xK r]
theorem uN:∀ {v w:List Int},iC v w=true->iC w v=false
 | [],[],h=>by cases h
 | [],_::_,_=>rfl
 | _::_,[],h=>by cases h
 | a::v,b::w,h=>by
  unfold iC at h ⊢
  by_cases e:a=b
  ·subst e;simp only [Nf] at h ⊢;exact uN h
  ·rw [LM e] at h
   rw [LM (fun z=>e z.symm)]
   have:=Qi h
   exact LI (by omega)
theorem xM:∀ {v w:List Int}{a b:Int},v.length=w.length->iC v w=true->iC (v++[a]) (w++[b])=true
 | [],[],_,_,_,h=>by cases h
 | [],_::_,_,_,l,_=>by simp at l
 | _::_,[],_,_,l,_=>by simp at l
 | x::v,y::w,a,b,l,h=>by
  show iC (x::(v++[a])) (y::(w++[b]))=true
  unfold iC at h ⊢
  by_cases e:x=y
  ·rw [LL e] at h ⊢;exact xM (by simpa using l) h
  ·rw [LM e] at h ⊢;exact h
theorem uM:∀ {w:List Int}{a b:Int},a<b->iC (w++[a]) (w++[b])=true
 | [],a,b,h=>by
  show iC [a] [b]=true
  unfold iC
  rw [LM (by omega)];exact NQ h
 | x::w,a,b,h=>by
  show iC (x::(w++[a])) (x::(w++[b]))=true
  unfold iC
  rw [LL rfl];exact uM h
end Lv
namespace Lw
open PySem L2 RS Lv
theorem f9 {U:Type}{en:U->D}{src:nZ}{g:MG}{t:MT}{e:ME}{μ1:aw}{q:U->Bool}{h:U->D} (R:Ro->Prop) (ho:∀ a,cG src (μ1++[.lst a])) :
  ∀ {us:List U}{acc:List D}{ρ:Ro},R ρ->acc.length+us.length<=sizeLine->(∀ x∈us,∀ a ρ,R ρ->∃ ρ1,R ρ1/\g (en x) ρ (μ1++[.lst a])=.ok ρ1 (μ1++[.lst a])/\t ρ1 (μ1++[.lst a])=.ok (q x) (μ1++[.lst a])/\(q x=true->e ρ1 (μ1++[.lst a])=.ok (h x) (μ1++[.lst a]))) ->
   compLoop src μ1.length g t e (us.map en) ρ (μ1++[.lst acc])=.ok (.obj μ1.length) (μ1++[.lst (acc++(us.filter q).map h)])
 | [],acc,ρ,hr,hl,he=>by
  rw [Nx]
  unfold compLoop
  rw [LL (ho acc)]
  simp
 | x::xs,acc,ρ,hr,hl,he=>by
  obtain ⟨ρ1,r1,e1,e2,e3⟩:=he x LY acc ρ hr
  rw [Ny]
  unfold compLoop
  rw [LL (ho acc),e1]
  simp only [af,aa]
  rw [e2]
  simp only [af,aa]
  have he':=fun y hy=>he y (LZ _ hy)
  simp only [NU] at hl
  cases hq:q x with
  | false=>
   rw [LM Mm,f9 R ho r1 (by omega) he',PQ,hq]
   rfl
  | true=>
   rw [LL rfl,e3 hq]
   simp only [af,aa]
   rw [kl (by omega)]
   simp only [aa,af]
   rw [f9 R ho r1 (by simp;omega) he',PQ,hq]
   simp
theorem lP {U:Type}{en:U->D}{src:nZ}{g:MG}{t:MT}{fb:MB}{μ1:aw}{q:U->Bool}{k:U->List D} (R:Ro->Prop) (ho:∀ a,cG src (μ1++[.lst a])) :
  ∀ {us:List U}{acc:List D}{ρ:Ro},R ρ->acc.length+((us.filter q).flatMap k).length<=sizeLine->(∀ x∈us,∀ a ρ,R ρ->∃ ρ1,g (en x) ρ (μ1++[.lst a])=.ok ρ1 (μ1++[.lst a])/\t ρ1 (μ1++[.lst a])=.ok (q x) (μ1++[.lst a])/\(q x=false->R ρ1)/\(q x=true->a.length+(k x).length<=sizeLine->∃ ρ2,R ρ2/\fb μ1.length ρ1 (μ1++[.lst a])=.ok ρ2 (μ1++[.lst (a++k x)]))) ->
   ∃ ρ',R ρ'/\ji src μ1.length g t fb (us.map en) ρ (μ1++[.lst acc])=.ok ρ' (μ1++[.lst (acc++(us.filter q).flatMap k)])
 | [],acc,ρ,hr,hl,he=>by
  refine ⟨ρ,hr,?_⟩
  rw [Nx]
  unfold ji
  rw [LL (ho acc)]
  simp
 | x::xs,acc,ρ,hr,hl,he=>by
  obtain ⟨ρ1,e1,e2,e4,e3⟩:=he x LY acc ρ hr
  rw [Ny]
  unfold ji
  rw [LL (ho acc),e1]
  simp only [af,aa]
  rw [e2]
  simp only [af,aa]
  have he':=fun y hy=>he y (LZ _ hy)
  cases hq:q x with
  | false=>
   rw [PQ,hq] at hl
   rw [LM Mm,PQ,hq]
   exact lP R ho (e4 hq) hl he'
  | true=>
   rw [PQ,hq,LL rfl,Qe,MX] at hl
   obtain ⟨ρ2,r2,e5⟩:=e3 hq (by omega)
   rw [LL rfl,e5]
   simp only [af,aa]
   obtain ⟨ρ',r',e6⟩:=lP R ho r2 (acc:=acc++k x) (by rw [MX];omega) he'
   refine ⟨ρ',r',?_⟩
   rw [e6,PQ,hq,LL rfl,Qe,NK]
theorem hV {U:Type}:∀ {us:List U},us.filter (fun _=>true)=us
 | []=>rfl
 | _::us=>by rw [PQ,LL rfl,hV]
theorem Ck {e:ME}{ρ:Ro}{μ1:aw}{a:List D}{y:D} (h:e ρ (μ1++[.lst a])=.ok y (μ1++[.lst a])) (hl:a.length+1<=sizeLine):oM e μ1.length ρ (μ1++[.lst a])=.ok ρ (μ1++[.lst (a++[y])]):=by
 unfold oM
 rw [h]
 simp only [af,aa]
 rw [kl (by omega)]
 rfl
def IF:D->Bool
 | .int _=>true
 | _=>false
def Cw (m:Nat):D->Bool
 | .int i=>decide (0<=i/\i<(m:Int))
 | _=>false
def xb (μ:aw) (d:D):Prop:=mf μ d≠none
theorem sy {μ:aw}{n:Nat} (h:xb μ (.obj n)):(∃ xs,μ[n]?=some (.lst xs))\/μ[n]?=some .dic:=by
 unfold xb mf at h
 dsimp only at h
 split at h
 ·rename_i xs e;exact .inl ⟨xs,e⟩
 ·rename_i e;exact .inr e
 ·exact absurd rfl h
theorem EA {μ:aw}{d:D} (h:xb μ d):∃ b,dZ "int" d μ=.ok (.bl b) μ/\(b=true->∃ c,dZ "bool" d μ=.ok (.bl c) μ/\(!c)=IF d)/\(b=false->IF d=false):=by
 cases d with
 | non=>exact ⟨false,rfl,nofun,fun _=>rfl⟩
 | bl b=>exact ⟨true,rfl,fun _=>⟨true,rfl,rfl⟩,nofun⟩
 | int i=>exact ⟨true,rfl,fun _=>⟨false,rfl,rfl⟩,nofun⟩
 | str x=>exact ⟨false,rfl,nofun,fun _=>rfl⟩
 | tup xs=>exact ⟨false,rfl,nofun,fun _=>rfl⟩
 | frz xs=>exact ⟨false,rfl,nofun,fun _=>rfl⟩
 | obj n=>
  refine ⟨false,?_,nofun,fun _=>rfl⟩
  unfold dZ mf
  rcases sy h with ⟨xs,e⟩ | e <;> simp only [e] <;> rfl
theorem Be {μ:aw}{d:D} (h:xb μ d):cZ [d] μ=.ok (.bl (IF d)) μ:=by
 obtain ⟨b,h1,h2,h3⟩:=EA h
 unfold cZ
 rw [cb]
 simp only [ja,List.replicate,aW,eW,xS,gZ,ah,aa,af,h1,ba]
 cases b with
 | false=>
  rw [LM Mm,ae,aM,h3 rfl]
  exact aA (by simp)
 | true=>
  obtain ⟨c,c1,c2⟩:=h2 rfl
  rw [LL rfl,c1]
  simp only [aa,af,ba,ae,aM,c2]
  exact aA (by simp)
theorem Bg {μ:aw}{m:Nat}{d:D} (h:xb μ d):eP [.int m,d] μ=.ok (.bl (Cw m d)) μ:=by
 have hw:bg [d,.int 0,.int ((m:Int) - 1)] μ=.ok (.bl (Cw m d)) μ:=by
  unfold bg
  rw [mC]
  simp only [eH,List.replicate,aW,eW,aD,au,ax,ah,ao,aa,af,Be h,ba,lQ]
  cases d with
  | int i=>
   rw [show IF (.int i)=true from rfl,LL rfl]
   simp only [gG,aa,af,ba]
   by_cases c:cU .LtE 0 i=true
   ·rw [LL c, ae, aM]
    rw [show cU .LtE i ((m:Int) - 1)=Cw m (.int i) from by
     have c':(0:Int)<=i:=Qi c
     show decide (i<=(m:Int) - 1)=decide (0<=i/\i<(m:Int))
     exact Pb.mpr ⟨fun z=>⟨c',by omega⟩,fun z=>by omega⟩]
    exact aA (by simp)
   ·rw [LM c, ae, aM]
    rw [show Cw m (.int i)=false from by
     have c':¬ (0:Int)<=i:=fun z=>c (NQ z)
     exact LI (fun z=>c' z.1)]
    exact aA (by simp)
  | _=>
   rw [show IF _=false from rfl,LM Mm,ae,aM]
   exact aA (by simp)
 unfold eP
 rw [b9]
 simp only [k9,List.replicate,aW,aD,au,ax,ah,ao,bf,aH,aa,af]
 rw [show ie (.int m) (.int 1) μ=.ok (.int ((m:Int) - 1)) μ from rfl]
 simp only [aa,af,hw,ae,aM]
 exact aA (by simp)
theorem BS {μ g:aw}{d:D} (h:xb μ d):xb (μ++g) d:=by
 cases d with
 | obj n=>
  unfold xb mf
  rcases sy h with ⟨xs,e⟩ | e <;> simp only [aK e] <;> exact nofun
 | _=>exact h
theorem rW:100000<=sizeLine:=by decide
theorem wj {μ:aw}{m:Nat}{xs:List D} (h:∀ x∈xs,xb μ x) (hl:xs.length<=1000):cS [.int m,.tup xs] μ=.ok (.bl (xs.all (Cw m))) μ:=by
 have c:=f9 (U:=D) (en:=fun x=>x) (src:=.fix xs) (g:=ak 0) (t:=bD) (e:=fV) (μ1:=μ) (q:=fun _=>true) (h:=fun x=>.bl (Cw m x)) (fun ρ=>∃ o,ρ=[o,some (.int m)]) (fun _=>trivial) (us:=xs) (acc:=[]) (ρ:=[none,some (.int m)]) ⟨_,rfl⟩
  (by rw [Ob];exact LV (by omega) bG)
  (fun x hx a ρ hJJ => by
   obtain ⟨o,e⟩:=hJJ
   subst e
   refine ⟨[some x,some (.int m)],⟨_,rfl⟩,rfl,rfl,fun _=>?_⟩
   unfold fV
   simp only [aD,au,ax,ao,ah,aa,af,Bg (BS (h x hx))])
 rw [List.map_id',NP,hV] at c
 unfold cS
 rw [b9]
 simp only [jY,List.replicate,aW,eW,gZ,ao,ah,aa,af]
 rw [show dZ "tuple" (.tup xs) μ=.ok (.bl true) μ from rfl]
 simp only [aa,af,ba,Nf,aD,au,ax,cY,cX,ao,ah,kf,bh]
 rw [show fB [none,some 0] _=[none,some (.int m)] from rfl,c]
 simp only [aa,af]
 rw [gH (bs:=xs.map (Cw m)) (by rw [ay,N8];rfl)]
 simp only [ae,af,aM]
 rw [show (xs.map (Cw m)).all id=xs.all (Cw m) from by rw [PL];rfl]
 exact dU (by simp)
def Kf:D->Bool
 | .tup _=>true
 | _=>false
theorem xN {μ:aw}{d:D} (h:xb μ d):dZ "tuple" d μ=.ok (.bl (Kf d)) μ:=by
 cases d with
 | obj n=>
  unfold dZ mf
  rcases sy h with ⟨xs,e⟩ | e <;> simp only [e] <;> rfl
 | _=>rfl
theorem uR {μ:aw}{m:Int}{ks:List (List Int)}{a b:Int} (hk:∀ k∈ks,oz m k):qD false (.tup [.int a,.int b]) (.tup (ks.map ar)) μ=.ok (.bl (decide ([a,b]∈ks))) μ:=by
 have e1:ju μ (.tup [.int a,.int b])=some (.tuple [.int a,.int b]):=rfl
 have e2:ju μ (.tup (ks.map ar))=some (.tuple (ks.map jC)):=by
  simp only [ju,mK hk,Option.map_some]
 unfold qD
 rw [e1,e2]
 dsimp only [oS]
 rw [LL ⟨rfl,yT hk⟩]
 simp only [NT,Nd]
 congr 2
 rw [Qg]
 apply Mx.mpr
 rw [Qh,PF]
 constructor
 ·rintro ⟨k, hk', e⟩
  obtain ⟨u,v,rfl,_⟩:=hk k hk'
  have:u=a/\v=b:=by simpa [jC,PyData.eqv,PyData.eqvAll] using e
  rw [<- this.1,<- this.2];exact hk'
 ·intro h
  exact ⟨_,h,by simp [jC,PyData.eqv,PyData.eqvAll]⟩
theorem Fk {μ:aw}{a b:Int}:tQ [.int a,.int b] μ=.ok (.int (min a b)) μ:=by
 show aj.ok (D.int (if b<a then b else a)) μ=_
 congr 2
 split <;> omega
theorem Fl {μ:aw}{a b:Int}:qh [.int a,.int b] μ=.ok (.int (max a b)) μ:=by
 show aj.ok (D.int (if b > a then b else a)) μ=_
 congr 2
 split <;> omega
abbrev cQ (w:List Int):D:=.tup (w.map D.int)
theorem HG {n:Nat}{w:List Int}:(cQ w).low n:=by simp only [Ep];exact g9.mpr fun x hx=>by obtain ⟨k,_,rfl⟩:=Oh.mp hx;simp
theorem Fs {μ:aw}{neg:Bool}{w:List Int}{a:Int}:qD neg (.int a) (cQ w) μ=.ok (.bl (if neg then !decide (a∈w) else decide (a∈w))) μ:=by
 have e2:ju μ (cQ w)=some (.tuple (w.map PyData.int)):=by
  simp only [ju,jO,Option.map_some]
 have f2:cT (.tuple (w.map PyData.int))=true:=by
  have:=jP w
  simp only [cT,PyData.canLay0,this.1,PyData.depth,this.2,Qf]
  rfl
 unfold qD
 rw [show ju μ (.int a)=some (.int a) from rfl,e2]
 dsimp only [oS]
 rw [LL ⟨rfl,f2⟩]
 have:(w.map PyData.int).any (fun y=>PyData.eqv y (.int a))=decide (a∈w):=by
  rw [Qg]
  apply Mx.mpr
  rw [Qh,PF]
  constructor
  ·rintro ⟨x, hx, e⟩
   have:x=a:=by simpa [PyData.eqv] using e
   subst this;exact hx
  ·intro hx
   exact ⟨a,hx,by simp [PyData.eqv]⟩
 rw [this]
theorem A5 {μ:aw}{w:List Int}{p:Int} (h:w.length<=100):cH (cQ w) (.tup [.int p]) μ=.ok (cQ (w++[p])) μ:=by
 unfold cH
 dsimp only
 rw [LL]
 ·show _ = aj.ok (D.tup ((w ++ [p]).map D.int)) μ
  rw [Oq];rfl
 ·rw [MY];exact LV (by simp;omega) bG
theorem AB {m:Nat}:bx 0 ((m:Int)).toNat=(rg m).map D.int:=by
 unfold bx rg
 rw [N8]
 simp
theorem eM {f g:MS}{ρ ρ':Ro}{μ μ':aw} (h:f ρ μ=.next ρ' μ'):bB f g ρ μ=g ρ' μ':=by rw [aO,h,aJ]
def rV (v:Nat) (f:Int->Option Nat) (qs:List Int):Int->Option Nat:=qs.foldl (fun f q=>kK f q v) f
theorem pG {v:Nat}:∀ (qs:List Int) (f:Int->Option Nat) (q:Int),rV v f qs q=if q∈qs then some v else f q
 | [],f,q=>by simp [rV]
 | x::qs,f,q=>by
  have:=pG (v:=v) qs (kK f x v) q
  unfold rV at this ⊢
  rw [NL,this]
  by_cases h:q∈qs
  ·rw [LL h,LL (LZ _ h)]
  ·rw [LM h]
   unfold kK
   by_cases e:q=x
   ·rw [LL e,LL (by simp [e])]
   ·rw [LM e,LM (by simp [e,h])]
section
variable {μ0:aw}{m A:Nat}{p:Int}{ks:List (List Int)}{w:D}
theorem EK {M:aw}{A t n:Nat}{f:Int->Option Nat}{fs:List Int}{o0 o1 o2 o3:Option D}{o7:Option D} (hA:M[A]?=some (.lst (dS m f))) (ht:M[t]?=some (.lst (fs.map D.int))) (hne:A≠t) (hfs:∀ q∈fs,0<=q/\q<(m:Int)) :
  ∃ o7',kq (iD (ai 6)) (ak 7) d8 [o0,o1,o2,o3,some (.obj A),some (.int n),some (.obj t),o7] M=.next [o0,o1,o2,o3,some (.obj A),some (.int n),some (.obj t),o7'] (M.set A (.lst (dS m (rV n f fs)))):=by
 have hAl:A<M.length:=(L8.mp hA).1
 have run:=fR (src:=.own t (fs.map D.int)) (g:=ak 7) (fb:=d8)
  (fun xs ρ μ1=>∃ ys zs:List Int,xs=zs.map D.int/\fs=ys++zs/\μ1=M.set A (.lst (dS m (rV n f ys)))/\∃ o7,ρ=[o0,o1,o2,o3,some (.obj A),some (.int n),some (.obj t),o7])
  (fun ρ μ1 ⟨ys,zs,_,_,e,_⟩=>by subst e;exact pB ht hne)
  (fun x xs ρ μ1 hJJ => by
   obtain ⟨ys,zs,hx,hf,e,o7,eρ⟩:=hJJ
   subst e eρ
   cases zs with
   | nil=>cases hx
   | cons z zs=>
    injection hx with h1 h2
    subst h1 h2
    have hz:=hfs z (by rw [hf];simp)
    have hlen:(dS m (rV n f ys)).length=m:=by unfold dS;rw [MY,Oa]
    refine ⟨pB ht hne,_,_,[o0,o1,o2,o3,some (.obj A),some (.int n),some (.obj t),some (.int z)],M.set A (.lst (dS m (rV n f (ys++[z])))),rfl,?_,ys++[z],zs,rfl,by rw [hf];simp,rfl,_,rfl⟩
    show d8 [o0,o1,o2,o3,some (.obj A),some (.int n),some (.obj t),some (.int z)] _=_
    unfold d8
    simp only [bc,ao,ah,ae,kg,aa,af]
    rw [lJ (fQ hAl) (mB hz.1 (by rw [hlen];exact hz.2)),pb hz.1 hz.2]
    simp only [aa,af,ae,List.set_set]
    unfold rV
    rw [OS]
    rfl)
  (xs:=fs.map D.int) (ρ:=[o0,o1,o2,o3,some (.obj A),some (.int n),some (.obj t),o7]) (μ:=M)
  ⟨[], fs, rfl, rfl, by
   apply Pd
   intro j
   by_cases e:A=j
   ·subst e;rw [fQ hAl,hA];rfl
   ·rw [Mb e],_,rfl⟩
 obtain ⟨ρ',μ',⟨ys,zs,hx,hf,e,o7',eρ⟩,run⟩:=run
 subst e eρ
 have hz:zs=[]:=by cases zs with
  | nil=>rfl
  | cons=>cases hx
 subst hz
 rw [MC] at hf
 subst hf
 refine ⟨o7',?_⟩
 simp only [gq,cX,ao,ah,aa,af]
 rw [gE ht]
 simp only [ae,af,dN]
 exact run
theorem EJ {M:aw}{A t n:Nat}{f:Int->Option Nat}{fs:List Int}{o0 o1 o2 o7:Option D} (hk:∀ k∈ks,oz m k) (hl:ks.length<=15) (hA:M[A]?=some (.lst (dS m f))) (ht:M[t]?=some (.lst (fs.map D.int))) (hne:A≠t)
  (hU:Up (mj ks) p (fun q=>0<=q/\q<m) n f) (hfs:∀ q,q∈fs↔((0<=q/\q<(m:Int))/\f q=some n)) :
  ∃ (t':Nat) (fs':List Int) (f':Int->Option Nat) (g:aw) (o7':Option D),d7 [o0,o1,o2,some (.tup (ks.map ar)),some (.obj A),some (.int n),some (.obj t),o7] M=.next [o0,o1,o2,some (.tup (ks.map ar)),some (.obj A),some (.int ((n+1:Nat):Int)),some (.obj t'),o7'] ((M++g).set A (.lst (dS m f'))) /\
   (M++g)[t']?=some (.lst (fs'.map D.int))/\A≠t'/\Up (mj ks) p (fun q=>0<=q/\q<m) (n+1) f'/\∀ q,q∈fs'↔((0<=q/\q<(m:Int))/\f' q=some (n+1)):=by
 obtain ⟨s,g,ns,e1,e2,e3,e4,e5⟩:=Bh hk hl ht
 have hA':=aK (g:=g) hA
 have hAl:A<M.length:=(L8.mp hA).1
 have hnsD:∀ q∈ns,0<=q/\q<(m:Int):=fun q hq=>by
  obtain ⟨r,_,ha⟩:=(e5 q).mp hq
  exact (eX hk ha).2
 have c:=de (src:=.own s (ns.map D.int)) (g:=ak 0) (t:=iE) (e:=kG) (μ1:=M++g) (q:=fun d=>match d with | .int q=>decide (f q=none) | _=>false) (h:=fun d=>d)
  (fun ρ=>∃ o,ρ=[o,some (.obj A)]) (fun a=>aK e2) (xs:=ns.map D.int) (acc:=[]) (ρ:=[none,some (.obj A)]) ⟨_,rfl⟩
  (by rw [MY,Ob];exact LV (by omega) bG)
  (fun x hx a ρ hJJ => by
   obtain ⟨o,ho⟩:=hJJ
   obtain ⟨q,hq,rfl⟩:=Oh.mp hx
   subst ho
   refine ⟨[some (.int q),some (.obj A)],⟨_,rfl⟩,rfl,?_,fun _=>rfl⟩
   unfold iE
   simp only [eR,aH,ao,ah,bf,aa,af]
   rw [fJ (aK hA') (uw (hnsD q hq).1 (hnsD q hq).2)]
   simp only [aa,af,AW,rk,NT,Nd,ba])
 have hfl:((ns.map D.int).filter fun d=>match d with | .int q=>decide (f q=none) | _=>false).map (fun d=>d)=(ns.filter fun q=>decide (f q=none)).map D.int:=by
  rw [List.map_id',List.filter_map]
  rfl
 rw [NP,hfl] at c
 have hmem:∀ q,q∈(ns.filter fun q=>decide (f q=none))↔(f q=none/\∃ r,mj ks r q/\f r=some n):=fun q=>by
  rw [LS,PF,e5]
  constructor
  ·rintro ⟨⟨r, hr, ha⟩, hn⟩
   exact ⟨hn,r,ha,((hfs r).mp hr).2⟩
  ·rintro ⟨hn, r, ha, hr⟩
   exact ⟨⟨r,(hfs r).mpr ⟨(eX hk ha).1,hr⟩,ha⟩,hn⟩
 have hD':∀ q,q∈(ns.filter fun q=>decide (f q=none))->0<=q/\q<(m:Int):=fun q hq=>hnsD q (LS.mp hq).1
 have hne':A≠(M++g).length:=by rw [MX];omega
 obtain ⟨o7',er⟩:=EK (m:=m) (n:=n+1) (f:=f) (fs:=ns.filter fun q=>decide (f q=none)) (o0:=o0) (o1:=o1) (o2:=o2) (o3:=some (.tup (ks.map ar))) (o7:=o7) (M:=(M++g)++[O.lst ((ns.filter fun q=>decide (f q=none)).map D.int)]) (aK hA') ay hne' hD'
 refine ⟨(M++g).length,ns.filter fun q=>decide (f q=none),rV (n+1) f (ns.filter fun q=>decide (f q=none)),g++[O.lst ((ns.filter fun q=>decide (f q=none)).map D.int)],o7',?_,by rw [<- NK];exact ay,hne',?_,fun q=>?_⟩
 ·unfold d7
  have s1:zS 5 ub (cC (.int 1)) [o0,o1,o2,some (.tup (ks.map ar)),some (.obj A),some (.int n),some (.obj t),o7] M=.next [o0,o1,o2,some (.tup (ks.map ar)),some (.obj A),some (.int ((n+1:Nat):Int)),some (.obj t),o7] M:=by
   push_cast;rfl
  rw [eM s1,aO,bc,cY,cX,aD]
  simp only [au,ax,ao,ah,aa,af,e1]
  rw [gE e2]
  simp only [aa,af,dN]
  rw [show fB [none,some 4] [o0,o1,o2,some (.tup (ks.map ar)),some (.obj A),some (.int ((n+1:Nat):Int)),some (.obj t),o7]=[none,some (.obj A)] from rfl,c]
  simp only [ae,af,bW,P9,Qa,aJ]
  rw [er,<- NK]
 ·refine hU.next (fun a b h => (eX hk h).1) fun q hq j => ?_
  rw [pG]
  by_cases hm:q∈ns.filter fun q=>decide (f q=none)
  ·rw [LL hm]
   have:=(hmem q).mp hm
   constructor
   ·intro e;cases e;exact .inr ⟨this.1,rfl,this.2⟩
   ·rintro (z | ⟨_, z, _⟩)
    ·rw [this.1] at z;cases z
    ·rw [z]
  ·rw [LM hm]
   constructor
   ·exact .inl
   ·rintro (z | ⟨z1, z2, z3⟩)
    ·exact z
    ·exact absurd ((hmem q).mpr ⟨z1,z3⟩) hm
 ·rw [pG]
  constructor
  ·intro hm
   exact ⟨hD' q hm,by rw [LL hm]⟩
  ·rintro ⟨hq, z⟩
   by_cases hm:q∈ns.filter fun q=>decide (f q=none)
   ·exact hm
   ·rw [LM hm] at z
    have:=((hU q hq (n+1)).mp z).1
    omega
end
theorem uX {μ0:aw}{m A:Nat}{p:Int}{ks:List (List Int)}{o0 o1 o2:Option D} (hk:∀ k∈ks,oz m k) (hl:ks.length<=15) (hp:0<=p/\p<(m:Int)) (hA0:μ0.length<=A) :
  ∀ (c n:Nat) (f:Int->Option Nat) (fs:List Int) (M:aw) (t:Nat) (o7:Option D),M[A]?=some (.lst (dS m f))->M[t]?=some (.lst (fs.map D.int))->A≠t->Up (mj ks) p (fun q=>0<=q/\q<m) n f ->
   (∀ q,q∈fs↔((0<=q/\q<(m:Int))/\f q=some n))->(∀ i,i<μ0.length->M[i]?=μ0[i]?)->n<=m->m<n+c ->
   ∃ ρ' M' f',kM (jz (ai 6)) d7 c [o0,o1,o2,some (.tup (ks.map ar)),some (.obj A),some (.int n),some (.obj t),o7] M=.next ρ' M'/\(∃ o5 o6 o7,ρ'=[o0,o1,o2,some (.tup (ks.map ar)),some (.obj A),o5,o6,o7]) /\
    M'[A]?=some (.lst (dS m f'))/\(∀ i,i<μ0.length->M'[i]?=μ0[i]?)/\vN (mj ks) p (fun q=>0<=q/\q<m) f'
 | 0,n,f,fs,M,t,o7,hA,ht,hne,hU,hfs,hpre,h1,h2=>by omega
 | c+1,n,f,fs,M,t,o7,hA,ht,hne,hU,hfs,hpre,h1,h2=>by
  have tr:jz (ai 6) [o0,o1,o2,some (.tup (ks.map ar)),some (.obj A),some (.int n),some (.obj t),o7] M=.ok (!(fs.map D.int).isEmpty) M:=by
   simp only [dX,ao,ah,aa,af]
   unfold yb
   dsimp only
   rw [ht]
  unfold kM
  rw [tr,ae]
  cases fs with
  | nil=>
   refine ⟨_,M,f,rfl,⟨_,_,_,rfl⟩,hA,hpre,hU.full (fun a b h=>(eX hk h).2) fun q hq hl=>?_⟩
   obtain ⟨_,r,ha,hr⟩:=iK.mp hl
   have:=(hfs r).mpr ⟨(eX hk ha).1,(hU r (eX hk ha).1 n).mpr ⟨Mt _,hr⟩⟩
   cases this
  | cons x fs=>
   have hx:=(hfs x).mp LY
   have hnm:n<m:=AM (m:=m) hp (fun a b h=>(eX hk h).2) ((hU x hx.1 n).mp hx.2).2
   obtain ⟨t',fs',f',g,o7',e,ht',hne',hU',hfs'⟩:=EJ (o0:=o0) (o1:=o1) (o2:=o2) (o7:=o7) hk hl hA ht hne hU hfs
   have hAl:A<(M++g).length:=by rw [MX];have:=(L8.mp hA).1;omega
   rw [LL (show (!(List.map D.int (x::fs)).isEmpty)=true from rfl),e,sC]
   exact uX hk hl hp hA0 c (n+1) f' fs' ((M++g).set A (.lst (dS m f'))) t' o7' (fQ hAl) (pB ht' hne') hne' hU' hfs' (fun i hi=>by
    rw [Mb (by omega),MR (by have:=(L8.mp hA).1;omega)];exact hpre i hi) (by omega) (by omega)
theorem Dl {μ:aw}{m:Nat}{p:Int}{ks:List (List Int)} (h:kB (.tup [.int m,.tup (ks.map ar)]) m ks) (p0:0<=p) (p1:p<(m:Int)) :
  ∃ A μ' f,gh [.tup [.int m,.tup (ks.map ar)],.int p] μ=.ok (.obj A) (μ++μ')/\(μ++μ')[A]?=some (.lst (dS m f))/\μ.length<=A/\vN (mj ks) p (fun q=>0<=q/\q<m) f:=by
 have hlen:=iL h
 obtain ⟨_,h0,h1,hpw,hk⟩:=h
 have hm6:m<=6:=by omega
 let M0:aw:=(μ++[.lst [.non]])++[.lst (dS m fun _=>none)]
 have hM0:M0[(μ++[O.lst [.non]]).length]?=some (.lst (dS m fun _=>none)):=ay
 have hlen0:(dS m fun _=>none).length=m:=by unfold dS;rw [MY,Oa]
 let A:Nat:=(μ++[O.lst [.non]]).length
 have hAl:A<M0.length:=(L8.mp hM0).1
 let M1:aw:=M0.set A (.lst (dS m (kK (fun _=>none) p 0)))
 have hM1:M1[A]?=some (.lst (dS m (kK (fun _=>none) p 0))):=fQ hAl
 have hpreM:∀ i,i<μ.length->(M1++[O.lst [.int p]])[i]?=μ[i]?:=fun i hi=>by
  have:i<M1.length:=by simp only [M1,M0,ND,MX];omega
  rw [MR this]
  simp only [M1]
  rw [Mb (by simp only [A,MX];omega)]
  simp only [M0]
  rw [NK,MR hi]
 obtain ⟨ρ',M',f',ew,⟨o5,o6,o7,eρ⟩,hA',hpre,hF⟩:=uX (μ0:=μ) (o0:=some (.tup [.int m,.tup (ks.map ar)])) (o1:=some (.int p)) (o2:=some (.int m)) hk hlen ⟨p0,p1⟩ (show μ.length<=A by simp only [A,MX];omega) 100 0 (kK (fun _=>none) p 0) [p] (M1++[O.lst [.int p]]) M1.length none
  (aK hM1) ay (by simp only [M1, ND]; omega) (x5 fun q _ => by unfold kK; rfl) (fun q => by
   unfold kK
   rw [N6]
   constructor
   ·rintro rfl;exact ⟨⟨p0,p1⟩,by rw [LL rfl]⟩
   ·rintro ⟨_, z⟩
    by_cases e:q=p
    ·exact e
    ·rw [LM e] at z;cases z) hpreM (by omega) (by omega)
 subst eρ
 obtain ⟨g,hg⟩:∃ g,M'=μ++g:=by
  refine ⟨M'.drop μ.length,?_⟩
  apply Pd
  intro i
  by_cases hi:i<μ.length
  ·rw [MR hi,hpre i hi]
  ·rw [MP (by omega), Ow]
   congr 1;omega
 refine ⟨A,g,f',?_,by rw [<- hg];exact hA',by simp only [A,MX];omega,hF⟩
 unfold gh
 rw [b9]
 have l2':[D.int m,D.tup (ks.map ar)].length=2:=rfl
 have s1:bI (ai 0) (dq 2 (aZ (ak 2) (aZ (ak 3) (dr)))) [some (.tup [.int m,.tup (ks.map ar)]),some (.int p),none,none,none,none,none,none] μ=.next [some (.tup [.int m,.tup (ks.map ar)]),some (.int p),some (.int m),some (.tup (ks.map ar)),none,none,none,none] μ:=by
  simp only [bc,ah,ae,EM,LL l2',Cf,EN,bW,aa,af,P9,Qa]
 have s2:bI (aC kr (fC (ag (cC .non) (aB))) (ai 2)) (ak 4) [some (.tup [.int m,.tup (ks.map ar)]),some (.int p),some (.int m),some (.tup (ks.map ar)),none,none,none,none] μ=.next [some (.tup [.int m,.tup (ks.map ar)]),some (.int p),some (.int m),some (.tup (ks.map ar)),some (.obj A),none,none,none] M0:=by
  simp only [bc,aH,cW,au,ax,bf,aa,af,NU,Ob,LL l1,ao,ah]
  unfold kr
  dsimp only
  rw [ay]
  dsimp only
  have hz:(6:Nat)<=sizeLine:=by decide
  rw [LL (by refine ⟨by omega,by omega,?_⟩;simp only [NU,Ob];omega)]
  simp only [Na,pC,ae,af,bW,P9,Qa,M0,A,qU]
 have s3:bI (cC (.int 0)) (kz (ai 4) (ai 1)) [some (.tup [.int m,.tup (ks.map ar)]),some (.int p),some (.int m),some (.tup (ks.map ar)),some (.obj A),none,none,none] M0=.next [some (.tup [.int m,.tup (ks.map ar)]),some (.int p),some (.int m),some (.tup (ks.map ar)),some (.obj A),none,none,none] M1:=by
  simp only [bc,bf,ae,kg,ao,ah,aa,af]
  rw [lJ hM0 (mB p0 (by rw [hlen0];exact p1)),show (D.int 0)=.int ((0:Nat):Int) from rfl,pb p0 p1]
  rfl
 have s4:bI (cC (.int 0)) (ak 5) [some (.tup [.int m,.tup (ks.map ar)]),some (.int p),some (.int m),some (.tup (ks.map ar)),some (.obj A),none,none,none] M1=.next [some (.tup [.int m,.tup (ks.map ar)]),some (.int p),some (.int m),some (.tup (ks.map ar)),some (.obj A),some (.int ((0:Nat):Int)),none,none] M1:=rfl
 have s5:bI (fC (ag (ai 1) (aB))) (ak 6) [some (.tup [.int m,.tup (ks.map ar)]),some (.int p),some (.int m),some (.tup (ks.map ar)),some (.obj A),some (.int ((0:Nat):Int)),none,none] M1=.next [some (.tup [.int m,.tup (ks.map ar)]),some (.int p),some (.int m),some (.tup (ks.map ar)),some (.obj A),some (.int ((0:Nat):Int)),some (.obj M1.length),none] (M1++[O.lst [.int p]]):=by
  simp only [bc,cW,au,ax,ao,ah,aa,af,NU,Ob,LL l1,ae,bW,P9,Qa]
 unfold nH
 simp only [List.replicate]
 rw [eM s1,eM s2,eM s3,eM s4,eM s5,eM (show rY 100 (jz (ai 6)) d7 _ _=_ from ew)]
 simp only [aW,ao,ah,ae,af,aM]
 rw [xk (by simp only [Er,A,MX];omega),hg]
theorem yn {μ:aw}{k:Int} (h0:1<=k) (h1:k<=6):bg [.int k,.int 1,.int 6] μ=.ok (.bl true) μ:=by
 have w:cZ [.int k] μ=.ok (.bl true) μ:=by
  unfold cZ
  rw [cb]
  have e1:dZ "int" (.int k) μ=.ok (.bl true) μ:=rfl
  have e2:dZ "bool" (.int k) μ=.ok (.bl false) μ:=rfl
  simp only [ja,aW,eW,gZ,xS,ah,aa,af,e1,e2,ba,Nf,OQ,ae,aM]
  exact aA (by simp)
 unfold bg
 rw [mC]
 simp only [eH,aW,eW,aD,au,ax,ao,ah,aa,af,w,ba,Nf,lQ,gG]
 rw [show cU .LtE 1 k=true from NQ h0,show cU .LtE k 6=true from NQ h1]
 simp only [ba,aa,af,Nf,ae,aM]
 exact aA (by simp)
end Lw
namespace Lv
section
variable {adj adj':Int->Int->Prop}{D:Int->Prop}{p:Int}
theorem R.add {q:Int}{n:Nat} (h:R adj p n q):∀ {k:Nat}{r:Int},R adj q k r->R adj p (n+k) r
 | 0,r,e=>by have:r=q:=e;subst this;exact h
 | k+1,r,e=>by
  rcases e with e | ⟨t,e1,e2⟩
  ·exact .inl (R.add h e)
  ·exact .inr ⟨t,e1,R.add h e2⟩
theorem R.one {a b:Int} (h:adj a b):R adj a 1 b:=.inr ⟨a,h,rfl⟩
theorem R.rev (hs:∀ a b,adj a b->adj b a):∀ {n:Nat}{q:Int},R adj p n q->R adj q n p
 | 0,q,h=>by have:q=p:=h;exact this.symm
 | n+1,q,h=>by
  rcases h with h | ⟨r,h1,h2⟩
  ·exact .inl (R.rev hs h)
  ·have := R.add (R.one (hs _ _ h1)) (R.rev hs h2)
   rw [Nat.add_comm] at this
   exact this
theorem uf {f:Int->Int} (hD:∀ a b,adj a b->D a) (hD':∀ a b,adj' a b->D a) (hf:∀ a,D a->D (f a)) (hs:∀ b,D b->∃ a,D a/\f a=b) (hi:∀ a b,D a->D b->f a=f b->a=b)
  (ha:∀ a b,D a->D b->(adj a b↔adj' (f a) (f b))) (hp:D p):∀ {n:Nat}{q:Int},D q->(R adj p n q↔R adj' (f p) n (f q))
 | 0,q,hq=>⟨fun h=>by have:q=p:=h;subst this;exact rfl,fun h=>hi _ _ hq hp h⟩
 | n+1,q,hq=>by
  constructor
  ·rintro (h | ⟨r, h1, h2⟩)
   ·exact .inl ((uf hD hD' hf hs hi ha hp hq).mp h)
   ·exact .inr ⟨f r,(ha _ _ (hD _ _ h1) hq).mp h1,(uf hD hD' hf hs hi ha hp (hD _ _ h1)).mp h2⟩
  ·rintro (h | ⟨r, h1, h2⟩)
   ·exact .inl ((uf hD hD' hf hs hi ha hp hq).mpr h)
   ·obtain ⟨a, da, rfl⟩ := hs r (hD' _ _ h1)
    exact .inr ⟨a,(ha _ _ da hq).mpr h1,(uf hD hD' hf hs hi ha hp da).mpr h2⟩
end
end Lv
namespace Lw
open PySem L2 RS Lv
theorem Ax:∀ {xs ys:List (List Int)},xs.Pairwise (fun a b=>ni a<ni b)->ys.Pairwise (fun a b=>ni a<ni b)->(∀ k,k∈xs↔k∈ys)->xs=ys
 | [],ys,_,_,h=>by
  cases ys with
  | nil=>rfl
  | cons y ys=>exact absurd ((h y).mpr LY) O3
 | x::xs,[],_,_,h=>absurd ((h x).mp LY) O3
 | x::xs,y::ys,hx,hy,h=>by
  obtain ⟨x1,x2⟩:=Oo.mp hx
  obtain ⟨y1,y2⟩:=Oo.mp hy
  have e:x=y:=by
   rcases L4.mp ((h x).mp LY) with z | z
   ·exact z
   ·rcases L4.mp ((h y).mpr LY) with u | u
    ·exact u.symm
    ·have:=y1 x z;have:=x1 y u;omega
  subst e
  congr 1
  refine Ax x2 y2 fun k=>?_
  constructor
  ·intro hk
   rcases L4.mp ((h k).mp (LZ _ hk)) with z | z
   ·subst z;have:=x1 k hk;omega
   ·exact z
  ·intro hk
   rcases L4.mp ((h k).mpr (LZ _ hk)) with z | z
   ·subst z;have:=y1 k hk;omega
   ·exact z
theorem uT {d d':D}{m m':Int}{ks ks':List (List Int)} (h:kB d m ks) (h':kB d' m' ks') (e:∀ a b:Int,[a,b]∈ks↔[a,b]∈ks'):ks=ks':=by
 refine Ax h.2.2.2.1 h'.2.2.2.1 fun k=>?_
 constructor
 ·intro hk
  obtain ⟨a,b,rfl,_⟩:=h.2.2.2.2 k hk
  exact (e a b).mp hk
 ·intro hk
  obtain ⟨a,b,rfl,_⟩:=h'.2.2.2.2 k hk
  exact (e a b).mpr hk
abbrev aG (m:Nat) (ks:List (List Int)):D:=.tup [.int m,.tup (ks.map ar)]
abbrev GW (m:Nat) (ks:List (List Int)):Prop:=kB (aG m ks) m ks
end Lw
namespace Lw
open PySem L2 RS Lv
section
variable {m:Nat}{ks:List (List Int)}
theorem GW.m0 (h:GW m ks):1<=m:=by have:=h.2.1;omega
theorem GW.m6 (h:GW m ks):m<=6:=by have:=h.2.2.1;omega
theorem K9 (h:GW m ks) {a b:Int} (e:mj ks a b):mj ks b a:=(ip h.2.2.2.2).mpr ((ip h.2.2.2.2).mp e).symm
theorem Jd (h:GW m ks) {a b:Int} (e:mj ks a b):(0<=a/\a<(m:Int))/\(0<=b/\b<(m:Int)):=eX h.2.2.2.2 e
end
end Lw
namespace Lw
open PySem L2 RS Lv
def CD (k k':List Int):Bool:=match k,k' with
 | [a,b],[c,d]=>decide (a<c) || (decide (a=c) && decide (b<d))
 | _,_=>false
theorem zr {μ:aw}{a b c d:Int}:fH .Lt (ar [a,b]) (ar [c,d]) μ=.ok (.bl (CD [a,b] [c,d])) μ:=by
 have e:fH .Lt (ar [a,b]) (ar [c,d]) μ=(match cmpPs .Lt [.int a,.int b] [.int c,.int d] with | some k=>.ok (.bl k) μ | none=>.bad):=rfl
 rw [e]
 simp only [cmpPs,fA,PyData.eqv,CD]
 by_cases h1:a=c
 ·subst h1
  by_cases h2:b=d
  ·subst h2;simp [cU]
  ·simp [h2,cU]
 ·simp [h1,cU]
def Ky (k:List Int):Prop:=∃ a b,k=[a,b]
def IK (ks:List (List Int)):Bool:=(List.range (ks.length - 1)).all fun i=>CD (ks.getD i []) (ks.getD (i+1) [])
theorem J7:iG=aC (fH .Lt) (aC cq (ai 1) (aC ie (ai 0) (cC (.int 1)))) (aC cq (ai 1) (ai 0)):=rfl
theorem DE {μ:aw}{ks:List (List Int)} (hk:∀ k∈ks,Ky k) (a:List D) (i:Nat) (hi:i<ks.length - 1) :
  (aC (fH .Lt) (aC cq (ai 1) (aC ie (ai 0) (cC (.int 1)))) (aC cq (ai 1) (ai 0))) [some (.int (1+(i:Int))),some (.tup (ks.map ar))] (μ++[.lst a])=.ok (.bl (CD (ks.getD i []) (ks.getD (i+1) []))) (μ++[.lst a]):=by
 have h1:i<ks.length:=by omega
 have h2:i+1<ks.length:=by omega
 obtain ⟨x,y,e1⟩:=hk ks[i] (Pp h1)
 obtain ⟨u,v,e2⟩:=hk ks[i+1] (Pp h2)
 have g1:atI (ks.map ar) (1+(i:Int) - 1)=some (ar [x,y]):=by
  rw [show (1+(i:Int) - 1)=((i:Nat):Int) by omega]
  exact iZ (by rw [MU,Pq h1,e1];rfl)
 have g2:atI (ks.map ar) (1+(i:Int))=some (ar [u,v]):=by
  rw [show (1+(i:Int))=((i+1:Nat):Int) by omega]
  exact iZ (by rw [MU,Pq h2,e2];rfl)
 have k1:ks.getD i []=[x,y]:=by rw [Pc,Pq h1,e1];rfl
 have k2:ks.getD (i+1) []=[u,v]:=by rw [Pc,Pq h2,e2];rfl
 rw [k1,k2]
 simp only [aH,ao,ah,bf,aa,af,An]
 rw [fI g1]
 simp only [aa,af]
 rw [fI g2]
 simp only [aa,af]
 exact zr
theorem By {μ:aw}{ks:List (List Int)} (hk:∀ k∈ks,Ky k) (hl:ks.length<1000) :
  compLoop (nZ.fix (bx 1 (ks.length - 1))) μ.length (ak 0) bD (aC (fH CmpOp.Lt) (aC cq (ai 1) (aC ie (ai 0) (cC (D.int 1)))) (aC cq (ai 1) (ai 0))) (bx 1 (ks.length - 1)) [none,some (D.tup (List.map ar ks))] (μ++[O.lst []]) =
   .ok (.obj μ.length) (μ++[.lst (((List.range (ks.length - 1)).map fun i=>CD (ks.getD i []) (ks.getD (i+1) [])).map D.bl)]):=by
 have:=de (src:=.fix (bx 1 (ks.length - 1))) (g:=ak 0) (t:=bD) (e:=aC (fH .Lt) (aC cq (ai 1) (aC ie (ai 0) (cC (.int 1)))) (aC cq (ai 1) (ai 0))) (μ1:=μ) (q:=fun _=>true)
  (h:=fun d=>match d with | .int j=>.bl (CD (ks.getD (j - 1).toNat []) (ks.getD ((j - 1).toNat+1) [])) | _=>.non) (fun ρ=>∃ o,ρ=[o,some (.tup (ks.map ar))]) (fun _=>trivial) (xs:=bx 1 (ks.length - 1)) (acc:=[]) (ρ:=[none,some (.tup (ks.map ar))]) ⟨none,rfl⟩
  (by rw [lN,MY,Oa,Ob];exact LV (by omega) bG)
  (fun x hx a ρ ⟨o, ho⟩ => by
   rw [lN] at hx
   obtain ⟨i,hi,rfl⟩:=Oh.mp hx
   refine ⟨[some (.int (1+(i:Int))),some (.tup (ks.map ar))],⟨_,rfl⟩,by subst ho;rfl,rfl,fun _=>?_⟩
   rw [DE hk a i (by simpa using hi)]
   dsimp only
   rw [show (1+(i:Int) - 1).toNat=i by omega])
 rw [this,Qj.mpr (fun _ _=>rfl),lN,N8,NP,N8]
 congr 4
 apply N9
 intro i _
 show D.bl (CD (ks.getD (1+(i:Int) - 1).toNat []) (ks.getD ((1+(i:Int) - 1).toNat+1) []))=_
 rw [show (1+(i:Int) - 1).toNat=i by omega]
 rfl
theorem yr {μ:aw}{ks:List (List Int)} (hk:∀ k∈ks,Ky k) (hl:ks.length<1000):cR [.tup (ks.map ar)] μ=.ok (.bl (IK ks)) μ:=by
 unfold cR
 rw [cb]
 simp only [jX,aW,aD,au,cY,dv,bf,ax,aa,af,ah,eB,MY]
 rw [oj (by omega) (by omega) (by omega) (by omega)]
 have hn:((ks.length:Int) - 1).toNat=ks.length - 1:=by omega
 simp only [aa,af,bh,hn]
 rw [show fB [none,some 0] (some (D.tup (List.map ar ks))::List.replicate (1 - 1) none)=[none,some (D.tup (List.map ar ks))] from rfl]
 rw [J7,By hk hl]
 simp only [aa,af]
 rw [gH ay]
 simp only [ae,af,aM]
 rw [dU (by simp)]
 simp [IK,PL,Qk]
theorem Dk {μ:aw}{m:Nat} (h0:1<=m) (h1:m<=6):fN [.int m] μ=.ok (.bl true) μ:=by
 unfold fN
 rw [cb]
 simp only [mY,List.replicate,aW,aD,au,ax,ah,bf,aa,af,yn (show (1:Int)<=(m:Int) by omega) (show (m:Int)<=6 by omega),ae,aM]
 exact aA (by simp)
theorem Dj {μ:aw}{m:Nat}{a b:Int} (ha:0<=a/\a<(m:Int)) (hb:0<=b/\b<(m:Int)) (hn:a≠b):fM [.int m,.tup [.int a,.int b]] μ=.ok (.bl true) μ:=by
 have h1:cS [.int m,.tup [.int a,.int b]] μ=.ok (.bl true) μ:=by
  rw [wj (fun x hx=>by simp only [L4,O3,O4] at hx;rcases hx with rfl|rfl <;> exact nofun) (by simp)]
  congr 2
  simp only [NF,List.all_nil,Bool.and_true,Cw,Nv,PF]
  exact ⟨ha,hb⟩
 have h2:ka true (.int a) (.int b) μ=.ok (.bl true) μ:=by
  show aj.ok (D.bl (!(a == b))) μ=_
  rw [LJ.mpr hn];rfl
 have i0:cq (.tup [.int a,.int b]) (.int 0) μ=.ok (.int a) μ:=rfl
 have i1:cq (.tup [.int a,.int b]) (.int 1) μ=.ok (.int b) μ:=rfl
 have l2:ka false (.int (([.int a,.int b]:List D).length:Int)) (.int 2) μ=.ok (.bl true) μ:=rfl
 unfold fM
 rw [b9]
 simp only [mX,List.replicate,aW,eW,aD,au,ax,ah,ao,bf,aa,af,h1,ba,Nf,aH,eB,l2,i0,i1,h2,ae,aM]
 exact aA (by simp)
theorem Gp {μ:aw}{m:Nat}{a b:Int} (h0:0<=a) (h1:a<b) (h2:b<(m:Int)):hW [.int m,.tup [.int a,.int b]] μ=.ok (.bl true) μ:=by
 have hp:=Dj (μ:=μ) (m:=m) (a:=a) (b:=b) ⟨h0,by omega⟩ ⟨by omega,h2⟩ (by omega)
 have i0:cq (.tup [.int a,.int b]) (.int 0) μ=.ok (.int a) μ:=rfl
 have i1:cq (.tup [.int a,.int b]) (.int 1) μ=.ok (.int b) μ:=rfl
 unfold hW
 rw [b9]
 simp only [pH,List.replicate,aW,eW,aD,au,ax,ah,ao,bf,aa,af,hp,ba,Nf,aH,i0,i1,gG,ae,aM]
 rw [show cU .Lt a b=true from NQ h1]
 exact aA (by simp)
theorem GJ {m:Int}:∀ {ks:List (List Int)},(∀ k∈ks,oz m k)->m<=6->ks.Pairwise (fun a b=>ni a<ni b)->∀ i,i<ks.length - 1->CD (ks.getD i []) (ks.getD (i+1) [])=true:=fun {ks} hk hm hp i hi=>by
 have h1:i<ks.length:=by omega
 have h2:i+1<ks.length:=by omega
 have e1:ks.getD i []=ks[i]:=by rw [Pc,Pq h1];rfl
 have e2:ks.getD (i+1) []=ks[i+1]:=by rw [Pc,Pq h2];rfl
 have lt:=Oe.mp hp i (i+1) h1 h2 (by omega)
 rw [e1,e2]
 obtain ⟨a,b,ea,a1,a2,a3⟩:=hk _ (Pp h1)
 obtain ⟨c,d,ec,c1,c2,c3⟩:=hk _ (Pp h2)
 rw [ea,ec] at lt ⊢
 have lt':a * 6+b<c * 6+d:=lt
 unfold CD
 dsimp only
 by_cases z:a<c
 ·rw [NQ z];rfl
 ·have : a = c := by omega
  rw [LI z,NQ this,NQ (show b<d by omega)];rfl
theorem Di {μ:aw}{m:Nat}{ks:List (List Int)} (h:GW m ks):fL [.int m,.tup (ks.map ar)] μ=.ok (.bl true) μ:=by
 have hl:=iL h
 have hr:cR [.tup (ks.map ar)] (μ++[.lst (ks.map fun _=>D.bl true)])=.ok (.bl true) (μ++[.lst (ks.map fun _=>D.bl true)]):=by
  rw [yr (fun k hk=>by obtain ⟨a,b,e,_⟩:=h.2.2.2.2 k hk;exact ⟨a,b,e⟩) (by omega)]
  congr 2
  exact OE.mpr fun i hi=>GJ h.2.2.2.2 (by have:=h.m6;omega) h.2.2.2.1 i (by simpa using hi)
 have c:=f9 (U:=List Int) (en:=ar) (src:=.fix (ks.map ar)) (g:=ak 0) (t:=bD) (e:=iy) (μ1:=μ) (q:=fun _=>true) (h:=fun _=>.bl true) (fun ρ=>∃ o,ρ=[o,some (.int m)]) (fun _=>trivial) (us:=ks) (acc:=[]) (ρ:=[none,some (.int m)]) ⟨_,rfl⟩
  (by rw [Ob];exact LV (by omega) bG)
  (fun k hk a ρ hJJ => by
   obtain ⟨o,e⟩:=hJJ
   subst e
   obtain ⟨x,y,rfl,g1,g2,g3⟩:=h.2.2.2.2 k hk
   refine ⟨[some (ar [x,y]),some (.int m)],⟨_,rfl⟩,rfl,rfl,fun _=>?_⟩
   unfold iy
   simp only [aD,au,ax,ah,ao,aa,af]
   exact Gp g1 g2 g3)
 rw [hV,NP] at c
 unfold fL
 rw [b9]
 simp only [mW,List.replicate,aW,eW,gZ,aD,au,ax,ah,ao,bf,aa,af]
 rw [show dZ "tuple" (.tup (ks.map ar)) μ=.ok (.bl true) μ from rfl]
 simp only [aa,af,ba,Nf,cY,cX,ao,ah]
 rw [show vK (.tup (ks.map ar)) μ=.ok (.fix (ks.map ar)) μ from rfl]
 simp only [aa,af,bh]
 rw [show fB [none,some 0] (some (.int m)::some (.tup (ks.map ar))::List.replicate (2 - 2) none)=[none,some (.int m)] from rfl,c]
 simp only [aa,af]
 rw [show ks.map (fun _=>D.bl true)=(ks.map fun _=>true).map D.bl from by rw [N8];rfl]
 rw [gH ay]
 rw [show (ks.map fun _=>true).all id=true from by simp]
 simp only [aa,af,ba,Nf,aD,au,ax,ao,ah]
 rw [show (ks.map fun _=>true).map D.bl=ks.map (fun _=>D.bl true) from by rw [N8];rfl,hr]
 simp only [ae,af,aM]
 exact dU (by simp)
theorem wg {μ:aw}{m:Nat}{ks:List (List Int)} (h:GW m ks):eO [aG m ks] μ=.ok (.bl true) μ:=by
 have l2:ka true (.int (([.int (m:Int),.tup (ks.map ar)]:List D).length:Int)) (.int 2) μ=.ok (.bl false) μ:=rfl
 unfold eO
 rw [cb]
 simp only [k8,List.replicate,aO,cm,jH,dJ,dX,gZ,ah,aa,af]
 rw [show dZ "tuple" (.tup [.int (m:Int),.tup (ks.map ar)]) μ=.ok (.bl true) μ from rfl]
 simp only [aa,af,cx,OG,NT,Nd,eR,aH,aD,au,ax,ah,bf,eB,l2,ba,ae,cf,aJ,bc]
 simp only [aO,bc,ah,aa,af,ae]
 rw [show dq 2 (aZ (ak 1) (aZ (ak 2) dr)) (.tup [.int (m:Int),.tup (ks.map ar)]) [some (.tup [.int (m:Int),.tup (ks.map ar)]),none,none] μ=.ok [some (.tup [.int (m:Int),.tup (ks.map ar)]),some (.int m),some (.tup (ks.map ar))] μ from rfl]
 simp only [ae,aJ,aW,eW,aD,au,ax,ao,ah,aa,af,Dk h.m0 h.m6,ba,Nf,Di h,aM]
 exact aA (by simp)
mutual
def Kn (μ:aw):D->Prop
 | .tup xs=>xs.length<1000/\Kns μ xs
 | .obj n=>∃ tn,mf μ (.obj n)=some tn/\tn ≠ "int" /\ tn ≠ "bool" /\ tn ≠ "tuple"
 | _=>True
def Kns (μ:aw):List D->Prop
 | []=>True
 | x::xs=>Kn μ x/\Kns μ xs
end
theorem kb {μ:aw}:∀ {xs:List D},Kns μ xs↔∀ x∈xs,Kn μ x
 | []=>by simp [Kns]
 | x::xs=>by simp [Kns,kb (xs:=xs)]
theorem C6 {μ g:aw}{n:Nat}{tn:String} (h:mf μ (.obj n)=some tn):mf (μ++g) (.obj n)=some tn:=by
 unfold mf at h ⊢
 dsimp only at h ⊢
 cases e:μ[n]? with
 | none=>rw [e] at h;cases h
 | some o=>rw [MR (L8.mp e).1,e];rw [e] at h;exact h
mutual
theorem oh {μ:aw} (g:aw):∀ {d:D},Kn μ d->Kn (μ++g) d
 | .non,_=>by simp [Kn]
 | .bl _,_=>by simp [Kn]
 | .int _,_=>by simp [Kn]
 | .str _,_=>by simp [Kn]
 | .frz _,_=>by simp [Kn]
 | .obj n,h=>by
  simp only [Kn] at h ⊢
  obtain ⟨tn,h1,h2⟩:=h
  exact ⟨tn,C6 h1,h2⟩
 | .tup xs,h=>by
  simp only [Kn] at h ⊢
  exact ⟨h.1,kns_more g h.2⟩
theorem kns_more {μ:aw} (g:aw):∀ {xs:List D},Kns μ xs->Kns (μ++g) xs
 | [],_=>by simp [Kns]
 | x::xs,h=>by
  simp only [Kns] at h ⊢
  exact ⟨oh g h.1,kns_more g h.2⟩
end
def isInt:D->Bool
 | .int _=>true
 | _=>false
def dy:D->Bool
 | .tup _=>true
 | _=>false
def c4 (a b:Int):D->Bool
 | .int i=>decide (a<=i) && decide (i<=b)
 | _=>false
theorem zb {μ:aw}{d:D} (h:Kn μ d):∃ b,dZ "int" d μ=.ok (.bl b) μ/\(b=true↔(isInt d=true\/∃ c,d=.bl c)):=by
 cases d with
 | obj n=>
  simp only [Kn] at h
  obtain ⟨tn,h1,h2,h3,h4⟩:=h
  refine ⟨_,by unfold dZ;rw [h1],?_⟩
  simp [jw,isInt,h2,h3]
 | non=>exact ⟨_,rfl,by simp [jw,isInt]⟩
 | bl b=>exact ⟨_,rfl,by simp [jw,isInt]⟩
 | int b=>exact ⟨_,rfl,by simp [jw,isInt]⟩
 | str b=>exact ⟨_,rfl,by simp [jw,isInt]⟩
 | tup b=>exact ⟨_,rfl,by simp [jw,isInt]⟩
 | frz b=>exact ⟨_,rfl,by simp [jw,isInt]⟩
theorem B5 {μ:aw}{d:D} (h:Kn μ d):∃ b,dZ "bool" d μ=.ok (.bl b) μ/\(b=true↔∃ c,d=.bl c):=by
 cases d with
 | obj n=>
  simp only [Kn] at h
  obtain ⟨tn,h1,h2,h3,h4⟩:=h
  refine ⟨_,by unfold dZ;rw [h1],?_⟩
  simp [jw,h2,h3]
 | non=>exact ⟨_,rfl,by simp [jw]⟩
 | bl b=>exact ⟨_,rfl,by simp [jw]⟩
 | int b=>exact ⟨_,rfl,by simp [jw]⟩
 | str b=>exact ⟨_,rfl,by simp [jw]⟩
 | tup b=>exact ⟨_,rfl,by simp [jw]⟩
 | frz b=>exact ⟨_,rfl,by simp [jw]⟩
theorem mM {μ:aw}{d:D} (h:Kn μ d):dZ "tuple" d μ=.ok (.bl (dy d)) μ:=by
 cases d with
 | obj n=>
  simp only [Kn] at h
  obtain ⟨tn,h1,h2,h3,h4⟩:=h
  unfold dZ
  rw [h1]
  simp [jw,dy,h4]
 | non=>rfl
 | bl b=>rfl
 | int b=>rfl
 | str b=>rfl
 | tup b=>rfl
 | frz b=>rfl
theorem pJ {μ:aw}{d:D} (h:Kn μ d):cZ [d] μ=.ok (.bl (isInt d)) μ:=by
 obtain ⟨b1,e1,f1⟩:=zb h
 obtain ⟨b2,e2,f2⟩:=B5 h
 unfold cZ
 rw [cb]
 have:(b1 && !b2)=isInt d:=by
  cases d <;> simp [isInt] at f1 f2 ⊢ <;> simp [f1,f2]
 simp [ja,e1,e2]
 cases b1 <;> cases b2 <;> simp at this ⊢ <;> rw [<- this] <;> exact aA (by simp)
theorem qR {μ:aw}{d:D} (h:Kn μ d):gS [d] μ=.ok (.bl (isInt d)) μ:=pJ h
theorem um {μ:aw}{d:D}{a b:Int} (h:Kn μ d):bg [d,.int a,.int b] μ=.ok (.bl (c4 a b d)) μ:=by
 unfold bg
 rw [mC]
 simp [eH,pJ h]
 cases d <;> simp [isInt,c4] <;> first
  | exact aA (by simp)
  | skip
 simp [cU]
 split <;> (rename_i hc;simp [hc];exact aA (by simp))
theorem wk {μ:aw}{d:D}{m:Int} (h:Kn μ d):eP [.int m,d] μ=.ok (.bl (c4 0 (m - 1) d)) μ:=by
 unfold eP
 rw [b9]
 simp [k9,um h]
 exact aA (by simp)
theorem yy {μ:aw}{d:D} (h:Kn μ d):fN [d] μ=.ok (.bl (c4 1 6 d)) μ:=by
 unfold fN
 rw [cb]
 simp [mY,um h]
 exact aA (by simp)
def qd (m:Int):D->Bool
 | .tup xs=>xs.all (c4 0 (m - 1))
 | _=>false
theorem uZ {μ:aw}{xs:List D}{h:D->Bool}{e:ME}{c:D} (hl:xs.length<=sizeLine) (he:∀ x∈xs,∀ a,e [some x,some c] (μ++[.lst a])=.ok (.bl (h x)) (μ++[.lst a])) :
  compLoop (.fix xs) μ.length (ak 0) bD e xs [none,some c] (μ++[.lst []])=.ok (.obj μ.length) (μ++[.lst ((xs.map h).map D.bl)]):=by
 have:=de (src:=.fix xs) (g:=ak 0) (t:=bD) (e:=e) (μ1:=μ) (q:=fun _=>true) (h:=fun x=>D.bl (h x)) (fun ρ=>∃ o,ρ=[o,some c]) (fun _=>trivial) (xs:=xs) (acc:=[]) (ρ:=[none,some c]) ⟨none,rfl⟩ (by simpa using hl)
  (fun x hx a ρ ⟨o,ho⟩=>⟨[some x,some c],⟨_,rfl⟩,by subst ho;rfl,rfl,fun _=>he x hx a⟩)
 rw [this,Qj.mpr (fun _ _=>rfl)]
 simp [N8,Qk]
theorem o9:1000<=sizeLine:=by decide
theorem yt {μ:aw}{d:D}{m:Int} (h:Kn μ d):cS [.int m,d] μ=.ok (.bl (qd m d)) μ:=by
 unfold cS
 rw [b9]
 simp [jY,mM h]
 cases d with
 | tup xs=>
  simp only [dy,Nf,qd]
  simp
  simp only [Kn] at h
  rw [uZ (h:=c4 0 (m - 1)) (LV (LW h.1) o9) fun x hx a=>?_]
  ·simp
   rw [gH (bs:=xs.map (c4 0 (m - 1))) (by simp)]
   simp [PL,Qk]
   exact dU (by simp)
  ·simp [fV]
   exact wk (oh _ (kb.mp h.2 x hx))
 | non=>simp [dy,qd];exact aA (by simp)
 | bl b=>simp [dy,qd];exact aA (by simp)
 | int b=>simp [dy,qd];exact aA (by simp)
 | str b=>simp [dy,qd];exact aA (by simp)
 | frz b=>simp [dy,qd];exact aA (by simp)
 | obj b=>simp [dy,qd];exact aA (by simp)
def lB (m:Int) (d:D):Bool:=qd m d && (match d with
 | .tup [.int a,.int b]=>a != b
 | _=>false)
def ll (m:Int) (d:D):Bool:=qd m d && (match d with
 | .tup [.int a,.int b]=>decide (a<b)
 | _=>false)
theorem BF {m:Int}{xs:List D} (h:qd m (.tup xs)=true):∃ ns:List Int,xs=ns.map D.int/\∀ n∈ns,0<=n/\n<=m - 1:=by
 simp only [qd] at h
 induction xs with
 | nil=>exact ⟨[],rfl,by simp⟩
 | cons x r ih=>
  rw [NF,Nv] at h
  obtain ⟨ns,e,f⟩:=ih h.2
  cases x with
  | int i=>
   simp [c4] at h
   exact ⟨i::ns,by rw [e];rfl,fun n hn=>(L4.mp hn).elim (fun z=>by rw [z];exact h.1) (f n)⟩
  | non=>simp [c4] at h
  | bl b=>simp [c4] at h
  | str b=>simp [c4] at h
  | tup b=>simp [c4] at h
  | frz b=>simp [c4] at h
  | obj b=>simp [c4] at h
theorem yu {μ:aw}{d:D}{m:Int} (h:Kn μ d):fM [.int m,d] μ=.ok (.bl (lB m d)) μ:=by
 unfold fM
 rw [b9]
 simp [mX,yt h]
 cases hp:qd m d with
 | false=>simp [lB,hp];exact aA (by simp)
 | true=>
  cases d with
  | tup xs=>
   obtain ⟨ns,rfl,_⟩:=BF hp
   simp
   match ns with
   | []=>simp [lB];exact aA (by simp)
   | [a]=>simp [lB];exact aA (by simp)
   | [a,b]=>
    simp only [NU,Ob,Ny,Nx]
    simp [fI (nr),fI (ue),lB,hp]
    simp at hp
    rw [hp]
    simp [bne]
    exact aA (by simp)
   | a::b::c::r=>
    have:((r.length:Int)+1+1+1 == 2)=false:=by simp;omega
    simp [this,lB]
    exact aA (by simp)
  | non=>simp [qd] at hp
  | bl b=>simp [qd] at hp
  | int b=>simp [qd] at hp
  | str b=>simp [qd] at hp
  | frz b=>simp [qd] at hp
  | obj b=>simp [qd] at hp
theorem Bf {μ:aw}{d:D}{m:Int} (h:Kn μ d):hW [.int m,d] μ=.ok (.bl (ll m d)) μ:=by
 unfold hW
 rw [b9]
 simp [pH,yu h]
 cases hp:lB m d with
 | false=>
  have:ll m d=false:=by
   unfold lB at hp
   unfold ll
   cases hq:qd m d with
   | false=>rfl
   | true=>
    rw [hq] at hp
    simp only [Qf] at hp ⊢
    split at hp
    ·simp at hp ⊢;omega
    ·rfl
  simp [this];exact aA (by simp)
 | true=>
  unfold lB at hp
  rw [Nv] at hp
  obtain ⟨hp1,hp2⟩:=hp
  split at hp2
  ·rename_i a b
   simp [fI (nr),fI (ue),ll,hp1,cU]
   exact aA (by simp)
  ·cases hp2
theorem A7 {m:Int}{d:D} (h:ll m d=true):∃ a b:Int,d=ar [a,b]/\0<=a/\a<b/\b<=m - 1:=by
 unfold ll at h
 rw [Nv] at h
 obtain ⟨h1,h2⟩:=h
 split at h2
 ·rename_i a b
  simp [qd,c4] at h1
  simp at h2
  exact ⟨a,b,rfl,by omega,h2,by omega⟩
 ·cases h2
def oI (k k':List Int):Bool:=match k,k' with
 | [a,b],[c,d]=>decide (a<c) || (decide (a=c) && decide (b<d))
 | _,_=>false
theorem vv {μ:aw}{a b c d:Int}:fH .Lt (ar [a,b]) (ar [c,d]) μ=.ok (.bl (oI [a,b] [c,d])) μ:=by
 have e:fH .Lt (ar [a,b]) (ar [c,d]) μ=(match cmpPs .Lt [.int a,.int b] [.int c,.int d] with | some k=>.ok (.bl k) μ | none=>.bad):=rfl
 rw [e]
 simp only [cmpPs,fA,PyData.eqv,oI]
 by_cases h1:a=c
 ·subst h1
  by_cases h2:b=d
  ·subst h2;simp [cU]
  ·simp [h2,cU]
 ·simp [h1,cU]
def Au (k:List Int):Prop:=∃ a b,k=[a,b]
def vS (ks:List (List Int)):Bool:=(List.range (ks.length - 1)).all fun i=>oI (ks.getD i []) (ks.getD (i+1) [])
theorem kW {lo:Int}{n:Nat}:bx lo n=(List.range n).map fun (i:Nat)=>D.int (lo+(i:Int)):=rfl
theorem EX:iG=aC (fH .Lt) (aC cq (ai 1) (aC ie (ai 0) (cC (.int 1)))) (aC cq (ai 1) (ai 0)):=rfl
theorem yJ {μ:aw}{ks:List (List Int)} (hk:∀ k∈ks,Au k) (a:List D) (i:Nat) (hi:i<ks.length - 1) :
  (aC (fH .Lt) (aC cq (ai 1) (aC ie (ai 0) (cC (.int 1)))) (aC cq (ai 1) (ai 0))) [some (.int (1+(i:Int))),some (.tup (ks.map ar))] (μ++[.lst a])=.ok (.bl (oI (ks.getD i []) (ks.getD (i+1) []))) (μ++[.lst a]):=by
 have h1:i<ks.length:=by omega
 have h2:i+1<ks.length:=by omega
 obtain ⟨x,y,e1⟩:=hk ks[i] (Pp h1)
 obtain ⟨u,v,e2⟩:=hk ks[i+1] (Pp h2)
 have g1:atI (ks.map ar) (1+(i:Int) - 1)=some (ar [x,y]):=by
  rw [show (1+(i:Int) - 1)=((i:Nat):Int) by omega]
  exact iZ (by rw [MU,Pq h1,e1];rfl)
 have g2:atI (ks.map ar) (1+(i:Int))=some (ar [u,v]):=by
  rw [show (1+(i:Int))=((i+1:Nat):Int) by omega]
  exact iZ (by rw [MU,Pq h2,e2];rfl)
 have k1:ks.getD i []=[x,y]:=by rw [Pc,Pq h1,e1];rfl
 have k2:ks.getD (i+1) []=[u,v]:=by rw [Pc,Pq h2,e2];rfl
 rw [k1,k2]
 simp only [aH,ao,ah,bf,aa,An]
 rw [fI g1]
 simp only [aa]
 rw [fI g2]
 simp only [aa]
 exact vv
theorem wz {μ:aw}{ks:List (List Int)} (hk:∀ k∈ks,Au k) (hl:ks.length<1000) :
  compLoop (nZ.fix (bx 1 (ks.length - 1))) μ.length (ak 0) bD (aC (fH CmpOp.Lt) (aC cq (ai 1) (aC ie (ai 0) (cC (D.int 1)))) (aC cq (ai 1) (ai 0))) (bx 1 (ks.length - 1)) [none,some (D.tup (List.map ar ks))] (μ++[O.lst []]) =
   .ok (.obj μ.length) (μ++[.lst (((List.range (ks.length - 1)).map fun i=>oI (ks.getD i []) (ks.getD (i+1) [])).map D.bl)]):=by
 have:=de (src:=.fix (bx 1 (ks.length - 1))) (g:=ak 0) (t:=bD) (e:=aC (fH .Lt) (aC cq (ai 1) (aC ie (ai 0) (cC (.int 1)))) (aC cq (ai 1) (ai 0))) (μ1:=μ) (q:=fun _=>true)
  (h:=fun d=>match d with | .int j=>.bl (oI (ks.getD (j - 1).toNat []) (ks.getD ((j - 1).toNat+1) [])) | _=>.non) (fun ρ=>∃ o,ρ=[o,some (.tup (ks.map ar))]) (fun _=>trivial) (xs:=bx 1 (ks.length - 1)) (acc:=[]) (ρ:=[none,some (.tup (ks.map ar))]) ⟨none,rfl⟩
  (by rw [kW,MY,Oa,Ob];exact LV (by omega) o9)
  (fun x hx a ρ ⟨o, ho⟩ => by
   rw [kW] at hx
   obtain ⟨i,hi,rfl⟩:=Oh.mp hx
   refine ⟨[some (.int (1+(i:Int))),some (.tup (ks.map ar))],⟨_,rfl⟩,by subst ho;rfl,rfl,fun _=>?_⟩
   rw [yJ hk a i (by simpa using hi)]
   dsimp only
   rw [show (1+(i:Int) - 1).toNat=i by omega])
 rw [this,Qj.mpr (fun _ _=>rfl),kW,N8,NP,N8]
 congr 4
 apply N9
 intro i _
 show D.bl (oI (ks.getD (1+(i:Int) - 1).toNat []) (ks.getD ((1+(i:Int) - 1).toNat+1) []))=_
 rw [show (1+(i:Int) - 1).toNat=i by omega]
 rfl
theorem va {μ:aw}{ks:List (List Int)} (hk:∀ k∈ks,Au k) (hl:ks.length<1000):cR [.tup (ks.map ar)] μ=.ok (.bl (vS ks)) μ:=by
 unfold cR
 rw [cb]
 simp only [jX,aW,aD,au,cY,dv,bf,ax,aa,ah,eB,MY]
 rw [oj (by omega) (by omega) (by omega) (by omega)]
 have hn:((ks.length:Int) - 1).toNat=ks.length - 1:=by omega
 simp only [aa,bh,hn]
 rw [show fB [none,some 0] (some (D.tup (List.map ar ks))::List.replicate (1 - 1) none)=[none,some (D.tup (List.map ar ks))] from rfl]
 rw [EX,wz hk hl]
 simp only [aa]
 rw [gH ay]
 simp only [ae,aM]
 rw [dU (by simp)]
 simp [vS,PL,Qk]
def Fo:D->List Int
 | .tup [.int a,.int b]=>[a,b]
 | _=>[]
def jA (m:Int) (d:D):Bool:=match d with
 | .tup ts=>ts.all (ll m) && vS (ts.map Fo)
 | _=>false
def ia (d:D):Bool:=match d with
 | .tup [.int m,ts]=>decide (1<=m) && decide (m<=6) && jA m ts
 | _=>false
theorem Cr {m:Int}{ts:List D} (h:ts.all (ll m)=true):∃ ks:List (List Int),ts=ks.map ar/\ts.map Fo=ks/\∀ k∈ks,∃ a b:Int,k=[a,b]/\0<=a/\a<b/\b<=m - 1:=by
 induction ts with
 | nil=>exact ⟨[],rfl,rfl,by simp⟩
 | cons x r ih=>
  rw [NF,Nv] at h
  obtain ⟨ks,e1,e2,e3⟩:=ih h.2
  obtain ⟨a,b,rfl,h1,h2,h3⟩:=A7 h.1
  refine ⟨[a,b]::ks,by rw [e1];rfl,by rw [Ny,e2];rfl,fun k hk=>?_⟩
  rcases L4.mp hk with z | z
  ·exact ⟨a,b,z,h1,h2,h3⟩
  ·exact e3 k z
theorem yq {μ:aw}{d:D}{m:Int} (h:Kn μ d):fL [.int m,d] μ=.ok (.bl (jA m d)) μ:=by
 unfold fL
 rw [b9]
 simp [mW,mM h]
 cases d with
 | tup ts=>
  simp only [dy,Nf,jA]
  simp only [Kn] at h
  rw [kf]
  simp only [aa,bh]
  rw [uZ (h:=ll m) (LV (LW h.1) o9) fun x hx a=>?_]
  ·simp only [aa]
   rw [gH ay]
   simp only [aa,ba]
   cases ha:ts.all (ll m) with
   | false=>
    have:((ts.map (ll m)).all id)=false:=by rw [PL];simpa [Qk] using ha
    rw [this]
    simp
    exact dU (by simp)
   | true=>
    have:((ts.map (ll m)).all id)=true:=by rw [PL];simpa [Qk] using ha
    rw [this]
    obtain ⟨ks,e1,e2,e3⟩:=Cr ha
    simp only [Nf,Qf]
    rw [e2,e1,va (fun k hk=>let ⟨a,b,e,_⟩:=e3 k hk;⟨a,b,e⟩) (by rw [e1] at h;simpa using h.1)]
    simp
    exact dU (by simp)
  ·simp [iy]
   exact Bf (oh _ (kb.mp h.2 x hx))
 | non=>simp [dy,jA];exact aA (by simp)
 | bl b=>simp [dy,jA];exact aA (by simp)
 | int b=>simp [dy,jA];exact aA (by simp)
 | str b=>simp [dy,jA];exact aA (by simp)
 | frz b=>simp [dy,jA];exact aA (by simp)
 | obj b=>simp [dy,jA];exact aA (by simp)
theorem Gn {μ:aw}{d:D} (h:Kn μ d):eO [d] μ=.ok (.bl (ia d)) μ:=by
 unfold eO
 rw [cb]
 simp [k8,mM h]
 cases d with
 | tup xs=>
  simp only [Kn] at h
  simp [dy]
  match xs,h with
  | [],h=>simp [ia];exact aA (by simp)
  | [x],h=>simp [ia];exact aA (by simp)
  | [x,y],h=>
   simp only [Kns] at h
   simp [yy h.2.1]
   cases x with
   | int m=>
    simp [c4]
    cases hm:(decide (1<=m) && decide (m<=6)) with
    | false=>
     simp [ia,hm]
     have:¬ (1<=m/\m<=6):=by simpa using hm
     rw [LM this]
     simp
     exact aA (by simp)
    | true=>
     have:1<=m/\m<=6:=by simpa using hm
     rw [LL this]
     simp [yq h.2.2.1,ia,this]
     exact aA (by simp)
   | non=>simp [c4,ia];exact aA (by simp)
   | bl b=>simp [c4,ia];exact aA (by simp)
   | str b=>simp [c4,ia];exact aA (by simp)
   | tup b=>simp [c4,ia];exact aA (by simp)
   | frz b=>simp [c4,ia];exact aA (by simp)
   | obj b=>simp [c4,ia];exact aA (by simp)
  | x::y::z::r,h=>
   have:((r.length:Int)+1+1+1 == 2)=false:=by simp;omega
   simp [this,ia]
   exact aA (by simp)
 | non=>simp [dy,ia];exact aA (by simp)
 | bl b=>simp [dy,ia];exact aA (by simp)
 | int b=>simp [dy,ia];exact aA (by simp)
 | str b=>simp [dy,ia];exact aA (by simp)
 | frz b=>simp [dy,ia];exact aA (by simp)
 | obj b=>simp [dy,ia];exact aA (by simp)
def mm (p:Int × Int):List Int:=[min p.1 p.2,max p.1 p.2]
def PP (m:Nat) (p:Int × Int):Prop:=(0<=p.1/\p.1<(m:Int))/\(0<=p.2/\p.2<(m:Int))/\p.1≠p.2
theorem PP.ok {m:Nat}{p:Int × Int} (h:PP m p):oz m (mm p):=⟨_,_,rfl,by have:=h.1;have:=h.2.1;omega,by have:=h.2.2;omega,by have:=h.1;have:=h.2.1;omega⟩
theorem g8 {m:Nat}{ps:List (Int × Int)}{a b:Int} (hm:m<=6) (hps:∀ p∈ps,PP m p):[a,b]∈di (ps.map mm)↔∃ p∈ps,mm p=[a,b]:=by
 unfold di
 rw [LS,PF,Oh]
 exact ⟨fun h=>h.2,fun h=>⟨by obtain ⟨p,hp,e⟩:=h;rw [<- e];exact (hps p hp).ok.prs (by omega),h⟩⟩
theorem n9 {m:Nat}{ps:List (Int × Int)} (h0:1<=m) (hm:m<=6) (hps:∀ p∈ps,PP m p):GW m (di (ps.map mm)):=nu (by omega) (by omega) fun k hk=>by obtain ⟨p,hp,rfl⟩:=Oh.mp hk;exact (hps p hp).ok
structure tL (m:Nat) (ns:List Int):Prop where
 nd:ns.Nodup
 len:ns.length=m
 rng:∀ n∈ns,0<=n/\n<(m:Int)
def nm (ns:List Int) (k:Int):Int:=ns.getD k.toNat 0
section
variable {m:Nat}{ns:List Int}{ks:List (List Int)}
theorem tL.get (N:tL m ns) {k:Int} (h:0<=k/\k<(m:Int)):∃ hk:k.toNat<ns.length,nm ns k=ns[k.toNat]:=by
 have hk:k.toNat<ns.length:=by rw [N.len];omega
 exact ⟨hk,by unfold nm;rw [Pc,Pq hk];rfl⟩
theorem tL.ran (N:tL m ns) {k:Int} (h:0<=k/\k<(m:Int)):0<=nm ns k/\nm ns k<(m:Int):=by
 obtain ⟨hk,e⟩:=N.get h
 rw [e];exact N.rng _ (Pp hk)
theorem tL.inj (N:tL m ns) {a b:Int} (ha:0<=a/\a<(m:Int)) (hb:0<=b/\b<(m:Int)) (e:nm ns a=nm ns b):a=b:=by
 obtain ⟨h1,e1⟩:=N.get ha
 obtain ⟨h2,e2⟩:=N.get hb
 rw [e1,e2] at e
 have:=(L9 N.nd).mp e
 omega
theorem tL.all (N:tL m ns) {b:Int} (hb:0<=b/\b<(m:Int)):∃ a,(0<=a/\a<(m:Int))/\nm ns a=b:=by
 have sub:ns ⊆ rg m:=fun n hn=>my.mpr (N.rng n hn)
 have hmem:b∈ns:=by
  apply Oi
  intro hc
  have:(b::ns).Nodup:=MJ.mpr ⟨hc,N.nd⟩
  have l:=this.length_le_of_subset (show b::ns ⊆ rg m from fun n hn=>by
   rcases L4.mp hn with z | z
   ·subst z;exact my.mpr hb
   ·exact sub z)
  rw [rZ,NU,N.len] at l
  omega
 obtain ⟨i,hi,e⟩:=Px hmem
 have hi':(0:Int)<=(i:Int)/\(i:Int)<(m:Int):=by have:=N.len;omega
 refine ⟨i,hi',?_⟩
 unfold nm
 rw [show ((i:Int)).toNat=i from by omega,Pc,Pq hi,e];rfl
def zT (ns:List Int) (k:List Int):Int × Int:=(nm ns (k.getD 0 0),nm ns (k.getD 1 0))
def ml (ks:List (List Int)) (ns:List Int):List (List Int):=di ((ks.map (zT ns)).map mm)
theorem r8 (N:tL m ns) (h:∀ k∈ks,oz m k):∀ p∈ks.map (zT ns),PP m p:=fun p hp=>by
 obtain ⟨k,hk,rfl⟩:=Oh.mp hp
 obtain ⟨a,b,rfl,h1,h2,h3⟩:=h k hk
 have x1:0<=a/\a<(m:Int):=⟨h1,by omega⟩
 have y1:0<=b/\b<(m:Int):=⟨by omega,h3⟩
 exact ⟨N.ran x1,N.ran y1,fun e=>by have:=N.inj x1 y1 e;omega⟩
theorem r9 (N:tL m ns) (h:GW m ks):GW m (ml ks ns):=n9 h.m0 h.m6 (r8 N h.2.2.2.2)
theorem DI (N:tL m ns) (h:GW m ks) {a b:Int} (ha:0<=a/\a<(m:Int)) (hb:0<=b/\b<(m:Int)):mj ks a b↔mj (ml ks ns) (nm ns a) (nm ns b):=by
 have hk:=h.2.2.2.2
 have pp:=r8 N hk
 rw [ip (r9 N h).2.2.2.2,ip hk]
 unfold ml
 rw [g8 h.m6 pp,g8 h.m6 pp]
 constructor
 ·intro e
  have key:∃ p∈ks.map (zT ns),(p.1=nm ns a/\p.2=nm ns b)\/(p.1=nm ns b/\p.2=nm ns a):=by
   rcases e with e | e
   ·exact ⟨_,Oh.mpr ⟨_,e,rfl⟩,.inl ⟨rfl,rfl⟩⟩
   ·exact ⟨_,Oh.mpr ⟨_,e,rfl⟩,.inr ⟨rfl,rfl⟩⟩
  obtain ⟨p,hp,hc⟩:=key
  by_cases le:nm ns a<=nm ns b
  ·refine .inl ⟨p, hp, ?_⟩
   unfold mm
   rcases hc with ⟨e1,e2⟩ | ⟨e1,e2⟩ <;> rw [e1,e2]
   ·rw [Ql le,Qm le]
   ·rw [Int.min_eq_right le,Int.max_eq_left le]
  ·have le' : nm ns b <= nm ns a := by omega
   refine .inr ⟨p,hp,?_⟩
   unfold mm
   rcases hc with ⟨e1,e2⟩ | ⟨e1,e2⟩ <;> rw [e1,e2]
   ·rw [Int.min_eq_right le',Int.max_eq_left le']
   ·rw [Ql le',Qm le']
 ·intro e
  have key:∃ p∈ks.map (zT ns),(p.1=nm ns a/\p.2=nm ns b)\/(p.1=nm ns b/\p.2=nm ns a):=by
   rcases e with ⟨p,hp,e⟩ | ⟨p,hp,e⟩
   ·unfold mm at e
    injection e with e1 e2
    injection e2 with e2 _
    exact ⟨p,hp,by omega⟩
   ·unfold mm at e
    injection e with e1 e2
    injection e2 with e2 _
    exact ⟨p,hp,by omega⟩
  obtain ⟨p,hp,hc⟩:=key
  obtain ⟨k,hkm,rfl⟩:=Oh.mp hp
  obtain ⟨x,y,rfl,h1,h2,h3⟩:=hk k hkm
  have x1:0<=x/\x<(m:Int):=⟨h1,by omega⟩
  have y1:0<=y/\y<(m:Int):=⟨by omega,h3⟩
  rcases hc with ⟨e1,e2⟩ | ⟨e1,e2⟩
  ·have := N.inj x1 ha e1; have := N.inj y1 hb e2
   subst x y;exact .inl hkm
  ·have := N.inj x1 hb e1; have := N.inj y1 ha e2
   subst x y;exact .inr hkm
theorem JH (N:tL m ns) (h:GW m ks) {a b:Int}{n:Nat} (ha:0<=a/\a<(m:Int)) (hb:0<=b/\b<(m:Int)):R (mj ks) a n b↔R (mj (ml ks ns)) (nm ns a) n (nm ns b):=
 uf (adj:=mj ks) (adj':=mj (ml ks ns)) (f:=nm ns) (D:=fun q=>0<=q/\q<(m:Int)) (fun a b e=>(Jd h e).1) (fun a b e=>(Jd (r9 N h) e).1) (fun a h=>N.ran h) (fun b h=>N.all h) (fun a b ha hb e=>N.inj ha hb e) (fun a b ha hb=>DI N h ha hb) ha hb
end
theorem qQ {μ:aw}{m:Int}{ps:List (Int × Int)}{ns:List Int} (h0:1<=m) (h1:m<=6) (hps:∀ p∈ps,0<=p.1/\p.1<m/\0<=p.2/\p.2<m/\p.1≠p.2) (hl:ps.length<1000)
  (hn:ns.Nodup) (hnl:(ns.length:Int)=m) (hnr:∀ n∈ns,0<=n/\n<m) :
  bN [.tup [.int m,.tup (ps.map kn)],.tup (ns.map D.int)] μ=.ok (.tup [.int m,.tup ((di ((ps.map fun p=>(ns.getD p.1.toNat 0,ns.getD p.2.toNat 0)).map fun p=>[min p.1 p.2,max p.1 p.2])).map ar)]) μ:=by
 let nm:Int->Int:=fun k=>ns.getD k.toNat 0
 have nmD:∀ k,0<=k->k<m->atI (ns.map D.int) k=some (.int (nm k)):=fun k k0 k1=>by
  have hk:k.toNat<ns.length:=by omega
  refine mG k0 ?_
  rw [MU,Pq hk]
  simp [nm,Pc,Pq hk]
 have nmR:∀ k,0<=k->k<m->0<=nm k/\nm k<m:=fun k k0 k1=>by
  have hk:k.toNat<ns.length:=by omega
  have:nm k=ns[k.toNat]:=by simp [nm,Pc,Pq hk]
  rw [this];exact hnr _ (Pp hk)
 have nmI:∀ j k,0<=j->j<m->0<=k->k<m->j≠k->nm j≠nm k:=fun j k j0 j1 k0 k1 hjk e=>by
  have hj:j.toNat<ns.length:=by omega
  have hk:k.toNat<ns.length:=by omega
  have e1:nm j=ns[j.toNat]:=by simp [nm,Pc,Pq hj]
  have e2:nm k=ns[k.toNat]:=by simp [nm,Pc,Pq hk]
  rw [e1,e2] at e
  have:=(L9 hn).mp e
  omega
 let qs:List (Int × Int):=ps.map fun p=>(nm p.1,nm p.2)
 let ks:List (List Int):=qs.map fun p=>[min p.1 p.2,max p.1 p.2]
 have hks:∀ k∈ks,oz m k:=fun k hk=>by
  simp only [ks,qs,N8,Oh,Function.comp_apply] at hk
  obtain ⟨p,hp,rfl⟩:=hk
  obtain ⟨a1,a2,a3,a4,a5⟩:=hps p hp
  have b1:=nmR p.1 a1 a2
  have b2:=nmR p.2 a3 a4
  have b3:=nmI p.1 p.2 a1 a2 a3 a4 a5
  exact ⟨_,_,rfl,by omega,by omega,by omega⟩
 show _=aj.ok (D.tup [.int m,.tup ((di ks).map ar)]) μ
 have c1:compLoop (.fix (ps.map kn)) μ.length (dq 2 (aZ (ak 0) (aZ (ak 1) dr))) bD fu (ps.map kn) [none,none,some (.tup (ns.map D.int))] (μ++[.lst []])=.ok (.obj μ.length) (μ++[.lst (qs.map kn)]):=by
  have:=de (src:=.fix (ps.map kn)) (g:=dq 2 (aZ (ak 0) (aZ (ak 1) dr))) (t:=bD) (e:=fu) (μ1:=μ) (q:=fun _=>true)
   (h:=fun d=>match d with | .tup [.int a,.int b]=>kn (nm a,nm b) | _=>.non) (fun ρ=>∃ o1 o2,ρ=[o1,o2,some (.tup (ns.map D.int))]) (fun _=>trivial) (xs:=ps.map kn) (acc:=[]) (ρ:=[none,none,some (.tup (ns.map D.int))]) ⟨none,none,rfl⟩
   (by rw [MY,Ob];exact LV (by omega) bG)
   (fun x hx a ρ hJJ => by
    obtain ⟨o1,o2,ho⟩:=hJJ
    obtain ⟨p,hp,rfl⟩:=Oh.mp hx
    obtain ⟨a1,a2,a3,a4,a5⟩:=hps p hp
    refine ⟨[some (.int p.1),some (.int p.2),some (.tup (ns.map D.int))],⟨_,_,rfl⟩,by subst ho;rfl,rfl,fun _=>?_⟩
    unfold fu
    simp only [eJ,au,ax,aH,ao,ah,aa,af]
    rw [fI (nmD p.1 a1 a2)]
    simp only [aa,af]
    rw [fI (nmD p.2 a3 a4)]
    simp only [aa,af,NU,Ob,LL l2]
    rfl)
  rw [this,Qj.mpr (fun _ _=>rfl)]
  simp only [NP,N8,qs]
  rfl
 have c2:compLoop (.own μ.length (qs.map kn)) (μ++[O.lst (qs.map kn)]).length (ak 0) bD fq (qs.map kn) [none] ((μ++[O.lst (qs.map kn)])++[.lst []])=.ok (.obj (μ++[O.lst (qs.map kn)]).length) ((μ++[O.lst (qs.map kn)])++[.lst (ks.map ar)]):=by
  have:=de (src:=.own μ.length (qs.map kn)) (g:=ak 0) (t:=bD) (e:=fq) (μ1:=μ++[O.lst (qs.map kn)]) (q:=fun _=>true)
   (h:=fun d=>match d with | .tup [.int a,.int b]=>ar [min a b,max a b] | _=>.non) (fun ρ=>∃ o1,ρ=[o1]) (fun a=>aK ay) (xs:=qs.map kn) (acc:=[]) (ρ:=[none]) ⟨none,rfl⟩
   (by rw [MY,Ob];simp only [qs,MY];exact LV (by omega) bG)
   (fun x hx a ρ hJJ => by
    obtain ⟨o1,ho⟩:=hJJ
    obtain ⟨p,hp,rfl⟩:=Oh.mp hx
    refine ⟨[some (kn p)],⟨_,rfl⟩,by subst ho;rfl,rfl,fun _=>?_⟩
    unfold fq kn
    simp only [eJ,au,ax,aD,ah,aa,af,KW,KY,NU,Ob,LL l2]
    rfl)
  rw [this,Qj.mpr (fun _ _=>rfl)]
  simp only [NP,N8,ks]
  rfl
 have kd:oK (ks.map ar)=some ks:=pA fun k hk=>(hks k hk).prs h1
 unfold bN
 rw [b9]
 simp only [l7,aO,bc,cY,cX,aH,ah,ao,bf,aa,af,il,kf,bh]
 rw [show fB [none,none,some 1] (some (D.tup [D.int m,D.tup (List.map kn ps)])::some (D.tup (List.map D.int ns))::List.replicate (3 - 2) none)=[none,none,some (.tup (ns.map D.int))] from rfl,c1]
 simp only [ae,bW,aJ,aW,eJ,au,ax,aD,aH,ah,ao,bf,aa,af,List.replicate,P9,Qa,du,cY,cX]
 rw [gE ay]
 simp only [aa,af,dN]
 rw [show fB [none] _=[none] from rfl,c2]
 simp only [aa,af]
 have s1:rT [.obj (μ++[O.lst (qs.map kn)]).length] (μ++[O.lst (qs.map kn)]++[O.lst (ks.map ar)])=.ok (.obj (μ++[O.lst (qs.map kn)]++[O.lst (ks.map ar)]).length) ((μ++[O.lst (qs.map kn)]++[O.lst (ks.map ar)])++[.set (dY ks)]):=by
  unfold rT;dsimp only;rw [ay];dsimp only;unfold qF;rw [kd]
 rw [s1]
 simp only [aa,af]
 have s2:∀ M:aw,gI [.obj M.length] (M++[.set (dY ks)])=.ok (.obj (M++[O.set (dY ks)]).length) ((M++[.set (dY ks)])++[.lst ((di ks).map ar)]):=fun M=>by
  unfold gI;dsimp only;rw [ay];dsimp only;rw [nv]
 rw [s2]
 simp only [aa,af]
 rw [sF ay]
 simp only [aa,af,NU,Ob,LL l2,ae,aM]
 rw [NK,NK,NK]
 exact dU (by simp;exact g9.mpr (fun x hx=>by obtain ⟨k,_,rfl⟩:=Oh.mp hx;simp [ar];exact g9.mpr (by simp)))
theorem yw {μ:aw}{m:Nat}{ks:List (List Int)}{ns:List Int} (h:GW m ks) (N:tL m ns):bN [aG m ks,cQ ns] μ=.ok (aG m (ml ks ns)) μ:=by
 have hp:ks.map ar=(ks.map fun k=>(k.getD 0 0,k.getD 1 0)).map kn:=by
  rw [N8]
  apply N9
  intro k hk
  obtain ⟨x,y,rfl,_⟩:=h.2.2.2.2 k hk
  rfl
 have e:=qQ (μ:=μ) (m:=(m:Int)) (ps:=ks.map fun k=>(k.getD 0 0,k.getD 1 0)) (ns:=ns) (by have:=h.m0;omega) (by have:=h.m6;omega)
  (fun p hp => by
   obtain ⟨k,hk,rfl⟩:=Oh.mp hp
   obtain ⟨x,y,rfl,g1,g2,g3⟩:=h.2.2.2.2 k hk
   exact ⟨g1,by show x<_;omega,by show 0<=y;omega,g3,by show x≠y;omega⟩)
  (by rw [MY];have:=iL h;omega) N.nd (by rw [N.len]) N.rng
 rw [<- hp] at e
 rw [show aG m ks=.tup [.int m,.tup (ks.map ar)] from rfl,show cQ ns=.tup (ns.map D.int) from rfl,e]
 unfold ml
 rw [N8,N8,N8]
 rfl
theorem yC {a:Int} (h0:0<=a) (h1:a<7):PyData.showable (.int a)=true/\PyData.leavesShort 8 (.int a)=true/\PyData.weight (.int a)<=3:=by
 have:a=0\/a=1\/a=2\/a=3\/a=4\/a=5\/a=6:=by omega
 rcases this with rfl|rfl|rfl|rfl|rfl|rfl|rfl <;> decide +kernel
theorem yY {d:PyData} (h1:d.showable=true) (h2:d.canLay0=true) (h3:d.depth<=60) (h4:d.leavesShort 8=true) (h5:d.weight<=1000):sd d=true:=by
 have hs:=PyData.shown_le 8 (Mt _) d h4
 have hz:(10008:Nat)<=sizeLine:=by decide
 unfold sd
 rw [h1,PyData.hasDict_of_canLay d h2,NQ h3,NQ (show d.shown.length<=sizeLine by omega)]
 rfl
theorem LA {μ:aw}{neg:Bool}{x:Str}:yf neg (.str x) (.str x) μ=.ok (.bl (!neg)) μ:=by
 unfold yf
 dsimp only
 rw [NQ rfl]
 cases neg <;> rfl
section
variable {m:Nat}{ks:List (List Int)}{M:aw}{a0 a1 a2 a5 a6 a7 a8 a9 a10 a12:Option D}
end
theorem GT:prs.Nodup:=by decide +kernel
theorem qS {ks:List (List Int)} (hn:ks.Nodup) (hk:∀ k∈ks,k∈prs):(di ks).length=ks.length:=by
 refine List.Perm.length_eq ((OC (GT.filter _) hn).mpr fun k=>?_)
 rw [LS,PF]
 exact ⟨fun z=>z.2,fun z=>⟨hk k z,z⟩⟩
structure eV (m:Nat) (ks:List (List Int)):Prop where
 gw:GW m ks
 len:ks.length+1=m
 con:∀ q:Int,0<=q/\q<(m:Int)->∃ n,R (mj ks) 0 n q
theorem ux {m:Nat}{ks:List (List Int)}{ns:List Int} (N:tL m ns) (h:eV m ks):eV m (ml ks ns):=by
 have hg:=h.gw
 have m0:=hg.m0
 have m6:=hg.m6
 have hk:=hg.2.2.2.2
 refine ⟨r9 N hg,?_,fun q hq=>?_⟩
 ·unfold ml
  rw [qS]
  ·simpa using h.len
  ·rw [N8]
   unfold List.Nodup
   rw [Pg]
   have hp:ks.Pairwise fun a b=>ni a<ni b:=hg.2.2.2.1
   refine List.Pairwise.imp_of_mem ?_ hp
   intro x y hx hy hlt e
   obtain ⟨a,b,rfl,a0,ab,bm⟩:=hk x hx
   obtain ⟨c,d,rfl,c0,cd,dm⟩:=hk y hy
   have ra:=N.ran (k:=a) ⟨a0,by omega⟩
   have rb:=N.ran (k:=b) ⟨by omega,bm⟩
   have rc:=N.ran (k:=c) ⟨c0,by omega⟩
   have rd:=N.ran (k:=d) ⟨by omega,dm⟩
   have e':[min (nm ns a) (nm ns b),max (nm ns a) (nm ns b)]=[min (nm ns c) (nm ns d),max (nm ns c) (nm ns d)]:=e
   simp only [Qn,Qo] at e'
   have hab:nm ns a≠nm ns b:=fun z=>by have:=N.inj ⟨a0,by omega⟩ ⟨by omega,bm⟩ z;omega
   have key:(nm ns a=nm ns c/\nm ns b=nm ns d)\/(nm ns a=nm ns d/\nm ns b=nm ns c):=by omega
   rcases key with ⟨z1,z2⟩ | ⟨z1,z2⟩
   ·have := N.inj ⟨a0, by omega⟩ ⟨c0, by omega⟩ z1
    have:=N.inj ⟨by omega,bm⟩ ⟨by omega,dm⟩ z2
    subst_vars
    exact absurd hlt (Int.lt_irrefl _)
   ·have := N.inj ⟨a0, by omega⟩ ⟨by omega, dm⟩ z1
    have:=N.inj ⟨by omega,bm⟩ ⟨c0,by omega⟩ z2
    omega
  ·intro k hk'
   obtain ⟨p,hp,rfl⟩:=Oh.mp hk'
   exact (r8 N hk p hp).ok.prs (by omega)
 ·obtain ⟨a, ha, ea⟩ := N.all hq
  obtain ⟨b,hb,eb⟩:=N.all (b:=0) ⟨by omega,by omega⟩
  obtain ⟨n1,r1⟩:=h.con a ha
  obtain ⟨n2,r2⟩:=h.con b hb
  have r3:=(r2.rev fun x y e=>K9 hg e).add r1
  have:=(JH N hg hb ha).mp r3
  rw [ea,eb] at this
  exact ⟨_,this⟩
def CJ (m:Nat) (ps:List (Int × Int)):Prop:=ps.length+1=m/\∀ (i:Nat) (p:Int × Int),ps[i]?=some p->0<=p.1/\p.1<=(i:Int)/\p.2=(i:Int)+1
theorem CJ.mem {m:Nat}{ps:List (Int × Int)} (h:CJ m ps) {p:Int × Int} (hp:p∈ps):0<=p.1/\p.1<p.2/\p.2<(m:Int):=by
 obtain ⟨i,hi⟩:=Ol hp
 have h1:=h.2 i p hi
 have h2:=(L8.mp hi).1
 have:=h.1
 omega
theorem CJ.mm {m:Nat}{ps:List (Int × Int)} (h:CJ m ps) {p:Int × Int} (hp:p∈ps):mm p=[p.1,p.2]:=by
 have:=h.mem hp
 unfold Lw.mm
 rw [Ql (by omega),Qm (by omega)]
theorem CJ.pp {m:Nat}{ps:List (Int × Int)} (h:CJ m ps):∀ p∈ps,PP m p:=fun p hp=>by
 have:=h.mem hp
 exact ⟨⟨by omega,by omega⟩,⟨by omega,by omega⟩,by omega⟩
theorem BM {m:Nat}{ps:List (Int × Int)} (m0:1<=m) (m6:m<=6) (h:CJ m ps):eV m (di (ps.map mm)):=by
 have hg:=n9 m0 m6 h.pp
 refine ⟨hg,?_,fun q hq=>?_⟩
 ·rw [qS]
  ·simpa using h.1
  ·unfold List.Nodup
   rw [Pg,Oe]
   intro i j hi hj hij e
   rw [h.mm (Pp hi),h.mm (Pp hj)] at e
   have e1:=h.2 i _ (Pq hi)
   have e2:=h.2 j _ (Pq hj)
   simp only [Qn,Qo] at e
   omega
  ·intro k hk'
   obtain ⟨p,hp,rfl⟩:=Oh.mp hk'
   exact (h.pp p hp).ok.prs (by omega)
 ·obtain ⟨k, rfl⟩ : ∃ k : Nat, q = (k : Int) := ⟨q.toNat, by omega⟩
  induction k using Nat.strongRecOn with
  | ind k ih=>
   cases k with
   | zero=>exact ⟨0,rfl⟩
   | succ k=>
    have hk:k<ps.length:=by have:=h.1;omega
    have hp:=h.2 k _ (Pq hk)
    have hm:=Pp hk
    obtain ⟨n,hn⟩:=ih ps[k].1.toNat (by omega) (by omega)
    rw [OF hp.1] at hn
    refine ⟨n+1,.inr ⟨ps[k].1,?_,hn⟩⟩
    rw [ip hg.2.2.2.2]
    left
    rw [g8 m6 h.pp]
    refine ⟨_,hm,?_⟩
    rw [h.mm hm,hp.2.2]
    rfl
theorem yS {m:Nat}{ps:List (Int × Int)}{ns:List Int} (m0:1<=m) (m6:m<=6) (h:CJ m ps) (N:tL m ns):di ((ps.map fun p=>(ns.getD p.1.toNat 0,ns.getD p.2.toNat 0)).map fun p=>[min p.1 p.2,max p.1 p.2])=ml (di (ps.map mm)) ns:=by
 have hg:=n9 m0 m6 h.pp
 have pp:∀ p∈(ps.map fun p=>(ns.getD p.1.toNat 0,ns.getD p.2.toNat 0)),PP m p:=fun p hp=>by
  obtain ⟨x,hx,rfl⟩:=Oh.mp hp
  have hx':=h.pp x hx
  exact ⟨N.ran hx'.1,N.ran hx'.2.1,fun z=>hx'.2.2 (N.inj hx'.1 hx'.2.1 z)⟩
 refine uT (n9 m0 m6 pp) (r9 N hg) fun a b=>?_
 show [a,b]∈di ((ps.map fun p=>(ns.getD p.1.toNat 0,ns.getD p.2.toNat 0)).map mm)↔_
 rw [g8 m6 pp]
 unfold ml
 rw [g8 m6 (r8 N hg.2.2.2.2)]
 constructor
 ·rintro ⟨p, hp, e⟩
  obtain ⟨x,hx,rfl⟩:=Oh.mp hp
  refine ⟨zT ns (mm x),Oh.mpr ⟨mm x,?_,rfl⟩,?_⟩
  ·rw [h.mm hx, g8 m6 h.pp]
   exact ⟨x,hx,h.mm hx⟩
  ·rw [h.mm hx];exact e
 ·rintro ⟨p, hp, e⟩
  obtain ⟨k,hk,rfl⟩:=Oh.mp hp
  obtain ⟨c,d,rfl,_⟩:=hg.2.2.2.2 k hk
  obtain ⟨x,hx,ex⟩:=(g8 m6 h.pp).mp hk
  rw [h.mm hx] at ex
  simp only [Qn,Qo] at ex
  refine ⟨_,Oh.mpr ⟨x,hx,rfl⟩,?_⟩
  rw [ex.1,ex.2]
  exact e
theorem zp {μ0 μ1:aw}{i m:Nat} (hi:i<μ0.length) (h:Pn μ0 i μ1) (m0:1<=m) (m1:m<=6) :
  ∃ qs μ2,CJ m qs/\Pn μ0 i μ2/\μ2.length=μ1.length/\compLoop (.fix (bx 1 (m - 1))) μ1.length (ak 0) bD dP (bx 1 (m - 1)) [none,some (.obj i)] (μ1++[.lst []])=.ok (.obj μ1.length) (μ2++[.lst (qs.map kn)]):=by
 have run:=jR (src:=.fix (bx 1 (m - 1))) (g:=ak 0) (t:=bD) (e:=dP) (n:=μ1.length)
  (fun xs ys ρ μ2 s=>s=[]/\μ2.length=μ1.length/\Pn μ0 i μ2/\(∃ o,ρ=[o,some (.obj i)])/\∃ (n:Nat) (qs:List (Int × Int)),xs=bx (1+(qs.length:Int)) n/\1+qs.length+n=m/\ys=qs.map kn/\(∀ (j:Nat) (p:Int × Int),qs[j]?=some p->0<=p.1/\p.1<=(j:Int)/\p.2=(j:Int)+1))
  (fun ys ρ μ2 s ⟨_,e1,_⟩=>⟨e1,trivial⟩)
  (fun x r ys ρ μ2 s hJJ => by
   obtain ⟨es,e1,e2,⟨o,e4⟩,n,qs,e5,e7,e8,e10⟩:=hJJ
   subst es e4 e8
   cases n with
   | zero=>rw [iO] at e5;cases e5
   | succ n=>
    rw [gU] at e5
    injection e5 with ex er
    subst ex er
    obtain ⟨v,a,b,c,v0,v1,ed,hp⟩:=(e2.app (g:=[.lst (qs.map kn)])).draw (m:=1+(qs.length:Int)) hi (by omega) (by omega)
    have i2:i<μ2.length:=LP hi e2.len
    rw [oa i2] at ed
    refine ⟨e1,trivial,[some (.int (1+(qs.length:Int))),some (.obj i)],μ2,[],true,μ2,[],rfl,rfl,fun hc=>?_,fun hc=>nomatch hc⟩
    refine ⟨kn (v,1+(qs.length:Int)),μ2.set i (bL a b c),[],?_,?_,by simpa using e1,rfl,by simpa using e1,e2.set hi,⟨_,rfl⟩,n,qs++[(v,1+(qs.length:Int))],by rw [MX];simp [Int.add_assoc],by simp;omega,by simp,fun j p hj=>?_⟩
    ·unfold dP
     simp only [eJ,aD,au,ax,ao,ah,bf,aa,af,ed,NU,Ob,LL l2]
     rfl
    ·rw [MY]
     exact LP (show qs.length<1000 by omega) bG
    ·by_cases hj' : j < qs.length
     ·rw [MR hj'] at hj
      exact e10 j p hj
     ·rw [MP (by omega)] at hj
      have:j - qs.length=0:=by
       have:=(L8.mp hj).1
       simp at this
       omega
      rw [this] at hj
      simp at hj
      subst hj
      exact ⟨v0,by dsimp only;omega,by dsimp only;omega⟩)
  (xs:=bx 1 (m - 1)) (ys:=[]) (ρ:=[none,some (.obj i)]) (μ1:=μ1) (s:=[])
  ⟨rfl,rfl,h,⟨_,rfl⟩,m - 1,[],rfl,by simp;omega,rfl,fun j p hj=>by simp at hj⟩
 obtain ⟨ys',ρ',μ2,s',⟨es,e1,e2,⟨o,e4⟩,n,qs,e5,e7,e8,e10⟩,run⟩:=run
 have hn:=jL e5.symm
 subst es e8 hn
 exact ⟨qs,μ2,⟨by omega,e10⟩,e2,e1,run⟩
theorem qP {μ:aw}{i:Nat}{a b c:Int} (hp:μ[i]?=some (bL a b c)):∃ m ks a' b' c',eV m ks/\cc [.obj i] μ=.ok (aG m ks) (μ.set i (bL a' b' c')):=by
 have hi:i<μ.length:=(L8.mp hp).1
 obtain ⟨v,a1,b1,c1,v0,v1,ed,hq⟩:=(Pn.self hp).draw (m:=6) hi (by decide) (by decide)
 obtain ⟨m,em⟩:∃ m:Nat,(1:Int)+v=(m:Int):=⟨(1+v).toNat,by omega⟩
 have P1:Pn μ i (μ.set i (bL a1 b1 c1)):=(Pn.self hp).set hi
 obtain ⟨qs,M2,hqs,P2,l2',run⟩:=zp (m:=m) hi P1 (by omega) (by omega)
 have P3:=P2.app (g:=[.lst (qs.map kn)])
 obtain ⟨a5,b5,c5,hp4⟩:=P3.get hi
 obtain ⟨ns,a6,b6,c6,n1,n2,n3,n4⟩:=uo hp4 (m:=(m:Int)) (by omega) (by omega)
 have N:tL m ns:=⟨n1,by omega,n3⟩
 have nd:=qQ (μ:=(M2++[O.lst (qs.map kn)]).set i (bL a6 b6 c6)) (m:=(m:Int)) (ps:=qs) (by omega) (by omega) (fun p hp=>by have:=hqs.pp p hp;exact ⟨this.1.1,this.1.2,this.2.1.1,this.2.1.2,this.2.2⟩) (by have:=hqs.1;omega) n1 n2 n3
 rw [yS (by omega) (by omega) hqs N] at nd
 have T:=ux N (BM (by omega) (by omega) hqs)
 obtain ⟨a7,b7,c7,hg⟩:=(P3.set (a:=a6) (b:=b6) (c:=c6) hi).gc (B9 T.gw)
 refine ⟨m,_,a7,b7,c7,T,?_⟩
 unfold cc
 rw [cb]
 simp only [j7,List.replicate]
 rw [aO,bc]
 simp only [aH,bf,aD,au,ax,ah,aa,ed,oq,em,ae,bW,aJ,P9,Qa]
 rw [aO,bc,cY]
 simp only [dv,au,ax,bf,ao,ah,aa]
 rw [oj (by decide) (by decide) (by omega) (by omega)]
 simp only [aa,bh]
 rw [show ((m:Int) - 1).toNat=m - 1 by omega]
 rw [show fB [none,some 0] [some (D.obj i),some (D.int m),none]=[none,some (.obj i)] from rfl,run]
 simp only [ae,bW,aJ,P9,Qa]
 have tl:iX [.obj (μ.set i (bL a1 b1 c1)).length] (M2++[O.lst (qs.map kn)])=.ok (.tup (qs.map kn)) (M2++[O.lst (qs.map kn)]):=sF (by rw [<- l2'];exact ay)
 simp only [aW,aD,au,ax,eJ,ao,ah,aa,tl,NU,Ob,LL l2,n4]
 rw [show (D.tup (ns.map D.int))=.tup (ns.map D.int) from rfl,nd]
 simp only [ae,aM]
 exact hg
def lp:Option Nat->PyData
 | none=>.none
 | some n=>.int (n:Int)
theorem uE {μ:aw}:∀ l:List (Option Nat),fE μ (l.map nL)=some (l.map lp)/\PyData.canLayAll0 (l.map lp)=true/\PyData.depthAll (l.map lp)=0
 | []=>⟨rfl,rfl,rfl⟩
 | o::l=>by
  obtain ⟨h1,h2,h3⟩:=uE (μ:=μ) l
  cases o with
  | none=>exact ⟨by simp only [Ny,nL,lp,fE,vI,vC,h1,NZ,Option.map_some],by simp only [Ny,lp,PyData.canLayAll0,PyData.canLay0,h2,OK],by simp only [Ny,lp,PyData.depthAll,PyData.depth,h3];rfl⟩
  | some n=>exact ⟨by simp only [Ny,nL,lp,fE,vI,vC,h1,NZ,Option.map_some],by simp only [Ny,lp,PyData.canLayAll0,PyData.canLay0,h2,OK],by simp only [Ny,lp,PyData.depthAll,PyData.depth,h3];rfl⟩
theorem AS {M:aw}{A m:Nat}{f:Int->Option Nat} (h:M[A]?=some (.lst (dS m f))):qD true .non (.obj A) M=.ok (.bl (!((rg m).any fun q=>(f q).isNone))) M:=by
 have er:dS m f=((rg m).map f).map nL:=by unfold dS rg;rw [N8,N8];rfl
 obtain ⟨h1,h2,h3⟩:=uE (μ:=M) ((rg m).map f)
 rw [er] at h
 have ea:ju M (.obj A)=some (.list (((rg m).map f).map lp)):=by unfold ju;dsimp only;rw [h];dsimp only;rw [h1];rfl
 have fl:cT (.list (((rg m).map f).map lp))=true:=by
  simp only [cT,PyData.canLay0,h2,PyData.depth,h3,Qf];rfl
 have fn:cT PyData.none=true:=by decide
 unfold qD
 rw [show ju M .non=some .none from rfl,ea]
 dsimp only
 rw [show oS (.list (((rg m).map f).map lp))=some (((rg m).map f).map lp) from rfl]
 dsimp only
 rw [LL ⟨fn,fl⟩,LL rfl]
 congr 3
 rw [Qg,Qg]
 congr 1
 funext q
 show PyData.eqv (lp (f q)) .none=_
 cases f q <;> rfl
section
variable {m:Nat}{ks:List (List Int)}
theorem uV (h:GW m ks) {f:Int->Option Nat} (hF:vN (mj ks) 0 (fun q=>0<=q/\q<(m:Int)) f):(!((rg m).any fun q=>(f q).isNone))=true↔∀ q:Int,0<=q/\q<(m:Int)->∃ n,R (mj ks) 0 n q:=by
 rw [Bool.not_eq_true',<- Bool.not_eq_true,Qh]
 constructor
 ·intro hn q hq
  cases e:f q with
  | none=>exact absurd ⟨q,my.mpr hq,by rw [e];rfl⟩ hn
  | some j=>exact ⟨j,((hF q hq j).mp e).r⟩
 ·rintro hc ⟨q, hq, e⟩
  obtain ⟨n,hn⟩:=hc q (my.mp hq)
  obtain ⟨j,_,hj⟩:=hn.lev
  rw [(hF q (my.mp hq) j).mpr hj] at e
  cases e
theorem E6 {μ:aw} (h:GW m ks):∃ b,bo [aG m ks] μ=.ok (.bl b) μ/\(b=true↔eV m ks):=by
 have m0:=h.m0
 obtain ⟨A,g,f,ef,hA,hl,hF⟩:=Dl (μ:=μ) h (p:=0) (by decide) (by omega)
 have base:bo [aG m ks] μ=.ok (.bl (decide (ks.length+1=m) && !((rg m).any fun q=>(f q).isNone))) μ:=by
  unfold bo
  rw [cb]
  simp only [jW,List.replicate,aW,eW,aD,au,ax,ah,aH,bf,aa,wg h,ba,Nf,du,il,eB,MY]
  rw [show ie (.int m) (.int 1) μ=.ok (.int ((m:Int) - 1)) μ from rfl]
  simp only [aa,iW,NT,Nd,ba]
  by_cases e:ks.length+1=m
  ·rw [show ((ks.length : Int) == (m : Int) - 1) = true from by rw [Pw]; omega, LL rfl, ef]
   simp only [aa,AS hA,ae,aM,NQ e,Qf]
   exact dU (by simp)
  ·rw [show ((ks.length : Int) == (m : Int) - 1) = false from by rw [LJ]; omega, LM Mm]
   simp only [ae,aM,LI e,Mq]
   exact aA (by simp)
 refine ⟨_,base,?_⟩
 rw [Nv,PF,uV h hF]
 exact ⟨fun z=>⟨h,z.1,z.2⟩,fun z=>⟨z.len,z.con⟩⟩
theorem so {μ:aw} (h:eV m ks):bo [aG m ks] μ=.ok (.bl true) μ:=by
 obtain ⟨b,e,hb⟩:=E6 (μ:=μ) h.gw
 rw [e,hb.mpr h]
theorem A8 {μ:aw} (h:GW m ks) (hn:¬ eV m ks):bo [aG m ks] μ=.ok (.bl false) μ:=by
 obtain ⟨b,e,hb⟩:=E6 (μ:=μ) h
 cases b with
 | false=>exact e
 | true=>exact absurd (hb.mp rfl) hn
theorem Jo {μ:aw}{d:D} (h:Kn μ d) (hn:ia d=false):bo [d] μ=.ok (.bl false) μ:=by
 unfold bo
 rw [cb]
 simp only [jW,List.replicate,aW,eW,aD,au,ax,ah,aa,Gn h,hn,ba,NT,Nd,ae,aM]
 exact aA (by simp)
end
theorem FT.row {μ0 μ:aw}{m a:Nat}{T:Int->Int->Option Nat}{p:Int} (h:FT μ0 m a T μ) (p0:0<=p) (p1:p<m):∃ b,cq (.obj a) (.int p) μ=.ok (.obj b) μ/\μ[b]?=some (.lst (dS m (T p))):=by
 obtain ⟨h1,h2,bs,h0,h3,h4,h5⟩:=h
 have hp:p.toNat<bs.length:=by omega
 have hpe:((p.toNat:Nat):Int)=p:=OF p0
 obtain ⟨g1,g2,g3⟩:=h5 p.toNat bs[p.toNat] (Pq hp)
 rw [hpe] at g3
 exact ⟨bs[p.toNat],fJ h3 (mG p0 (by rw [MU,Pq hp];rfl)),g3⟩
theorem yB {m:Nat}{ks:List (List Int)} (h:GW m ks):di ks=ks:=by
 have hg:GW m (di ks):=nu (by have:=h.m0;omega) (by have:=h.m6;omega) h.2.2.2.2
 refine uT hg h fun a b=>?_
 unfold di
 rw [LS,PF]
 exact ⟨fun z=>z.2,fun z=>⟨(h.2.2.2.2 _ z).prs (by have:=h.m6;omega),z⟩⟩
theorem yF {M:aw}{m:Nat}{ks:List (List Int)} (h:GW m ks):rT [.tup (ks.map ar)] M=.ok (.obj M.length) (M++[.set (dY ks)]):=by
 unfold rT
 dsimp only
 unfold qF
 rw [pA fun k hk=>(h.2.2.2.2 k hk).prs (by have:=h.m6;omega)]
theorem kU {M:aw}{m:Nat}{ks:List (List Int)} (h:GW m ks):gI [.obj M.length] (M++[.set (dY ks)])=.ok (.obj (M++[O.set (dY ks)]).length) ((M++[.set (dY ks)])++[.lst (ks.map ar)]):=by
 unfold gI
 dsimp only
 rw [ay]
 dsimp only
 rw [nv,yB h]
theorem Cg {M:aw}{m:Int}{a b:Nat}{ks:List (List Int)} (hk:∀ k∈ks,oz m k) (ha:M[a]?=some (.lst (ks.map ar))) (hb:M[b]?=some (.lst (ks.map ar))):ka true (.obj a) (.obj b) M=.ok (.bl false) M:=by
 have h1:=mK (μ:=M) hk
 have l:=mL hk
 have ea:ju M (.obj a)=some (.list (ks.map jC)):=by unfold ju;dsimp only;rw [ha];dsimp only;rw [h1];rfl
 have eb:ju M (.obj b)=some (.list (ks.map jC)):=by unfold ju;dsimp only;rw [hb];dsimp only;rw [h1];rfl
 have f:cT (.list (ks.map jC))=true:=by
  have:=l.2
  unfold cT
  rw [Nv,PF]
  exact ⟨by simp only [PyData.canLay0];exact l.1,by simp only [PyData.depth];omega⟩
 unfold ka
 rw [ea,eb]
 dsimp only
 rw [LL ⟨f,f⟩,LL rfl,SeqAt.eqv_refl _ (bH f)]
 rfl
section
variable {m:Nat}{ks:List (List Int)}
theorem HF {M:aw} (h:GW m ks):compLoop (.fix (ks.map ar)) M.length (dq 2 (aZ (ak 0) (aZ (ak 1) (dr)))) bD dQ (ks.map ar) [none,none,some (aG m ks)] (M++[.lst []])=.ok (.obj M.length) (M++[.lst ((ks.map fun _=>true).map D.bl)]):=by
 have c:=f9 (U:=List Int) (en:=ar) (src:=.fix (ks.map ar)) (g:=dq 2 (aZ (ak 0) (aZ (ak 1) (dr)))) (t:=bD) (e:=dQ) (μ1:=M) (q:=fun _=>true) (h:=fun _=>.bl true) (fun ρ=>∃ o o',ρ=[o,o',some (aG m ks)]) (fun _=>trivial) (us:=ks) (acc:=[]) (ρ:=[none,none,some (aG m ks)]) ⟨_,_,rfl⟩
  (by rw [Ob];have:=iL h;exact LV (by omega) bG)
  (fun k hk a ρ hJJ => by
   obtain ⟨o,o',e⟩:=hJJ
   subst e
   obtain ⟨x,y,rfl,x0,xy,ym⟩:=h.2.2.2.2 k hk
   refine ⟨[some (.int x),some (.int y),some (aG m ks)],⟨_,_,rfl⟩,rfl,rfl,fun _=>?_⟩
   unfold dQ
   simp only [zk,bf,ah,ao,aH,aa,du,gG]
   rw [show cU .LtE 0 x=true from NQ x0,show cU .Lt x y=true from NQ xy,show cU .Lt y (m:Int)=true from NQ ym]
   simp only [ba,aa,Nf])
 rw [hV,NP] at c
 rw [show (ks.map fun _=>true).map D.bl=ks.map fun _=>D.bl true from by rw [N8];rfl]
 exact c
theorem AK {μ:aw} (h:GW m ks):∃ b,aU [aG m ks] μ=.ok (.bl b) μ/\(b=true↔eV m ks):=by
 have m0:=h.m0
 have m6:=h.m6
 let M1:aw:=μ++[O.lst (ks.map ar)]
 let M2:aw:=M1++[O.set (dY ks)]++[O.lst (ks.map ar)]
 let M3:aw:=M2++[O.lst ((ks.map fun _=>true).map D.bl)]
 obtain ⟨a,μf,T,ef,hF,hT⟩:=Dm (μ:=M3) h
 obtain ⟨gf,hpre⟩:=hF.pre
 obtain ⟨b,e1,e2⟩:=hF.row (p:=0) (by decide) (by omega)
 have base:aU [aG m ks] μ=.ok (.bl (decide (ks.length+1=m) && !((rg m).any fun q=>(T 0 q).isNone))) μ:=by
  unfold aU
  rw [cb]
  simp only [dG,List.replicate]
  rw [aO,cm]
  simp only [jH,dJ,dX,eR,gZ,aH,aD,au,ax,ah,bf,lQ,aa,du,eB,NU,Ob]
  rw [show dZ "tuple" (aG m ks) μ=.ok (.bl true) μ from rfl]
  simp only [aa,cx,OG,NT,Nd]
  rw [show ka true (.int ((0+1+1:Nat):Int)) (.int 2) μ=.ok (.bl false) μ from rfl]
  simp only [aa,ba,NT,Nd,qR (show Kn μ (.int m) from by simp [Kn]),aa,cx,gG,ba]
  rw [show isInt (.int (m:Int))=true from rfl,show cU .LtE 1 (m:Int)=true from NQ (by omega),show cU .LtE (m:Int) 6=true from NQ (by omega)]
  simp only [OG,NT,Nd,Nf,aa,ba,ae,cf,aJ]
  rw [aO,cm]
  simp only [jH,dJ,dX,eR,gZ,aH,aD,au,ax,ah,bf,aa,du,il,eB,MY]
  rw [show dZ "tuple" (.tup (ks.map ar)) μ=.ok (.bl true) μ from rfl]
  simp only [aa,cx,OG,NT,Nd]
  rw [show ie (.int m) (.int 1) μ=.ok (.int ((m:Int) - 1)) μ from rfl]
  simp only [aa,iW,Nf,ba]
  by_cases e:ks.length+1=m
  ·rw [show ((ks.length : Int) == (m : Int) - 1) = true from by rw [Pw]; omega]
   simp only [OG,NT,Nd]
   rw [show nq [.tup (ks.map ar)] μ=.ok (.obj μ.length) M1 from rfl]
   simp only [aa,yF h,kU h]
   rw [show ka true (.obj μ.length) (.obj (M1++[O.set (dY ks)]).length) M2=.ok (.bl false) M2 from Cg (m:=(m:Int)) h.2.2.2.2 (aK (aK ay)) ay]
   simp only [aa,ba,ae,NT,Nd,cf,aJ]
   rw [aO,cm]
   simp only [dJ,dX,aD,au,ax,cY,cX,aH,ah,bf,aa,il,kf,bh]
   rw [show fB [none,none,some 0] (some (aG m ks)::List.replicate (1 - 1) none)=[none,none,some (aG m ks)] from rfl,HF (M:=M2) h]
   simp only [aa]
   rw [gH (μ:=M3) (n:=M2.length) (bs:=ks.map fun _=>true) ay]
   rw [show ((ks.map fun _=>true).all id)=true from by rw [PL];simp]
   simp only [aa,cx,OG,ae,NT,Nd,cf,aJ,aW,aH,bf,aD,au,ax,ah]
   rw [show fP [aG m ks] M3=.ok (.obj a) μf from ef]
   simp only [aa,e1,AS e2,ae,aM,NQ e,Qf]
   rw [hpre]
   simp only [M3,M2,M1,NK]
   exact dU (by simp)
  ·rw [show ((ks.length : Int) == (m : Int) - 1) = false from by rw [LJ]; omega]
   simp only [OQ,Nf,ae,aW,bf,g6,aM,LI e,Mq]
   exact aA (by simp)
 refine ⟨_,base,?_⟩
 rw [Nv,PF,uV h (hT 0 (by decide) (by omega))]
 exact ⟨fun z=>⟨h,z.1,z.2⟩,fun z=>⟨z.len,z.con⟩⟩
end
theorem se {μ:aw}{d:D} (h:xb μ d) (hn:Kf d=false):aU [d] μ=.ok (.bl false) μ:=by
 unfold aU
 rw [cb]
 simp only [dG,List.replicate]
 rw [aO,cm]
 simp only [jH,dJ,dX,gZ,ah,aa,xN h,hn,cx,OQ,Nf,ae,aW,bf,g6,aM]
 exact aA (by simp)
theorem HE {μ:aw}:aU [.tup []] μ=.ok (.bl false) μ:=by
 unfold aU
 rw [cb]
 simp only [dG,List.replicate]
 rw [aO,cm]
 simp only [jH,dJ,dX,eR,gZ,aH,aD,au,ax,ah,bf,aa,eB,Ob]
 rw [show dZ "tuple" (.tup []) μ=.ok (.bl true) μ from rfl]
 simp only [aa,cx,OG,NT,Nd]
 rw [show ka true (.int ((0:Nat):Int)) (.int 2) μ=.ok (.bl true) μ from rfl]
 simp only [aa,ba,Nf,ae,aW,bf,g6,aM]
 exact aA (by simp)
theorem vV {μ:aw}{n:Int}{x:D} (hx:xb μ x) (hn:(1<=n/\n<=6)->Kf x=true->∃ ts:List D,x=.tup ts/\(ts.length:Int)≠n - 1):aU [.tup [.int n,x]] μ=.ok (.bl false) μ:=by
 unfold aU
 rw [cb]
 simp only [dG,List.replicate]
 rw [aO,cm]
 simp only [jH,dJ,dX,eR,gZ,aH,aD,au,ax,ah,bf,lQ,aa,du,eB,NU,Ob]
 rw [show dZ "tuple" (.tup [.int n,x]) μ=.ok (.bl true) μ from rfl]
 simp only [aa,cx,OG,NT,Nd]
 rw [show ka true (.int ((0+1+1:Nat):Int)) (.int 2) μ=.ok (.bl false) μ from rfl]
 simp only [aa,ba,NT,Nd,qR (show Kn μ (.int n) from by simp [Kn]),aa,cx,gG,ba]
 rw [show isInt (.int n)=true from rfl]
 simp only [OG,NT,Nd]
 by_cases c1:1<=n
 ·rw [show cU .LtE 1 n = true from NQ c1]
  simp only [Nf,aa,ba]
  by_cases c2:n<=6
  ·rw [show cU .LtE n 6 = true from NQ c2]
   simp only [OG,ae,NT,Nd,cf,aJ]
   rw [aO,cm]
   simp only [jH,dJ,dX,eR,gZ,aH,aD,au,ax,ah,bf,aa,du,il,xN hx,cx]
   cases e:Kf x with
   | false=>
    simp only [OQ,Nf,ae,aW,bf,g6,aM]
    exact aA (by simp)
   | true=>
    obtain ⟨ts,rfl,hl⟩:=hn ⟨c1,c2⟩ e
    simp only [OG,NT,Nd,eB,aa]
    rw [show ie (.int n) (.int 1) μ=.ok (.int (n - 1)) μ from rfl]
    simp only [aa,iW,Nf,ba]
    rw [show ((ts.length:Int) == n - 1)=false from by rw [LJ];exact hl]
    simp only [OQ,Nf,ae,aW,bf,g6,aM]
    exact aA (by simp)
  ·rw [show cU .LtE n 6 = false from LI c2]
   simp only [OQ,Nf,ae,aW,bf,g6,aM]
   exact aA (by simp)
 ·rw [show cU .LtE 1 n = false from LI c1]
  simp only [NT,Nd,aa,ba,OQ,Nf,ae,aW,bf,g6,aM]
  exact aA (by simp)
end Lw
namespace Lv
def CG (ks ks':List (List Int)) (w:List Int) (q:Int):Bool:=(List.range w.length).all fun k=>ko ks (k:Int) (w.length:Int) == ko ks' (w.getD k 0) q
def jt (m:Nat) (w:List Int):List (List Int):=((rg m).filter fun q=>!decide (q∈w)).map fun q=>w++[q]
def lq (m:Nat) (ks ks':List (List Int)) (w:List Int):List (List Int):=((rg m).filter fun q=>!decide (q∈w) && CG ks ks' w q).map fun q=>w++[q]
def bq (m:Nat) (ks ks':List (List Int)):Nat->List (List Int)
 | 0=>[[]]
 | k+1=>(bq m ks ks' k).flatMap (lq m ks ks')
structure WT (m k:Nat) (w:List Int):Prop where
 len:w.length=k
 rng:∀ p∈w,0<=p/\p<(m:Int)
theorem hG {m:Nat}{ks ks':List (List Int)}:∀ {k:Nat}{w:List Int},w∈bq m ks ks' k->WT m k w
 | 0,w,h=>by
  have:w=[]:=by simpa [bq] using h
  subst this
  exact ⟨rfl,fun p hp=>by cases hp⟩
 | k+1,w,h=>by
  obtain ⟨v,hv,h2⟩:=Qb.mp h
  obtain ⟨p,hp,rfl⟩:=Oh.mp h2
  have ih:=hG hv
  refine ⟨by simp [ih.len],fun q hq=>?_⟩
  rcases L6.mp hq with z | z
  ·exact ih.rng q z
  ·simp at z;subst z;exact my.mp (LS.mp hp).1
theorem Cd {m:Nat}{w:List Int}:(jt m w).length<=m:=by
 unfold jt
 rw [MY]
 exact LV (Qc _ _) (by rw [rZ];exact Mt _)
theorem Cc {m:Nat}{ks ks':List (List Int)}{w:List Int}:(lq m ks ks' w).length<=m:=by
 unfold lq
 rw [MY]
 exact LV (Qc _ _) (by rw [rZ];exact Mt _)
theorem mO {m:Nat} (hm:m<=6) {ks ks':List (List Int)}:∀ k,(bq m ks ks' k).length<=6 ^ k
 | 0=>by simp [bq]
 | k+1=>by
  have h:=jQ (m:=6) (fun w=>LV (Cc (m:=m) (ks:=ks) (ks':=ks') (w:=w)) hm) (bq m ks ks' k)
  have:=mO hm (ks:=ks) (ks':=ks') k
  show ((bq m ks ks' k).flatMap (lq m ks ks')).length<=_
  rw [Nat.pow_succ]
  exact LV h (Nat.mul_le_mul_right 6 this)
theorem nz {m:Nat} (hm:m<=6) {ks ks':List (List Int)}{k:Nat} (hk:k<=6):(bq m ks ks' k).length<=46656:=
 LV (mO hm k) (Nat.pow_le_pow_right (n:=6) (by decide) hk)
theorem tu {m:Nat} (hm:m<=6) {ks ks':List (List Int)}{k:Nat} (hk:k+1<=6):((bq m ks ks' k).flatMap (jt m)).length<=46656:=by
 have h:=jQ (m:=6) (fun w=>LV (Cd (m:=m) (w:=w)) hm) (bq m ks ks' k)
 have h2:=mO hm (ks:=ks) (ks':=ks') k
 have h3:6 ^ k * 6<=46656:=by rw [<- Nat.pow_succ];exact Nat.pow_le_pow_right (n:=6) (by decide) hk
 have h4:=Nat.mul_le_mul_right 6 h2
 omega
theorem zf {m:Nat}{ks ks':List (List Int)}{f:List Int->Bool} (l:List (List Int)) (hf:∀ w∈l,∀ q,f (w++[q])=CG ks ks' w q):(l.flatMap (jt m)).filter f=l.flatMap (lq m ks ks'):=by
 induction l with
 | nil=>rfl
 | cons w l ih=>
  rw [Qe,Qe,List.filter_append,ih fun v hv=>hf v (LZ _ hv)]
  congr 1
  unfold jt lq
  rw [List.filter_map,List.filter_filter]
  congr 1
  apply List.filter_congr
  intro q _
  show (f (w++[q]) && !decide (q∈w))=_
  rw [hf w LY q,Bool.and_comm]
theorem uS {m:Nat}{ks ks':List (List Int)}:∀ k,(bq m ks ks' k).Pairwise fun v w=>iC v w=true
 | 0=>by simp [bq]
 | k+1=>by
  show ((bq m ks ks' k).flatMap (lq m ks ks')).Pairwise _
  rw [List.pairwise_flatMap]
  refine ⟨fun w hw=>?_,(List.Pairwise.and_mem.mp (uS k)).imp fun {v w} ⟨hv,hw,h⟩ x hx y hy=>?_⟩
  ·unfold lq
   rw [Pg]
   exact (JG.filter _).imp fun {a b} h=>uM h
  ·obtain ⟨a, _, rfl⟩ := Oh.mp hx
   obtain ⟨b,_,rfl⟩:=Oh.mp hy
   exact xM (by rw [(hG hv).len,(hG hw).len]) h
theorem wN {m k:Nat}{ks ks':List (List Int)}{x:List Int}{r:List (List Int)} (h:bq m ks ks' k=x::r):∀ y∈x::r,iC y x=false:=by
 have hp:=uS (m:=m) (ks:=ks) (ks':=ks') k
 rw [h,Oo] at hp
 intro y hy
 rcases L4.mp hy with rfl | z
 ·exact xK _
 ·exact uN (hp.1 y z)
end Lv
namespace Lw
open PySem L2 RS Lv
theorem xt {μ:aw}{m:Nat}{ks:List (List Int)}{a b:Int} (hk:∀ k∈ks,oz m k):gX [aG m ks,.int a,.int b] μ=.ok (.bl (ko ks a b)) μ:=by
 unfold gX
 rw [mC]
 simp only [rN,List.replicate,aW,aH,eJ,au,ax,aD,ah,ao,bf,aa,Fk,Fl,NU,Ob,LL l2,il]
 rw [uR hk]
 simp only [ae,aM]
 exact aA (by simp)
theorem uq {μ:aw}{m:Nat}{ks:List (List Int)}{a b:Int} (hk:∀ k∈ks,oz m k):eS [aG m ks,.int a,.int b] μ=.ok (.bl (ko ks a b)) μ:=by
 unfold eS
 rw [mC]
 simp only [nI,List.replicate,aW,aH,eJ,au,ax,aD,ah,ao,bf,aa,Fk,Fl,NU,Ob,LL l2,il]
 rw [uR hk]
 simp only [ae,aM]
 exact aA (by simp)
theorem Ar {μ:aw}{w:List Int}{k:Nat} (hk:k<w.length):cq (cQ w) (.int (k:Int)) μ=.ok (.int (w.getD k 0)) μ:=by
 refine fI (mG (by omega) ?_)
 rw [Na,MU,Pq hk,Pc,Pq hk]
 rfl
theorem xC {μ:aw}{n:Nat} (h:n<1000):jr [.int (n:Int)] μ=.ok (.fix ((List.range n).map fun k:Nat=>D.int (k:Int))) μ:=by
 rw [gF (by omega) (by omega),Na,lN]
 congr 2
 apply N9
 intro k _
 simp
section
variable {m:Nat}{ks ks':List (List Int)}
theorem Bi {μ:aw} (h:GW m ks) (h':GW m ks') {w:List Int}{q:Int} (hw:w.length<1000):fe [aG m ks,aG m ks',cQ (w++[q])] μ=.ok (.bl (CG ks ks' w q)) μ:=by
 have c:=f9 (U:=Nat) (en:=fun k=>.int (k:Int)) (src:=.fix ((List.range w.length).map fun k:Nat=>D.int (k:Int))) (g:=ak 0) (t:=bD) (e:=hZ) (μ1:=μ) (q:=fun _=>true) (h:=fun k=>.bl (ko ks (k:Int) (w.length:Int) == ko ks' (w.getD k 0) q)) (fun ρ=>∃ o,ρ=[o,some (aG m ks),some (.int (w.length:Int)),some (aG m ks'),some (cQ (w++[q]))]) (fun _=>trivial) (us:=List.range w.length) (acc:=[]) (ρ:=[none,some (aG m ks),some (.int (w.length:Int)),some (aG m ks'),some (cQ (w++[q]))]) ⟨_,rfl⟩
  (by rw [Ob,Oa];exact LV (by omega) bG)
  (fun k hk a ρ hJJ => by
   obtain ⟨o,e⟩:=hJJ
   subst e
   have hk':=LU.mp hk
   refine ⟨[some (.int (k:Int)),some (aG m ks),some (.int (w.length:Int)),some (aG m ks'),some (cQ (w++[q]))],⟨_,rfl⟩,rfl,rfl,fun _=>?_⟩
   unfold hZ
   simp only [aH,aD,au,ax,ah,ao,aa,xt h.2.2.2.2]
   rw [Ar (w:=w++[q]) (k:=k) (by simp;omega)]
   simp only [aa]
   rw [Ar (w:=w++[q]) (k:=w.length) (by simp)]
   simp only [aa,xt h'.2.2.2.2,AX,NT,Nd]
   rw [show (w++[q]).getD k 0=w.getD k 0 from by simp [Pc,MR hk'],show (w++[q]).getD w.length 0=q from by simp [Pc]])
 rw [hV,NP] at c
 unfold fe
 rw [mC]
 simp only [l6,List.replicate]
 rw [aO,bc]
 simp only [aH,aD,au,ax,ao,ah,bf,aa,eB,MY,MX,NU,Ob]
 rw [show ie (.int ((w.length+(0+1):Nat):Int)) (.int 1) μ=.ok (.int (w.length:Int)) μ from by
  show aj.ok (D.int (((w.length+(0+1):Nat):Int) - 1)) μ=_
  congr 2
  omega]
 simp only [ae,bW,aJ,P9,Qa,aW,aD,au,ax,cY,dv,ao,ah,aa,xC hw,bh]
 rw [show fB [none,some 0,some 3,some 1,some 2] [some (aG m ks),some (aG m ks'),some (cQ (w++[q])),some (D.int (w.length:Int))]=[none,some (aG m ks),some (.int (w.length:Int)),some (aG m ks'),some (cQ (w++[q]))] from rfl,c]
 simp only [aa]
 rw [gH (bs:=(List.range w.length).map fun k:Nat=>ko ks (k:Int) (w.length:Int) == ko ks' (w.getD k 0) q) (by rw [ay,N8];rfl)]
 simp only [ae,aM]
 rw [PL]
 exact dU (by simp)
theorem xR {w:List Int}:((rg m).filter fun p=>!decide (p∈w)).flatMap (fun p=>[cQ (w++[p])])=(jt m w).map cQ:=by
 unfold jt
 rw [N8]
 generalize (rg m).filter (fun p=>!decide (p∈w))=l
 induction l with
 | nil=>rfl
 | cons a l ih=>rw [Qe,ih];rfl
theorem rE:∀ l:List (List Int),l.flatMap (fun w=>(jt m w).map cQ)=(l.flatMap (jt m)).map cQ
 | []=>rfl
 | w::l=>by rw [Qe,Qe,Oq,rE l]
theorem EV {M:aw}{k B:Nat} (h:GW m ks) (h':GW m ks') (hk:k+1<=6) (hB:M[B]?=some (.lst ((bq m ks ks' k).map cQ))) {o4 o5:Option D}:∃ B' g o5',
  dc [some (aG m ks),some (aG m ks'),some (.int m),some (.obj B),o4,o5] M=.next [some (aG m ks),some (aG m ks'),some (.int m),some (.obj B'),o4,o5'] (M++g)/\(M++g)[B']?=some (.lst ((bq m ks ks' (k+1)).map cQ))/\M.length<=B':=by
 have m6:=h.m6
 have fl:((bq m ks ks' k).filter fun _=>true).flatMap (fun w=>(jt m w).map cQ)=((bq m ks ks' k).flatMap (jt m)).map cQ:=by
  rw [hV,rE]
 have sz:=tu m6 (ks:=ks) (ks':=ks') hk
 have hr:∀ μ,jr [.int (m:Int)] μ=.ok (.fix ((rg m).map D.int)) μ:=fun μ=>by rw [gF (by omega) (by omega),AB]
 obtain ⟨ρ',r',run⟩:=lP (U:=List Int) (en:=cQ) (src:=.own B ((bq m ks ks' k).map cQ)) (g:=ak 0) (t:=bD) (fb:=eG) (μ1:=M) (q:=fun _=>true) (k:=fun w=>(jt m w).map cQ)
  (fun ρ=>∃ a b,ρ=[a,b,some (.int m)]) (fun a=>aK hB) (us:=bq m ks ks' k) (acc:=[]) (ρ:=[none,none,some (.int m)]) ⟨_,_,rfl⟩
  (by rw [fl,MY,Ob];exact LV (by omega) rW)
  (fun w hw a ρ hJJ => by
   obtain ⟨x,y,e⟩:=hJJ
   subst e
   have Hw:=hG hw
   refine ⟨[some (cQ w),y,some (.int m)],rfl,rfl,fun z=>⟨_,_,rfl⟩,fun _ hsz=>?_⟩
   obtain ⟨ρ2,⟨y2,e2⟩,run2⟩:=lP (U:=Int) (en:=D.int) (src:=.fix ((rg m).map D.int)) (g:=ak 1) (t:=gA) (fb:=oM gC) (μ1:=M) (q:=fun p=>!decide (p∈w)) (k:=fun p=>[cQ (w++[p])])
    (fun ρ=>∃ b,ρ=[some (cQ w),b,some (.int m)]) (fun _=>trivial) (us:=rg m) (acc:=a) (ρ:=[some (cQ w),y,some (.int m)]) ⟨_,rfl⟩
    (by rw [xR];exact hsz)
    (fun p hp b ρ hJJ => by
     obtain ⟨y,e⟩:=hJJ
     subst e
     refine ⟨[some (cQ w),some (.int p),some (.int m)],rfl,?_,fun _=>⟨_,rfl⟩,fun _ hb=>⟨_,⟨_,rfl⟩,Ck ?_ (by simpa using hb)⟩⟩
     ·unfold gA
      simp only [eR,aH,ao,ah,aa,Fs,Nf,ba]
     ·unfold gC
      have l1:([D.int p]:List D).length<=sizeLine:=LV (by simp) bG
      simp only [aH,ao,ah,aa,eJ,au,ax,LL l1,A5 (show w.length<=100 by rw [Hw.len];omega)])
   rw [xR] at run2
   refine ⟨ρ2,⟨_,_,e2⟩,?_⟩
   unfold eG oU
   simp only [dv,au,ax,ao,ah,aa,hr,af,bh]
   exact run2)
 rw [fl,NP] at run
 have cN:mF (iD (ai 3)) [none,none,some 2] (ak 0) bD eG [some (aG m ks),some (aG m ks'),some (.int m),some (.obj B),o4,o5] M=.ok (.obj M.length) (M++[.lst (((bq m ks ks' k).flatMap (jt m)).map cQ)]):=by
  unfold mF
  simp only [cX,ao,ah,aa]
  rw [gE hB]
  simp only [aa,dN]
  rw [show fB [none,none,some 2] _=[none,none,some (.int m)] from rfl,run]
  rfl
 let N:aw:=M++[.lst (((bq m ks ks' k).flatMap (jt m)).map cQ)]
 have c:=f9 (U:=List Int) (en:=cQ) (src:=.own M.length (((bq m ks ks' k).flatMap (jt m)).map cQ)) (g:=ak 0) (t:=gy) (e:=gB) (μ1:=N) (q:=fun w=>CG ks ks' w.dropLast (w.getLast?.getD 0)) (h:=cQ) (fun ρ=>∃ o,ρ=[o,some (aG m ks),some (aG m ks')]) (fun _=>aK ay) (us:=(bq m ks ks' k).flatMap (jt m)) (acc:=[]) (ρ:=[none,some (aG m ks),some (aG m ks')]) ⟨_,rfl⟩
  (by rw [Ob];exact LV (by omega) rW)
  (fun w hw a ρ hJJ => by
   obtain ⟨o,e⟩:=hJJ
   subst e
   obtain ⟨v,hv,h2⟩:=Qb.mp hw
   obtain ⟨p,hp,rfl⟩:=Oh.mp h2
   have Hv:=hG hv
   refine ⟨[some (cQ (v++[p])),some (aG m ks),some (aG m ks')],⟨_,rfl⟩,rfl,?_,fun _=>by unfold gB;rw [ah]⟩
   unfold gy
   simp only [dX,aD,au,ax,ao,ah,aa,Bi h h' (show v.length<1000 by rw [Hv.len];omega),cx]
   simp)
 rw [NP,zf (ks:=ks) (ks':=ks') _ (fun w _ q=>by simp)] at c
 refine ⟨N.length,[.lst (((bq m ks ks' k).flatMap (jt m)).map cQ)]++[.lst ((bq m ks ks' (k+1)).map cQ)],some (.obj M.length),?_,?_,?_⟩
 ·unfold dc
  rw [aO,bc,cN]
  simp only [ae,bW,aJ,P9,Qa,bc,cY,cX,ao,ah,aa]
  rw [gE (show N[M.length]?=some (.lst (((bq m ks ks' k).flatMap (jt m)).map cQ)) from ay)]
  simp only [aa,dN]
  rw [show fB [none,some 0,some 1] [some (aG m ks),some (aG m ks'),some (D.int m),some (D.obj B),o4,some (D.obj M.length)]=[none,some (aG m ks),some (aG m ks')] from rfl]
  rw [show compLoop _ N.length _ _ _ _ _ (N++[O.lst []])=_ from c]
  simp only [ae,bW,P9,Qa,N,NK]
  rfl
 ·rw [<- NK]
  exact ay
 ·simp [N]
end
theorem BA {M g:aw}{a:List D}{y:D} (h:a.length<sizeLine):fS (.obj M.length) [y] (M++.lst a::g)=.ok .non (M++.lst (a++[y])::g):=by
 unfold fS
 dsimp only
 rw [ay]
 dsimp only
 rw [LL h,jK]
theorem EC {M g:aw}{a:List D}:vD (.obj M.length) (M++.lst a::g)=true:=by
 unfold vD
 dsimp only
 rw [ay]
section
variable {m:Nat}{ks ks':List (List Int)}
theorem BZ {M:aw} (h:GW m ks) (h':GW m ks') {w:List Int}{q:Int} (hw:w.length<1000):compLoop (.fix ((List.range w.length).map fun k:Nat=>D.int (k:Int))) M.length (ak 0) bD fv ((List.range w.length).map fun k:Nat=>D.int (k:Int)) [none,some (aG m ks),some (.int (w.length:Int)),some (aG m ks'),some (.int q),some (cQ w)] (M++[.lst []])=.ok (.obj M.length) (M++[.lst (((List.range w.length).map fun k:Nat=>ko ks (k:Int) (w.length:Int) == ko ks' (w.getD k 0) q).map D.bl)]):=by
 have c:=f9 (U:=Nat) (en:=fun k=>.int (k:Int)) (src:=.fix ((List.range w.length).map fun k:Nat=>D.int (k:Int))) (g:=ak 0) (t:=bD) (e:=fv) (μ1:=M) (q:=fun _=>true) (h:=fun k=>.bl (ko ks (k:Int) (w.length:Int) == ko ks' (w.getD k 0) q)) (fun ρ=>∃ o,ρ=[o,some (aG m ks),some (.int (w.length:Int)),some (aG m ks'),some (.int q),some (cQ w)]) (fun _=>trivial) (us:=List.range w.length) (acc:=[]) (ρ:=[none,some (aG m ks),some (.int (w.length:Int)),some (aG m ks'),some (.int q),some (cQ w)]) ⟨_,rfl⟩
  (by rw [Ob,Oa];exact LV (by omega) bG)
  (fun k hk a ρ hJJ => by
   obtain ⟨o,e⟩:=hJJ
   subst e
   have hk':=LU.mp hk
   refine ⟨[some (.int (k:Int)),some (aG m ks),some (.int (w.length:Int)),some (aG m ks'),some (.int q),some (cQ w)],⟨_,rfl⟩,rfl,rfl,fun _=>?_⟩
   unfold fv
   simp only [aH,aD,au,ax,ah,ao,aa,uq h.2.2.2.2]
   rw [Ar hk']
   simp only [aa,uq h'.2.2.2.2,AX,NT,Nd])
 rw [hV,NP] at c
 rw [N8]
 exact c
theorem HI {M g:aw}{w:List Int}{a0:List D}{n:Nat}{p:Int}{o2 o7:Option D} (h:GW m ks) (h':GW m ks') (hw:w.length=n) (hn:n<=6) (ha:a0.length<100000):∃ g' o7',
  fm [some (aG m ks),some (aG m ks'),o2,some (.int (n:Int)),some (.obj M.length),some (cQ w),some (.int p),o7] (M++.lst a0::g)=.next [some (aG m ks),some (aG m ks'),o2,some (.int (n:Int)),some (.obj M.length),some (cQ w),some (.int p),o7'] (M++.lst (a0++if (!decide (p∈w) && CG ks ks' w p)=true then [cQ (w++[p])] else [])::g'):=by
 subst hw
 let bs:List Bool:=(List.range w.length).map fun k:Nat=>ko ks (k:Int) (w.length:Int) == ko ks' (w.getD k 0) p
 have c:=BZ (M:=M++.lst a0::g) h h' (w:=w) (q:=p) (by omega)
 have bl:bs.all id=CG ks ks' w p:=by simp only [bs,PL];rfl
 have l1:([D.int p]:List D).length<=sizeLine:=LV (by simp) bG
 refine ⟨g++[.lst (bs.map D.bl)],some (.obj (M++O.lst a0::g).length),?_⟩
 unfold fm
 rw [aO,bc]
 simp only [cY,dv,au,ax,ao,ah,aa,xC (show w.length<1000 by omega),bh]
 rw [show fB [none,some 0,some 3,some 1,some 6,some 5] [some (aG m ks),some (aG m ks'),o2,some (D.int (w.length:Int)),some (D.obj M.length),some (cQ w),some (D.int p),o7]=[none,some (aG m ks),some (.int (w.length:Int)),some (aG m ks'),some (.int p),some (cQ w)] from rfl,c]
 simp only [ae,bW,aJ,P9,Qa,cm,om,eR,aH,ao,ah,aa,Fs,Nf,ba]
 have al:mq [.obj (M++O.lst a0::g).length] (M++O.lst a0::g++[O.lst (bs.map D.bl)])=.ok (.bl (CG ks ks' w p)) (M++O.lst a0::g++[O.lst (bs.map D.bl)]):=by
  rw [gH (bs:=bs) ay,bl]
 by_cases c1:p∈w
 ·rw [NQ c1]
  simp only [OG,NT,Nd,ae,cf,Mq,MC,NK,Od]
  rfl
 ·rw [LI c1]
  simp only [OQ,Nf,dX,aD,au,ax,ao,ah,aa,Qf]
  rw [show mq [.obj (M++O.lst a0::g).length] (M++O.lst a0::g++[O.lst (((List.range w.length).map fun k:Nat=>ko ks (k:Int) (w.length:Int) == ko ks' (w.getD k 0) p).map D.bl)])=_ from al]
  simp only [aa,cx,ae]
  cases e:CG ks ks' w p with
  | false=>
   simp only [NT,Nd,cf,MC,NK,Od]
  | true=>
   simp only [Nf,iY,t6,ao,ah,aa,au,ax,aH,eJ,LL l1,NK,Od]
   rw [EC]
   simp only [Nf]
   rw [A5 (show w.length<=100 by omega)]
   simp only [aa]
   rw [BA (LP ha rW)]
   simp only [ae]
theorem zi {p:Int}{dn:List Int}{q:Int->Bool}{w:List Int}{a0:List D}:(a0++(dn.filter q).map fun p=>cQ (w++[p]))++(if q p=true then [cQ (w++[p])] else [])=a0++((dn++[p]).filter q).map fun p=>cQ (w++[p]):=by
 rw [List.filter_append,PQ,List.filter_nil,Oq,NK]
 by_cases c:q p=true
 ·rw [LL c,LL c];rfl
 ·rw [LM c,LM c];rfl
theorem HH {M g:aw}{w:List Int}{a0:List D}{n:Nat}{o2 o6 o7:Option D} (h:GW m ks) (h':GW m ks') (hw:w.length=n) (hn:n<=6) (ha:a0.length+6<100000):∃ g' o6' o7',
  fk [some (aG m ks),some (aG m ks'),o2,some (.int (n:Int)),some (.obj M.length),some (cQ w),o6,o7] (M++.lst a0::g)=.next [some (aG m ks),some (aG m ks'),o2,some (.int (n:Int)),some (.obj M.length),some (cQ w),o6',o7'] (M++.lst (a0++(lq m ks ks' w).map cQ)::g'):=by
 have m6:=h.m6
 let q:Int->Bool:=fun p=>!decide (p∈w) && CG ks ks' w p
 obtain ⟨ρ',μ',⟨dn,rs,o6',o7',g',e1,e2,e3,e4⟩,run⟩:=fR (src:=.fix ((rg m).map D.int)) (g:=ak 6) (fb:=fm)
  (fun xs ρ μ1=>∃ (dn rs:List Int) (o6 o7:Option D) (g:aw),rg m=dn++rs/\xs=rs.map D.int/\μ1=M++.lst (a0++((dn.filter q).map fun p=>cQ (w++[p])))::g/\ρ=[some (aG m ks),some (aG m ks'),o2,some (.int (n:Int)),some (.obj M.length),some (cQ w),o6,o7])
  (fun _ _ _=>trivial)
  (fun x xs ρ μ1 hJJ => by
   obtain ⟨dn,rs,o6,o7,g,e1,e2,e3,e4⟩:=hJJ
   subst e3 e4
   cases rs with
   | nil=>cases e2
   | cons p rs=>
    rw [Ny] at e2
    injection e2 with h1 h2
    subst h1 h2
    have ld:dn.length<=6:=by
     have:=Mf List.length e1
     rw [rZ,MX] at this
     omega
    have lf:=Qc q dn
    obtain ⟨g',o7',eo⟩:=HI (M:=M) (g:=g) (w:=w) (a0:=a0++((dn.filter q).map fun p=>cQ (w++[p]))) (n:=n) (p:=p) (o2:=o2) (o7:=o7) h h' hw hn (by rw [MX,MY];omega)
    refine ⟨trivial,_,_,_,_,rfl,eo,dn++[p],rs,some (.int p),o7',g',by rw [e1,NK];rfl,rfl,?_,rfl⟩
    rw [<- zi])
  (xs:=(rg m).map D.int) (ρ:=[some (aG m ks),some (aG m ks'),o2,some (.int (n:Int)),some (.obj M.length),some (cQ w),o6,o7]) (μ:=M++.lst a0::g)
  ⟨[],rg m,o6,o7,g,rfl,rfl,by simp,rfl⟩
 have hr:rs=[]:=by cases rs with
  | nil=>rfl
  | cons=>cases e2
 subst hr e3 e4
 rw [MC] at e1
 refine ⟨g',o6',o7',?_⟩
 unfold fk
 have hr:∀ μ,jr [.int (m:Int)] μ=.ok (.fix ((rg m).map D.int)) μ:=fun μ=>by rw [gF (by omega) (by omega),AB]
 simp only [gq,dv,au,ax,aH,ah,bf,aa,du,hr,ae,bh]
 rw [run,<- e1]
 unfold lq
 rw [N8]
 rfl
theorem B7 {k:Nat}{dn rs:List (List Int)} (hm:m<=6) (hk:k+1<=6) (h:bq m ks ks' k=dn++rs):(dn.flatMap (lq m ks ks')).length<=46656:=by
 have:=nz hm (ks:=ks) (ks':=ks') hk
 rw [show bq m ks ks' (k+1)=(dn++rs).flatMap (lq m ks ks') from by rw [<- h];rfl,Qd,MX] at this
 omega
theorem Et {M:aw}{k B:Nat} (h:GW m ks) (h':GW m ks') (hk:k+1<=6) (hB:M[B]?=some (.lst ((bq m ks ks' k).map cQ))) {o4 o5 o6 o7:Option D}:∃ g o5' o6' o7',
  dC [some (aG m ks),some (aG m ks'),some (.obj B),some (.int (k:Int)),o4,o5,o6,o7] M=.next [some (aG m ks),some (aG m ks'),some (.obj M.length),some (.int (k:Int)),some (.obj M.length),o5',o6',o7'] (M++.lst ((bq m ks ks' (k+1)).map cQ)::g):=by
 have m6:=h.m6
 obtain ⟨ρ',μ',⟨dn,rs,o5',o6',o7',g,e1,e2,e3,e4⟩,run⟩:=fR (src:=.own B ((bq m ks ks' k).map cQ)) (g:=ak 5) (fb:=fk)
  (fun xs ρ μ1=>∃ (dn rs:List (List Int)) (o5 o6 o7:Option D) (g:aw),bq m ks ks' k=dn++rs/\xs=rs.map cQ/\μ1=M++.lst ((dn.flatMap (lq m ks ks')).map cQ)::g/\ρ=[some (aG m ks),some (aG m ks'),some (.obj B),some (.int (k:Int)),some (.obj M.length),o5,o6,o7])
  (fun ρ μ1 ⟨_,_,_,_,_,_,_,_,e3,_⟩=>by rw [e3];exact aK hB)
  (fun x xs ρ μ1 hJJ => by
   obtain ⟨dn,rs,o5,o6,o7,g,e1,e2,e3,e4⟩:=hJJ
   subst e3 e4
   cases rs with
   | nil=>cases e2
   | cons w rs=>
    rw [Ny] at e2
    injection e2 with h1 h2
    subst h1 h2
    have e1':bq m ks ks' k=(dn++[w])++rs:=by rw [e1];simp
    have Hw:=hG (m:=m) (ks:=ks) (ks':=ks') (k:=k) (w:=w) (by rw [e1];simp)
    have hz:=B7 m6 hk e1'
    rw [Qd,MX] at hz
    obtain ⟨g',o6',o7',eg⟩:=HH (M:=M) (g:=g) (w:=w) (a0:=(dn.flatMap (lq m ks ks')).map cQ) (n:=k) (o2:=some (.obj B)) (o6:=o6) (o7:=o7) h h' Hw.len (by omega) (by rw [MY];omega)
    refine ⟨aK hB,_,_,_,_,rfl,eg,dn++[w],rs,some (cQ w),o6',o7',g',e1',rfl,?_,rfl⟩
    rw [Qd,Oq]
    simp)
  (xs:=(bq m ks ks' k).map cQ) (ρ:=[some (aG m ks),some (aG m ks'),some (.obj B),some (.int (k:Int)),some (.obj M.length),o5,o6,o7]) (μ:=M++[.lst []])
  ⟨[],_,o5,o6,o7,[],rfl,rfl,by simp,rfl⟩
 have hr:rs=[]:=by cases rs with
  | nil=>rfl
  | cons=>cases e2
 subst hr e3 e4
 rw [MC] at e1
 refine ⟨g,o5',o6',o7',?_⟩
 have l0:([]:List D).length<=sizeLine:=N5 _
 unfold dC
 simp only [aO,bc,cW,ax,aa,LL l0,ae,bW,P9,Qa,aJ,gq,cX,ao,ah]
 rw [gE (aK hB)]
 simp only [ae,dN]
 rw [run]
 simp only [aJ,ao,ah,ae,bW,P9,Qa]
 rw [<- e1]
 rfl
end
theorem xA {x:DX}{μ:aw}{g:MS}:(SO.exc x μ).bind g=.exc x μ:=Py (Pz _)
theorem pj {x:DX}{μ:aw}:(SO.exc x μ).out=.exc x μ:=Py (Pz _)
theorem kY {β:Type}{x:DX}{μ:aw}{f:β->aw->SO}:(aj.exc x μ:aj β).bindS f=.exc x μ:=Py (Pz _)
theorem vZ {x:DX}{μ μ':aw}:qe μ (.exc x μ')=.exc x μ':=Py (Pz _)
theorem Ce {c:Str}{ρ:Ro}{μ:aw}:vR c ρ μ=.exc ⟨c,[]⟩ μ:=Py (Pz _)
def Cu (w:List Int):PyData:=.tuple (w.map PyData.int)
theorem u3:∀ {v w:List Int},cmpPs .Lt (v.map PyData.int) (w.map PyData.int)=some (iC v w)
 | [],[]=>rfl
 | [],_::w=>by
  simp only [Nx,Ny,cmpPs,iC,NU,Ob,cU]
  congr 1
  exact NQ (by omega)
 | _::_,[]=>rfl
 | a::v,b::w=>by
  have ih:=u3 (v:=v) (w:=w)
  show (if PyData.eqv (.int a) (.int b)=true then cmpPs .Lt (v.map PyData.int) (w.map PyData.int) else fA .Lt (.int a) (.int b))=some (if a=b then iC v w else decide (a<b))
  have e0:PyData.eqv (.int a) (.int b)=decide (a=b):=by by_cases e:a=b <;> simp [PyData.eqv,e]
  rw [e0]
  by_cases e:a=b
  ·rw [NQ e,LL rfl,LL e,ih]
  ·rw [LI e, LM Mm, LM e]
   rfl
theorem JV {μ:aw}{v w:List Int} (h:iC v w=false):CO μ (cQ v) (cQ w)=true:=by
 have e:∀ w:List Int,ju μ (cQ w)=some (Cu w):=fun w=>by simp only [ju,jO,Option.map_some];rfl
 have f:∀ w:List Int,cT (Cu w)=true:=fun w=>by
  have:=jP w
  simp only [Cu,cT,PyData.canLay0,this.1,PyData.depth,this.2,Qf]
  rfl
 unfold CO
 rw [e v,e w]
 dsimp only
 rw [f v,f w,NQ]
 ·rfl
 ·show cmpPs .Lt (v.map PyData.int) (w.map PyData.int) = some false
  rw [u3,h]
def CF:List (List Int)->D
 | x::_=>cQ x
 | []=>.non
def vB (m:Nat) (ks:List (List Int)) (m':Nat) (ks':List (List Int)):D:=if m=m' then CF (bq m ks ks' m) else .non
section
variable {m m':Nat}{ks ks':List (List Int)}
theorem vX {n:Nat}{l:List (List Int)}:(CF l).low n:=by
 unfold CF
 split
 ·exact HG
 ·simp
theorem si {n:Nat}:(vB m ks m' ks').low n:=by
 unfold vB
 split
 ·exact vX
 ·simp
theorem sH {μ:aw}{d:D} (h:bo [d] μ=.ok (.bl true) μ):cE [d] μ=.ok .non μ:=by
 unfold cE
 rw [cb]
 simp only [jc,List.replicate,cm,dJ,dX,aD,au,ax,ah,aa,h,af,cx,OG,ae,NT,Nd,cf,BP]
 exact aA (by simp)
theorem Fy {μ:aw}{d:D} (h:bo [d] μ=.ok (.bl false) μ):cE [d] μ=.exc ⟨"NoTree",[]⟩ μ:=by
 unfold cE
 rw [cb]
 simp only [jc,List.replicate,cm,dJ,dX,aD,au,ax,ah,aa,h,af,cx,OQ,ae,Nf,Ce,pj,vZ]
theorem A4 {μ:aw}{d e:D} (h:bo [d] μ=.ok (.bl false) μ):bz [d,e] μ=.exc ⟨"NoTree",[]⟩ μ:=by
 unfold bz
 rw [b9]
 simp only [fW,List.replicate]
 rw [aO,iY]
 simp only [aD,au,ax,ah,aa,Fy h,kY,xA,pj,vZ]
theorem Iz {μ:aw}{d e:D} (h:bo [d] μ=.ok (.bl true) μ) (h':bo [e] μ=.ok (.bl false) μ):bz [d,e] μ=.exc ⟨"NoTree",[]⟩ μ:=by
 unfold bz
 rw [b9]
 simp only [fW,List.replicate]
 rw [aO,iY]
 simp only [aD,au,ax,ah,aa,sH h,ae,aJ]
 rw [aO,iY]
 simp only [aD,au,ax,ao,ah,aa,Fy h',kY,xA,pj,vZ]
theorem lM {μ:aw} (T:eV m ks) (T':eV m' ks'):bz [aG m ks,aG m' ks'] μ=.ok (vB m ks m' ks') μ:=by
 have h:=T.gw
 have h':=T'.gw
 have m0:=h.m0
 have m6:=h.m6
 unfold bz
 rw [b9]
 simp only [fW,List.replicate]
 rw [aO,iY]
 simp only [aD,au,ax,ah,aa,sH (so T),ae,aJ]
 rw [aO,iY]
 simp only [aD,au,ax,ao,ah,aa,sH (so T'),ae,aJ]
 rw [aO,bc]
 simp only [aH,ah,bf,aa,du,ae,bW,aJ,P9,Qa]
 rw [aO,cm]
 simp only [eR,aH,ao,ah,bf,aa,du,iW,Nf,ba,ae]
 by_cases e:m=m'
 ·subst e
  rw [show (!((m:Int) == (m:Int)))=false from by simp]
  simp only [NT,Nd,cf,aJ]
  let M0:aw:=μ++[O.lst [.tup []]]
  obtain ⟨ρ',μ',⟨n,c,B,o4,o5,g,e1,e2,e3,e4,e5⟩,run⟩:=fR (src:=.fix (bx 0 m)) (g:=ak 4) (fb:=dc)
   (fun xs ρ μ1=>∃ (n c B:Nat) (o4 o5:Option D) (g:aw),xs=bx n c/\n+c=m/\ρ=[some (aG m ks),some (aG m ks'),some (.int m),some (.obj B),o4,o5]/\μ1=μ++g/\μ1[B]?=some (.lst ((bq m ks ks' n).map cQ)))
   (fun _ _ _=>trivial)
   (fun x xs ρ μ1 hJJ => by
    obtain ⟨n,c,B,o4,o5,g,e1,e2,e3,e4,e5⟩:=hJJ
    subst e3 e4
    cases c with
    | zero=>rw [iO] at e1;cases e1
    | succ c=>
     rw [gU] at e1
     injection e1 with ex er
     subst ex er
     obtain ⟨B',g',o5',eg,hB',_⟩:=EV (M:=μ++g) (k:=n) (B:=B) (o4:=some (.int n)) (o5:=o5) h h' (by omega) e5
     exact ⟨trivial,_,_,_,_,rfl,eg,n+1,c,B',some (.int n),o5',g++g',by push_cast;rfl,by omega,rfl,by rw [NK],hB'⟩)
   (xs:=bx 0 m) (ρ:=[some (aG m ks),some (aG m ks'),some (.int m),some (.obj μ.length),none,none]) (μ:=M0)
   ⟨0,m,μ.length,none,none,[O.lst [.tup []]],rfl,by omega,rfl,rfl,ay⟩
  have hz:=jL e1.symm
  subst hz e3 e4
  have hn:n=m:=by omega
  subst hn
  rw [aO,bc]
  simp only [cW,au,ax,eJ,aa,Ob,LL (N5 sizeLine),NU,LL (show 0+1<=sizeLine from l1),ae,bW,aJ,P9,Qa]
  rw [aO,gq]
  simp only [dv,au,ax,ao,ah,aa]
  rw [gF (by omega) (by omega)]
  simp only [ae,bh,Na]
  rw [show ic (.fix (bx 0 n)) (ak 4) dc (bx 0 n) [some (aG n ks),some (aG n ks'),some (.int n),some (.obj μ.length),none,none] (μ++[O.lst [.tup []]])=_ from run]
  simp only [aJ,aW,aD,au,ax,ao,ah,aa]
  have md:qJ [.obj B] (μ++g)=.ok (CF (bq n ks ks' n)) (μ++g):=by
   unfold qJ CF
   dsimp only
   rw [e5]
   cases e:bq n ks ks' n with
   | nil=>rfl
   | cons x r=>
    simp only [Ny]
    rw [LL]
    rw [<- Ny (f:=cQ)]
    refine OE.mpr fun y hy=>?_
    obtain ⟨v,hv,rfl⟩:=Oh.mp hy
    exact JV (wN e v hv)
  rw [md]
  simp only [ae,aM]
  rw [show vB n ks n ks'=CF (bq n ks ks' n) from LL rfl]
  exact dU vX
 ·rw [show (!((m : Int) == (m' : Int))) = true from by simp; omega]
  simp only [Nf,aW,bf,ae,g6,aM]
  rw [show vB m ks m' ks'=.non from LM e]
  exact aA (by simp)
theorem yz {μ:aw} (h:GW m ks) (h':GW m' ks'):ff [aG m ks,aG m' ks'] μ=.ok (vB m ks m' ks') μ:=by
 have m0:=h.m0
 have m6:=h.m6
 unfold ff
 rw [b9]
 simp only [l9,List.replicate]
 rw [aO,cm]
 simp only [eR,aH,ao,ah,bf,aa,du,iW,Nf,ba,ae]
 by_cases e:m=m'
 ·subst e
  rw [show (!((m:Int) == (m:Int)))=false from by simp]
  simp only [NT,Nd,cf,aJ]
  obtain ⟨ρ',μ',⟨n,c,B,o3,o4,o5,o6,o7,g,e1,e2,e3,e4,e5⟩,run⟩:=fR (src:=.fix (bx 0 m)) (g:=ak 3) (fb:=dC)
   (fun xs ρ μ1=>∃ (n c B:Nat) (o3 o4 o5 o6 o7:Option D) (g:aw),xs=bx n c/\n+c=m/\ρ=[some (aG m ks),some (aG m ks'),some (.obj B),o3,o4,o5,o6,o7]/\μ1=μ++g/\μ1[B]?=some (.lst ((bq m ks ks' n).map cQ)))
   (fun _ _ _=>trivial)
   (fun x xs ρ μ1 hJJ => by
    obtain ⟨n,c,B,o3,o4,o5,o6,o7,g,e1,e2,e3,e4,e5⟩:=hJJ
    subst e3 e4
    cases c with
    | zero=>rw [iO] at e1;cases e1
    | succ c=>
     rw [gU] at e1
     injection e1 with ex er
     subst ex er
     obtain ⟨g',o5',o6',o7',eg⟩:=Et (M:=μ++g) (k:=n) (B:=B) (o4:=o4) (o5:=o5) (o6:=o6) (o7:=o7) h h' (by omega) e5
     refine ⟨trivial,_,_,_,_,rfl,eg,n+1,c,(μ++g).length,some (.int n),_,o5',o6',o7',g++.lst ((bq m ks ks' (n+1)).map cQ)::g',by push_cast;rfl,by omega,rfl,by rw [NK],ay⟩)
   (xs:=bx 0 m) (ρ:=[some (aG m ks),some (aG m ks'),some (.obj μ.length),none,none,none,none,none]) (μ:=μ++[O.lst [.tup []]])
   ⟨0,m,μ.length,none,none,none,none,none,[O.lst [.tup []]],rfl,by omega,rfl,rfl,ay⟩
  have hz:=jL e1.symm
  subst hz e3 e4
  have hn:n=m:=by omega
  subst hn
  have sz:=nz m6 (ks:=ks) (ks':=ks') m6
  rw [aO,bc]
  simp only [cW,au,ax,eJ,aa,Ob,LL (N5 sizeLine),NU,LL (show 0+1<=sizeLine from l1),ae,bW,aJ,P9,Qa]
  rw [aO,gq]
  simp only [dv,au,ax,aH,ao,ah,bf,aa,du]
  rw [gF (by omega) (by omega)]
  simp only [ae,bh,Na]
  rw [show ic (.fix (bx 0 n)) (ak 3) dC (bx 0 n) [some (aG n ks),some (aG n ks'),some (.obj μ.length),none,none,none,none,none] (μ++[O.lst [.tup []]])=_ from run]
  simp only [aJ,aW,aH,cW,au,ax,ao,ah,bf,aa,NU,Ob,LL (show 0+1<=sizeLine from l1)]
  have ad:cH (.obj B) (.obj (μ++g).length) (μ++g++[O.lst [.non]])=.ok (.obj (μ++g++[O.lst [.non]]).length) (μ++g++[O.lst [.non]]++[.lst ((bq n ks ks' n).map cQ++[.non])]):=by
   unfold cH
   simp only [aK e5,ay]
   rw [LL (by rw [MY];exact LV (show _<=100000 by simp only [NU,Ob];omega) rW)]
  rw [ad]
  simp only [aa]
  have ix:cq (.obj (μ++g++[O.lst [.non]]).length) (.int 0) (μ++g++[O.lst [.non]]++[.lst ((bq n ks ks' n).map cQ++[.non])])=.ok (CF (bq n ks ks' n)) (μ++g++[O.lst [.non]]++[.lst ((bq n ks ks' n).map cQ++[.non])]):=by
   refine fJ ay ?_
   cases bq n ks ks' n with
   | nil=>exact nr
   | cons x r=>exact nr
  rw [ix]
  simp only [ae,aM,NK]
  rw [show vB n ks n ks'=CF (bq n ks ks' n) from LL rfl]
  exact dU vX
 ·rw [show (!((m : Int) == (m' : Int))) = true from by simp; omega]
  simp only [Nf,aW,bf,ae,g6,aM]
  rw [show vB m ks m' ks'=.non from LM e]
  exact aA (by simp)
end
mutual
theorem AO {μ μ':aw}{n:Nat} (h:∀ k<n,∀ tn,mf μ (.obj k)=some tn->mf μ' (.obj k)=some tn):∀ {d:D},d.low n->Kn μ d->Kn μ' d
 | .non,_,_=>by simp [Kn]
 | .bl _,_,_=>by simp [Kn]
 | .int _,_,_=>by simp [Kn]
 | .str _,_,_=>by simp [Kn]
 | .frz _,_,_=>by simp [Kn]
 | .obj k,hl,h1=>by
  simp only [Kn,D.low] at h1 hl ⊢
  obtain ⟨tn,h1,h2⟩:=h1
  exact ⟨tn,h k hl tn h1,h2⟩
 | .tup xs,hl,h1=>by
  simp only [Kn,D.low] at h1 hl ⊢
  exact ⟨h1.1,kns_low h hl h1.2⟩
theorem kns_low {μ μ':aw}{n:Nat} (h:∀ k<n,∀ tn,mf μ (.obj k)=some tn->mf μ' (.obj k)=some tn):∀ {xs:List D},D.lows n xs->Kns μ xs->Kns μ' xs
 | [],_,_=>by simp [Kns]
 | x::xs,hl,h1=>by
  simp only [Kns,D.lows] at h1 hl ⊢
  exact ⟨AO h hl.1 h1.1,kns_low h hl.2 h1.2⟩
end
mutual
theorem Fm {μ μ':aw} (h:∀ k,∀ tn,mf μ (.obj k)=some tn->mf μ' (.obj k)=some tn):∀ {d:D},Kn μ d->Kn μ' d
 | .non,_=>by simp [Kn]
 | .bl _,_=>by simp [Kn]
 | .int _,_=>by simp [Kn]
 | .str _,_=>by simp [Kn]
 | .frz _,_=>by simp [Kn]
 | .obj k,h1=>by
  simp only [Kn] at h1 ⊢
  obtain ⟨tn,h1,h2⟩:=h1
  exact ⟨tn,h k tn h1,h2⟩
 | .tup xs,h1=>by
  simp only [Kn] at h1 ⊢
  exact ⟨h1.1,kns_ty h h1.2⟩
theorem kns_ty {μ μ':aw} (h:∀ k,∀ tn,mf μ (.obj k)=some tn->mf μ' (.obj k)=some tn):∀ {xs:List D},Kns μ xs->Kns μ' xs
 | [],_=>by simp [Kns]
 | x::xs,h1=>by
  simp only [Kns] at h1 ⊢
  exact ⟨Fm h h1.1,kns_ty h h1.2⟩
end
theorem Ex {μ:aw}{n:Nat}{d:D} (hl:d.low n) (h:Kn μ d):Kn (μ.take n) d:=by
 refine AO (n:=n) (fun k hk tn h1=>?_) hl h
 unfold mf at h1 ⊢
 dsimp only at h1 ⊢
 rw [List.getElem?_take,LL hk];exact h1
theorem Pn.gcK {μ0 μ:aw}{i:Nat}{d:D} (h:Pn μ0 i μ) (hi:i<μ0.length) (hk:Kn μ d):∃ μ',qe μ0 (.ok d μ)=.ok d μ'/\Pn μ0 i μ'/\Kn μ' d:=by
 rcases AU (μ:=μ0) (d:=d) (μ':=μ) with e | ⟨e,hl⟩
 ·exact ⟨μ,e,h,hk⟩
 ·refine ⟨_, e, ?_, Ex hl hk⟩
  obtain ⟨a,b,c,g,rfl⟩:=h
  exact ⟨a,b,c,[],by rw [PN (by simp),Og (by simp),MC]⟩
theorem Iv {β:Type}{xs:List β}{r:Nat}{n:Int} (e:n=(r:Int)):jy xs (some n) none=xs.drop r:=by
 subst e
 unfold jy
 have h1:HT.sIx xs.length 0 (some (r:Int))=min r xs.length:=HT.sIx_nat _ _ r
 have h2:HT.sIx xs.length xs.length none=xs.length:=rfl
 rw [h1,h2]
 by_cases h:r<=xs.length
 ·rw [Nat.min_eq_left h,Og (by rw [Nj];exact Mt _)]
 ·rw [Nat.min_eq_right (by omega),OA,List.take_zero,List.drop_eq_nil_of_le (by omega)]
def Kk (m:Nat) (ks:List (List Int)) (d:D):Prop:=
 d=.tup [.int m,.tup ((ks.map ar).reverse++[.tup [.int 0,.int m]])]\/(d=.tup [.int ((m:Int)+1),.tup (ks.map ar)]/\m=6)\/(∃ t,d=.obj t)\/(∃ t,d=.tup [.int m,.obj t])\/d=.non\/d=.int 0\/d=.tup []\/d=.str "tree"
section
variable {m:Nat}{ks:List (List Int)}{d:D}{μ:aw}
theorem Eg (h:Kk m ks d):ia d=false:=by
 rcases h with rfl | ⟨rfl,rfl⟩ | ⟨t,rfl⟩ | ⟨t,rfl⟩ | rfl|rfl|rfl|rfl
 ·have:ll (m:Int) (.tup [.int 0,.int m])=false:=by
   unfold ll
   rw [show qd (m:Int) (.tup [.int 0,.int m])=false from by
    show [D.int 0,D.int m].all (c4 0 ((m:Int) - 1))=false
    simp only [NF,List.all_nil,Bool.and_true]
    rw [show c4 0 ((m:Int) - 1) (.int m)=false from by simp [c4];omega,OR]]
   rfl
  simp [ia,jA,this]
 ·rfl
 ·rfl
 ·simp [ia,jA]
 ·rfl
 ·rfl
 ·rfl
 ·rfl
theorem AN {n:Nat} (h:Kn μ (.obj n)):xb μ (.obj n):=by
 simp only [Kn] at h
 obtain ⟨tn,h1,_⟩:=h
 unfold xb
 rw [h1]
 exact nofun
theorem Hq (h:Kk m ks d) (hk:Kn μ d) (hl:ks.length+1=m) (m6:m<=6):aU [d] μ=.ok (.bl false) μ:=by
 rcases h with rfl | ⟨rfl,rfl⟩ | ⟨t,rfl⟩ | ⟨t,rfl⟩ | rfl|rfl|rfl|rfl
 ·refine vV nofun fun _ _ => ⟨_, rfl, ?_⟩
  simp only [MX,PY,MY,NU,Ob]
  omega
 ·exact vV nofun fun z _=>by omega
 ·exact se (AN hk) rfl
 ·refine vV (AN ?_) fun _ z => by cases z
  simp only [Kn,Kns] at hk ⊢
  exact hk.2.2.1
 ·exact se nofun rfl
 ·exact se nofun rfl
 ·exact HE
 ·exact se nofun rfl
theorem J0 (h:GW m ks) (hm:m<6):GW (m+1) ks:=⟨rfl,by omega,by omega,h.2.2.2.1,fun k hk=>by
 obtain ⟨a,b,rfl,h1,h2,h3⟩:=h.2.2.2.2 k hk
 exact ⟨a,b,rfl,h1,h2,by omega⟩⟩
theorem sh (h3:3<=m) (h6:m<=6):GW m [[0,1],[0,2],[1,2]]:=by
 refine ⟨rfl,by omega,by omega,by decide,fun k hk=>?_⟩
 simp only [L4,O3,O4] at hk
 rcases hk with rfl|rfl|rfl <;> exact ⟨_,_,rfl,by omega,by omega,by omega⟩
theorem vW (h:GW m ks):Kns μ (ks.map ar):=by
 rw [kb]
 intro x hx
 obtain ⟨k,hk,rfl⟩:=Oh.mp hx
 obtain ⟨a,b,rfl,_⟩:=h.2.2.2.2 k hk
 simp [ar,Kn,Kns]
theorem sf (h:GW m ks):Kn μ (aG m ks):=by
 have:=iL h
 have k:=vW (μ:=μ) h
 simp only [aG,Kn,Kns,NU,Ob,MY,Qo,true_and]
 exact ⟨by omega,by omega,k⟩
theorem yv {i:Nat}{a b c:Int} (hp:μ[i]?=some (bL a b c)) (T:eV m ks):∃ d μ',dD [.obj i,aG m ks] μ=.ok d μ'/\Pn μ i μ'/\Kn μ' d/\((∃ m' ks',d=aG m' ks'/\GW m' ks')\/Kk m ks d):=by
 have h:=T.gw
 have m0:=h.m0
 have m6:=h.m6
 have hl:=T.len
 have hlen:=iL h
 have hi:i<μ.length:=(L8.mp hp).1
 obtain ⟨r,a1,b1,c1,r0,r1,er,P1⟩:=(Pn.self hp).draw (m:=(ks.length:Int)+1) hi (by omega) (by omega)
 obtain ⟨r,rfl⟩:∃ k:Nat,r=(k:Int):=⟨r.toNat,by omega⟩
 have hr:r<=ks.length:=by omega
 let M1:aw:=μ.set i (bL a1 b1 c1)
 let t0:D:=aG m (ks.take r++ks.drop (r+1))
 let t1:D:=.tup [.int m,.tup ((ks.map ar).reverse++[.tup [.int 0,.int m]])]
 let t2:D:=.tup [.int ((m:Int)+1),.tup (ks.map ar)]
 let L1:List D:=[t0,t1,t2,.obj M1.length]
 let M2:aw:=M1++[O.lst [.int m,.tup (ks.map ar)]]++[O.lst L1]
 let M3:aw:=M2++[O.lst (ks.map ar)]++[O.dic]
 let t4:D:=.tup [.int m,.obj M2.length]
 let L2:List D:=[t4,.non,.int 0,.tup [],.obj (M2++[O.lst (ks.map ar)]).length,.str "tree",aG 3 [[0,1],[0,2],[1,2]]]
 let M4:aw:=M3++[O.lst L2]++[O.lst (L1++L2)]
 let L3:List D:=L1++L2++[aG 4 [[0,1],[0,2],[1,2]]]
 let M5:aw:=M3++[O.lst L2]++[O.lst L3]
 have P5:Pn μ i M5:=by
  have:M5=M1++([O.lst [.int m,.tup (ks.map ar)]]++[O.lst L1]++[O.lst (ks.map ar)]++[O.dic]++[O.lst L2]++[O.lst L3]):=by simp only [M5,M3,M2,NK]
  rw [this]
  exact P1.app
 obtain ⟨j,a2,b2,c2,j0,j1,ej,P6⟩:=P5.draw (m:=12) hi (by decide) (by decide)
 let M6:aw:=M5.set i (bL a2 b2 c2)
 have i5:i≠(M3++[O.lst L2]).length:=by
  have:M1.length=μ.length:=by simp [M1]
  simp only [M3,M2,MX,NU,Ob]
  omega
 have x6:M6[(M3++[O.lst L2]).length]?=some (.lst L3):=by
  rw [Mb i5]
  exact ay
 have g0:GW m (ks.take r++ks.drop (r+1)):=B8 h (by
  have:(ks.take r++ks.drop (r+1)).Sublist (ks.take r++ks.drop r):=(List.Sublist.refl _).append (by
   rw [<- List.drop_drop]
   exact List.drop_sublist _ _)
  rwa [On] at this)
 have ty:∀ k tn,mf M5 (.obj k)=some tn->mf M6 (.obj k)=some tn:=by
  obtain ⟨u,v,w,hq⟩:=P5.get hi
  intro k tn hk
  unfold mf at hk ⊢
  dsimp only at hk ⊢
  by_cases e:i=k
  ·subst e
   rw [show M6[i]?=some (bL a2 b2 c2) from fQ (L8.mp hq).1]
   rw [hq] at hk
   exact hk
  ·rw [show M6[k]?=M5[k]? from Mb e];exact hk
 have ob1:Kn M5 (.obj M1.length):=by
  simp only [Kn]
  refine ⟨"list",?_,by decide,by decide,by decide⟩
  unfold mf
  dsimp only
  rw [show M5[M1.length]?=some (.lst [.int m,.tup (ks.map ar)]) from aK (aK (aK (aK (aK ay))))]
 have ob2:Kn M5 (.obj M2.length):=by
  simp only [Kn]
  refine ⟨"list",?_,by decide,by decide,by decide⟩
  unfold mf
  dsimp only
  rw [show M5[M2.length]?=some (.lst (ks.map ar)) from aK (aK (aK ay))]
 have ob3:Kn M5 (.obj (M2++[O.lst (ks.map ar)]).length):=by
  simp only [Kn]
  refine ⟨"dict",?_,by decide,by decide,by decide⟩
  unfold mf
  dsimp only
  rw [show M5[(M2++[O.lst (ks.map ar)]).length]?=some .dic from aK (aK ay)]
 have all:∀ y∈L3,Kn M5 y/\((∃ m' ks',y=aG m' ks'/\GW m' ks')\/Kk m ks y):=by
  intro y hy
  simp only [L3,L1,L2,L6,L4,O3,O4] at hy
  rcases hy with ((rfl|rfl|rfl|rfl) | rfl|rfl|rfl|rfl|rfl|rfl|rfl) | rfl
  ·exact ⟨sf g0,.inl ⟨_,_,rfl,g0⟩⟩
  ·refine ⟨?_, .inr (.inl rfl)⟩
   have k:=vW (μ:=M5) h
   rw [kb] at k
   simp only [t1,Kn,Kns,NU,Ob,MX,PY,MY,Qo,true_and]
   refine ⟨by omega,by omega,kb.mpr fun x hx=>?_⟩
   rcases L6.mp hx with z | z
   ·exact k x (List.mem_reverse.mp z)
   ·rw [N6.mp z];simp [Kn,Kns]
  ·by_cases e : m = 6
   ·refine ⟨?_, .inr (.inr (.inl ⟨rfl, e⟩))⟩
    have k:=vW (μ:=M5) h
    simp only [t2,Kn,Kns,NU,Ob,MY,Qo,true_and]
    exact ⟨by omega,by omega,k⟩
   ·have g := J0 h (by omega)
    have e2:t2=aG (m+1) ks:=by simp only [t2,aG];push_cast;rfl
    exact ⟨by rw [e2];exact sf g,.inl ⟨_,_,e2,g⟩⟩
  ·exact ⟨ob1,.inr (.inr (.inr (.inl ⟨_,rfl⟩)))⟩
  ·refine ⟨?_, .inr (.inr (.inr (.inr (.inl ⟨_, rfl⟩))))⟩
   simp only [t4,Kn,Kns,NU,Ob,Qo,true_and] at ob2 ⊢
   exact ⟨by omega,ob2⟩
  ·exact ⟨by simp [Kn],.inr (.inr (.inr (.inr (.inr (.inl rfl)))))⟩
  ·exact ⟨by simp [Kn],.inr (.inr (.inr (.inr (.inr (.inr (.inl rfl))))))⟩
  ·exact ⟨by simp [Kn,Kns],.inr (.inr (.inr (.inr (.inr (.inr (.inr (.inl rfl)))))))⟩
  ·exact ⟨ob3,.inr (.inr (.inr (.inl ⟨_,rfl⟩)))⟩
  ·exact ⟨by simp [Kn],.inr (.inr (.inr (.inr (.inr (.inr (.inr (.inr rfl)))))))⟩
  ·exact ⟨sf (sh (m:=3) (by decide) (by decide)),.inl ⟨_,_,rfl,sh (by decide) (by decide)⟩⟩
  ·exact ⟨sf (sh (m:=4) (by decide) (by decide)),.inl ⟨_,_,rfl,sh (by decide) (by decide)⟩⟩
 have l3:L3.length=12:=rfl
 obtain ⟨y,hy,ey⟩:∃ y∈L3,atI L3 j=some y:=by
  have hj:j.toNat<L3.length:=by rw [l3];omega
  exact ⟨L3[j.toNat],Pp hj,mG j0 (Pq hj)⟩
 obtain ⟨ky,cy⟩:=all y hy
 obtain ⟨μ',eg,P7,k7⟩:=P6.gcK hi (Fm ty ky)
 refine ⟨y,μ',?_,P7,k7,cy⟩
 have n1:0+1<=sizeLine:=l1
 have n2:0+1+1<=sizeLine:=l2
 have n3:0+1+1+1<=sizeLine:=LV (by decide) bG
 have n4:0+1+1+1+1<=sizeLine:=LV (by decide) bG
 have n7:0+1+1+1+1+1+1+1<=sizeLine:=LV (by decide) bG
 have ad0:∀ M:aw,cH (.tup (jy (ks.map ar) none (some (r:Int)))) (.tup (jy (ks.map ar) (some ((r:Int)+1)) none)) M=.ok (.tup ((ks.take r++ks.drop (r+1)).map ar)) M:=fun M=>by
  rw [Iu (by rw [MY];exact hr),Iv (r:=r+1) (by push_cast;rfl),<- Os,<- Ot]
  unfold cH
  dsimp only
  rw [LL (by
   rw [MY,MY,MM,Nj]
   exact LV (show _<=1000 by omega) bG),Oq]
 have ad1:∀ M:aw,cH (.tup (ks.map ar).reverse) (.tup [.tup [.int 0,.int m]]) M=.ok (.tup ((ks.map ar).reverse++[.tup [.int 0,.int m]])) M:=fun M=>by
  unfold cH
  dsimp only
  rw [LL (by
   rw [PY,MY]
   exact LV (show _<=1000 by simp only [NU,Ob];omega) bG)]
 have ad2:cH (.obj (M1++[O.lst [.int m,.tup (ks.map ar)]]).length) (.obj M3.length) (M3++[O.lst L2])=.ok (.obj (M3++[O.lst L2]).length) M4:=by
  unfold cH
  dsimp only
  rw [show (M3++[O.lst L2])[(M1++[O.lst [.int m,.tup (ks.map ar)]]).length]?=some (.lst L1) from aK (aK (aK ay)),show (M3++[O.lst L2])[M3.length]?=some (.lst L2) from ay]
  dsimp only
  rw [LL (LV (show L1.length+L2.length<=1000 from show (4+7:Nat)<=1000 by decide) bG)]
 have rv:∀ M:aw,qI (.tup (ks.map ar)) (.int (-1)) M=.ok (.tup (ks.map ar).reverse) M:=fun M=>by
  unfold qI
  dsimp only
  rw [LL rfl]
 have isl:vD (.obj (M3++[O.lst L2]).length) M4=true:=by unfold vD;dsimp only;rw [show M4[(M3++[O.lst L2]).length]?=some (.lst (L1++L2)) from ay]
 have apd:fS (.obj (M3++[O.lst L2]).length) [aG 4 [[0,1],[0,2],[1,2]]] M4=.ok .non M5:=by
  unfold fS
  dsimp only
  rw [show M4[(M3++[O.lst L2]).length]?=some (.lst (L1++L2)) from ay]
  dsimp only
  rw [LL (LP (show (L1++L2).length<1000 from show (11:Nat)<1000 by decide) bG)]
  rw [show M4.set (M3++[O.lst L2]).length (O.lst (L1++L2++[aG 4 [[0,1],[0,2],[1,2]]]))=M5 from jK]
 have er':bw [.obj i,.int ((ks.length:Int)+1)] μ=.ok (.int (r:Int)) M1:=er
 unfold dD
 rw [b9]
 simp only [j8,List.replicate]
 rw [aO,bc]
 simp only [ao,ah,ae]
 rw [show dq 2 (aZ (ak 2) (aZ (ak 3) dr)) (aG m ks) [some (.obj i),some (aG m ks),none,none,none,none] μ=.ok [some (.obj i),some (aG m ks),some (.int m),some (.tup (ks.map ar)),none,none] μ from rfl]
 simp only [ae,aJ]
 rw [aO,bc]
 simp only [aD,au,ax,aH,ao,ah,bf,aa,eB,MY,oq,er',ae,bW,aJ,P9,Qa]
 rw [aO,bc]
 have e1:fC (ag (ck (ag (ai 2) (ag (aC cH (E1 (ai 3) (FE) (lC (ai 4))) (E1 (ai 3) (lC (aC cH (ai 4) (cC (.int 1)))) (FE))) (aB)))) (ag (ck (ag (ai 2) (ag (aC cH (aC qI (ai 3) (mh ye (cC (.int 1)))) (ck (ag (ck (ag (cC (.int 0)) (ag (ai 2) (aB)))) (aB)))) (aB)))) (ag (ck (ag (aC cH (ai 2) (cC (.int 1))) (ag (ai 3) (aB)))) (ag (fC (ag (ai 2) (ag (ai 3) (aB)))) (aB))))) [some (.obj i),some (aG m ks),some (.int m),some (.tup (ks.map ar)),some (.int (r:Int)),none] M1=.ok (.obj (M1++[O.lst [.int m,.tup (ks.map ar)]]).length) M2:=by
  simp only [cW,eJ,au,ax,aH,gZ,Ii,Fu,Ih,uY,AY,ao,ah,bf,aa,oq]
  rw [show EZ (.tup (ks.map ar)) none (some (r:Int)) M1=.ok (.tup (jy (ks.map ar) none (some (r:Int)))) M1 from rfl]
  simp only [aa]
  rw [show EZ (.tup (ks.map ar)) (some ((r:Int)+1)) none M1=.ok (.tup (jy (ks.map ar) (some ((r:Int)+1)) none)) M1 from rfl]
  simp only [aa,ad0,rv,NU,Ob,LL n2,LL n1,ad1,LL n4]
  rfl
 rw [e1]
 simp only [ae,bW,aJ,P9,Qa]
 rw [aO,bc]
 have e2:aC cH (ai 5) (fC (ag (ck (ag (ai 2) (ag (aE nq (ag (ai 3) (aB))) (aB)))) (ag (cC .non) (ag (cC (.int 0)) (ag (ck (aB)) (ag (zY) (ag (cC (.str "tree")) (ag (ck (ag (cC (.int 3)) (ag (ck (ag (ck (ag (cC (.int 0)) (ag (cC (.int 1)) (aB)))) (ag (ck (ag (cC (.int 0)) (ag (cC (.int 2)) (aB)))) (ag (ck (ag (cC (.int 1)) (ag (cC (.int 2)) (aB)))) (aB))))) (aB)))) (aB))))))))) [some (.obj i),some (aG m ks),some (.int m),some (.tup (ks.map ar)),some (.int (r:Int)),some (.obj (M1++[O.lst [.int m,.tup (ks.map ar)]]).length)] M2=.ok (.obj (M3++[O.lst L2]).length) M4:=by
  simp only [aH,cW,eJ,au,ax,aD,ao,ah,bf,Ik,aa]
  rw [show nq [.tup (ks.map ar)] M2=.ok (.obj M2.length) (M2++[O.lst (ks.map ar)]) from rfl]
  simp only [aa,Ob,LL (N5 sizeLine),NU,LL n2,LL n3,LL n7]
  exact ad2
 rw [e2]
 simp only [ae,bW,aJ,P9,Qa]
 rw [aO,iY]
 simp only [t6,ao,ah,aa,isl,Nf,au,ax,eJ,bf,NU,Ob,LL n2,LL n3]
 rw [show fS (.obj (M3++[O.lst L2]).length) [.tup [.int 4,.tup [.tup [.int 0,.int 1],.tup [.int 0,.int 2],.tup [.int 1,.int 2]]]] M4=.ok .non M5 from apd]
 simp only [ae,aJ,aW,aH,ao,ah,aD,au,ax,bf,aa]
 rw [show bw [.obj i,.int 12] M5=.ok (.int j) M6 from ej]
 simp only [aa]
 rw [fJ x6 ey]
 simp only [ae,aM]
 exact eg
end
def IA (x:Str):Prop:=∀ c∈x.cps.toList,c<0x110000
theorem IA.ok {x:Str} (h:IA x):PyData.strOk x=true:=by
 unfold PyData.strOk
 rw [<- Array.all_toList,OE]
 exact fun c hc=>NQ (h c hc)
theorem Ee {x:Str} (h:(x.cps.toList.all fun c=>decide (c<0x110000))=true):IA x:=fun c hc=>by
 simpa using OE.mp h c hc
theorem uk {μ:aw}:∀ {xs:List Str},(∀ x∈xs,IA x)->fE μ (xs.map D.str)=some (xs.map PyData.str)/\PyData.canLayAll0 (xs.map PyData.str)=true/\PyData.depthAll (xs.map PyData.str)=0
 | [],_=>⟨rfl,rfl,rfl⟩
 | x::xs,h=>by
  obtain ⟨h1,h2,h3⟩:=uk (μ:=μ) fun y hy=>h y (LZ _ hy)
  have hx:=(h x LY).ok
  refine ⟨?_,?_,?_⟩
  ·simp only [Ny,fE,h1,vI,vC,Option.map_some,NZ]
  ·simp only [Ny,PyData.canLayAll0,PyData.canLay0,hx,h2,OK]
  ·simp only [Ny,PyData.depthAll,PyData.depth,h3];rfl
theorem EO {M:aw}{a b:Nat}{xs:List Str} (hx:∀ x∈xs,IA x) (h:M[a]?=some (.lst (xs.map D.str))) (g:M[b]?=some (.lst (xs.map D.str))):ka true (.obj a) (.obj b) M=.ok (.bl false) M:=by
 obtain ⟨h1,h2,h3⟩:=uk (μ:=M) hx
 have ea:ju M (.obj a)=some (.list (xs.map PyData.str)):=by unfold ju;dsimp only;rw [h];dsimp only;rw [h1];rfl
 have eb:ju M (.obj b)=some (.list (xs.map PyData.str)):=by unfold ju;dsimp only;rw [g];dsimp only;rw [h1];rfl
 have f:cT (.list (xs.map PyData.str))=true:=by
  simp only [cT,PyData.canLay0,h2,PyData.depth,h3,Qf];rfl
 unfold ka
 rw [ea,eb]
 dsimp only
 rw [LL ⟨f,f⟩,LL rfl,SeqAt.eqv_refl _ (bH f)]
 rfl
theorem rl:∀ {w:List Int},(∀ p∈w,0<=p/\p<7)->PyData.showableAll (w.map PyData.int)=true/\PyData.leavesShortAll 8 (w.map PyData.int)=true/\PyData.weightAll (w.map PyData.int)<=4 * w.length
 | [],_=>by simp [PyData.showableAll,PyData.leavesShortAll,PyData.weightAll]
 | a::w,h=>by
  have ih:=rl fun x hx=>h x (LZ _ hx)
  have ha:=yC (a:=a) (h a LY).1 (h a LY).2
  simp only [Ny,PyData.showableAll,PyData.leavesShortAll,PyData.weightAll] at ih ha ⊢
  refine ⟨by simp only [ha.1,ih.1,OK],by simp only [ha.2.1,ih.2.1,OK],?_⟩
  simp only [NU]
  omega
theorem DG {μ:aw}{w:List Int} (h:∀ p∈w,0<=p/\p<7) (hl:w.length<=100):kQ [cQ w] μ=.ok (.str (Cu w).shown) μ:=by
 have e:ju μ (cQ w)=some (Cu w):=by simp only [ju,jO,Option.map_some];rfl
 have s:=rl h
 have l:=jP w
 show t8 [cQ w] μ=_
 unfold t8
 dsimp only
 rw [e]
 dsimp only
 rw [LL ⟨rfl,yY (by simp only [Cu,PyData.showable];exact s.1) (by simp only [Cu,PyData.canLay0];exact l.1) (by simp only [Cu,PyData.depth,l.2];decide) (by simp only [Cu,PyData.leavesShort];exact s.2.1) (by simp only [Cu,PyData.weight];have:=s.2.2;omega)⟩]
theorem v3 {subs known:List Str}{n:Nat}{c:Str}{μ:aw} (h:μ[n]?=some (.exc c)) (hk:known.contains c=true):kL subs known (.obj n) μ=.ok (.bl (subs.contains c)) μ:=by
 unfold kL
 dsimp only
 rw [h]
 dsimp only
 rw [LL hk]
theorem x4 {μ:aw}{a b:Nat}{xs ys:List D} (h:μ[a]?=some (.lst xs)) (g:μ[b]?=some (.lst ys)) (hn:xs.length+ys.length<=1000000):cH (.obj a) (.obj b) μ=.ok (.obj μ.length) (μ++[.lst (xs++ys)]):=by
 unfold cH
 simp only [h,g]
 rw [LL (LV hn (by decide))]
theorem l4:(4:Nat)<=sizeLine:=by decide
theorem l8:(8:Nat)<=sizeLine:=by decide
abbrev oJ:List D:=[.str "place",.str "number",.str "line",.str "root",.str "tree",.str "web",.str "text",.str "great"]
theorem bK:(["NoTree"]:List Str).contains "NoTree" = true:=by decide +kernel
theorem jU:([]:List Str).contains "NoTree" = false:=by decide +kernel
theorem pW {μ:aw}{n:Nat} (h:μ[n]?=some (.exc "NoTree")):dE [.obj n] μ=.ok (.str "tree") μ:=by
 have h1:(μ++[O.lst [D.bl false,D.bl false,D.bl false,D.bl false]])[n]?=some (.exc "NoTree"):=aK h
 have h2:(μ++[O.lst [D.bl false,D.bl false,D.bl false,D.bl false]]++[O.lst [D.bl true,D.bl false,D.bl false,D.bl false]])[n]?=some (.exc "NoTree"):=aK h1
 have h3:(μ++[O.lst [D.bl false,D.bl false,D.bl false,D.bl false]]++[O.lst [D.bl true,D.bl false,D.bl false,D.bl false]]++[O.lst ([D.bl false,D.bl false,D.bl false,D.bl false]++[D.bl true,D.bl false,D.bl false,D.bl false])])[n]?=some (.exc "NoTree"):=aK h2
 have m3:(μ++[O.lst [D.bl false,D.bl false,D.bl false,D.bl false]]++[O.lst [D.bl true,D.bl false,D.bl false,D.bl false]]++[O.lst ([D.bl false,D.bl false,D.bl false,D.bl false]++[D.bl true,D.bl false,D.bl false,D.bl false])])[(μ++[O.lst [D.bl false,D.bl false,D.bl false,D.bl false]]++[O.lst [D.bl true,D.bl false,D.bl false,D.bl false]]).length]?=some (.lst ([D.bl false,D.bl false,D.bl false,D.bl false]++[D.bl true,D.bl false,D.bl false,D.bl false])):=ay
 have m4:(μ++[O.lst [D.bl false,D.bl false,D.bl false,D.bl false]]++[O.lst [D.bl true,D.bl false,D.bl false,D.bl false]]++[O.lst ([D.bl false,D.bl false,D.bl false,D.bl false]++[D.bl true,D.bl false,D.bl false,D.bl false])]++[O.lst oJ])[(μ++[O.lst [D.bl false,D.bl false,D.bl false,D.bl false]]++[O.lst [D.bl true,D.bl false,D.bl false,D.bl false]]).length]?=some (.lst ([D.bl false,D.bl false,D.bl false,D.bl false]++[D.bl true,D.bl false,D.bl false,D.bl false])):=aK m3
 have k4:(μ++[O.lst [D.bl false,D.bl false,D.bl false,D.bl false]]++[O.lst [D.bl true,D.bl false,D.bl false,D.bl false]]++[O.lst ([D.bl false,D.bl false,D.bl false,D.bl false]++[D.bl true,D.bl false,D.bl false,D.bl false])]++[O.lst oJ])[(μ++[O.lst [D.bl false,D.bl false,D.bl false,D.bl false]]++[O.lst [D.bl true,D.bl false,D.bl false,D.bl false]]++[O.lst ([D.bl false,D.bl false,D.bl false,D.bl false]++[D.bl true,D.bl false,D.bl false,D.bl false])]).length]?=some (.lst oJ):=ay
 have a1:=x4 (μ:=μ++[O.lst [D.bl false,D.bl false,D.bl false,D.bl false]]++[O.lst [D.bl true,D.bl false,D.bl false,D.bl false]]) (a:=μ.length) (b:=(μ++[O.lst [D.bl false,D.bl false,D.bl false,D.bl false]]).length) (xs:=[D.bl false,D.bl false,D.bl false,D.bl false]) (ys:=[D.bl true,D.bl false,D.bl false,D.bl false]) (aK ay) ay (by decide)
 have c1:ki (.obj (μ++[O.lst [D.bl false,D.bl false,D.bl false,D.bl false]]++[O.lst [D.bl true,D.bl false,D.bl false,D.bl false]]).length) [.bl true] (μ++[O.lst [D.bl false,D.bl false,D.bl false,D.bl false]]++[O.lst [D.bl true,D.bl false,D.bl false,D.bl false]]++[O.lst ([D.bl false,D.bl false,D.bl false,D.bl false]++[D.bl true,D.bl false,D.bl false,D.bl false])])=.ok (.int 1) (μ++[O.lst [D.bl false,D.bl false,D.bl false,D.bl false]]++[O.lst [D.bl true,D.bl false,D.bl false,D.bl false]]++[O.lst ([D.bl false,D.bl false,D.bl false,D.bl false]++[D.bl true,D.bl false,D.bl false,D.bl false])]):=by
  unfold ki
  dsimp only
  rw [m3]
  rfl
 have i1:kh (.obj (μ++[O.lst [D.bl false,D.bl false,D.bl false,D.bl false]]++[O.lst [D.bl true,D.bl false,D.bl false,D.bl false]]).length) [.bl true] (μ++[O.lst [D.bl false,D.bl false,D.bl false,D.bl false]]++[O.lst [D.bl true,D.bl false,D.bl false,D.bl false]]++[O.lst ([D.bl false,D.bl false,D.bl false,D.bl false]++[D.bl true,D.bl false,D.bl false,D.bl false])]++[O.lst oJ])=.ok (.int 4) (μ++[O.lst [D.bl false,D.bl false,D.bl false,D.bl false]]++[O.lst [D.bl true,D.bl false,D.bl false,D.bl false]]++[O.lst ([D.bl false,D.bl false,D.bl false,D.bl false]++[D.bl true,D.bl false,D.bl false,D.bl false])]++[O.lst oJ]):=by
  unfold kh
  dsimp only
  rw [m4]
  dsimp only
  rw [LL ⟨rfl,by decide,rfl⟩]
  rfl
 have e3:vD (.obj (μ++[O.lst [D.bl false,D.bl false,D.bl false,D.bl false]]++[O.lst [D.bl true,D.bl false,D.bl false,D.bl false]]).length) (μ++[O.lst [D.bl false,D.bl false,D.bl false,D.bl false]]++[O.lst [D.bl true,D.bl false,D.bl false,D.bl false]]++[O.lst ([D.bl false,D.bl false,D.bl false,D.bl false]++[D.bl true,D.bl false,D.bl false,D.bl false])])=true:=by unfold vD;dsimp only;rw [m3]
 have e4:vD (.obj (μ++[O.lst [D.bl false,D.bl false,D.bl false,D.bl false]]++[O.lst [D.bl true,D.bl false,D.bl false,D.bl false]]).length) (μ++[O.lst [D.bl false,D.bl false,D.bl false,D.bl false]]++[O.lst [D.bl true,D.bl false,D.bl false,D.bl false]]++[O.lst ([D.bl false,D.bl false,D.bl false,D.bl false]++[D.bl true,D.bl false,D.bl false,D.bl false])]++[O.lst oJ])=true:=by unfold vD;dsimp only;rw [m4]
 unfold dE
 rw [cb]
 simp only [j9,List.replicate,aO,bc,cW,au,ax,gZ,ah,aa,v3 h bK,bK,jU]
 rw [LL (show [D.bl false,D.bl false,D.bl false,D.bl false].length<=sizeLine from l4)]
 simp only [ae]
 rw [show ak 1 (D.obj μ.length) [some (D.obj n),none] (μ++[O.lst [D.bl false,D.bl false,D.bl false,D.bl false]])=.ok [some (D.obj n),some (D.obj μ.length)] (μ++[O.lst [D.bl false,D.bl false,D.bl false,D.bl false]]) from rfl]
 simp only [ae,aJ,aO,bc,aH,cW,au,ax,gZ,ah,ao,aa,v3 h1 bK,bK,jU]
 rw [LL (show [D.bl true,D.bl false,D.bl false,D.bl false].length<=sizeLine from l4)]
 simp only [aa]
 rw [a1]
 simp only [ae]
 rw [show ak 1 (D.obj (μ++[O.lst [D.bl false,D.bl false,D.bl false,D.bl false]]++[O.lst [D.bl true,D.bl false,D.bl false,D.bl false]]).length) [some (D.obj n),some (D.obj μ.length)] (μ++[O.lst [D.bl false,D.bl false,D.bl false,D.bl false]]++[O.lst [D.bl true,D.bl false,D.bl false,D.bl false]]++[O.lst ([D.bl false,D.bl false,D.bl false,D.bl false]++[D.bl true,D.bl false,D.bl false,D.bl false])])=.ok [some (D.obj n),some (D.obj (μ++[O.lst [D.bl false,D.bl false,D.bl false,D.bl false]]++[O.lst [D.bl true,D.bl false,D.bl false,D.bl false]]).length)] (μ++[O.lst [D.bl false,D.bl false,D.bl false,D.bl false]]++[O.lst [D.bl true,D.bl false,D.bl false,D.bl false]]++[O.lst ([D.bl false,D.bl false,D.bl false,D.bl false]++[D.bl true,D.bl false,D.bl false,D.bl false])]) from rfl]
 simp only [ae,aJ,aO,cm,jH,dJ,dX,gZ,aH,au,ax,ah,ao,bf,aa,v3 h3 bK,bK,jU,cx,OG,NT,Nd]
 unfold nj
 simp only [aH,t6,au,ax,ah,ao,bf,aa,e3,Nf,c1,iW,ba]
 rw [show (!((1:Int) == 1))=false from rfl]
 simp only [ae,NT,Nd,cf,aJ,aW,aH,cW,au,ax,bf,aa]
 rw [LL (show [D.str "place",D.str "number",D.str "line",D.str "root",D.str "tree",D.str "web",D.str "text",D.str "great"].length<=sizeLine from l8)]
 simp only [aa,t6,au,ax,ao,ah,bf,e4,Nf,i1]
 rw [fJ (xs:=oJ) (d:=.str "tree") k4 rfl]
 simp only [ae,aM,NK]
 exact dU (by simp)
section
variable {m m':Nat}{ks ks':List (List Int)}{d e:D}{μ:aw}
theorem n8 {r:D} (h:bz [d,e] μ=.ok r μ) (hr:r.low μ.length):bX [d,e] μ=.ok r μ:=by
 unfold bX
 rw [b9]
 simp only [jZ,List.replicate]
 unfold zR
 rw [show d9 [some d,some e,none] μ=.ret r μ from by
  simp only [d9,aW,aD,au,ax,ah,ao,aa,h,ae]]
 dsimp only
 rw [aM]
 exact aA hr
theorem sm (h:bz [d,e] μ=.exc ⟨"NoTree",[]⟩ μ):bX [d,e] μ=.ok (.str "tree") μ:=by
 unfold bX
 rw [b9]
 simp only [jZ,List.replicate]
 unfold zR
 rw [show d9 [some d,some e,none] μ=.exc ⟨"NoTree",[]⟩ μ from by
  simp only [d9,aW,aD,au,ax,ah,ao,aa,h,kY]]
 dsimp only
 rw [LL bK]
 rw [show iF ((List.replicate 3 none).set 2 (some (D.obj μ.length))) (μ++[O.exc "NoTree"])=.ret (.str "tree") (μ++[O.exc "NoTree"]) from by
  simp only [iF,aW,aD,au,ax,List.replicate,List.set,ao,ah,aa,pW (μ:=μ++[O.exc "NoTree"]) (n:=μ.length) ay,ae]]
 show qe μ (.ok (.str "tree") (μ++[O.exc "NoTree"]))=_
 exact dU (by simp)
theorem DH (m6:m<=6):∃ x,∀ μ,kQ [vB m ks m' ks'] μ=.ok (.str x) μ:=by
 unfold vB
 by_cases e:m=m'
 ·rw [LL e]
  unfold CF
  cases eg:bq m ks ks' m with
  | nil=>exact ⟨_,fun μ=>rfl⟩
  | cons y r=>
   have Hy:=hG (m:=m) (ks:=ks) (ks':=ks') (k:=m) (w:=y) (by rw [eg];exact LY)
   exact ⟨_,fun μ=>DG (fun p hp=>by have:=Hy.rng p hp;omega) (by rw [Hy.len];omega)⟩
 ·rw [LM e]
  exact ⟨_,fun μ=>rfl⟩
theorem HC {a0 a1 a2 a5 a6 a7:Option D} (T:eV m ks) (T':eV m' ks'):oy [a0,a1,a2,some (aG m ks),some (aG m' ks'),a5,a6,a7] μ=.next [a0,a1,a2,some (aG m ks),some (aG m' ks'),a5,a6,a7] μ:=by
 obtain ⟨x,hx⟩:=DH (m':=m') (ks:=ks) (ks':=ks') T.gw.m6
 unfold oy
 simp only [cm,eR,aH,aD,au,ax,ao,ah,aa,n8 (lM T T') si,hx,yz T.gw T'.gw,LA,OG,ba,ae,NT,Nd,cf]
def Kp (P:Nat) (M M':aw):Prop:=(∃ a b c,M'[P]?=some (bL a b c))/\∀ j o,P≠j->M[j]?=some o->M'[j]?=some o
theorem Pn.kp {M M':aw}{P:Nat} (h:Pn M P M') (hP:P<M.length):Kp P M M':=by
 refine ⟨h.get hP,fun j o ne e=>?_⟩
 obtain ⟨a,b,c,g,rfl⟩:=h
 exact aK (by rw [Mb ne];exact e)
theorem Kp.app {M M' g:aw}{P:Nat} (h:Kp P M M'):Kp P M (M'++g):=⟨by obtain ⟨a,b,c,e⟩:=h.1;exact ⟨a,b,c,aK e⟩,fun j o ne e=>aK (h.2 j o ne e)⟩
theorem Kp.trans {M M1 M2:aw}{P:Nat} (h:Kp P M M1) (h':Kp P M1 M2):Kp P M M2:=⟨h'.1,fun j o ne e=>h'.2 j o ne (h.2 j o ne e)⟩
theorem KU {M:aw}{t:Nat} (ht:M[t]?=some (.lst [.str "tree"])):kr (.obj t) (.int 3) M=.ok (.obj M.length) (M++[.lst ((["tree", "tree", "tree"]:List Str).map D.str)]):=by
 unfold kr
 dsimp only
 rw [ht]
 dsimp only
 rw [LL ⟨by decide,by decide,by show 3<=sizeLine;exact LV (by decide) bG⟩]
 rfl
theorem A6:∀ x∈(["tree", "tree", "tree"]:List Str),IA x:=fun x hx=>by
 simp only [L4,O3,O4] at hx
 rcases hx with rfl|rfl|rfl <;> exact Ee (by decide)
theorem HB {P:Nat}{a b c:Int}{a0 a1 a4 a5 a6 a7:Option D} (T:eV m ks) (hp:μ[P]?=some (bL a b c)):∃ M' o6 o7,
  lK [a0,a1,some (.obj P),some (aG m ks),a4,a5,a6,a7] μ=.next [a0,a1,some (.obj P),some (aG m ks),a4,a5,o6,o7] M'/\Kp P μ M':=by
 have hP:P<μ.length:=(L8.mp hp).1
 obtain ⟨d,μ',en,Pn',kd,cl⟩:=yv hp T
 have kp:=Pn'.kp hP
 have n1:0+1<=sizeLine:=l1
 have n3:0+1+1+1<=sizeLine:=LV (by decide) bG
 have tw:=so (μ:=μ') T
 have two:(∃ m' ks',d=aG m' ks'/\eV m' ks')\/(bo [d] μ'=.ok (.bl false) μ'/\∀ g,aU [d] (μ'++g)=.ok (.bl false) (μ'++g)):=by
  rcases cl with ⟨m',ks',rfl,g⟩ | o
  ·by_cases t : eV m' ks'
   ·exact .inl ⟨m',ks',rfl,t⟩
   ·refine .inr ⟨A8 g t, fun g' => ?_⟩
    obtain ⟨b,eb,hb⟩:=AK (μ:=μ'++g') g
    cases b with
    | false=>exact eb
    | true=>exact absurd (hb.mp rfl) t
  ·exact .inr ⟨Jo kd (Eg o),fun g'=>Hq o (oh g' kd) T.len T.gw.m6⟩
 rcases two with ⟨m',ks',rfl,T'⟩ | ⟨tn,li⟩
 ·let M2 : aw := μ' ++ [O.lst [vB m' ks' m ks, vB m ks m' ks', vB m' ks' m' ks']]
  obtain ⟨b,eb,hb⟩:=AK (μ:=M2) T'.gw
  rw [hb.mpr T'] at eb
  refine ⟨M2,some (aG m' ks'),some (.obj μ'.length),?_,kp.app⟩
  unfold lK
  rw [aO,bc]
  simp only [aD,au,ax,ao,ah,aa,en,ae,bW,aJ,P9,Qa]
  rw [aO,bc]
  simp only [cW,aD,au,ax,ao,ah,aa,n8 (lM T' T) si,n8 (lM T T') si,n8 (lM T' T') si,NU,Ob,LL n3,ae,bW,aJ,P9,Qa]
  simp only [cm,om,dJ,dX,aD,au,ax,ao,ah,aa]
  rw [show aU [aG m' ks'] (μ'++[O.lst [vB m' ks' m ks,vB m ks m' ks',vB m' ks' m' ks']])=.ok (.bl true) M2 from eb]
  simp only [aa,cx,OG,NT,Nd,ae,cf]
 ·let M2 : aw := μ' ++ [O.lst ((["tree", "tree", "tree"] : List Str).map D.str)]
  let M3:aw:=M2++[O.lst [.str "tree"]]
  let M4:aw:=M3++[O.lst ((["tree", "tree", "tree"]:List Str).map D.str)]
  have eb:=li [O.lst ((["tree", "tree", "tree"]:List Str).map D.str)]
  refine ⟨M4,some d,some (.obj μ'.length),?_,kp.app.app.app⟩
  unfold lK
  rw [aO,bc]
  simp only [aD,au,ax,ao,ah,aa,en,ae,bW,aJ,P9,Qa]
  rw [aO,bc]
  simp only [cW,aD,au,ax,ao,ah,aa,sm (A4 (e:=aG m ks) tn),sm (Iz tw tn),sm (A4 (e:=d) tn),NU,Ob,LL n3,ae,bW,aJ,P9,Qa]
  simp only [cm,om,dJ,dX,aD,au,ax,ao,ah,aa]
  rw [show aU [d] (μ'++[O.lst [.str "tree",.str "tree",.str "tree"]])=.ok (.bl false) M2 from eb]
  simp only [aa,cx,OQ,Nf,eR,aH,cW,au,ax,ao,ah,bf,NU,Ob,LL n1]
  rw [show kr (.obj M2.length) (.int 3) (M2++[O.lst [.str "tree"]])=.ok (.obj M3.length) M4 from KU ay]
  simp only [aa]
  rw [EO (M:=M4) (a:=μ'.length) (b:=M3.length) A6 (aK (aK ay)) ay]
  simp only [aa,ba,ae,NT,Nd,cf]
end
theorem Dn {μ:aw}{ns:List Int}:∃ x:Int,dF [.frz (ns.map D.int),.int 0] μ=.ok (.int x) μ:=by
 unfold dF
 rw [b9]
 cases ns with
 | nil=>
  refine ⟨0,?_⟩
  simp only [h7,Nx,List.replicate,aO,cm,eR,aH,ao,ah,aD,au,ax,xU,Ob,aa,gG]
  rw [show cU .Lt 0 ((0:Nat):Int)=false from rfl]
  simp only [ba,ae,NT,Nd,cf,aJ,aW,bf,aM]
  exact aA (by simp)
 | cons x r=>
  refine ⟨x,?_⟩
  simp only [h7,Ny,List.replicate,aO,cm,eR,aH,ao,ah,aD,au,ax,xU,NU,aa,gG]
  rw [show cU .Lt 0 (((r.map D.int).length+1:Nat):Int)=true from NQ (by omega)]
  simp only [ba,ae,Nf,aW,aH,ao,ah,aa]
  rw [Ij nr]
  simp only [ae,g6,aM]
  exact aA (by simp)
theorem uK {m:Nat}{ks:List (List Int)}{P:Nat}{a0 a1 a4:Option D} (T:eV m ks) {all:List D}:∀ (ds:List D) (a5 a6 a7:Option D) (M:aw) (a b c:Int),M[P]?=some (bL a b c) ->
  ∃ (M':aw) (b5 b6 b7:Option D),ic (.fix all) (ak 5) lK ds [a0,a1,some (.obj P),some (aG m ks),a4,a5,a6,a7] M=.next [a0,a1,some (.obj P),some (aG m ks),a4,b5,b6,b7] M'/\Kp P M M'
 | [],a5,a6,a7,M,a,b,c,hp=>by
  refine ⟨M,a5,a6,a7,?_,⟨_,_,_,hp⟩,fun _ _ _ e=>e⟩
  unfold ic
  rw [LL (show cG (.fix all) M from trivial)]
 | d::ds,a5,a6,a7,M,a,b,c,hp=>by
  obtain ⟨M1,o6,o7,e,k⟩:=HB (a0:=a0) (a1:=a1) (a4:=a4) (a5:=some d) (a6:=a6) (a7:=a7) T hp
  obtain ⟨qa,qb,qc,hq⟩:=k.1
  obtain ⟨M2,b5,b6,b7,e',k'⟩:=uK T (all:=all) ds (some d) o6 o7 M1 qa qb qc hq
  refine ⟨M2,b5,b6,b7,?_,k.trans k'⟩
  unfold ic
  rw [LL (show cG (.fix all) M from trivial)]
  simp only [bW,ae,P9,Qa]
  rw [e]
  show ic _ _ _ _ _ _=_
  rw [e']
theorem rf {m:Nat}{ks:List (List Int)}{t:Nat}{a0 a1 a2 a5 a6 a7:Option D}{M:aw}{all:List D} (T:eV m ks) (ht:M[t]?=some (.lst all)):∀ (ds:List D) (a4:Option D),(∀ d∈ds,∃ m' ks',d=aG m' ks'/\eV m' ks') ->
  ∃ b4,ic (.own t all) (ak 4) oy ds [a0,a1,a2,some (aG m ks),a4,a5,a6,a7] M=.next [a0,a1,a2,some (aG m ks),b4,a5,a6,a7] M
 | [],a4,_=>⟨a4,by unfold ic;rw [LL (show cG (.own t all) M from ht)]⟩
 | d::ds,a4,h=>by
  obtain ⟨m',ks',rfl,T'⟩:=h d LY
  obtain ⟨b4,e⟩:=rf (a0:=a0) (a1:=a1) (a2:=a2) (a5:=a5) (a6:=a6) (a7:=a7) T ht ds (some (aG m' ks')) fun x hx=>h x (LZ _ hx)
  refine ⟨b4,?_⟩
  unfold ic
  rw [LL (show cG (.own t all) M from ht)]
  simp only [bW,ae,P9,Qa]
  rw [HC T T']
  exact e
theorem Eo {M:aw}{x:Int}{a0 a2 a3 a4 a5 a6 a7:Option D}:∃ (M':aw) (b2 b3 b4 b5 b6 b7:Option D),
  ou [a0,some (.int x),a2,a3,a4,a5,a6,a7] M=.next [a0,some (.int x),b2,b3,b4,b5,b6,b7] M'/\∀ (j:Nat) (o:O),M[j]?=some o->M'[j]?=some o:=by
 obtain ⟨a,b,c,ep⟩:=Gq (μ:=M) x
 have sl:∀ a b c a' b' c':Int,(M++[bL a b c]).set M.length (bL a' b' c')=M++[bL a' b' c']:=fun _ _ _ _ _ _=>jK
 obtain ⟨m,ks,a1,b1,c1,T,ew⟩:=qP (μ:=M++[bL a b c]) (i:=M.length) ay
 rw [sl] at ew
 have m0:=T.gw.m0
 have m6:=T.gw.m6
 obtain ⟨ns,a2',b2',c2',n1,n2,n3,n4⟩:=uo (μ:=M++[bL a1 b1 c1]) (i:=M.length) (m:=(m:Int)) ay (by omega) (by omega)
 rw [sl] at n4
 have N:tL m ns:=⟨n1,by omega,n3⟩
 obtain ⟨m',ks',a3',b3',c3',T',ew'⟩:=qP (μ:=M++[bL a2' b2' c2']) (i:=M.length) ay
 rw [sl] at ew'
 let M3:aw:=M++[bL a3' b3' c3']
 let ws:List D:=[aG m (ml ks ns),aG m' ks',aG m ks]
 let M4:aw:=M3++[O.lst ws]
 have hp4:M4[M.length]?=some (bL a3' b3' c3'):=aK ay
 obtain ⟨b4,e4⟩:=rf (M:=M4) (t:=M3.length) (all:=ws) (a0:=a0) (a1:=some (.int x)) (a2:=some (.obj M.length)) (a5:=a5) (a6:=a6) (a7:=a7) T ay ws a4 (by
  intro d hd
  simp only [ws,L4,O3,O4] at hd
  rcases hd with rfl|rfl|rfl
  ·exact ⟨_,_,rfl,ux N T⟩
  ·exact ⟨_,_,rfl,T'⟩
  ·exact ⟨_,_,rfl,T⟩)
 obtain ⟨M5,b5,b6,b7,e5,k5⟩:=uK (a0:=a0) (a1:=some (.int x)) (a4:=b4) T (all:=bx 0 3) (bx 0 3) a5 a6 a7 M4 _ _ _ hp4
 refine ⟨M5,some (.obj M.length),some (aG m ks),b4,b5,b6,b7,?_,fun j o e=>k5.2 j o (by have:=(L8.mp e).1;omega) (aK (aK e))⟩
 have n3':0+1+1+1<=sizeLine:=LV (by decide) bG
 unfold ou
 rw [aO,bc]
 simp only [aD,au,ax,ao,ah,aa,ep,ae,bW,P9,Qa,aJ]
 rw [aO,bc]
 simp only [aD,au,ax,ao,ah,aa,ew,ae,bW,P9,Qa,aJ]
 rw [aO,gq]
 have el:fC (ag (aE bN (ag (ai 3) (ag (aE bE (ag (ai 2) (ag (aC cq (ai 3) (cC (.int 0))) (aB)))) (aB)))) (ag (aE cc (ag (ai 2) (aB))) (ag (ai 3) (aB)))) [a0,some (.int x),some (.obj M.length),some (aG m ks),a4,a5,a6,a7] (M++[bL a1 b1 c1])=.ok (.obj M3.length) M4:=by
  simp only [cW,aD,au,ax,aH,ao,ah,bf,aa,du]
  rw [n4]
  simp only [aa]
  rw [show bN [aG m ks,.tup (ns.map D.int)] (M++[bL a2' b2' c2'])=.ok (aG m (ml ks ns)) (M++[bL a2' b2' c2']) from yw T.gw N]
  simp only [aa,ew',NU,Ob,LL n3']
  rfl
 rw [cX,el,aa,gE (show M4[M3.length]?=some (.lst ws) from ay),ae,dN,e4,aJ]
 rw [gq]
 simp only [dv,au,ax,bf,aa]
 rw [gF (by decide) (by decide)]
 simp only [ae,bh]
 exact e5
theorem Gr (ns:List Int):∃ μ',ui [.frz (ns.map D.int)] []=.ok (.bl true) μ':=by
 obtain ⟨x0,ex0⟩:=Dn (μ:=[]) (ns:=ns)
 obtain ⟨xs,hxs,hxl⟩:∃ xs:List Int,jy (ns.map D.int) (some 1) (some 5)=xs.map D.int/\xs.length<=6:=by
  refine ⟨(ns.drop (HT.sIx ns.length 0 (some 1))).take (HT.sIx ns.length ns.length (some 5) - HT.sIx ns.length 0 (some 1)),?_,?_⟩
  ·unfold jy
   rw [MY,Os,Ot]
  ·rw [MM]
   have h6:HT.sIx ns.length ns.length (some 5)=min 5 ns.length:=HT.sIx_nat _ _ 5
   omega
 obtain ⟨L,hL⟩:∃ L:List Int,L=x0::xs:=⟨_,rfl⟩
 let M5:aw:=([O.lst [.int x0]]++[O.lst (xs.map D.int)])++[O.lst (L.map D.int)]
 have h5:M5[2]?=some (.lst (L.map D.int)):=rfl
 obtain ⟨ρ3,M6,_,run3⟩:=fR (src:=.own 2 (L.map D.int)) (g:=ak 1) (fb:=ou)
  (fun zs ρ μ=>μ[2]?=some (O.lst (L.map D.int))/\(∃ rs:List Int,zs=rs.map D.int)/\∃ o0 o1 o2 o3 o4 o5 o6 o7,ρ=[o0,o1,o2,o3,o4,o5,o6,o7])
  (fun ρ μ hJJ=>hJJ.1)
  (fun x r ρ μ hJJ => by
   obtain ⟨h2,⟨rs,er⟩,o0,o1,o2,o3,o4,o5,o6,o7,eρ⟩:=hJJ
   subst eρ
   cases rs with
   | nil=>cases er
   | cons y rs=>
    injection er with ex er
    subst ex er
    obtain ⟨M',b2,b3,b4,b5,b6,b7,e1,e2⟩:=Eo (M:=μ) (x:=y) (a0:=o0) (a2:=o2) (a3:=o3) (a4:=o4) (a5:=o5) (a6:=o6) (a7:=o7)
    exact ⟨h2,_,μ,_,_,rfl,e1,e2 2 _ h2,⟨rs,rfl⟩,_,_,_,_,_,_,_,_,rfl⟩)
  (xs:=L.map D.int) (ρ:=[some (.frz (ns.map D.int)),none,none,none,none,none,none,none]) (μ:=M5)
  ⟨h5,⟨L,rfl⟩,_,_,_,_,_,_,_,_,rfl⟩
 have hend:∃ μ',qe [] (.ok (.bl true) M6)=.ok (.bl true) μ':=by
  rcases AU (μ:=[]) (d:=.bl true) (μ':=M6) with e | ⟨e,_⟩ <;> exact ⟨_,e⟩
 obtain ⟨μ',hend⟩:=hend
 refine ⟨μ',?_⟩
 unfold ui
 rw [cb]
 unfold FC
 have l1:([.int x0]:List D).length<=sizeLine:=by show 1<=sizeLine;decide
 have sl:∀ μ,EZ (.frz (ns.map D.int)) (some 1) (some 5) μ=.ok (.obj μ.length) (μ++[.lst (xs.map D.int)]):=fun μ=>by
  unfold EZ;dsimp only;rw [hxs]
 have ad:cH (.obj 0) (.obj 1) ([O.lst [.int x0]]++[O.lst (xs.map D.int)])=.ok (.obj 2) M5:=by
  have:=x4 (μ:=[O.lst [.int x0]]++[O.lst (xs.map D.int)]) (a:=0) (b:=1) rfl rfl (show ([.int x0]:List D).length+(xs.map D.int).length<=1000000 by rw [MY];simp only [NU,Ob];omega)
  rw [this]
  simp only [M5,hL]
  rfl
 simp only [List.replicate]
 rw [aO,gq,cX,aH,cW,au,aD,au,ah,aa,au,bf,aa,ax,aa,aa,aa,ex0,aa,ax,aa,aa]
 simp only [LL l1,aa,Fu,ah,uY,bf,AY]
 rw [sl,aa]
 rw [show cH (.obj ([]:aw).length) (.obj (([]:aw)++[O.lst [.int x0]]).length) (([]:aw)++[O.lst [.int x0]]++[O.lst (xs.map D.int)])=_ from ad]
 rw [aa,gE h5,ae,dN,run3,aJ,aW,bf,ae,aM]
 exact hend
end Lw
namespace Lw
open PySem PySem.Spec PyProof.Rows L2 RS
theorem bT (P:Params) (f:Addr) (n m:Str) (t:Tok) (c:Addr) (st:Stmt) (l:(Kz P).lookup f=some (fo n st m t c)) (q:W.codeIn (Kz P) (.ref c) n=true):gk (Kz P) n n st f (W.fnOf n n (dM st) (bQ st) (av st) .none .none .none (.str m t) none (.ref c) .none):=Ib l q (by unfold W.keepIn;dsimp only;rw [l];rfl)
theorem Iy {l:W.OpenLaw}{w:World}{h:Heap}{mg:Str->Option Value}{fa:Addr} (X:(Kz w.params).In h) (G:h.Ns mainGlobals mg) (hfa:mg "law" = some (.ref fa)) :
  ∃ fd:FuncData,(∀ (s:Shared) (v:Value),BindsTo s fd ⟨[v],[]⟩ [("_law_script",v)])/\∀ base:Heap,(Kz w.params).In base->base.Ns mainGlobals mg->oD l.prog w (Kz w.params) mg base vG 13 fa fd ["_law_script"] (Cv (dH (Kz w.params) w) 1 ui):=by
 have e:=hfa.symm.trans (W.mg_of X G (v:=.ref 366) (by kernel_rfl))
 cases e
 have nm:Nm mg:=⟨W.mg_none_of X G (by kernel_rfl),W.mg_none_of X G (by kernel_rfl),W.mg_none_of X G (by kernel_rfl),W.mg_none_of X G (by kernel_rfl),W.mg_none_of X G (by kernel_rfl),W.mg_none_of X G (by kernel_rfl),W.mg_none_of X G (by kernel_rfl),W.mg_none_of X G (by kernel_rfl),W.mg_none_of X G (by kernel_rfl),W.mg_none_of X G (by kernel_rfl),W.mg_none_of X G (by kernel_rfl),W.mg_none_of X G (by kernel_rfl),W.mg_none_of X G (by kernel_rfl),W.mg_none_of X G (by kernel_rfl)⟩
 have c_MOST_PLACES:=W.mg_of X G (n:="MOST_PLACES") (v:=(.int 6 404)) (by kernel_rfl)
 have F:=bT w.params 366 "law" "law_rootwebs_k36_alike_trees" 493 365 kN (by kernel_rfl) (by kernel_rfl)
 refine ⟨W.fnOf "law" "law" (dM kN) (bQ kN) (av kN) .none .none .none (.str "law_rootwebs_k36_alike_trees" 493) none (.ref 365) .none,fun s v=>.of_eq rfl,fun base Xb Gb=>?_⟩
 have d_is_whole:=vg (P:=l.prog) (w:=w) (base:=base)  nm (bT w.params 151 "is_whole" "rootwebs.kinds" 364 150 ir (by kernel_rfl) (by kernel_rfl)) (W.mg_of X G (by kernel_rfl))
 have d_is_whole_from:=m7 (P:=l.prog) (w:=w) (base:=base)  nm (bT w.params 158 "is_whole_from" "rootwebs.kinds" 364 157 dO (by kernel_rfl) (by kernel_rfl)) (W.mg_of X G (by kernel_rfl)) d_is_whole
 have d_is_place:=vh (P:=l.prog) (w:=w) (base:=base)  nm (bT w.params 165 "is_place" "rootwebs.kinds" 364 164 iu (by kernel_rfl) (by kernel_rfl)) (W.mg_of X G (by kernel_rfl)) d_is_whole_from
 have d_is_places:=sX (P:=l.prog) (w:=w) (base:=base)  nm (bT w.params 170 "is_places" "rootwebs.kinds" 364 169 eZ (by kernel_rfl) (by kernel_rfl)) (W.mg_of X G (by kernel_rfl)) d_is_place
 have d_is_rising:=sW (P:=l.prog) (w:=w) (base:=base)  nm (bT w.params 175 "is_rising" "rootwebs.kinds" 364 174 eY (by kernel_rfl) (by kernel_rfl)) (W.mg_of X G (by kernel_rfl))
 have d_is_many:=wH (P:=l.prog) (w:=w) (base:=base)  nm (bT w.params 189 "is_many" "rootwebs.webs" 402 188 i6 (by kernel_rfl) (by kernel_rfl)) (W.mg_of X G (by kernel_rfl)) ⟨_,c_MOST_PLACES⟩ d_is_whole_from
 have d_is_pair:=wG (P:=l.prog) (w:=w) (base:=base)  nm (bT w.params 208 "is_pair" "rootwebs.webs" 402 207 i4 (by kernel_rfl) (by kernel_rfl)) (W.mg_of X G (by kernel_rfl)) d_is_places
 have d_is_tie:=yX (P:=l.prog) (w:=w) (base:=base)  nm (bT w.params 201 "is_tie" "rootwebs.webs" 402 200 kj (by kernel_rfl) (by kernel_rfl)) (W.mg_of X G (by kernel_rfl)) d_is_pair
 have d_is_ties:=wD (P:=l.prog) (w:=w) (base:=base)  nm (bT w.params 194 "is_ties" "rootwebs.webs" 402 193 hX (by kernel_rfl) (by kernel_rfl)) (W.mg_of X G (by kernel_rfl)) d_is_tie d_is_rising
 have d_web_good:=vf (P:=l.prog) (w:=w) (base:=base)  nm (bT w.params 182 "web_good" "rootwebs.webs" 402 181 iq (by kernel_rfl) (by kernel_rfl)) (W.mg_of X G (by kernel_rfl)) d_is_many d_is_ties
 have d_is_tied:=wF (P:=l.prog) (w:=w) (base:=base)  nm (bT w.params 215 "is_tied" "rootwebs.webs" 402 214 i3 (by kernel_rfl) (by kernel_rfl)) (W.mg_of X G (by kernel_rfl))
 have d_next_places:=pY (P:=l.prog) (w:=w) (base:=base)  nm (bT w.params 225 "next_places" "rootwebs.webs" 402 224 cL (by kernel_rfl) (by kernel_rfl)) (W.mg_of X G (by kernel_rfl))
 have d_fars_from:=sY (P:=l.prog) (w:=w) (base:=base)  nm (bT w.params 220 "fars_from" "rootwebs.webs" 402 219 e9 (by kernel_rfl) (by kernel_rfl)) (W.mg_of X G (by kernel_rfl)) d_next_places
 have d_tree_good:=sV (P:=l.prog) (w:=w) (base:=base)  nm (bT w.params 232 "tree_good" "rootwebs.trees" 465 231 gK (by kernel_rfl) (by kernel_rfl)) (W.mg_of X G (by kernel_rfl)) d_web_good d_fars_from
 have d_check_tree:=qu (P:=l.prog) (w:=w) (base:=base) (a_NoTree:=85) nm (bT w.params 239 "check_tree" "rootwebs.trees" 465 238 fT (by kernel_rfl) (by kernel_rfl)) (W.mg_of X G (by kernel_rfl)) (by kernel_rfl) (yh.of (nm:="NoTree") (q:="NoTree") (N:=84) (bs:=[(.ref 24)]) (bm:=[(.ref 24),(.type "ValueError"),(.type "Exception"),(.type "BaseException"),(.type "object")]) (hd:=true) (sn:=[]) (sub:=[]) (ab:=false) (col:=none) (dd:=none) (k0:=some (.ref 76)) (k1:=none) (k2:=some (.str "NoTree" 271)) (k3:=some (.str "NoTree" 279)) (k5:=some (.bool true)) Xb Gb (by kernel_rfl) (by kernel_rfl) (by kernel_rfl) (by kernel_rfl) (by kernel_rfl)) d_tree_good
 have d_keeps_last:=qt (P:=l.prog) (w:=w) (base:=base)  nm (bT w.params 249 "keeps_last" "rootwebs.trees" 465 248 d5 (by kernel_rfl) (by kernel_rfl)) (W.mg_of X G (by kernel_rfl)) d_is_tied
 have d_alike_trees:=pZ (P:=l.prog) (w:=w) (base:=base)  nm (bT w.params 244 "alike_trees" "rootwebs.trees" 465 243 cM (by kernel_rfl) (by kernel_rfl)) (W.mg_of X G (by kernel_rfl)) d_check_tree d_keeps_last
 have d__law_cell_at:=nU (P:=l.prog) (w:=w) (base:=base)  nm (bT w.params 256 "_law_cell_at" "law_rootwebs_k36_alike_trees" 493 255 eE (by kernel_rfl) (by kernel_rfl)) (W.mg_of X G (by kernel_rfl))
 have d__law_next:=tj (P:=l.prog) (w:=w) (base:=base)  nm (bT w.params 263 "_law_next" "law_rootwebs_k36_alike_trees" 493 262 gN (by kernel_rfl) (by kernel_rfl)) (W.mg_of X G (by kernel_rfl))
 have d__law_pen_of:=p6 (P:=l.prog) (w:=w) (base:=base)  nm (bT w.params 270 "_law_pen_of" "law_rootwebs_k36_alike_trees" 493 269 fj (by kernel_rfl) (by kernel_rfl)) (W.mg_of X G (by kernel_rfl))
 have d__law_draw:=tm (P:=l.prog) (w:=w) (base:=base)  nm (bT w.params 277 "_law_draw" "law_rootwebs_k36_alike_trees" 493 276 gO (by kernel_rfl) (by kernel_rfl)) (W.mg_of X G (by kernel_rfl)) d__law_next
 have d__law_whole:=qv (P:=l.prog) (w:=w) (base:=base)  nm (bT w.params 284 "_law_whole" "law_rootwebs_k36_alike_trees" 493 283 fU (by kernel_rfl) (by kernel_rfl)) (W.mg_of X G (by kernel_rfl))
 have d__law_kind_of:=nS (P:=l.prog) (w:=w) (base:=base) (a_NoLine:=61) (a_NoNumber:=49) (a_NoPlace:=37) (a_NoRoot:=73) (a_NoText:=123) (a_NoTree:=85) (a_NoWeb:=104) (a_TooGreat:=142) nm (bT w.params 291 "_law_kind_of" "law_rootwebs_k36_alike_trees" 493 290 eD (by kernel_rfl) (by kernel_rfl)) (W.mg_of X G (by kernel_rfl)) (bC.of (by kernel_rfl)) (bC.of (by kernel_rfl)) (bC.of (by kernel_rfl)) (bC.of (by kernel_rfl)) (bC.of (by kernel_rfl)) (bC.of (by kernel_rfl)) (bC.of (by kernel_rfl)) (bC.of (by kernel_rfl)) (bC.of (by kernel_rfl)) (W.mg_of X G (by kernel_rfl)) (W.mg_of X G (by kernel_rfl)) (W.mg_of X G (by kernel_rfl)) (W.mg_of X G (by kernel_rfl)) (W.mg_of X G (by kernel_rfl)) (W.mg_of X G (by kernel_rfl)) (W.mg_of X G (by kernel_rfl)) (W.mg_of X G (by kernel_rfl))
 have d__law_named:=qw (P:=l.prog) (w:=w) (base:=base)  nm (bT w.params 296 "_law_named" "law_rootwebs_k36_alike_trees" 493 295 dg (by kernel_rfl) (by kernel_rfl)) (W.mg_of X G (by kernel_rfl))
 have d__law_names_by:=m8 (P:=l.prog) (w:=w) (base:=base)  nm (bT w.params 301 "_law_names_by" "law_rootwebs_k36_alike_trees" 493 300 cP (by kernel_rfl) (by kernel_rfl)) (W.mg_of X G (by kernel_rfl)) d__law_draw
 have d__law_far:=vk (P:=l.prog) (w:=w) (base:=base)  nm (bT w.params 306 "_law_far" "law_rootwebs_k36_alike_trees" 493 305 gb (by kernel_rfl) (by kernel_rfl)) (W.mg_of X G (by kernel_rfl))
 have d__law_tree_by:=nQ (P:=l.prog) (w:=w) (base:=base)  nm (bT w.params 328 "_law_tree_by" "law_rootwebs_k36_alike_trees" 493 327 c8 (by kernel_rfl) (by kernel_rfl)) (W.mg_of X G (by kernel_rfl)) d__law_draw d__law_named d__law_names_by
 have d__law_no_tree:=nR (P:=l.prog) (w:=w) (base:=base)  nm (bT w.params 335 "_law_no_tree" "law_rootwebs_k36_alike_trees" 493 334 eC (by kernel_rfl) (by kernel_rfl)) (W.mg_of X G (by kernel_rfl)) d__law_draw
 have d__law_is_tree:=nT (P:=l.prog) (w:=w) (base:=base)  nm (bT w.params 340 "_law_is_tree" "law_rootwebs_k36_alike_trees" 493 339 c9 (by kernel_rfl) (by kernel_rfl)) (W.mg_of X G (by kernel_rfl)) d__law_whole d__law_far
 have d__law_tied:=tf (P:=l.prog) (w:=w) (base:=base)  nm (bT w.params 347 "_law_tied" "law_rootwebs_k36_alike_trees" 493 346 gM (by kernel_rfl) (by kernel_rfl)) (W.mg_of X G (by kernel_rfl))
 have d__law_first:=qx (P:=l.prog) (w:=w) (base:=base)  nm (bT w.params 352 "_law_first" "law_rootwebs_k36_alike_trees" 493 351 d6 (by kernel_rfl) (by kernel_rfl)) (W.mg_of X G (by kernel_rfl)) d__law_tied
 have d__law_told:=sZ (P:=l.prog) (w:=w) (base:=base) (a_RootError:=24) nm (bT w.params 359 "_law_told" "law_rootwebs_k36_alike_trees" 493 358 gL (by kernel_rfl) (by kernel_rfl)) (W.mg_of X G (by kernel_rfl)) (W.mg_of X G (by kernel_rfl)) (ug.of (by kernel_rfl)) d_alike_trees d__law_kind_of
 exact Ig nm F d__law_cell_at d__law_pen_of d__law_tree_by d__law_named d__law_names_by d__law_told d__law_first d__law_no_tree d__law_is_tree
theorem KA {l:W.OpenLaw}{q:Program}{loose:List Str}{XP:(Str->Option Value)->Heap->Prop}{d:DefRec} (hn:l.most=some 63) (hdf:d.params.defaults=[]) (hd:d.name = "law") :
  W.WalkO q loose XP (W.Hook.says Hz) l.row.toRowW d [] (fun f vs=>PySem.call f vs):=
 L2.walk_of (K:=Kz) (n:=63) (k:=13) (x:="_law_script") (CX:=fun _=>vG) (sp:=fun w=>Cv (dH (Kz w.params) w) 1 ui) hn (by decide) hdf ⟨rfl,by decide,by decide,rfl⟩ (fun _ _ Y=>W.kIn_of Y) (fun _ _ _ _ X G e=>Iy X G (hd ▸ e)) (fun w H a ns hl hO hS=>B0 (Gr ns) hO hS) fun _ _ _ _ _ z=>z
end Lw
open PySem PySem.W PyProof.Rows Lw
set_option maxRecDepth 100000 in
set_option maxHeartbeats 0 in
theorem PySem.Challenge.cw_rootwebs_k36_alike_trees_holds : PySem.Challenge.rw_rootwebs_k36_alike_trees.Holds := by
 w_on;refine holds_law FW fun said=>?_
 exact holds_open (Xt:=Xz) (XP:=XL Qz []) (YP:=Hook.says Hz) FX (Hook.of Hz) (Hook.keeps Hz) (fun s e=>xl_of s (Bool.and_eq_true_iff.mp e).1) XL.keeps (by rfl) (by rfl) (by rfl) (fun s e=>recFacts_of (Bool.and_eq_true_iff.mp e).2) (by rfl) said (by decide +kernel) ⟨rfl,rfl,rfl,rfl,rfl,by decide +kernel⟩ (by w_witness2) (KA rfl rfl rfl)
