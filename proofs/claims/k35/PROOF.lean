import PyProof.Rows.All
import Wide.All
import OpenK.AllK
import Wide.FinOn
import PyProof.EqAt
import PyProof.EqKinds
import PyProof.TupleCall
import PyProof.P3In
import PyProof.NeData
import PyProof.ConsumeS
import PyProof.WalksMore
import PyProof.ReprRoads
import PyProof.ReprLen
import PyProof.Draws
import PyProof.EnumMake
import PyProof.EnumFor
import PyProof.CallFns
import PyProof.Rows.CallKwBuiltin
import Lean
import PySem.Challenge.RW_rootwebs_k35_tree_bars
set_option Elab.async false
set_option linter.all false
set_option maxHeartbeats 4000000
set_option maxRecDepth 100000
abbrev LQ:=@PySem.Value.isInt_shape
abbrev LR:=@decide_eq_false
abbrev LS:=@PySem.wpAny_eqBool_int
abbrev LU:=@if_pos
abbrev LV:=@if_neg
abbrev LW:=@Option.some.inj
abbrev LX:=@PySem.Heap.lt_size
abbrev LY:=@Nat.lt_of_lt_of_le
abbrev LZ:=@Nat.lt_irrefl
abbrev L0:=@Nat.ne_of_lt
abbrev L1:=@List.mem_filter
abbrev L4:=@List.mem_range
abbrev L5:=@Nat.le_trans
abbrev L7:=@Nat.le_of_lt
abbrev L9:=@List.filterMap_cons
abbrev Ma:=@List.mem_cons_self
abbrev Mb:=@List.mem_cons_of_mem
abbrev Mc:=@List.mem_cons
abbrev Md:=@Ne.symm
abbrev Me:=@List.mem_append
abbrev Mf:=@List.mem_append_left
abbrev Mg:=@List.getElem?_eq_some_iff
abbrev Mh:=@List.getElem_inj
abbrev Mi:=@List.getElem?_set_self
abbrev Mj:=@List.getElem?_set_ne
abbrev Ml:=@PySem.wpAny_mono
abbrev Mm:=@PySem.wpAny_truthy_bool
abbrev Mn:=@Array.length_toList
abbrev Mo:=@congrArg
abbrev Mp:=@PySem.wpAny_execs_nil
abbrev Mq:=@PySem.wpAny_bind
abbrev Mr:=@PySem.wpAny_holding
abbrev Ms:=@PySem.wpAny_standAt
abbrev Mt:=@PySem.wpAny_passesOwn
abbrev Mu:=@Bool.false_ne_true
abbrev Mv:=@Nat.ne_of_gt
abbrev Mw:=@PySem.wpAny_pure
abbrev Mx:=@PySem.wpAny_load
abbrev My:=@Bool.false_and
abbrev Mz:=@PySem.Heap.get?_push_of_some
abbrev MC:=@PySem.Heap.get?_push_size
abbrev MD:=@Nat.le_refl
abbrev MF:=@PyProof.Rows.callWith_type1
abbrev MH:=@List.mem_filterMap
abbrev MJ:=@List.mem_append_right
abbrev MK:=@PySem.sizeLine_eq
abbrev ML:=@List.size_toArray
abbrev MM:=@List.append_nil
abbrev MN:=@PySem.codeAny_mono
abbrev MP:=@PySem.wpAny_Call_Name_kw
abbrev MQ:=@List.nodup_cons
abbrev MR:=@List.of_mem_zip
abbrev MU:=@Option.isSome_iff_exists
abbrev MV:=@List.length_take
abbrev MW:=@PySem.mem_of_lookup
abbrev MX:=@List.getElem?_append_right
abbrev MY:=@List.getElem?_append_left
abbrev MZ:=@List.getElem?_map
abbrev Na:=@List.mem_of_getElem?
abbrev Nb:=@List.length_append
abbrev Nd:=@List.length_map
abbrev Nf:=@PySem.noFill_tuple_add
abbrev Ng:=@PySem.F.slot_tuple_add
abbrev Nh:=@PySem.F.entry_tuple_add
abbrev Ni:=@PySem.F.args_tuple_add_2
abbrev Nj:=@Int.toNat_natCast
abbrev Nk:=@Nat.min_le_right
abbrev Nl:=@if_false
abbrev Nn:=@if_true
abbrev Np:=@PySem.wpAny_field
abbrev Nq:=@List.length_drop
abbrev Nr:=@PySem.wpAny_callSpecial?_slot
abbrev Nt:=@PyProof.Rows.slot_tuple_getitem
abbrev Nu:=@PySem.wpAny_call_entry
abbrev Nv:=@PySem.wpAny_typeOf
abbrev Nw:=@Bool.and_eq_true
abbrev Nx:=@PySem.wpAny_newObj_type
abbrev Ny:=@List.map_nil
abbrev Nz:=@List.map_cons
abbrev NA:=@PySem.Heap.get?_update_self
abbrev NB:=@List.length_set
abbrev NC:=@List.replicate_succ
abbrev ND:=@List.flatten_cons
abbrev NF:=@Nat.le_succ
abbrev NG:=@List.append_assoc
abbrev NH:=@List.foldl_cons
abbrev NI:=@PySem.call_meets
abbrev NJ:=@List.length_singleton
abbrev NK:=@Array.getElem?_toList
abbrev NL:=@List.nil_append
abbrev NM:=@decide_eq_true
abbrev NN:=@List.lookup_cons
abbrev NO:=@beq_self_eq_true
abbrev NP:=@Bool.false_eq_true
abbrev NQ:=@List.length_cons
abbrev NR:=@Nat.lt_succ_self
abbrev NS:=@Nat.lt_succ_of_lt
abbrev NT:=@PySem.Heap.size_push
abbrev NU:=@PySem.pushCells_keeps
abbrev NV:=@PySem.codeAny_of_tree
abbrev NW:=@PySem.wpAny_askSetting
abbrev NX:=@PySem.wpAny_rule
abbrev NY:=@PySem.wpAny_of_eq
abbrev NZ:=@Nat.zero_le
abbrev N1:=@List.mem_singleton
abbrev N2:=@PySem.F.slot_tuple_iterator_next
abbrev N3:=@PySem.F.entry_tuple_iterator_next
abbrev N4:=@PySem.F.args_tuple_iterator_next_1
abbrev N5:=@PySem.wpAny_seqItems
abbrev N6:=@PySem.Heap.SameBut.update
abbrev N7:=@PySem.wpAny_pyIter_tuple
abbrev N8:=@List.not_mem_nil
abbrev N9:=@or_false
abbrev Oa:=@PySem.Heap.get?_push_ne
abbrev Ob:=@List.range_succ_eq_map
abbrev Oc:=@List.map_map
abbrev Od:=@List.map_congr_left
abbrev Oe:=@List.length_range
abbrev Of:=@List.length_nil
abbrev Og:=@List.cons.inj
abbrev Oh:=@List.cons_append
abbrev Oi:=@Array.getElem?_eq_some_iff
abbrev Oj:=@List.take_of_length_le
abbrev Ol:=@List.mem_map
abbrev Om:=@Classical.byContradiction
abbrev On:=@List.nodup_range
abbrev Oo:=@List.getElem?_of_mem
abbrev Oq:=@List.mem_map_of_mem
abbrev Os:=@List.take_append_drop
abbrev Ot:=@List.pairwise_cons
abbrev Ou:=@List.map_append
abbrev Ov:=@List.map_take
abbrev Ow:=@List.map_drop
abbrev Ox:=@Array.getD_eq_getD_getElem?
abbrev Oy:=@Option.getD_some
abbrev Oz:=@List.getElem?_drop
abbrev OA:=@List.mem_of_mem_take
abbrev OB:=@List.mem_of_mem_drop
abbrev OC:=@List.find?_append
abbrev OD:=@Array.getElem?_eq_none_iff
abbrev OE:=@List.nodup_nil
abbrev OF:=@Nat.sub_self
abbrev OG:=@Nat.zero_add
abbrev OH:=@List.pairwise_lt_range
abbrev OI:=@List.perm_ext_iff_of_nodup
abbrev OJ:=@Array.getElem?_eq_getElem
abbrev OK:=@List.all_eq_true
abbrev OL:=@Int.toNat_of_nonneg
abbrev OM:=@Bool.not_true
abbrev ON:=@PySem.wpAny_forIn_list
abbrev OO:=@PySem.wpAny_setState_of
abbrev OP:=@Bool.and_self
abbrev OQ:=@Array.mem_toList_iff
abbrev OR:=@List.nodup_append
abbrev OS:=@PySem.wpAny_storeSet_of
abbrev OT:=@PySem.putSet_of
abbrev OU:=@Bool.not_false
abbrev OV:=@Bool.and_false
abbrev OW:=@List.foldl_append
abbrev OX:=@PySem.codeAny_builtin
abbrev OY:=@PySem.Around.under_plainId
abbrev OZ:=@PyProof.Rows.F.plain_set_update_loop
abbrev O0:=@PySem.isSubtype_type
abbrev O1:=@PySem.F.called_set
abbrev O2:=@PySem.Code.quiet_builtin
abbrev O3:=@PySem.wpAny_pyIter_list
abbrev O4:=@PySem.wpAny_runValue
abbrev O5:=@List.take_add_one
abbrev O6:=@Nat.le_add_right
abbrev O7:=@List.take_length
abbrev O8:=@PySem.W.KasT.kasWp_bind
abbrev O9:=@decide_eq_decide
abbrev Pb:=@List.getD_eq_getElem?_getD
abbrev Pc:=@List.ext_getElem?
abbrev Pd:=@List.getElem?_range
abbrev Pe:=@List.getElem?_eq_none
abbrev Pf:=@List.pairwise_map
abbrev Pg:=@PyProof.Rows.listUpdate_at
abbrev Ph:=@PyProof.Rows.get?_update_seq
abbrev Pi:=@PySem.wpAny_newList
abbrev Pj:=@PyProof.Rows.size_push'
abbrev Pk:=@PySem.Heap.size_update
abbrev Pl:=@PySem.Heap.get?_update_ne
abbrev Pm:=@bne_self_eq_false
abbrev Po:=@List.getElem_mem
abbrev Pp:=@List.getElem?_eq_getElem
abbrev Pq:=@Nat.add_sub_cancel
abbrev Pr:=@PySem.wpAny_setEntries_of
abbrev Pt:=@PySem.wpAny_setField_rec
abbrev Pu:=@PySem.Calls.call_function_entry
abbrev Pv:=@PyProof.Rows.entry_list_sort
abbrev Pw:=@List.getElem_of_mem
abbrev Px:=@of_eq_true
abbrev Py:=@eq_self
abbrev Pz:=@List.getElem?_cons_succ
abbrev PB:=@List.drop_eq_getElem_cons
abbrev PD:=@List.drop_length
abbrev PF:=@decide_eq_true_eq
abbrev PH:=@List.eq_nil_of_length_eq_zero
abbrev PJ:=@List.all_cons
abbrev PL:=@List.all_map
abbrev PM:=@List.filter_congr
abbrev PN:=@Int.le_antisymm
abbrev PQ:=@List.length_pos_iff
abbrev PR:=@Int.le_refl
abbrev PU:=@Bool.or_eq_true
abbrev PV:=@List.take_append_of_le_length
abbrev PX:=@List.filter_cons
abbrev PY:=@PySem.F.slot_list_iadd
abbrev PZ:=@PySem.PassesOwn.never
abbrev Qa:=@List.mem_flatMap
abbrev Qb:=@List.length_filter_le
abbrev Qc:=@List.flatMap_cons
abbrev Qd:=@Nat.mul_le_mul_right
abbrev Qe:=@List.dropLast_concat_getLast
abbrev Qf:=@Bool.and_true
abbrev Qg:=@Bool.eq_iff_iff
abbrev Qh:=@beq_iff_eq
abbrev Qi:=@Int.min_eq_left
abbrev Qj:=@Int.max_eq_right
abbrev Qk:=@Int.min_eq_right
abbrev Ql:=@Int.max_eq_left
abbrev Qm:=@Int.emod_nonneg
abbrev Qn:=@Int.emod_lt_of_pos
abbrev Qo:=@List.set_cons_succ
abbrev Qp:=@List.set_cons_zero
abbrev Qq:=@List.set_set
abbrev Qr:=@List.filter_eq_self
abbrev Qs:=@List.filter_map
abbrev Qt:=@List.range_succ
abbrev Qu:=@List.flatMap_append
abbrev Qv:=@List.flatMap_nil
abbrev Qw:=@Bool.true_and
abbrev Qx:=@List.any_map
abbrev Qy:=@List.any_eq_true
abbrev QA:=@of_decide_eq_true
abbrev QB:=@Bool.eq_false_iff
abbrev QC:=@List.filter_append
abbrev QD:=@List.filter_nil
namespace L2
open PySem PySem.Spec PyProof.Rows
abbrev uR:=Sum Int Str
def Gq:uR->Value->Bool
 | .inl k,v=>Value.isInt k v
 | .inr x,v=>Value.isStrOf x v
def K7 (w:World):uR->Int
 | .inl k=>hashInt k
 | .inr x=>hashStr w x
theorem dc:∀ {k:uR}{v:Value},Gq k v=true->(∃ i t,k=Sum.inl i/\v=Value.int i t)\/(∃ x t,k=Sum.inr x/\v=Value.str x t)
 | .inl i,v,h=>by
  obtain ⟨t,e⟩:=LQ (k:=i) (v:=v) h
  exact .inl ⟨i,t,rfl,e⟩
 | .inr x,v,h=>by
  obtain ⟨t,e⟩:=Value.isStrOf_shape (x:=x) (v:=v) h
  exact .inr ⟨x,t,rfl,e⟩
theorem IC (a b:Int):decide ((Sum.inl a:uR)=Sum.inl b)=(a == b):=by
 by_cases e:a=b
 ·subst e;simp
 ·have h : ¬ (Sum.inl a : uR) = Sum.inl b := fun q => e (Sum.inl.inj q)
  rw [LR h]
  exact (beq_eq_false_iff_ne.mpr e).symm
theorem Iy (a b:Str):decide ((Sum.inr a:uR)=Sum.inr b)=decide (a=b):=by
 by_cases e:a=b
 ·subst e;simp
 ·have h : ¬ (Sum.inr a : uR) = Sum.inr b := fun q => e (Sum.inr.inj q)
  rw [LR h,LR e]
theorem IA (a:Int) (b:Str):decide ((Sum.inl a:uR)=Sum.inr b)=false:=LR (fun q=>nomatch q)
theorem Iz (a:Str) (b:Int):decide ((Sum.inr a:uR)=Sum.inl b)=false:=LR (fun q=>nomatch q)
def vd (prog:Program) (w:World):PySem.KeyKind prog w uR where
 is:=Gq
 hash:=K7 w
 inj:=fun v a b ha hb=>by
  rcases dc ha with ⟨i,t,rfl,rfl⟩ | ⟨x,t,rfl,rfl⟩
  ·rcases dc hb with ⟨j, u, rfl, e⟩ | ⟨y, u, rfl, e⟩
   ·injection e with e1 _;rw [e1]
   ·exact nomatch e
  ·rcases dc hb with ⟨j, u, rfl, e⟩ | ⟨y, u, rfl, e⟩
   ·exact nomatch e
   ·injection e with e1 _;rw [e1]
 byValue:=fun k v h=>by
  rcases dc h with ⟨i,t,rfl,rfl⟩ | ⟨x,t,rfl,rfl⟩ <;> rfl
 pyHash:=fun hv h=>by
  rcases dc hv with ⟨i,t,rfl,rfl⟩ | ⟨x,t,rfl,rfl⟩
  ·exact wpAny_pyHash_int h
  ·exact wpAny_pyHash_str h
 eqBool:=fun hu hv h=>by
  rcases dc hu with ⟨i,t,rfl,rfl⟩ | ⟨x,t,rfl,rfl⟩
  ·rcases dc hv with ⟨j, u, rfl, rfl⟩ | ⟨y, u, rfl, rfl⟩
   ·rw [IC] at h;exact LS h
   ·rw [IA] at h;exact SeqAt.EqAt.int_str i t y u _ _ _ _ h
  ·rcases dc hv with ⟨j, u, rfl, rfl⟩ | ⟨y, u, rfl, rfl⟩
   ·rw [Iz] at h;exact SeqAt.EqAt.str_int x t j u _ _ _ _ h
   ·rw [Iy] at h;exact wpAny_eqBool_str h
 «strs»:=fun k x t v h=>by
  rcases dc h with ⟨i,u,rfl,e⟩ | ⟨y,u,rfl,e⟩
  ·exact nomatch e
  ·injection e with e1 _
   subst e1
   cases v <;> rfl
end L2
namespace L2
open PySem PySem.Spec PyProof.Rows
inductive V where
 | non | bl (b:Bool) | int (i:Int) | str (x:Str) | byt (b:Array UInt8) | flt (b:UInt64) | ref (a:Addr) | ty (n:String)
 deriving DecidableEq
def cM:V->Value->Prop
 | .non,u=>u=Value.none
 | .bl b,u=>u=Value.bool b
 | .int i,u=>∃ t,u=Value.int i t
 | .str x,u=>∃ t,u=Value.str x t
 | .byt b,u=>∃ t,u=Value.bytes b t
 | .flt b,u=>∃ t,u=Value.float b t
 | .ref a,u=>u=Value.ref a
 | .ty n,u=>u=Value.type n
abbrev bx:List V->List Value->Prop:=Paired cM
theorem bx.length {xs:List V}{us:List Value} (r:bx xs us):xs.length=us.length:=Paired.length r
theorem bx.get:∀ {xs:List V}{us:List Value}{i:Nat}{x:V},bx xs us->xs[i]?=some x->∃ u,us[i]?=some u/\cM x u
 | _,_,_,_,.nil,e=>by simp at e
 | _,_,0,_,.cons r _,e=>by simp at e;subst e;exact ⟨_,rfl,r⟩
 | _,_,i+1,x,.cons _ t,e=>by
  obtain ⟨u,h1,h2⟩:=bx.get (i:=i) (x:=x) t (by simpa using e)
  exact ⟨u,by simpa using h1,h2⟩
theorem bx.set {x:V}{u:Value} (r:cM x u):∀ {xs:List V}{us:List Value} (i:Nat),bx xs us->bx (xs.set i x) (us.set i u)
 | _,_,_,.nil=>.nil
 | _,_,0,.cons _ t=>.cons r t
 | _,_,i+1,.cons q t=>.cons q (bx.set r i t)
theorem bx.append:∀ {xs ys:List V}{us ws:List Value},bx xs us->bx ys ws->bx (xs++ys) (us++ws)
 | _,_,_,_,.nil,s=>s
 | _,_,_,_,.cons r t,s=>.cons r (bx.append t s)
theorem bx.take:∀ {xs:List V}{us:List Value} (n:Nat),bx xs us->bx (xs.take n) (us.take n)
 | _,_,0,_=>.nil
 | _,_,_+1,.nil=>.nil
 | _,_,n+1,.cons r t=>.cons r (bx.take n t)
theorem bx.drop:∀ {xs:List V}{us:List Value} (n:Nat),bx xs us->bx (xs.drop n) (us.drop n)
 | _,_,0,r=>r
 | _,_,_+1,.nil=>.nil
 | _,_,n+1,.cons _ t=>bx.drop n t
def JB:Option V->Option Value->Prop
 | some v,some u=>cM v u
 | none,none=>True
 | _,_=>False
def KV {κ:Type}:List (κ × V)->List (κ × Value)->Prop:=Paired fun (p:κ × V) (q:κ × Value)=>p.1=q.1/\cM p.2 q.2
def kV:uR->V
 | .inl i=>.int i
 | .inr x=>.str x
inductive HO where
 | lst (xs:List V)
 | tup (xs:List V)
 | dK (kvs:List (uR × V)) | dT (kvs:List (List uR × V))
 | set (S:Int->Bool) (n:Nat)
 | ins (C dx:Addr) (fs:List (Str × V))
 | own (x:Addr)
 | xd (fs:List (Str × V))
 | met (f x:Addr)
 | rng (lo hi:Int)
 | frz (o:Obj) (u:HO)
 | tbl (ps:Array Value)
 | ext (φ:Heap->Prop)
abbrev Hp:=Addr->Option HO
def dk (H:Hp) (a:Addr) (o:HO):Hp:=fun b=>if b=a then some o else H b
theorem dy {H:Hp}{a:Addr}{o:HO}:dk H a o a=some o:=by unfold dk;rw [LU rfl]
theorem cu {H:Hp}{a b:Addr}{o:HO} (h:b≠a):dk H a o b=H b:=by unfold dk;rw [LV h]
theorem BW {H:Hp}{a b:Addr}{o u:HO} (h:H a=some o) (h':H b=some u) (d:o≠u):a≠b:=by
 intro e;subst e;rw [h] at h';exact d (LW h')
theorem eK {H:Hp}{a b:Addr}{o:HO} (h:H a=some o) (h':H b=none):a≠b:=by
 intro e;subst e;rw [h] at h';cases h'
section
variable (P:Program) (w:World)
def gq (H:Hp) (h:Heap) (a:Addr):HO->Prop
 | .lst xs=>xs.length<=sizeLine/\∃ (its:List Value) (n:Nat),bx xs its/\h.get? a=some { cls:=.type "list",data:=.seq its.toArray n }
 | .tup xs=>xs.length<=sizeLine/\∃ its:List Value,bx xs its/\IsTup h a its.toArray
 | .dK kvs=>kvs.length<=sizeLine/\(a == sysModules)=false/\∃ vs,KV kvs vs/\h.DictOf (vd P w) a vs
 | .dT kvs=>kvs.length<=sizeLine/\(a == sysModules)=false/\∃ xs:List (List uR × Addr × Value),
   Paired (fun (p:List uR × V) (q:List uR × Addr × Value)=>p.1=q.1/\H q.2.1=some (.tup (p.1.map kV))/\cM p.2 q.2.2) kvs xs /\
   ∃ o es ep,h.get? a=some o/\o.ExactDict/\o.data=.dict es ep/\es.toList=xs.map (entryOfKey (tupleKind (vd P w)))/\(xs.map (·.1)).Nodup
 | .set S n=>h.SetOf (intKind P w) a S n
 | .ins C dx fs=>H dx=some (.own a)/\fs.length<=1000/\dx≠a/\h.get? a=some (W.instObj C dx) /\
   ∃ mA,h.Ns1 dx mA/\(∀ f,JB (fs.lookup f) (mA f))/\PySem.Within mA (fs.map (·.1))
 | .own _=>∃ o,h.get? a=some o
 | .xd fs=>∃ mA,h.Ns1 a mA/\∀ f,JB (fs.lookup f) (mA f)
 | .rng lo hi=>∃ t u v,h.get? a=some { cls:=.type "range",data:=.fields #[.int lo t,.int hi u,.int 1 v] }
 | .frz o u=>h.get? a=some o/\gq H h a u
 | .tbl ps=>h.get? a=some { cls:=.none,data:=.fields ps }
 | .met f x=>h.get? a=some (W.methodObj (.ref f) (.ref x))
 | .ext φ=>φ h/\(∃ o,h.get? a=some o)/\∀ h1 h2:Heap,φ h1->(∀ o,h1.get? a=some o->h2.get? a=some o)->φ h2
def qN (H:Hp) (h:Heap):Prop:=∀ a o,H a=some o->gq P w H h a o
end
section
variable {P:Program}{w:World}{H H':Hp}{h h':Heap}{a:Addr}{o:HO}
theorem gq.lt (x:gq P w H h a o):a<h.objs.size:=by
 cases o with
 | lst xs=>obtain ⟨_,_,_,_,e⟩:=x;exact LX e
 | tup xs=>obtain ⟨_,_,_,p⟩:=x;exact p.lt
 | dK kvs=>obtain ⟨_,_,_,_,o,_,_,e,_⟩:=x;exact LX e
 | dT kvs=>obtain ⟨_,_,_,_,o,_,_,e,_⟩:=x;exact LX e
 | set S n=>obtain ⟨o,_,_,_,e,_⟩:=x;exact LX e
 | ins C dx fs=>obtain ⟨_,_,_,e,_⟩:=x;exact LX e
 | own y=>obtain ⟨_,e⟩:=x;exact LX e
 | xd fs=>obtain ⟨_,⟨_,_,_,e,_⟩,_⟩:=x;exact LX e
 | rng lo hi=>obtain ⟨_,_,_,e⟩:=x;exact LX e
 | frz ob u=>obtain ⟨e,_⟩:=x;exact LX e
 | tbl ps=>exact LX (show h.get? a=some _ from x)
 | met f y=>exact LX (show h.get? a=some _ from x)
 | ext φ=>obtain ⟨_,⟨_,e⟩,_⟩:=x;exact LX e
theorem p4 {α β:Type}{F G:α->β->Prop}:∀ {l₁:List α}{l₂:List β},Paired F l₁ l₂->(∀ a b,F a b->G a b)->Paired G l₁ l₂
 | _,_,.nil,_=>.nil
 | _,_,.cons r t,f=>.cons (f _ _ r) (p4 t f)
theorem gq.stay (x:gq P w H h a o) (k:∀ b u,(b=a\/H b=some (.own a))->h.get? b=some u->h'.get? b=some u)
  (ho:∀ b,H b=some (.own a)->H' b=some (.own a)) (ht:∀ b xs,H b=some (.tup xs)->H' b=some (.tup xs)):gq P w H' h' a o:=by
 induction o with
 | lst xs=>obtain ⟨z,its,n,r,e⟩:=x;exact ⟨z,its,n,r,k _ _ (.inl rfl) e⟩
 | tup xs=>obtain ⟨z,its,r,ob,e,c⟩:=x;exact ⟨z,its,r,ob,k _ _ (.inl rfl) e,c⟩
 | dK kvs=>obtain ⟨z,y,vs,r,ob,es,ep,e,c⟩:=x;exact ⟨z,y,vs,r,ob,es,ep,k _ _ (.inl rfl) e,c⟩
 | dT kvs=>
  obtain ⟨z,y,xs,r,ob,es,ep,e,c⟩:=x
  exact ⟨z,y,xs,p4 r fun p q z=>⟨z.1,ht _ _ z.2.1,z.2.2⟩,ob,es,ep,k _ _ (.inl rfl) e,c⟩
 | set S n=>obtain ⟨ob,es,ep,t,e,c⟩:=x;exact ⟨ob,es,ep,t,k _ _ (.inl rfl) e,c⟩
 | ins C dx fs=>
  obtain ⟨d,z,ne,e,mA,⟨od,es,ep,e2,c⟩,r⟩:=x
  exact ⟨ho _ d,z,ne,k _ _ (.inl rfl) e,mA,⟨od,es,ep,k _ _ (.inr d) e2,c⟩,r⟩
 | own y=>obtain ⟨ob,e⟩:=x;exact ⟨ob,k _ _ (.inl rfl) e⟩
 | xd fs=>obtain ⟨mA,⟨od,es,ep,e,c⟩,r⟩:=x;exact ⟨mA,⟨od,es,ep,k _ _ (.inl rfl) e,c⟩,r⟩
 | rng lo hi=>obtain ⟨t,u,v,e⟩:=x;exact ⟨t,u,v,k _ _ (.inl rfl) e⟩
 | frz ob u ih=>obtain ⟨e,q⟩:=x;exact ⟨k _ _ (.inl rfl) e,ih q⟩
 | tbl ps=>
  have e:h.get? a=some { cls:=.none,data:=.fields ps }:=x
  show h'.get? a=some { cls:=.none,data:=.fields ps }
  exact k a _ (.inl rfl) e
 | met f y=>
  have e:h.get? a=some (W.methodObj (.ref f) (.ref y)):=x
  show h'.get? a=some (W.methodObj (.ref f) (.ref y))
  exact k a _ (.inl rfl) e
 | ext φ=>obtain ⟨p,⟨o,e⟩,st⟩:=x;exact ⟨st _ _ p fun o q=>k _ _ (.inl rfl) q,⟨o,k _ _ (.inl rfl) e⟩,st⟩
theorem qN.lt (x:qN P w H h) (e:H a=some o):a<h.objs.size:=(x a o e).lt
theorem qN.fresh (x:qN P w H h) (e:h.objs.size<=a):H a=none:=by
 cases q:H a with
 | none=>rfl
 | some u=>exact absurd (LY (x.lt q) e) (LZ _)
theorem qN.kept (x:qN P w H h) (k:∀ b u,h.get? b=some u->h'.get? b=some u):qN P w H h':=fun a o e=>
 (x a o e).stay (fun b u _ q=>k b u q) (fun _ q=>q) fun _ _ q=>q
theorem qN.laid (x:qN P w H h) (k:∀ b u,h.get? b=some u->h'.get? b=some u) (hp:h.objs.size<=a) (new:gq P w (dk H a o) h' a o):qN P w (dk H a o) h':=fun b u e=>by
 have hn:=x.fresh hp
 by_cases hb:b=a
 ·subst hb;rw [dy] at e;cases e;exact new
 ·rw [cu hb] at e
  exact (x b u e).stay (fun c v _ q=>k c v q) (fun c q=>by rw [cu (eK q hn)];exact q) fun c xs q=>by rw [cu (eK q hn)];exact q
end
def Rd (H:Hp) (a:Addr) (u:HO):Prop:=H a=some u\/∃ o,H a=some (.frz o u)
theorem Rd.ok {P:Program}{w:World}{H:Hp}{h:Heap}{a:Addr}{u:HO} (r:Rd H a u) (x:qN P w H h):gq P w H h a u:=by
 rcases r with r | ⟨o,r⟩
 ·exact x a u r
 ·obtain ⟨_, q⟩ := x a _ r
  exact q
def Ky:Option HO->Prop
 | some (.lst _)=>True
 | some (.dK _)=>True
 | some (.dT _)=>True
 | some (.set _ _)=>True
 | some (.ins _ _ _)=>True
 | some (.ext _)=>True
 | _=>False
section
variable {P:Program}{w:World}{H:Hp}{h h':Heap}{x e:Addr}{o':HO}
theorem qN.write (ok:qN P w H h) (mu:Ky (H x)) (he:e=x\/H e=some (.own x)) (k:∀ b u,b≠e->h.get? b=some u->h'.get? b=some u) (heo:∃ u,h'.get? e=some u)
  (new:gq P w (dk H x o') h' x o'):qN P w (dk H x o') h':=fun b u q=>by
 have nown:∀ c y,H c=some (.own y)->c≠x:=fun c y r z=>by subst z;rw [r] at mu;exact mu
 have ntup:∀ c xs,H c=some (.tup xs)->c≠x:=fun c xs r z=>by subst z;rw [r] at mu;exact mu
 by_cases hb:b=x
 ·subst hb;rw [dy] at q;cases q;exact new
 ·rw [cu hb] at q
  by_cases hbe:b=e
  ·have q':H b=some (.own x):=by
    rcases he with z | z
    ·exact absurd (hbe.trans z) hb
    ·rw [hbe];exact z
   rw [q] at q';cases q'
   obtain ⟨v,hv⟩:=heo
   exact ⟨v,by rw [hbe];exact hv⟩
  ·refine (ok b u q).stay (fun c v hc r => k c v ?_ r) (fun c r => by rw [cu (nown c b r)]; exact r) fun c xs r => by rw [cu (ntup c xs r)]; exact r
   rcases hc with rfl | hc
   ·exact hbe
   ·rintro rfl
    rcases he with z | z
    ·exact nown c b hc z
    ·rw [hc] at z;cases z;exact hb rfl
end
structure Un (fs ex:List Addr) (H H':Hp) (h h':Heap):Prop where
 keep:∀ b o,h.get? b=some o->H b=none->b ∉ fs->b ∉ ex->h'.get? b=some o
 slot:∀ b o,h.get? b=some o->H b=none->b∈fs->b ∉ ex->∃ sl,h'.get? b=some { o with slots:=sl }
 free:∀ b o,h.get? b=some o->H b=none->b ∉ ex->H' b=none
 there:∀ b o,h.get? b=some o->b ∉ ex->∃ o',h'.get? b=some o'
 tups:∀ b xs,H b=some (.tup xs)->H' b=some (.tup xs)
 frzs:∀ b o u,H b=some (.frz o u)->H' b=some (.frz o u)
 tbls:∀ b ps,H b=some (.tbl ps)->∃ more,H' b=some (.tbl (ps++more))
section
variable {fs fs' ex ex':List Addr}{H H1 H2:Hp}{h h1 h2 h':Heap}{a x e:Addr}{o:HO}
theorem Un.any (u:Un fs ex H H1 h h1) {b:Addr}{ob:Obj} (q:h.get? b=some ob) (n:H b=none) (hx:b ∉ ex):∃ sl,h1.get? b=some { ob with slots:=sl }:=by
 by_cases hb:b∈fs
 ·exact u.slot b ob q n hb hx
 ·exact ⟨ob.slots,u.keep b ob q n hb hx⟩
theorem Un.kept (k:∀ b u,h.get? b=some u->h'.get? b=some u):Un fs ex H H h h':=
 ⟨fun b ob q _ _ _=>k b ob q,fun b ob q _ _ _=>⟨ob.slots,k b ob q⟩,fun _ _ _ n _=>n,fun b ob q _=>⟨ob,k b ob q⟩,fun _ _ q=>q,fun _ _ _ q=>q,fun _ ps q=>⟨#[],by rw [q];simp⟩⟩
theorem Un.refl:Un fs ex H H h h:=Un.kept fun _ _ q=>q
theorem Un.laid (k:∀ b u,h.get? b=some u->h'.get? b=some u) (hp:h.objs.size<=a) (hn:H a=none):Un fs ex H (dk H a o) h h' where
 keep:=fun b u q _ _ _=>k b u q
 slot:=fun b u q _ _ _=>⟨u.slots,k b u q⟩
 free:=fun b u q n _=>by rw [cu (L0 (LY (LX q) hp))];exact n
 there:=fun b u q _=>⟨u,k b u q⟩
 tups:=fun b xs q=>by rw [cu (eK q hn)];exact q
 frzs:=fun b u xs q=>by rw [cu (eK q hn)];exact q
 tbls:=fun b ps q=>⟨#[],by rw [cu (eK q hn),q];simp⟩
theorem Un.write (mu:Ky (H x)) (he:e=x\/H e=some (.own x)) (k:∀ b u,b≠e->h.get? b=some u->h'.get? b=some u) (heo:∃ u,h'.get? e=some u):Un fs ex H (dk H x o) h h':=by
 have hx:∀ b,H b=none->b≠x:=fun b n z=>by subst z;rw [n] at mu;exact mu
 have hb:∀ b,H b=none->b≠e:=fun b n z=>by
  subst z
  rcases he with r | r
  ·exact hx b n r
  ·rw [n] at r;cases r
 have hm:∀ b u,H b=some u->¬ Ky (some u)->b≠x:=fun b u q nm z=>by subst z;rw [q] at mu;exact nm mu
 refine ⟨fun b u q n _ _=>k b u (hb b n) q,fun b u q n _ _=>⟨u.slots,k b u (hb b n) q⟩,fun b u q n _=>by rw [cu (hx b n)];exact n,fun b u q _=>?_,
  fun b xs q=>by rw [cu (hm b _ q fun z=>z)];exact q,fun b u xs q=>by rw [cu (hm b _ q fun z=>z)];exact q,fun b ps q=>⟨#[],by rw [cu (hm b _ q fun z=>z),q];simp⟩⟩
 by_cases hbe:b=e
 ·subst hbe;exact heo
 ·exact ⟨u,k b u hbe q⟩
end
def Kn (h:Heap) (H:Hp):List Addr:=(List.range h.objs.size).filter fun a=>(H a).isSome
def uS (h:Heap) (H:Hp):Heap:=W.hideAll h (Kn h H)
theorem A1 (h:Heap) (H:Hp):(uS h H).objs.size=h.objs.size:=W.hideAll_size _ _
theorem Dv {h:Heap}{H:Hp}{b:Addr}{o:Obj} (e:h.get? b=some o) (n:H b=none):(uS h H).get? b=some o:=
 W.hideAll_get _ e fun hm=>by
  have q:(H b).isSome=true:=(L1.mp hm).2
  rw [n] at q;simp at q
theorem Fj {h:Heap}{H:Hp}{b:Addr}{o:Obj} (e:(uS h H).get? b=some o):h.get? b=some o/\H b=none:=by
 have e':h.get? b=some o:=W.of_hideAll (Kn h H) e
 refine ⟨e',?_⟩
 cases q:H b with
 | none=>rfl
 | some x=>
  have hm:b∈Kn h H:=L1.mpr ⟨L4.mpr (LX e'),by simp [q]⟩
  have z:(uS h H).get? b=none:=W.hideAll_none (Kn h H) hm
  rw [z] at e;cases e
end L2
namespace L2
open PySem PySem.Spec PyProof.Rows
structure Mod (K:W.Frag) (mg:Str->Option Value) (base:Heap):Prop where
 kin:K.In base
 glob:base.Ns mainGlobals mg
 blt:∃ mb,base.Ns builtinsNs mb/\∀ x:Str,x ≠ "__name__" -> mb x=bootBuiltins x
 nolimit:base.NoLimit
structure Cx where
 prog:Program
 w:World
 K:W.Frag
 mg:Str->Option Value
 base:Heap
 A:Around
 N:List Str
 s₀:Shared
 H₀:Hp
 env:Env
 outer:List Env
 stack:List Env
 ex:List Addr
 fn:Str->Bool
 calm:Bool
 pn:List (Addr × Obj)
 xe:Value->Shared->Prop
def Bu (l:List Env):List Addr:=l.filterMap (·.frame)
abbrev Cx.fs (X:Cx):List Addr:=Bu X.outer
def Kv (sc:Scope) (x:Str):Prop:=sc.names.lookup x=some .local\/sc.names.lookup x=some .cell\/sc.names.lookup x=some .free
def Bv (sc:Scope) (x:Str):Prop:=sc.names.lookup x=some .local\/sc.names.lookup x=some .cell
def Ln (env:Env) (h:Heap) (m:Str->Option Value) (x:Str) (u:Value):Prop:=
 (env.kindOf x=some .local/\m x=some u)\/((env.kindOf x=some .cell\/env.kindOf x=some .free)/\∃ c,env.cells.lookup x=some c/\h.IsCell c (some u))
structure Cx.Ok (X:Cx):Prop where
 mod:Mod X.K X.mg X.base
 kind:X.env.scope.kind=.function
 glob:X.env.globals=mainGlobals
 blt:X.env.builtins=builtinsNs
 above:X.s₀.heap.objs.size<=X.env.locals
 inj:∀ x y c,X.env.cells.lookup x=some c->X.env.cells.lookup y=some c->x=y
 has:∀ x,(X.env.kindOf x=some .cell\/X.env.kindOf x=some .free)->∃ c,X.env.cells.lookup x=some c
 cab:∀ x c,X.fn x=true->X.env.cells.lookup x=some c->X.s₀.heap.objs.size<=c
 hd:X.calm=true->X.A.handled=none
 frames:X.A.frames=some X.stack
 stk:X.stack=X.outer\/(X.stack=X.env::X.outer/\X.env.frame=some X.env.locals)
 exf:∀ b∈X.ex,b≠X.env.locals/\∀ x c,X.env.cells.lookup x=some c->c≠b
 bs:∀ b o,X.base.get? b=some o->X.s₀.heap.get? b=some o/\X.H₀ b=none
 bsz:X.base.objs.size<=X.s₀.heap.objs.size
 noex:∀ b o,X.base.get? b=some o->b ∉ X.ex
 exfs:∀ b∈X.ex,b ∉ X.fs
 funs:X.s₀.heap.FunFrames X.base X.outer
 frf:∀ b∈X.fs,X.H₀ b=none
structure bc (X:Cx) (pins:List (Addr × Obj)) (σ:List (Option V)) (H:Hp) (s:Shared):Prop where
 ok:X.Ok
 os:s.os=X.s₀.os
 bare:AllBare s.gens
 base:Un X.fs X.ex X.H₀ H X.s₀.heap s.heap
 loc:∃ m,s.heap.Ns X.env.locals m/\∀ (i:Nat) (x:Str) (v:V),X.N[i]?=some x->σ[i]?=some (some v)->Kv X.env.scope x->∃ u,cM v u/\Ln X.env s.heap m x u
 cell:∀ x c,X.env.cells.lookup x=some c->∃ v,s.heap.IsCell c v
 free:H X.env.locals=none
 freeC:∀ x c,X.env.cells.lookup x=some c->H c=none
 pin:∀ p∈X.pn++pins,s.heap.get? p.1=some p.2/\H p.1=none/\p.1≠X.env.locals/\p.1 ∉ X.fs/\∀ v,p.2.data≠.cell v
 hok:qN X.prog X.w H s.heap
 len:σ.length=X.N.length
section
variable {X:Cx}{pins:List (Addr × Obj)}{σ:List (Option V)}{H H':Hp}{s:Shared}{h':Heap}
theorem Cx.Ok.nofr (ok:X.Ok) {b:Addr}{o:Obj} (e:X.base.get? b=some o):b ∉ X.fs:=fun hb=>by
 have:=(ok.funs.mem hb).1
 rw [e] at this;cases this
theorem bc.bs (I:bc X pins σ H s):∀ b o,X.base.get? b=some o->s.heap.get? b=some o/\H b=none:=fun b o e=>
 ⟨I.base.keep b o (I.ok.bs b o e).1 (I.ok.bs b o e).2 (I.ok.nofr e) (I.ok.noex b o e),I.base.free b o (I.ok.bs b o e).1 (I.ok.bs b o e).2 (I.ok.noex b o e)⟩
theorem bc.bk (I:bc X pins σ H s):∀ b o,X.base.get? b=some o->s.heap.get? b=some o:=fun b o e=>(I.bs b o e).1
theorem bc.mod (I:bc X pins σ H s):Mod X.K X.mg X.base:=I.ok.mod
theorem bc.kIn (I:bc X pins σ H s):X.K.In s.heap:=I.ok.mod.kin.keeps I.bk
theorem bc.lt (I:bc X pins σ H s):X.env.locals<s.heap.objs.size:=let ⟨_,hn,_⟩:=I.loc;hn.lt
theorem bc.sz (I:bc X pins σ H s):X.s₀.heap.objs.size<=s.heap.objs.size:=L5 I.ok.above (L7 I.lt)
theorem bc.nofs (I:bc X pins σ H s) {a:Addr} (h:s.heap.objs.size<=a):a ∉ X.fs:=fun hb=>by
 obtain ⟨_,o,ho,_⟩:=I.ok.funs.mem hb
 exact absurd (LY (LX ho) (L5 I.sz h)) (LZ _)
theorem bc.cne (I:bc X pins σ H s):∀ x c,X.env.cells.lookup x=some c->c≠X.env.locals:=fun x c e z=>by
 obtain ⟨v,o,ho,hd⟩:=I.cell x c e
 obtain ⟨m,⟨o',es,ep,ho',hd',_⟩,_⟩:=I.loc
 rw [z,ho'] at ho;cases ho;rw [hd'] at hd;cases hd
theorem bc.funs (I:bc X pins σ H s):s.heap.FunFrames X.base X.outer:=by
 have all:∀ (l:List Env),(∀ b∈Bu l,b∈X.fs)->X.s₀.heap.FunFrames X.base l->s.heap.FunFrames X.base l:=by
  intro l
  induction l with
  | nil=>intro _ _;trivial
  | cons env r ih=>
   intro hs hl
   obtain ⟨hk,⟨L,o,hf,hn,ho,hd⟩,hr⟩:=hl
   have hL:L∈X.fs:=hs L (by unfold Bu;rw [L9,hf];exact Ma)
   obtain ⟨sl,e⟩:=I.base.slot L o ho (I.ok.frf L hL) hL fun z=>I.ok.exfs L z hL
   exact ⟨hk,⟨L,_,hf,hn,e,hd⟩,ih (fun b hb=>hs b (by unfold Bu;rw [L9,hf];exact Mb _ hb)) hr⟩
 exact all X.outer (fun _ hb=>hb) I.ok.funs
theorem bc.stack (I:bc X pins σ H s):s.heap.FunFrames X.base X.stack:=by
 rcases I.ok.stk with e | ⟨e,hf⟩
 ·rw [e];exact I.funs
 ·rw [e]
  obtain ⟨m,hn,_⟩:=I.loc
  refine .cons (by rw [I.ok.kind];decide) hf hn ?_ I.funs
  exact Heap.get?_none_of_le (L5 I.ok.bsz I.ok.above)
theorem bc.stkSub (I:bc X pins σ H s):∀ b∈Bu X.stack,b∈X.env.locals::X.fs:=fun b hb=>by
 rcases I.ok.stk with e | ⟨e,hf⟩
 ·rw [e] at hb;exact Mb _ hb
 ·rw [e] at hb
  unfold Bu at hb
  rw [L9,hf] at hb
  exact hb
theorem bc.stkFree (I:bc X pins σ H s):∀ b∈Bu X.stack,H b=none:=fun b hb=>by
 rcases Mc.mp (I.stkSub b hb) with e | hb
 ·rw [e];exact I.free
 ·obtain ⟨_, o, ho, _⟩ := I.ok.funs.mem hb
  exact I.base.free b o ho (I.ok.frf b hb) fun z=>I.ok.exfs b z hb
theorem bc.step {g':Array GenState}{t':Nat}{d':Drawn}{ch:List Addr} (I:bc X pins σ H s)
  (hch:∀ b∈ch,(b∈X.ex\/X.s₀.heap.objs.size<=b)/\b≠X.env.locals/\(∀ x c,X.env.cells.lookup x=some c->c≠b)/\∀ p∈X.pn++pins,p.1≠b)
  (keep:∀ b o,b≠X.env.locals->b ∉ X.fs->b ∉ ch->s.heap.get? b=some o->H b=none->h'.get? b=some o)
  (slot:∀ b o,b≠X.env.locals->b∈X.fs->b ∉ ch->s.heap.get? b=some o->H b=none->∃ sl,h'.get? b=some { o with slots:=sl }) (free:∀ b o,b ∉ ch->s.heap.get? b=some o->H b=none->H' b=none)
  (there:∀ b o,b ∉ ch->s.heap.get? b=some o->∃ o',h'.get? b=some o')
  (tups:∀ b xs,H b=some (.tup xs)->H' b=some (.tup xs)) (frzs:∀ b o u,H b=some (.frz o u)->H' b=some (.frz o u)) (tbls:∀ b ps,H b=some (.tbl ps)->∃ more,H' b=some (.tbl (ps++more)))
  (ns:∀ m,s.heap.Ns X.env.locals m->h'.Ns X.env.locals m) (hok:qN X.prog X.w H' h') (hg:AllBare g') :
  bc X pins σ H' { s with heap:=h',gens:=g',drawn:=d',toks:=t' }:=by
 have neL:∀ b o,X.s₀.heap.get? b=some o->b≠X.env.locals:=fun b o e=>L0 (LY (LX e) I.ok.above)
 have neC:∀ b o,X.s₀.heap.get? b=some o->b ∉ X.ex->b ∉ ch:=fun b o e hx hb=>by
  rcases (hch b hb).1 with z | z
  ·exact hx z
  ·exact absurd (LY (LX e) z) (LZ _)
 have cellK:∀ x c,X.env.cells.lookup x=some c->∀ v,s.heap.IsCell c v->h'.IsCell c v:=fun x c e v ⟨o,ho,hd⟩=>by
  have nch:c ∉ ch:=fun z=>(hch c z).2.2.1 x c e rfl
  by_cases hc:c∈X.fs
  ·obtain ⟨sl, q⟩ := slot c o (I.cne x c e) hc nch ho (I.freeC x c e)
   exact ⟨_,q,hd⟩
  ·exact ⟨o,keep c o (I.cne x c e) hc nch ho (I.freeC x c e),hd⟩
 refine ⟨I.ok,I.os,hg,⟨fun b o e n hb hx=>?_,fun b o e n hb hx=>?_,fun b o e n hx=>?_,fun b o e hx=>?_,fun b xs e=>tups b xs (I.base.tups b xs e),fun b o xs e=>frzs b o xs (I.base.frzs b o xs e),fun b ps e=>?_⟩,?_,fun x c e=>?_,?_,fun x c e=>?_,fun p hp=>?_,hok,I.len⟩
 ·exact keep b o (neL b o e) hb (neC b o e hx) (I.base.keep b o e n hb hx) (I.base.free b o e n hx)
 ·obtain ⟨sl, e1⟩ := I.base.slot b o e n hb hx
  obtain ⟨sl',e2⟩:=slot b _ (neL b o e) hb (neC b o e hx) e1 (I.base.free b o e n hx)
  exact ⟨sl',e2⟩
 ·obtain ⟨o', e1⟩ := I.base.there b o e hx
  exact free b o' (neC b o e hx) e1 (I.base.free b o e n hx)
 ·obtain ⟨o', e1⟩ := I.base.there b o e hx
  exact there b o' (neC b o e hx) e1
 ·obtain ⟨m1, e1⟩ := I.base.tbls b ps e
  obtain ⟨m2,e2⟩:=tbls b _ e1
  exact ⟨m1++m2,by rw [e2,Array.append_assoc]⟩
 ·obtain ⟨m, hn, hl⟩ := I.loc
  refine ⟨m,ns m hn,fun i x v e1 e2 e3=>?_⟩
  obtain ⟨u,r,l⟩:=hl i x v e1 e2 e3
  refine ⟨u,r,?_⟩
  rcases l with l | ⟨k,c,e,z⟩
  ·exact .inl l
  ·exact .inr ⟨k,c,e,cellK x c e _ z⟩
 ·obtain ⟨v, z⟩ := I.cell x c e
  exact ⟨v,cellK x c e v z⟩
 ·obtain ⟨m, ⟨o, _, _, ho, _⟩, _⟩ := I.loc
  exact free _ o (fun z=>(hch _ z).2.1 rfl) ho I.free
 ·obtain ⟨v, o, ho, hd⟩ := I.cell x c e
  exact free c o (fun z=>(hch c z).2.2.1 x c e rfl) ho (I.freeC x c e)
 ·obtain ⟨e, n, ne, nf, d⟩ := I.pin p hp
  have nch:p.1 ∉ ch:=fun z=>(hch p.1 z).2.2.2 p hp rfl
  exact ⟨keep p.1 p.2 ne nf nch e n,free p.1 p.2 nch e n,ne,nf,d⟩
theorem bc.un {t':Nat} (I:bc X pins σ H s) (u:Un X.fs [] H H' s.heap h') (hok:qN X.prog X.w H' h'):bc X pins σ H' { s with heap:=h',toks:=t' }:=by
 obtain ⟨m,⟨o,es,ep,ho,r⟩,_⟩:=id I.loc
 obtain ⟨sl,hL⟩:=u.any ho I.free (by simp)
 exact I.step (g':=s.gens) (d':=s.drawn) (ch:=[]) (fun _ z=>nomatch z) (fun b o _ hb _ e n=>u.keep b o e n hb (by simp)) (fun b o _ hb _ e n=>u.slot b o e n hb (by simp)) (fun b o _ e n=>u.free b o e n (by simp)) (fun b o _ e=>u.there b o e (by simp)) u.tups u.frzs u.tbls (fun m' hm=>by
  obtain ⟨o',es',ep',ho',r'⟩:=hm
  rw [ho] at ho';cases ho'
  exact ⟨_,es',ep',hL,r'⟩) hok I.bare
theorem bc.call {g':Array GenState}{t':Nat}{d':Drawn}{ch:List Addr} (I:bc X pins σ H s) (u:Un (Bu X.stack) ch H H' s.heap h') (hok:qN X.prog X.w H' h') (hg:AllBare g')
  (hch:∀ b∈ch,(b∈X.ex\/X.s₀.heap.objs.size<=b)/\b≠X.env.locals/\(∀ x c,X.env.cells.lookup x=some c->c≠b)/\∀ p∈X.pn++pins,p.1≠b) :
  bc X pins σ H' { s with heap:=h',gens:=g',drawn:=d',toks:=t' }:=by
 obtain ⟨m,⟨o,es,ep,ho,r⟩,_⟩:=id I.loc
 obtain ⟨sl,hL⟩:=u.any ho I.free fun z=>(hch _ z).2.1 rfl
 exact I.step (ch:=ch) hch (fun b o hL hb hc e n=>u.keep b o e n (fun z=>(Mc.mp (I.stkSub b z)).elim hL hb) hc) (fun b o _ _ hc e n=>u.any e n hc) (fun b o hc e n=>u.free b o e n hc) (fun b o hc e=>u.there b o e hc) u.tups u.frzs u.tbls (fun m' hm=>by
  obtain ⟨o',es',ep',ho',r'⟩:=hm
  rw [ho] at ho';cases ho'
  exact ⟨_,es',ep',hL,r'⟩) hok hg
theorem bc.turned {t':Nat}{it:Addr} (I:bc X pins σ H s) (k:∀ b o,b≠it->s.heap.get? b=some o->h'.get? b=some o) (hn:H it=none) (hL:it≠X.env.locals)
  (h1:it∈X.ex\/X.s₀.heap.objs.size<=it) (h2:∀ x c,X.env.cells.lookup x=some c->c≠it) (h3:∀ p∈X.pn++pins,p.1≠it):bc X pins σ H { s with heap:=h',toks:=t' }:=by
 have nit:∀ b u,H b=some u->b≠it:=fun b u e z=>by rw [z,hn] at e;cases e
 refine I.step (g':=s.gens) (d':=s.drawn) (ch:=[it]) (fun b hb=>?_) (fun b o _ _ hc e _=>k b o (fun z=>hc (by simp [z])) e) (fun b o _ _ hc e _=>⟨o.slots,k b o (fun z=>hc (by simp [z])) e⟩) (fun _ _ _ _ n=>n)
  (fun b o hc e=>⟨o,k b o (fun z=>hc (by simp [z])) e⟩) (fun _ _ e=>e) (fun _ _ _ e=>e) (fun b ps e=>⟨#[],by rw [e];simp⟩) (fun m hm=>?_) (fun b u e=>?_) I.bare
 ·have e : b = it := by simpa using hb
  subst e
  exact ⟨h1,hL,h2,h3⟩
 ·obtain ⟨o, es, ep, ho, r⟩ := hm
  exact ⟨o,es,ep,k _ o (Md hL) ho,r⟩
 ·refine (I.hok b u e).stay (fun c v hc q => k c v ?_ q) (fun _ q => q) fun _ _ q => q
  rcases hc with z | z
  ·rw [z];exact nit b u e
  ·exact nit c _ z
theorem bc.tok (I:bc X pins σ H s) (t:Nat):bc X pins σ H { s with toks:=t }:=I.un (h':=s.heap) (t':=t) Un.refl I.hok
theorem bc.kept {t':Nat} (I:bc X pins σ H s) (k:∀ b u,s.heap.get? b=some u->h'.get? b=some u):bc X pins σ H { s with heap:=h',toks:=t' }:=I.un (Un.kept k) (I.hok.kept k)
theorem bc.laid {a:Addr}{o:HO}{t':Nat} (I:bc X pins σ H s) (k:∀ b u,s.heap.get? b=some u->h'.get? b=some u) (hp:s.heap.objs.size<=a) (new:gq X.prog X.w (dk H a o) h' a o) :
  bc X pins σ (dk H a o) { s with heap:=h',toks:=t' }:=I.un (Un.laid k hp (I.hok.fresh hp)) (I.hok.laid k hp new)
theorem bc.write {x e:Addr}{o:HO}{t':Nat} (I:bc X pins σ H s) (mu:Ky (H x)) (he:e=x\/H e=some (.own x)) (k:∀ b u,b≠e->s.heap.get? b=some u->h'.get? b=some u) (heo:∃ u,h'.get? e=some u)
  (new:gq X.prog X.w (dk H x o) h' x o):bc X pins σ (dk H x o) { s with heap:=h',toks:=t' }:=I.un (Un.write mu he k heo) (I.hok.write mu he k heo new)
theorem bc.pins_of {pins':List (Addr × Obj)} (I:bc X pins σ H s) (h:∀ p∈pins',s.heap.get? p.1=some p.2/\H p.1=none/\p.1≠X.env.locals/\p.1 ∉ X.fs/\∀ v,p.2.data≠.cell v):bc X pins' σ H s:=
 ⟨I.ok,I.os,I.bare,I.base,I.loc,I.cell,I.free,I.freeC,fun p hp=>(Me.mp hp).elim (fun z=>I.pin p (Mf _ z)) (h p),I.hok,I.len⟩
theorem xh {N:List Str} (hN:N.Nodup) {i j:Nat}{x:Str} (a:N[i]?=some x) (b:N[j]?=some x):i=j:=by
 obtain ⟨h1,e1⟩:=Mg.mp a
 obtain ⟨h2,e2⟩:=Mg.mp b
 exact (Mh hN).mp (e1.trans e2.symm)
theorem t5 {M:Model}{A:Around}{E:Value->Shared->Prop}{i:Nat}{x:Str}{v:V}{u:Value}{Q:Unit->Shared->Prop} (I:bc X pins σ H s) (hN:X.N.Nodup) (hi:X.N[i]?=some x) (hx:Bv X.env.scope x) (r:cM v u)
  (h:∀ s',bc X pins (σ.set i (some v)) H s'->(∃ a,Heap.SameBut a s.heap s'.heap/\(a=X.env.locals\/X.env.cells.lookup x=some a))->Q () s') (hf:X.fn x=true\/X.env.scope.names.lookup x=some .local:=by first | exact .inl rfl | exact .inr rfl | assumption):wpAny M A (storeName X.env x u) Q E s:=by
 obtain ⟨m,hn,hl⟩:=id I.loc
 have hcls:(X.env.scope.kind == .class || (X.env.scope.kind == .module && X.env.locals != X.env.globals))=false:=by rw [I.ok.kind];rfl
 have hiσ:i<σ.length:=by rw [I.len];exact (Mg.mp hi).1
 have cne:=I.cne
 have tracked:∀ {a:Addr}{h':Heap},(∃ o,s.heap.get? a=some o/\H a=none)->Heap.SameBut a s.heap h'->qN X.prog X.w H h':=fun {a h'} ha hs b ob e=>by
  obtain ⟨_,_,hfree⟩:=ha
  refine (I.hok b ob e).stay (fun c w' hc q=>(hs.2 c ?_).trans q) (fun _ q=>q) fun _ _ q=>q
  rintro rfl
  rcases hc with rfl | hc
  ·rw [hfree] at e;cases e
  ·rw [hfree] at hc;cases hc
 rcases hx with hk | hk
 ·refine wpAny_storeName_local hk hn (fun h' hn' hs => ?_) hcls
  obtain ⟨oL,_,_,hoL,_⟩:=id hn
  refine h _ ⟨I.ok,I.os,I.bare,⟨fun b o e n hb hx=>?_,fun b o e n hb hx=>?_,I.base.free,fun b o e hx=>?_,I.base.tups,I.base.frzs,I.base.tbls⟩,⟨_,hn',fun j y v' e1 e2 e3=>?_⟩,fun y c e=>?_,I.free,I.freeC,fun p hp=>?_,tracked ⟨oL,hoL,I.free⟩ hs,by simpa using I.len⟩ ⟨_,hs,.inl rfl⟩
  ·exact (hs.2 b (L0 (LY (LX e) I.ok.above))).trans (I.base.keep b o e n hb hx)
  ·obtain ⟨sl, e1⟩ := I.base.slot b o e n hb hx
   exact ⟨sl,(hs.2 b (L0 (LY (LX e) I.ok.above))).trans e1⟩
  ·obtain ⟨o', e1⟩ := I.base.there b o e hx
   exact ⟨o',(hs.2 b (L0 (LY (LX e) I.ok.above))).trans e1⟩
  ·by_cases hj : j = i
   ·subst hj
    rw [hi] at e1;cases e1
    rw [Mi hiσ] at e2
    cases e2
    exact ⟨u,r,.inl ⟨hk,by simp⟩⟩
   ·rw [Mj (Md hj)] at e2
    obtain ⟨u',r',q⟩:=hl j y v' e1 e2 e3
    refine ⟨u',r',?_⟩
    rcases q with ⟨k,e⟩ | ⟨k,c,e,z⟩
    ·refine .inl ⟨k, ?_⟩
     have:y≠x:=fun e=>hj (xh hN e1 (e ▸ hi))
     simp [this,e]
    ·exact .inr ⟨k,c,e,z.sameBut hs (cne y c e)⟩
  ·obtain ⟨w', z⟩ := I.cell y c e
   exact ⟨w',z.sameBut hs (cne y c e)⟩
  ·obtain ⟨e, n, ne, nf, d⟩ := I.pin p hp
   exact ⟨(hs.2 p.1 ne).trans e,n,ne,nf,d⟩
 ·have hfn:X.fn x=true:=by
   rcases hf with z | z
   ·exact z
   ·rw [z] at hk;cases hk
  obtain ⟨c,hc⟩:=I.ok.has x (.inl hk)
  obtain ⟨w',z⟩:=I.cell x c hc
  refine wpAny_storeName_cell I.ok.kind hk hc z (fun h' hc' hs=>?_)
  obtain ⟨oc,hoc,hocd⟩:=id z
  refine h { s with heap:=h' } ⟨I.ok,I.os,I.bare,⟨fun b o e n hb hx=>?_,fun b o e n hb hx=>?_,I.base.free,fun b o e hx=>?_,I.base.tups,I.base.frzs,I.base.tbls⟩,⟨m,hn.sameBut hs (Md (cne x c hc)),fun j y v' e1 e2 e3=>?_⟩,fun y c' e=>?_,I.free,I.freeC,fun p hp=>?_,tracked ⟨oc,hoc,I.freeC x c hc⟩ hs,by simpa using I.len⟩ ⟨c,hs,.inr hc⟩
  ·exact (hs.2 b (L0 (LY (LX e) (I.ok.cab x c hfn hc)))).trans (I.base.keep b o e n hb hx)
  ·obtain ⟨sl, e1⟩ := I.base.slot b o e n hb hx
   exact ⟨sl,(hs.2 b (L0 (LY (LX e) (I.ok.cab x c hfn hc)))).trans e1⟩
  ·obtain ⟨o', e1⟩ := I.base.there b o e hx
   exact ⟨o',(hs.2 b (L0 (LY (LX e) (I.ok.cab x c hfn hc)))).trans e1⟩
  ·by_cases hj : j = i
   ·subst hj
    rw [hi] at e1;cases e1
    rw [Mi hiσ] at e2
    cases e2
    exact ⟨u,r,.inr ⟨.inl hk,c,hc,hc'⟩⟩
   ·rw [Mj (Md hj)] at e2
    obtain ⟨u',r',q⟩:=hl j y v' e1 e2 e3
    refine ⟨u',r',?_⟩
    rcases q with q | ⟨k,c',e,z'⟩
    ·exact .inl q
    ·refine .inr ⟨k, c', e, z'.sameBut hs ?_⟩
     rintro rfl
     exact hj (xh hN e1 (I.ok.inj _ _ _ e hc ▸ hi))
  ·by_cases hcc : c' = c
   ·subst hcc;exact ⟨_,hc'⟩
   ·obtain ⟨w2, z2⟩ := I.cell y c' e
    exact ⟨w2,z2.sameBut hs hcc⟩
  ·obtain ⟨e, n, ne, nf, d⟩ := I.pin p hp
   refine ⟨(hs.2 p.1 ?_).trans e,n,ne,nf,d⟩
   intro q
   rw [q,hoc] at e
   have q':oc=p.2:=LW e
   exact d w' (by rw [<- q'];exact hocd)
theorem rF {M:Model}{A:Around}{E:Value->Shared->Prop}{i:Nat}{x:Str}{v:V}{u:Value}{Q:Unit->Shared->Prop} (I:bc X pins σ H s) (hN:X.N.Nodup) (hi:X.N[i]?=some x) (hx:Bv X.env.scope x) (r:cM v u)
  (h:∀ s',bc X pins (σ.set i (some v)) H s'->Q () s') (hf:X.fn x=true\/X.env.scope.names.lookup x=some .local:=by first | exact .inl rfl | exact .inr rfl | assumption):wpAny M A (storeName X.env x u) Q E s:=
 t5 I hN hi hx r (fun s' I' _=>h s' I') hf
theorem bc.call' {s':Shared}{ch:List Addr} (I:bc X pins σ H s) (ho:s'.os=s.os) (u:Un (Bu X.stack) ch H H' s.heap s'.heap) (hok:qN X.prog X.w H' s'.heap) (hg:AllBare s'.gens)
  (hch:∀ b∈ch,(b∈X.ex\/X.s₀.heap.objs.size<=b)/\b≠X.env.locals/\(∀ x c,X.env.cells.lookup x=some c->c≠b)/\∀ p∈X.pn++pins,p.1≠b):bc X pins σ H' s':=by
 obtain ⟨h',g',d',t',o'⟩:=s'
 have e:o'=s.os:=ho
 subst e
 exact I.call (g':=g') (t':=t') (d':=d') u hok hg hch
end
abbrev XK:=Value->Option Addr->Hp->Prop
abbrev St:=List (Option V)
abbrev VK:=V->Hp->Prop
abbrev TE:=St->Hp->VK->Prop
abbrev TT:=St->Hp->(Bool->Hp->Prop)->Prop
abbrev TA:=St->Hp->(List V->Hp->Prop)->Prop
structure qS where
 nx:St->Hp->Prop
 rt:VK
 bk:St->Hp->Prop:=fun _ _=>False
 ct:St->Hp->Prop:=fun _ _=>False
abbrev TS:=qS->St->Hp->Prop
def EP (X:Cx) (pins:List (Addr × Obj)) (σ:St) (Q:VK) (u:Value) (s':Shared):Prop:=∃ v H',bc X pins σ H' s'/\cM v u/\Q v H'
def TP (X:Cx) (pins:List (Addr × Obj)) (σ:St) (Q:Bool->Hp->Prop) (b:Bool) (s':Shared):Prop:=∃ H',bc X pins σ H' s'/\Q b H'
def AP (X:Cx) (pins:List (Addr × Obj)) (σ:St) (Q:List V->Hp->Prop) (us:List Value) (s':Shared):Prop:=∃ vs H',bc X pins σ H' s'/\bx vs us/\Q vs H'
def SP (X:Cx) (pins:List (Addr × Obj)) (D:qS) (f:Flow) (s':Shared):Prop:=
 match f with
 | .next=>∃ σ' H',bc X pins σ' H' s'/\D.nx σ' H'
 | .brk=>∃ σ' H',bc X pins σ' H' s'/\D.bk σ' H'
 | .cont=>∃ σ' H',bc X pins σ' H' s'/\D.ct σ' H'
 | .ret u=>∃ v σ' H',bc X pins σ' H' s'/\cM v u/\D.rt v H'
def PE (X:Cx) (e:Expr) (t:TE):Prop:=
 ∀ (pins:List (Addr × Obj)) (s:Shared) (σ:St) (H:Hp) (Q:VK),bc X pins σ H s->t σ H Q->wpAny (model X.prog X.w) X.A (eval e X.env) (EP X pins σ Q) X.xe s
def PT (X:Cx) (e:Expr) (t:TT):Prop:=
 ∀ (pins:List (Addr × Obj)) (s:Shared) (σ:St) (H:Hp) (Q:Bool->Hp->Prop),bc X pins σ H s->t σ H Q->wpAny (model X.prog X.w) X.A (isTrue e X.env (eval e X.env)) (TP X pins σ Q) X.xe s
def PW (X:Cx) (e:Expr) (t:TT):Prop:=
 ∀ (whole:Sem Value) (pins:List (Addr × Obj)) (s:Shared) (σ:St) (H:Hp) (Q:Bool->Hp->Prop),bc X pins σ H s->t σ H Q->wpAny (model X.prog X.w) X.A (isTrue e X.env whole) (TP X pins σ Q) X.xe s
theorem PW.pt {X:Cx}{e:Expr}{t:TT} (h:PW X e t):PT X e t:=h _
def PA (X:Cx) (es:List Expr) (t:TA):Prop:=
 ∀ (pos:Pos) (pins:List (Addr × Obj)) (s:Shared) (σ:St) (H:Hp) (Q:List V->Hp->Prop),bc X pins σ H s->t σ H Q->wpAny (model X.prog X.w) X.A (spliced (backTo pos (starEach es X.env))) (AP X pins σ Q) X.xe s
def PS (X:Cx) (st:Stmt) (t:TS):Prop:=
 ∀ (pins:List (Addr × Obj)) (s:Shared) (σ:St) (H:Hp) (D:qS),bc X pins σ H s->t D σ H->wpAny (model X.prog X.w) X.A (exec st X.env) (SP X pins D) X.xe s
def lp (X:Cx) (st:List Stmt) (t:TS):Prop:=
 ∀ (pins:List (Addr × Obj)) (s:Shared) (σ:St) (H:Hp) (D:qS),bc X pins σ H s->t D σ H->wpAny (model X.prog X.w) X.A (execs st X.env) (SP X pins D) X.xe s
theorem eV {α:Type}{t:Sem α}{Q Q':α->Shared->Prop}{M:Model}{A:Around}{E:Value->Shared->Prop}{s:Shared} (h:wpAny M A t Q E s) (hQ:∀ a s,Q a s->Q' a s):wpAny M A t Q' E s:=Ml h hQ fun _ _ x=>x
end L2
namespace L2
open PySem PySem.Spec PyProof.Rows
section
variable {X:Cx}
def Jh (i:Nat):TE:=fun σ H Q=>∃ v,σ[i]?=some (some v)/\Q v H
def tC (v:V):TE:=fun _ H Q=>Q v H
theorem HD {i:Nat}{x:Str}{pos:Pos} (hN:X.N[i]?=some x) (hv:Kv X.env.scope x) (hd:(x == ("__debug__" : Str))=false:=by decide) (hcd:(x == ("__classdict__" : Str))=false:=by decide):PE X (.Name x pos) (Jh i):=by
 intro pins s σ H Q I h
 obtain ⟨v,e,h⟩:=h
 obtain ⟨m,hn,hl⟩:=I.loc
 obtain ⟨u,r,l⟩:=hl i x v hN e hv
 have fin:EP X pins σ Q u s:=⟨v,H,I,r,h⟩
 rcases l with ⟨hk,hm⟩ | ⟨hk,c,hc,hcell⟩
 ·exact wpAny_Name (wpAny_loadName_local I.ok.kind hk hn hm fin) hd
 ·rcases hk with hk | hk
  ·exact wpAny_Name (wpAny_loadName_cell I.ok.kind hk hc hcell fin) hd
  ·exact wpAny_Name (wpAny_loadName_free I.ok.kind hk hc hcell fin hcd) hd
theorem HK {i j pos}:PE X (.Constant (.int i) j pos) (tC (.int i)):=fun _ _ _ H _ I h=>wpAny_Constant_int ⟨.int i,H,I.tok _,⟨_,rfl⟩,h⟩
theorem J8 {b j pos}:PE X (.Constant (.bool b) j pos) (tC (.bl b)):=fun _ _ _ H _ I h=>Constant_bool ⟨.bl b,H,I,rfl,h⟩
theorem HI {j pos}:PE X (.Constant .none j pos) (tC .non):=fun _ _ _ H _ I h=>Constant_none ⟨.non,H,I,rfl,h⟩
theorem HF {x j pos}:PE X (.Constant (.str x) j pos) (tC (.str x)):=fun _ _ _ H _ I h=>Calls.Constant_str ⟨.str x,H,I.tok _,⟨_,rfl⟩,h⟩
def Gl (X:Cx) (x:Str):Prop:=X.env.kindOf x=some .globalImplicit
theorem zT {E:Value->Shared->Prop}{pins:List (Addr × Obj)}{s:Shared}{σ:St}{H:Hp}{x:Str}{u:Value}{pos:Pos}{Q:Value->Shared->Prop} (I:bc X pins σ H s) (hg:Gl X x) (hm:X.mg x=some u) (h:Q u s)
  (hd:(x == ("__debug__" : Str))=false:=by decide):wpAny (model X.prog X.w) X.A (eval (.Name x pos) X.env) Q E s:=
 Calls.Name_function_global I.ok.kind hg (Calls.loadGlobal_global (by rw [I.ok.glob];exact I.mod.glob.keeps I.bk) hm h) hd
theorem m9 {E:Value->Shared->Prop}{pins:List (Addr × Obj)}{s:Shared}{σ:St}{H:Hp}{x:Str}{u:Value}{pos:Pos}{Q:Value->Shared->Prop} (I:bc X pins σ H s) (hg:Gl X x) (hm:X.mg x=none) (hv:bootBuiltins x=some u) (h:Q u s)
  (hn:x ≠ "__name__" := by decide) (hd:(x == ("__debug__" : Str))=false:=by decide):wpAny (model X.prog X.w) X.A (eval (.Name x pos) X.env) Q E s:=by
 obtain ⟨mb,h1,h2⟩:=I.mod.blt
 exact Calls.Name_function_global I.ok.kind hg (Calls.loadGlobal_builtin (by rw [I.ok.glob];exact I.mod.glob.keeps I.bk) hm (by rw [I.ok.blt];exact h1.keeps I.bk) ((h2 x hn).trans hv) h) hd
theorem EZ {x:Str}{v:V}{u:Value}{pos:Pos} (hg:Gl X x) (hm:X.mg x=some u) (r:cM v u) (hd:(x == ("__debug__" : Str))=false:=by decide):PE X (.Name x pos) (tC v):=
 fun _ _ _ H _ I h=>zT I hg hm ⟨v,H,I,r,h⟩ hd
theorem E4 {x:Str}{v:V}{u:Value}{pos:Pos} (hg:Gl X x) (hm:X.mg x=none) (hv:bootBuiltins x=some u) (r:cM v u) (hn:x ≠ "__name__" := by decide) (hd:(x == ("__debug__" : Str))=false:=by decide):PE X (.Name x pos) (tC v):=
 fun _ _ _ H _ I h=>m9 I hg hm hv ⟨v,H,I,r,h⟩ hn hd
variable {a b:Expr}{ta tb:TE}{pos:Pos}
variable {tA tB':TT}{rest:List Expr}
def K1 (t u:TT):TT:=fun σ H Q=>t σ H fun c H1=>if c=true then u σ H1 Q else Q false H1
def LI (t u:TT):TT:=fun σ H Q=>t σ H fun c H1=>if c=true then Q true H1 else u σ H1 Q
def KS (t:TT):TT:=fun σ H Q=>t σ H fun c H1=>Q (!c) H1
theorem EK (ha:PT X a tA):PW X (.BoolOp .And [a] pos) tA:=by
 intro wh pins s σ H Q I h
 refine isTrue_and (eV (ha pins s σ H Q I h) fun c s1 e=>?_)
 cases c with
 | true=>exact isTrue_and_nil e
 | false=>exact e
theorem Hq (ha:PT X a tA):PW X (.BoolOp .Or [a] pos) tA:=by
 intro wh pins s σ H Q I h
 refine isTrue_or (eV (ha pins s σ H Q I h) fun c s1 e=>?_)
 cases c with
 | false=>exact isTrue_or_nil e
 | true=>exact e
theorem Hr (ha:PT X a tA) (hb:PW X (.BoolOp .And (b::rest) pos) tB'):PW X (.BoolOp .And (a::b::rest) pos) (K1 tA tB'):=by
 intro wh pins s σ H Q I h
 refine isTrue_and (eV (ha pins s σ H _ I h) fun c s1 ⟨H1,I1,q1⟩=>?_)
 cases c with
 | true=>exact hb wh pins s1 σ H1 Q I1 q1
 | false=>exact ⟨H1,I1,q1⟩
theorem J1 (ha:PT X a tA) (hb:PW X (.BoolOp .Or (b::rest) pos) tB'):PW X (.BoolOp .Or (a::b::rest) pos) (LI tA tB'):=by
 intro wh pins s σ H Q I h
 refine isTrue_or (eV (ha pins s σ H _ I h) fun c s1 ⟨H1,I1,q1⟩=>?_)
 cases c with
 | true=>exact ⟨H1,I1,q1⟩
 | false=>exact hb wh pins s1 σ H1 Q I1 q1
theorem Hs (ha:PT X a tA):PT X (.UnaryOp .Not a pos) (KS tA):=by
 intro pins s σ H Q I h
 exact isTrue_not (ha pins s σ H (fun c H1=>Q (!c) H1) I h)
def JO (ta tb:TE):TE:=fun σ H Q=>ta σ H fun x H1=>∃ c,x=.bl c/\if c=true then tb σ H1 Q else Q (.bl false) H1
def KR (ta tb:TE):TE:=fun σ H Q=>ta σ H fun x H1=>∃ c,x=.bl c/\if c=true then Q (.bl true) H1 else tb σ H1 Q
def JJ (ta:TE):TE:=fun σ H Q=>ta σ H fun x H1=>∃ c,x=.bl c/\Q (.bl (!c)) H1
theorem HG {op}{t:TE} (h:PE X a t):PE X (.BoolOp op [a] pos) t:=fun pins s σ H Q I hw=>BoolOp_one (h pins s σ H Q I hw)
theorem HL (ha:PE X a ta) (hb:PE X (.BoolOp .And (b::rest) pos) tb):PE X (.BoolOp .And (a::b::rest) pos) (JO ta tb):=by
 intro pins s σ H Q I h
 refine BoolOp_and (eV (ha pins s σ H _ I h) fun v s1 ⟨x,H1,I1,r1,q1⟩=>?_)
 obtain ⟨c,rfl,q1⟩:=q1
 cases r1
 refine Mm ?_
 cases c with
 | true=>exact hb pins s1 σ H1 Q I1 q1
 | false=>exact ⟨.bl false,H1,I1,rfl,q1⟩
theorem J4 (ha:PE X a ta) (hb:PE X (.BoolOp .Or (b::rest) pos) tb):PE X (.BoolOp .Or (a::b::rest) pos) (KR ta tb):=by
 intro pins s σ H Q I h
 refine BoolOp_or (eV (ha pins s σ H _ I h) fun v s1 ⟨x,H1,I1,r1,q1⟩=>?_)
 obtain ⟨c,rfl,q1⟩:=q1
 cases r1
 refine Mm ?_
 cases c with
 | false=>exact hb pins s1 σ H1 Q I1 q1
 | true=>exact ⟨.bl true,H1,I1,rfl,q1⟩
theorem HH (ha:PE X a ta):PE X (.UnaryOp .Not a pos) (JJ ta):=by
 intro pins s σ H Q I h
 refine UnaryOp_ (eV (ha pins s σ H _ I h) fun v s1 ⟨x,H1,I1,r1,q1⟩=>?_)
 obtain ⟨c,rfl,q1⟩:=q1
 cases r1
 exact not_of (Mm ⟨.bl (!c),H1,I1,rfl,q1⟩)
end
end L2
namespace L2
open PySem PySem.Spec PyProof.Rows
def ia (K:W.Frag) (H:Hp) (a:Addr) (xs:List V):Prop:=
 Rd H a (.lst xs) \/
  ∃ (o:Obj) (its:Array Value) (n:Nat),K.lookup a=some o/\o.cls=.type "list" /\ o.dict=none/\o.data=.seq its n/\its.size<=sizeLine/\bx xs its.toList
def ip (K:W.Frag) (H:Hp) (a:Addr) (xs:List V):Prop:=
 Rd H a (.tup xs) \/
  ∃ (o:Obj) (its:Array Value) (n:Nat),K.lookup a=some o/\o.cls=.type "tuple" /\ o.data=.seq its n/\its.size<=sizeLine/\bx xs its.toList
def Ll:Value->Option V
 | .none=>some .non
 | .bool b=>some (.bl b)
 | .int i _=>some (.int i)
 | .str x _=>some (.str x)
 | .bytes b _=>some (.byt b)
 | .float b _=>some (.flt b)
 | .ref a=>some (.ref a)
 | .type n=>some (.ty n)
 | _=>none
theorem cM.abs {x:V}{u:Value} (r:cM x u):Ll u=some x:=by
 cases x with
 | non=>cases r;rfl
 | bl _=>cases r;rfl
 | int _=>obtain ⟨t,rfl⟩:=r;rfl
 | str _=>obtain ⟨t,rfl⟩:=r;rfl
 | byt _=>obtain ⟨t,rfl⟩:=r;rfl
 | flt _=>obtain ⟨t,rfl⟩:=r;rfl
 | ref _=>cases r;rfl
 | ty _=>cases r;rfl
theorem cM.inj {x y:V}{u:Value} (r:cM x u) (q:cM y u):x=y:=LW (r.abs.symm.trans q.abs)
theorem bx.inj:∀ {xs ys:List V}{us:List Value},bx xs us->bx ys us->xs=ys
 | _,_,_,.nil,.nil=>rfl
 | _,_,_,.cons r t,.cons r' t'=>by rw [r.inj r',bx.inj t t']
section
variable {X:Cx}{pins:List (Addr × Obj)}{σ:St}{H:Hp}{s:Shared}{a:Addr}{xs ys:List V}
theorem ia.of {K:W.Frag} (h:H a=some (.lst xs)):ia K H a xs:=.inl (.inl h)
theorem ip.of {K:W.Frag} (h:H a=some (.tup xs)):ip K H a xs:=.inl (.inl h)
theorem bc.list (I:bc X pins σ H s) (h:ia X.K H a xs):∃ its:List Value,bx xs its/\PlainL s.heap a its.toArray/\xs.length<=sizeLine:=by
 rcases h with h | ⟨o,its,n,hk,hc,hd,hs,hz,r⟩
 ·obtain ⟨z, its, n, r, e⟩ := h.ok I.hok
  exact ⟨its,r,⟨_,n,e,rfl,rfl,rfl⟩,z⟩
 ·refine ⟨its.toList, r, ⟨o, n, I.kIn a o hk, hc, hd, by simpa using hs⟩, ?_⟩
  have e:=r.length
  simp only [Mn] at e
  omega
theorem bc.tuple (I:bc X pins σ H s) (h:ip X.K H a xs):∃ its:List Value,bx xs its/\IsTup s.heap a its.toArray/\xs.length<=sizeLine:=by
 rcases h with h | ⟨o,its,n,hk,hc,hs,hz,r⟩
 ·obtain ⟨z, its, r, p⟩ := h.ok I.hok
  exact ⟨its,r,p,z⟩
 ·refine ⟨its.toList, r, ⟨o, I.kIn a o hk, hc, n, by simpa using hs⟩, ?_⟩
  have e:=r.length
  simp only [Mn] at e
  omega
theorem bc.list_inj (I:bc X pins σ H s) (h:ia X.K H a xs) (h':ia X.K H a ys):xs=ys:=by
 obtain ⟨its,r,⟨o,n,e,_,_,d⟩,_⟩:=I.list h
 obtain ⟨its',r',⟨o',n',e',_,_,d'⟩,_⟩:=I.list h'
 rw [e] at e';cases e'
 rw [d] at d'
 injection d' with d1 _
 have:its=its':=by simpa using Mo Array.toList d1
 subst this
 exact r.inj r'
theorem bc.tuple_inj (I:bc X pins σ H s) (h:ip X.K H a xs) (h':ip X.K H a ys):xs=ys:=by
 obtain ⟨its,r,⟨o,e,_,n,d⟩,_⟩:=I.tuple h
 obtain ⟨its',r',⟨o',e',_,n',d'⟩,_⟩:=I.tuple h'
 rw [e] at e';cases e'
 rw [d] at d'
 injection d' with d1 _
 have:its=its':=by simpa using Mo Array.toList d1
 subst this
 exact r.inj r'
end
abbrev Cx.wish (X:Cx) (E:Value->Shared->Prop):Cx:={ X with xe:=E }
abbrev Cx.nox (X:Cx):Cx:=X.wish fun _ _=>False
theorem Cx.Ok.wish {X:Cx} (ok:X.Ok) (E:Value->Shared->Prop):(X.wish E).Ok:=
 ⟨ok.mod,ok.kind,ok.glob,ok.blt,ok.above,ok.inj,ok.has,ok.cab,ok.hd,ok.frames,ok.stk,ok.exf,ok.bs,ok.bsz,ok.noex,ok.exfs,ok.funs,ok.frf⟩
theorem Cx.Ok.unwish {X:Cx}{E:Value->Shared->Prop} (ok:(X.wish E).Ok):X.Ok:=
 ⟨ok.mod,ok.kind,ok.glob,ok.blt,ok.above,ok.inj,ok.has,ok.cab,ok.hd,ok.frames,ok.stk,ok.exf,ok.bs,ok.bsz,ok.noex,ok.exfs,ok.funs,ok.frf⟩
section
variable {X:Cx}{pins:List (Addr × Obj)}{σ:St}{H:Hp}{s:Shared}{E:Value->Shared->Prop}
theorem bc.wish (I:bc X pins σ H s) (E:Value->Shared->Prop):bc (X.wish E) pins σ H s:=⟨I.ok.wish E,I.os,I.bare,I.base,I.loc,I.cell,I.free,I.freeC,I.pin,I.hok,I.len⟩
theorem bc.unwish (I:bc (X.wish E) pins σ H s):bc X pins σ H s:=⟨I.ok.unwish,I.os,I.bare,I.base,I.loc,I.cell,I.free,I.freeC,I.pin,I.hok,I.len⟩
theorem SP.unwish {D:qS}{f:Flow}{s':Shared} (h:SP (X.wish E) pins D f s'):SP X pins D f s':=by
 cases f with
 | next=>obtain ⟨σ',H',I,q⟩:=h;exact ⟨σ',H',I.unwish,q⟩
 | brk=>obtain ⟨σ',H',I,q⟩:=h;exact ⟨σ',H',I.unwish,q⟩
 | cont=>obtain ⟨σ',H',I,q⟩:=h;exact ⟨σ',H',I.unwish,q⟩
 | ret u=>obtain ⟨v,σ',H',I,r,q⟩:=h;exact ⟨v,σ',H',I.unwish,r,q⟩
theorem lp.nox {st:List Stmt}{t:TS} (h:lp X.nox st t):lp X st t:=fun pins s σ H D I hw=>
 Ml (h pins s σ H D (I.wish _) hw) (fun _ _ q=>q.unwish) fun _ _ z=>False.elim z
end
section
variable {X:Cx}{st:Stmt}{rest:List Stmt}{t u:TS}{e:Expr}{te:TE}{pos:Pos}
def JK:TS:=fun D σ H=>D.nx σ H
def KO (t u:TS):TS:=fun D σ H=>t { D with nx:=u D } σ H
theorem ER:lp X [] JK:=fun _ _ σ H _ I h=>Mp ⟨σ,H,I,h⟩
theorem C7 (h1:PS X st t) (h2:lp X rest u):lp X (st::rest) (KO t u):=by
 intro pins s σ H D I h
 refine wpAny_execs_cons (eV (h1 pins s σ H { D with nx:=u D } I h) fun f s1 q=>?_)
 cases f with
 | next=>
  obtain ⟨σ',H',I',q⟩:=q
  exact h2 pins s1 σ' H' D I' q
 | ret v=>exact q
 | brk=>exact q
 | cont=>exact q
theorem EO (h1:PS X st t):lp X [st] t:=by
 intro pins s σ H D I h
 refine wpAny_execs_cons (eV (h1 pins s σ H D I h) fun f s1 q=>?_)
 cases f with
 | next=>exact Mp q
 | ret v=>exact q
 | brk=>exact q
 | cont=>exact q
theorem bc.quiet {pins:List (Addr × Obj)}{σ:St}{H:Hp}{s:Shared} (I:bc X pins σ H s):interactive X.env=false:=by simp [interactive,I.ok.kind]
def JL (te:TE):TS:=fun D σ H=>te σ H fun _ H1=>D.nx σ H1
theorem ET (he:PE X e te) (hs:swapsWith e none pos.line X.env=pure false:=by rfl):PS X (.Expr e pos) (JL te):=by
 intro pins s σ H D I h
 exact wpAny_Expr_any (eV (he pins s σ H _ I h) fun v s1 ⟨x,H1,I1,r1,q1⟩=>⟨σ,H1,I1,q1⟩) I.quiet hs
def KQ (te:TE):TS:=fun D σ H=>te σ H D.rt
theorem Hu (he:PE X e te):PS X (.Return (some e) pos) (KQ te):=by
 intro pins s σ H D I h
 exact wpAny_Return_some (eV (he pins s σ H _ I h) fun v s1 ⟨x,H1,I1,r1,q1⟩=>⟨x,σ,H1,I1,r1,q1⟩)
def KY (c:TT) (t u:TS):TS:=fun D σ H=>c σ H fun b H1=>if b=true then t D σ H1 else u D σ H1
theorem J2 {c:Expr}{a b:List Stmt}{tc:TT} (hc:PT X c tc) (ha:lp X a t) (hb:lp X b u):PS X (.If c a b pos) (KY tc t u):=by
 intro pins s σ H D I h
 refine wpAny_If (eV (hc pins s σ H _ I h) fun d s1 ⟨H1,I1,q1⟩=>?_)
 cases d with
 | true=>exact ha pins s1 σ H1 D I1 q1
 | false=>exact hb pins s1 σ H1 D I1 q1
def GU:TS:=fun _ _ _=>False
theorem C9:PS X st GU:=fun _ _ _ _ _ _ h=>h.elim
end
abbrev TG:=V->St->Hp->(St->Hp->Prop)->Prop
abbrev DR:=List V->St->Hp->(St->Hp->Prop)->Prop
def PG (X:Cx) (target:Expr) (t:TG):Prop:=
 ∀ (pins:List (Addr × Obj)) (s:Shared) (σ:St) (H:Hp) (v:V) (u:Value) (Q:St->Hp->Prop),bc X pins σ H s->cM v u->t v σ H Q ->
  wpAny (model X.prog X.w) X.A (assign target X.env u) (fun _ s'=>∃ σ' H',bc X pins σ' H' s'/\Q σ' H') X.xe s
def yq (X:Cx) (ts:List Expr) (t:DR):Prop:=
 ∀ (pins:List (Addr × Obj)) (s:Shared) (σ:St) (H:Hp) (vs:List V) (us:List Value) (Q:St->Hp->Prop),bc X pins σ H s->bx vs us->t vs σ H Q ->
  wpAny (model X.prog X.w) X.A (assignInOrder ((assignEach ts X.env).map (·.2)) us) (fun _ s'=>∃ σ' H',bc X pins σ' H' s'/\Q σ' H') X.xe s
abbrev GI:=V->V->V->Hp->(Hp->Prop)->Prop
def JC (X:Cx) (t:GI):Prop:=
 ∀ (pins:List (Addr × Obj)) (s:Shared) (σ:St) (H:Hp) (o i v:V) (ov iv u:Value) (Q:Hp->Prop),bc X pins σ H s->cM o ov->cM i iv->cM v u->t o i v H Q ->
  wpAny (model X.prog X.w) X.A (setItem ov iv u) (fun _ s'=>∃ H',bc X pins σ H' s'/\Q H') X.xe s
abbrev Jf:=V->V->Hp->VK->Prop
def Kx (X:Cx) (op:Operator) (t:Jf):Prop:=
 ∀ (pins:List (Addr × Obj)) (s:Shared) (σ:St) (H:Hp) (x y:V) (v u:Value) (Q:VK),bc X pins σ H s->cM x v->cM y u->t x y H Q ->
  wpAny (model X.prog X.w) X.A (inplaceOp op v u) (EP X pins σ Q) X.xe s
section
variable {X:Cx}{pos:Pos}
def wy (i:Nat):TG:=fun v σ H Q=>Q (σ.set i (some v)) H
theorem EY {i:Nat}{x:Str} (hN:X.N.Nodup) (hi:X.N[i]?=some x) (hx:Bv X.env.scope x) (hf:X.fn x=true\/X.env.scope.names.lookup x=some .local:=by first | exact .inl rfl | exact .inr rfl | assumption):PG X (.Name x pos) (wy i):=by
 intro pins s σ H v u Q I r h
 exact wpAny_assign_Name (rF I hN hi hx r (fun s' I'=>⟨_,H,I',h⟩) hf)
def Lf:DR:=fun vs σ H Q=>vs=[]/\Q σ H
def Kg (t:TG) (u:DR):DR:=fun vs σ H Q=>∃ v r,vs=v::r/\t v σ H fun σ' H'=>u r σ' H' Q
theorem EX:yq X [] Lf:=by
 intro pins s σ H vs us Q I r h
 obtain ⟨e,h⟩:=h
 subst e
 cases r
 exact assignInOrder_nil ⟨σ,H,I,h⟩
theorem Dc {e:Expr}{es:List Expr}{t:TG}{u:DR} (h1:PG X e t) (h2:yq X es u)
  (hs:(assignEach (e::es) X.env).map (·.2)=assign e X.env::(assignEach es X.env).map (·.2):=by rfl):yq X (e::es) (Kg t u):=by
 intro pins s σ H vs us Q I r h
 obtain ⟨v,vr,e1,h⟩:=h
 subst e1
 cases r with
 | cons r rr=>
  rw [hs]
  refine assignInOrder_cons (eV (h1 pins s σ H _ _ _ I r h) fun _ s1 ⟨σ1,H1,I1,q1⟩=>?_)
  exact h2 pins s1 σ1 H1 _ _ Q I1 rr q1
def Ld (K:W.Frag) (n:Nat) (t:DR):TG:=fun v σ H Q=>∃ a xs,v=.ref a/\ip K H a xs/\xs.length=n/\t xs σ H Q
theorem HB {es:List Expr}{k:Nat}{t:DR}{n:Nat} (hc:X.calm=true) (h:yq X es t)
  (hn:(assignEach es X.env).length=n:=by rfl) (hst:(assignEach es X.env).findIdx? (·.1)=none:=by rfl):PG X (.Tuple es k pos) (Ld X.K n t):=by
 intro pins s σ H v u Q I r hw
 obtain ⟨a,xs,e1,hq,hl,hw⟩:=hw
 subst e1
 cases r
 obtain ⟨its,rv,ht,hz⟩:=I.tuple hq
 refine assign_Tuple_tuple (I.ok.hd hc) ht (by simp [hn,<- hl,rv.length]) hst fun h' hx=>?_
 have I1:bc X pins σ H { s with heap:=h' }:=I.kept (t':=s.toks) fun b o e=>hx b o (L0 (LX e)) e
 exact h pins _ σ H xs _ Q I1 (by simpa using rv) hw
def Le (to ti:TE) (t:GI):TG:=fun v σ H Q=>to σ H fun o H1=>ti σ H1 fun i H2=>t o i v H2 fun H3=>Q σ H3
theorem HC {o i:Expr}{to ti:TE}{t:GI} (ho:PE X o to) (hi:PE X i ti) (hs:JC X t)
  (ha : ∀ v, assign (.Subscript o i pos) X.env v = (do
   let ov <- holding [v] (eval o X.env)
   let iv <- holding [v,ov] (eval i X.env)
   standAt pos
   holding [v,ov,iv] (setItem ov iv v)
   release [v,ov,iv] []):=by intro _;rfl):PG X (.Subscript o i pos) (Le to ti t):=by
 intro pins s σ H v u Q I r h
 rw [ha]
 refine Mq (Mr (eV (ho pins s σ H _ I h) fun ov s1 ⟨x,H1,I1,r1,q1⟩=>?_))
 refine Mq (Mr (eV (hi pins s1 σ H1 _ I1 q1) fun iv s2 ⟨y,H2,I2,r2,q2⟩=>?_))
 refine Mq (Ms (Mq (Mr (eV (hs pins s2 σ H2 x y v ov iv u _ I2 r1 r2 r q2) fun _ s3 ⟨H3,I3,q3⟩=>?_))))
 exact wpAny_release ⟨σ,H3,I3,q3⟩
def Bz (te:TE) (g:TG):TS:=fun D σ H=>te σ H fun x H1=>g x σ H1 D.nx
theorem Hy {tg e:Expr}{te:TE}{g:TG} (he:PE X e te) (hg:PG X tg g) (hs:swapsWithSole [tg] e pos.line X.env=pure false:=by rfl) (hw:swappedStores [tg] e X.env=pure none:=by rfl)
  (h1:(assignEach [tg] X.env).map (·.2)=[assign tg X.env]:=by rfl):PS X (.Assign [tg] e pos) (Bz te g):=by
 intro pins s σ H D I h
 refine wpAny_Assign_stores (eV (he pins s σ H _ I h) fun v s1 ⟨x,H1,I1,r1,q1⟩=>?_) hs hw
 rw [h1]
 exact eV (hg pins s1 σ H1 x v _ I1 r1 q1) fun _ s2 q=>q
theorem Ht {i:Nat}{x:Str}{e:Expr}{te:TE}{pos':Pos} (hN:X.N.Nodup) (hi:X.N[i]?=some x) (hx:Bv X.env.scope x) (he:PE X e te) (hs:swapsWith e (some (.Name x pos')) pos.line X.env=pure false:=by rfl) (hf:X.fn x=true\/X.env.scope.names.lookup x=some .local:=by first | exact .inl rfl | exact .inr rfl | assumption) :
  PS X (.Assign [.Name x pos'] e pos) (Bz te (wy i)):=by
 intro pins s σ H D I h
 refine wpAny_Assign_Name (eV (he pins s σ H _ I h) fun v s1 ⟨y,H1,I1,r1,q1⟩=>?_) hs
 exact rF I1 hN hi hx r1 (fun s2 I2=>⟨_,H1,I2,q1⟩) hf
def K0 (i:Nat) (te:TE) (ti:Jf):TS:=fun D σ H=>∃ x,σ[i]?=some (some x)/\te σ H fun y H1=>ti x y H1 fun z H2=>D.nx (σ.set i (some z)) H2
theorem Hx {i:Nat}{x:Str}{e:Expr}{te:TE}{op:Operator}{ti:Jf}{pos':Pos} (hN:X.N.Nodup) (hi:X.N[i]?=some x) (hx:Bv X.env.scope x) (he:PE X e te) (ho:Kx X op ti) (hf:X.fn x=true\/X.env.scope.names.lookup x=some .local:=by first | exact .inl rfl | exact .inr rfl | assumption) :
  PS X (.AugAssign (.Name x pos') op e pos) (K0 i te ti):=by
 intro pins s σ H D I h
 obtain ⟨v,e1,h⟩:=h
 obtain ⟨m,hn,hl⟩:=I.loc
 have vis:Kv X.env.scope x:=by rcases hx with k | k;exact .inl k;exact .inr (.inl k)
 obtain ⟨u,r,l⟩:=hl i x v hi e1 vis
 refine wpAny_AugAssign_Name ?_
 have go:wpAny (model X.prog X.w) X.A (eval e X.env) (fun w s₂=>wpAny (model X.prog X.w) X.A (inplaceOp op u w) (fun r s₃=>wpAny (model X.prog X.w) X.A (storeName X.env x r) (fun _=>SP X pins D .next) X.xe s₃) X.xe s₂) X.xe s:=by
  refine eV (he pins s σ H _ I h) fun w s1 ⟨y,H1,I1,r1,q1⟩=>?_
  refine eV (ho pins s1 σ H1 v y u w _ I1 r r1 q1) fun z s2 ⟨zv,H2,I2,r2,q2⟩=>?_
  exact rF I2 hN hi hx r2 (fun s3 I3=>⟨_,H2,I3,q2⟩) hf
 rcases l with ⟨hk,hm⟩ | ⟨hk,c,hc,hcell⟩
 ·exact wpAny_loadName_local I.ok.kind hk hn hm go
 ·rcases hk with hk | hk
  ·exact wpAny_loadName_cell I.ok.kind hk hc hcell go
  ·rcases hx with k | k
   ·have : X.env.scope.names.lookup x = some .free := hk
    rw [k] at this;cases this
   ·have : X.env.scope.names.lookup x = some .free := hk
    rw [k] at this;cases this
def LK (f:Int->Int->Int):Jf:=fun x y H Q=>∃ i j,x=.int i/\y=.int j/\Q (.int (f i j)) H
theorem II:Kx X .Add (LK fun i j=>i+j):=by
 intro pins s σ H x y v u Q I r1 r2 h
 obtain ⟨i,j,e1,e2,q⟩:=h
 subst e1;subst e2
 obtain ⟨t,rfl⟩:=r1
 obtain ⟨t',rfl⟩:=r2
 exact iadd_int ⟨.int _,H,I.tok _,⟨_,rfl⟩,q⟩
end
section
variable {X:Cx}{pos:Pos}
def GT (c:TT) (tb:TS):TS:=fun D σ H=>∃ W:Nat->St->Hp->Prop,(∃ m,W m σ H)/\∀ m σ H,W m σ H ->
 c σ H fun b H1=>if b=true then ∃ N:St->Hp->Prop,(∀ σ' H',N σ' H'->∃ m',m'<m/\W m' σ' H')/\tb { D with nx:=N,ct:=N,bk:=D.nx } σ H1 else D.nx σ H1
theorem C8 {c:Expr}{body:List Stmt}{tc:TT}{tb:TS} (hp:PassesOwn (model X.prog X.w) X.A X.env X.xe) (hc:PT X c tc) (hb:lp X body tb):PS X (.While c body [] pos) (GT tc tb):=by
 intro pins s σ H D I h
 obtain ⟨W,⟨m0,w0⟩,turn⟩:=h
 refine wpAny_While (codeAny_whileLoop (fun n s'=>∃ σ' H',bc X pins σ' H' s'/\W n σ' H') ?_ m0 ⟨σ,H,I,w0⟩)
 rintro n s1 ⟨σ1,H1,I1,w1⟩
 refine Mt hp (eV (hc pins s1 σ1 H1 _ I1 (turn n σ1 H1 w1)) fun b s2 ⟨H2,I2,q2⟩=>?_)
 cases b with
 | true=>
  obtain ⟨N,hN,q2⟩:=q2
  rw [LU rfl]
  refine Mt hp (eV (hb pins s2 σ1 H2 _ I2 q2) fun f s3 q3=>?_)
  cases f with
  | next=>
   obtain ⟨σ3,H3,I3,n3⟩:=q3
   obtain ⟨m',hm,w3⟩:=hN σ3 H3 n3
   exact ⟨m',hm,σ3,H3,I3,w3⟩
  | cont=>
   obtain ⟨σ3,H3,I3,n3⟩:=q3
   obtain ⟨m',hm,w3⟩:=hN σ3 H3 n3
   exact ⟨m',hm,σ3,H3,I3,w3⟩
  | brk=>exact q3
  | ret v=>exact q3
 | false=>
  rw [LV Mu]
  exact Mp ⟨σ1,H2,I2,q2⟩
end
structure It where
 go:Nat->Hp->Prop
 yld:Nat->Hp->V->Hp->Prop
 stop:Nat->Hp->Prop
def nE (X:Cx) (pins:List (Addr × Obj)) (H:Hp) (b:Addr):Prop:=
 H b=none/\b≠X.env.locals/\b ∉ X.fs/\(b∈X.ex\/X.s₀.heap.objs.size<=b)/\(∀ x c,X.env.cells.lookup x=some c->c≠b)/\∀ p∈X.pn++pins,p.1≠b
theorem bc.fpOk {X:Cx}{pins:List (Addr × Obj)}{σ:St}{H H':Hp}{s:Shared}{b:Addr} (I:bc X pins σ H s) (hb:s.heap.objs.size<=b) (hn:H' b=none):nE X pins H' b:=by
 refine ⟨hn,Mv (LY I.lt hb),I.nofs hb,.inr (L5 I.sz hb),fun x c e z=>?_,fun p hp z=>?_⟩
 ·obtain ⟨v, q⟩ := I.cell x c e
  exact absurd (LY q.lt (by rw [z];exact hb)) (LZ _)
 ·exact absurd (LY (LX (I.pin p hp).1) (by rw [z];exact hb)) (LZ _)
structure Aq (P:Program) (w:World) (K:W.Frag) (tg:Expr) (J:It) (fp:List Addr) (it:Addr) (tn:Nat->Heap->Prop):Prop where
 mem:it∈fp
 obj:∀ i h,tn i h->∀ b∈fp,∃ o,h.get? b=some o/\∀ v,o.data≠.cell v
 keep:∀ i h h',tn i h->(∀ b∈fp,∀ o,h.get? b=some o->h'.get? b=some o)->tn i h'
 item:∀ (X:Cx),X.prog=P->X.w=w->X.K=K->X.calm=true->∀ (i:Nat) (pins:List (Addr × Obj)) (s:Shared) (σ:St) (H:Hp) (E:Value->Shared->Prop),bc X pins σ H s->(∀ b∈fp,nE X pins H b)->tn i s.heap->J.go i H ->
  wpAny (model P w) X.A (pyNext (.ref it)) (fun r s1=>∃ u,r=some u /\
   wpAny (model P w) X.A (letOwnedTupleGo tg (.ref it) u) (fun _ s2=>∃ x H',bc X pins σ H' s2/\cM x u/\J.yld i H x H'/\tn (i+1) s2.heap/\∀ b∈fp,H' b=none) E s1) E s
 done:∀ (X:Cx),X.prog=P->X.w=w->X.K=K->X.calm=true->∀ (i:Nat) (pins:List (Addr × Obj)) (s:Shared) (σ:St) (H:Hp) (E:Value->Shared->Prop),bc X pins σ H s->(∀ b∈fp,nE X pins H b)->tn i s.heap->J.stop i H ->
  wpAny (model P w) X.A (pyNext (.ref it)) (fun r s1=>r=none/\bc X pins σ H s1) E s
 self:∀ (A:Around) (i:Nat) (s:Shared) (Q:Value->Shared->Prop) (E:Value->Shared->Prop),tn i s.heap->Q (.ref it) s->wpAny (model P w) A (pyIter (.ref it)) Q E s
abbrev TI:=St->Hp->(It->Hp->Prop)->Prop
def KF (X:Cx) (pins:List (Addr × Obj)) (σ:St) (tg:Expr) (R:It->Hp->Prop) (itv:Value) (s2:Shared):Prop:=
 ∃ (it:Addr) (fp:List Addr) (tn:Nat->Heap->Prop) (J:It) (H':Hp),itv=.ref it/\bc X pins σ H' s2/\Aq X.prog X.w X.K tg J fp it tn/\tn 0 s2.heap/\(∀ b∈fp,nE X pins H' b)/\R J H'
def PI (X:Cx) (tg iter:Expr) (wi:TI):Prop:=
 ∀ (pins:List (Addr × Obj)) (s:Shared) (σ:St) (H:Hp) (R:It->Hp->Prop),bc X pins σ H s->wi σ H R ->
  wpAny (model X.prog X.w) X.A (eval iter X.env) (fun v s1=>wpAny (model X.prog X.w) X.A (pyIter v) (KF X pins σ tg R) X.xe s1) X.xe s
theorem B0 {M:Model}{A:Around}{E:Value->Shared->Prop}{s:Shared}{tg:Expr}{it:Addr}{u:Value}{o:Obj}{n:String}{vs:Array Value}{Q:Unit->Shared->Prop} (ho:s.heap.get? it=some o) (hc:o.cls=.type n) (hd:o.data=.fields vs)
  (hn:["enumerate", "zip", "dict_itemiterator", "dict_reverseitemiterator", "odict_iterator", "itertools.zip_longest", "itertools.pairwise"].contains n=false) (hQ:Q () s):wpAny M A (letOwnedTupleGo tg (.ref it) u) Q E s:=by
 unfold letOwnedTupleGo
 cases tg <;> first
  | exact Mw hQ
  | (cases u <;> first
    | exact Mw hQ
    | (refine Mq (Mx ho ?_)
       rw [hc,hd]
       show wpAny M A (if (["enumerate", "zip", "dict_itemiterator", "dict_reverseitemiterator", "odict_iterator", "itertools.zip_longest", "itertools.pairwise"].contains n && vs[0]? == some (rawInt _))=true then _ else _) Q E s
       rw [LV (by intro h;rw [hn,My] at h;cases h)]
       exact Mw hQ))
def KA (K:W.Frag) (a:Addr):It:=
 ⟨fun i H=>∃ xs x,ia K H a xs/\xs[i]?=some x,fun i H x H'=>H'=H/\∀ xs,ia K H a xs->xs[i]?=some x,fun i H=>∃ xs,ia K H a xs/\xs.length<=i⟩
def KH (K:W.Frag) (a:Addr):It:=
 ⟨fun i H=>∃ xs x,ip K H a xs/\xs[i]?=some x,fun i H x H'=>H'=H/\∀ xs,ip K H a xs->xs[i]?=some x,fun i H=>∃ xs,ip K H a xs/\xs.length<=i⟩
def Jc (lo:Int) (n:Nat):It:=⟨fun i _=>i<n,fun i H x H'=>H'=H/\x=.int (lo+i),fun i _=>n<=i⟩
theorem Au {P:Program}{w:World}{K:W.Frag}{tg:Expr} (a it:Addr):Aq P w K tg (KA K a) [it] it (fun i h=>h.IsListIter it a i) where
 mem:=by simp
 obj:=fun i h st b hb=>by
  have e:b=it:=by simpa using hb
  subst e
  obtain ⟨o,e,c,d⟩:=st
  exact ⟨o,e,fun v z=>by rw [d] at z;cases z⟩
 keep:=fun i h h' st k=>st.at fun o e=>k it (by simp) o e
 item:=by
  intro X hP hw hK hc i pins s σ H E I hf st hg
  subst hP hw hK
  obtain ⟨xs,x,hq,hx⟩:=hg
  obtain ⟨its,rv,p,hz⟩:=I.list hq
  obtain ⟨u,hu,ru⟩:=rv.get hx
  obtain ⟨f0,f1,f2,f3,f4,f5⟩:=hf it (by simp)
  refine wpAny_pyNext_list_item st p.isList (x:=u) (by simpa using hu) fun h' st' sb=>?_
  have I1:bc X pins σ H { s with heap:=h' }:=I.turned (t':=s.toks) (fun b o hb e=>(sb.2 b hb).trans e) f0 f1 f3 f4 f5
  obtain ⟨o,e,c,d⟩:=id st'
  exact ⟨u,rfl,B0 (s:={ s with heap:=h' }) e c d (by decide) ⟨x,H,I1,ru,⟨rfl,fun ys hy=>by rw [I.list_inj hy hq];exact hx⟩,st',fun b hb=>(hf b hb).1⟩⟩
 done:=by
  intro X hP hw hK hc i pins s σ H E I hf st hg
  subst hP hw hK
  obtain ⟨xs,hq,hx⟩:=hg
  obtain ⟨its,rv,p,hz⟩:=I.list hq
  obtain ⟨f0,f1,f2,f3,f4,f5⟩:=hf it (by simp)
  have hl:=rv.length
  exact wpAny_pyNext_list_end (I.ok.hd hc) st p.isList (by simp;omega) fun h' eb=>⟨rfl,I.turned (t':=s.toks) (fun b o hb e=>eb b o hb e) f0 f1 f3 f4 f5⟩
 self:=fun _ _ _ _ _ st h=>wpAny_pyIter_listiter st h
theorem yJ {P:Program}{w:World}{K:W.Frag}{tg:Expr} (a it:Addr):Aq P w K tg (KH K a) [it] it (fun i h=>h.IsTupleIter it a i) where
 mem:=by simp
 obj:=fun i h st b hb=>by
  have e:b=it:=by simpa using hb
  subst e
  obtain ⟨o,e,c,d⟩:=st
  exact ⟨o,e,fun v z=>by rw [d] at z;cases z⟩
 keep:=fun i h h' st k=>st.at fun o e=>k it (by simp) o e
 item:=by
  intro X hP hw hK hc i pins s σ H E I hf st hg
  subst hP hw hK
  obtain ⟨xs,x,hq,hx⟩:=hg
  obtain ⟨its,rv,p,hz⟩:=I.tuple hq
  obtain ⟨u,hu,ru⟩:=rv.get hx
  obtain ⟨f0,f1,f2,f3,f4,f5⟩:=hf it (by simp)
  refine wpAny_pyNext_tuple_item st (show s.heap.IsTuple a its.toArray from p) (x:=u) (by simpa using hu) fun h' st' sb=>?_
  have I1:bc X pins σ H { s with heap:=h' }:=I.turned (t':=s.toks) (fun b o hb e=>(sb.2 b hb).trans e) f0 f1 f3 f4 f5
  obtain ⟨o,e,c,d⟩:=id st'
  exact ⟨u,rfl,B0 (s:={ s with heap:=h' }) e c d (by decide) ⟨x,H,I1,ru,⟨rfl,fun ys hy=>by rw [I.tuple_inj hy hq];exact hx⟩,st',fun b hb=>(hf b hb).1⟩⟩
 done:=by
  intro X hP hw hK hc i pins s σ H E I hf st hg
  subst hP hw hK
  obtain ⟨xs,hq,hx⟩:=hg
  obtain ⟨its,rv,p,hz⟩:=I.tuple hq
  obtain ⟨f0,f1,f2,f3,f4,f5⟩:=hf it (by simp)
  have hl:=rv.length
  exact wpAny_pyNext_tuple_end (I.ok.hd hc) st (show s.heap.IsTuple a its.toArray from p) (by simp;omega) fun h' eb=>⟨rfl,I.turned (t':=s.toks) (fun b o hb e=>eb b o hb e) f0 f1 f3 f4 f5⟩
 self:=fun _ _ _ _ _ st h=>wpAny_pyIter_tupleiter st h
theorem yK {P:Program}{w:World}{K:W.Frag}{tg:Expr} (it:Addr) (lo:Int) (n:Nat):Aq P w K tg (Jc lo n) [it] it (fun i h=>IsRangeIter h it (lo+(i:Nat) * 1) ((n:Int) - (i:Nat)) 1) where
 mem:=by simp
 obj:=fun i h st b hb=>by
  have e:b=it:=by simpa using hb
  subst e
  exact ⟨_,st,fun v z=>by
   have z':Data.fields _=Data.cell v:=z
   cases z'⟩
 keep:=fun i h h' st k=>k it (by simp) _ st
 item:=by
  intro X hP hw hK hc i pins s σ H E I hf st hg
  subst hP hw hK
  obtain ⟨f0,f1,f2,f3,f4,f5⟩:=hf it (by simp)
  have W:=Walks.range (prog:=X.prog) (w:=X.w) (I.ok.hd hc) it lo 1 n
  refine W.item i s _ _ hg st fun v h' tk hv st' kk=>?_
  obtain ⟨t,rfl⟩:=hv
  have I1:bc X pins σ H { s with heap:=h',toks:=tk }:=I.turned (fun b o hb e=>kk b o (by simpa using hb) e) f0 f1 f3 f4 f5
  refine ⟨_,rfl,B0 (s:={ s with heap:=h',toks:=tk }) (n:="range_iterator") st' rfl rfl (by decide) ⟨.int (lo+i),H,I1,⟨t,?_⟩,⟨rfl,rfl⟩,st',fun b hb=>(hf b hb).1⟩⟩
  rw [Int.mul_one]
 done:=by
  intro X hP hw hK hc i pins s σ H E I hf st hg
  subst hP hw hK
  obtain ⟨f0,f1,f2,f3,f4,f5⟩:=hf it (by simp)
  exact wpAny_pyNext_range_end (I.ok.hd hc) st (by have:n<=i:=hg;omega) fun h' eb=>⟨rfl,I.turned (t':=s.toks) (fun b o hb e=>eb b o hb e) f0 f1 f3 f4 f5⟩
 self:=fun _ _ _ _ _ st h=>wpAny_pyIter_rangeiter st h
end L2
namespace L2
open PySem PySem.Spec PyProof.Rows
section
variable {X:Cx}{tg:Expr}
theorem wZ {pins:List (Addr × Obj)}{σ:St}{H:Hp}{s:Shared}{R:It->Hp->Prop}{E:Value->Shared->Prop}{lo hi:Int}{t u v:Tok}{tk:Nat} (I:bc X pins σ H s) (h1:-(2 ^ 62)<=lo) (h2:lo<2 ^ 62) (h3:-(2 ^ 62)<=hi) (h4:hi<2 ^ 62)
  (q:R (Jc lo (hi - lo).toNat) H):wpAny (model X.prog X.w) X.A (pyIter (.ref s.heap.objs.size)) (KF X pins σ tg R) E { s with heap:=s.heap.push { cls:=.type "range",data:=.fields #[.int lo t,.int hi u,.int 1 v] },toks:=tk }:=by
 refine wpAny_pyIter_range (IsRange.new ..) (small_one h1 h2 h3 h4) ?_
 have I1:bc X pins σ H { s with heap:=s.heap.push { cls:=.type "range",data:=.fields #[.int lo t,.int hi u,.int 1 v] },toks:=tk }:=I.kept fun b o e=>Mz _ e
 refine ⟨(s.heap.push { cls:=.type "range",data:=.fields #[.int lo t,.int hi u,.int 1 v] }).objs.size,[(s.heap.push { cls:=.type "range",data:=.fields #[.int lo t,.int hi u,.int 1 v] }).objs.size],_,_,H,rfl,
  I1.kept (t':=tk) fun b o e=>Mz _ e,yK _ lo (hi - lo).toNat,?_,fun b hb=>?_,q⟩
 ·have e1 : lo + ((0 : Nat) : Int) * 1 = lo := by simp
  have e2:(((hi - lo).toNat:Nat):Int) - ((0:Nat):Int)=Builtin.Range.rangeSize lo hi 1:=by rw [rangeSize_one];split <;> omega
  show IsRangeIter _ _ (lo+((0:Nat):Int) * 1) ((((hi - lo).toNat:Nat):Int) - ((0:Nat):Int)) 1
  rw [e1,e2]
  exact MC _ rfl
 ·have e : b = (s.heap.push { cls := .type "range", data := .fields #[.int lo t, .int hi u, .int 1 v] }).objs.size := by simpa using hb
  subst e
  exact I1.fpOk (MD _) (I1.hok.fresh (MD _))
def Kf (ta:TA):TI:=fun σ H R=>ta σ H fun vs H1=>∃ j:Int,vs=[.int j]/\-(2 ^ 62)<=j/\j<2 ^ 62/\R (Jc 0 j.toNat) H1
def Ke (ta:TA):TI:=fun σ H R=>ta σ H fun vs H1=>∃ i j:Int,vs=[.int i,.int j]/\(-(2 ^ 62)<=i/\i<2 ^ 62/\-(2 ^ 62)<=j/\j<2 ^ 62)/\R (Jc i (j - i).toNat) H1
theorem AK {a:Expr}{ta:TA}{p pos:Pos} (hg:Gl X "range") (hm:X.mg "range" = none) (ha:PA X [a] ta) (hs:starEach [a] X.env=[(false,eval a X.env)]:=by rfl):PI X tg (.Call (.Name "range" p) [a] [] pos) (Kf ta):=by
 intro pins s σ H R I h
 refine Call_ (m9 I hg hm boot_range (MF (eV (ha pos pins s σ H _ I h) fun us s1 ⟨vs,H1,I1,r1,q1⟩=>?_) hs rfl))
 obtain ⟨j,e,q1,q2,q⟩:=q1
 subst e
 cases r1 with
 | cons r rr=>
  cases rr
  obtain ⟨t,rfl⟩:=r
  exact call_range_1 (wZ I1 (by omega) (by omega) q1 q2 (by simpa using q))
theorem AJ {a b:Expr}{ta:TA}{p pos:Pos} (hg:Gl X "range") (hm:X.mg "range" = none) (ha:PA X [a,b] ta) (hs:starEach [a,b] X.env=[(false,eval a X.env),(false,eval b X.env)]:=by rfl) (hs2:starEach [b] X.env=[(false,eval b X.env)]:=by rfl) :
  PI X tg (.Call (.Name "range" p) [a,b] [] pos) (Ke ta):=by
 intro pins s σ H R I h
 refine Call_ (m9 I hg hm boot_range (MF (eV (ha pos pins s σ H _ I h) fun us s1 ⟨vs,H1,I1,r1,q1⟩=>?_) (by rw [hs,hs2]) (by rw [hs2];rfl)))
 obtain ⟨i,j,e,⟨q1,q2,q3,q4⟩,q⟩:=q1
 subst e
 cases r1 with
 | cons r rr=>
  cases rr with
  | cons r' rr=>
   cases rr
   obtain ⟨t,rfl⟩:=r
   obtain ⟨t',rfl⟩:=r'
   exact call_range_2 (wZ I1 q1 q2 q3 q4 q)
def KZ (wi:TI) (g:TG) (tb:TS):TS:=fun D σ H=>wi σ H fun J H1=>∃ W:Nat->Nat->St->Hp->Prop,(∃ m,W 0 m σ H1)/\∀ i m σ H,W i m σ H ->
 (J.stop i H/\D.nx σ H)\/(J.go i H/\∃ N:St->Hp->Prop,(∀ σ' H',N σ' H'->∃ m',m'<m/\W (i+1) m' σ' H')/\∀ x H',J.yld i H x H'->g x σ H' fun σ2 H2=>tb { D with nx:=N,ct:=N,bk:=D.nx } σ2 H2)
def rj (fp:List Addr) (h:Heap):List (Addr × Obj):=fp.filterMap fun b=>(h.get? b).map fun o=>(b,o)
theorem kJ {fp:List Addr}{h:Heap}{b:Addr}{o:Obj} (hb:b∈fp) (e:h.get? b=some o):(b,o)∈rj fp h:=MH.mpr ⟨b,hb,by rw [e];rfl⟩
theorem AU {fp:List Addr}{h:Heap}{p:Addr × Obj} (hp:p∈rj fp h):p.1∈fp/\h.get? p.1=some p.2:=by
 obtain ⟨b,hb,e⟩:=MH.mp hp
 cases q:h.get? b with
 | none=>rw [q] at e;cases e
 | some o=>
  rw [q] at e
  have e':(b,o)=p:=LW e
  subst e'
  exact ⟨hb,q⟩
theorem bc.pinned {pins:List (Addr × Obj)}{σ:St}{H:Hp}{s:Shared}{fp:List Addr} (I:bc X pins σ H s) (hf:∀ b∈fp,nE X pins H b) (ho:∀ b∈fp,∃ o,s.heap.get? b=some o/\∀ v,o.data≠.cell v):bc X (pins++rj fp s.heap) σ H s:=
 I.pins_of fun p hp=>(Me.mp hp).elim (fun z=>I.pin p (MJ _ z)) fun z=>by
  obtain ⟨hb,e⟩:=AU z
  obtain ⟨f0,f1,f2,_⟩:=hf p.1 hb
  obtain ⟨o,e',d⟩:=ho p.1 hb
  rw [e] at e';cases e'
  exact ⟨e,f0,f1,f2,d⟩
theorem bc.unpinned {pins pl:List (Addr × Obj)}{σ:St}{H:Hp}{s:Shared} (I:bc X (pins++pl) σ H s):bc X pins σ H s:=I.pins_of fun p hp=>I.pin p (MJ _ (Mf _ hp))
theorem Hv {iter:Expr}{body:List Stmt}{wi:TI}{g:TG}{tb:TS}{pos:Pos} (hp:PassesOwn (model X.prog X.w) X.A X.env X.xe) (hc:X.calm=true) (hi:PI X tg iter wi) (hg:PG X tg g) (hb:lp X body tb)
  (hs:∀ x,foldedSetIterable iter X.env x=pure x:=by intro _;rfl):PS X (.For tg iter body [] pos) (KZ wi g tb):=by
 intro pins s σ H D I h
 refine wpAny_For (eV (hi pins s σ H _ I h) fun v s1 h1=>eV h1 fun itv s2 h2=>?_) hs
 obtain ⟨it,fp,tn,J,H2,e,I2,T,st2,f2,W,⟨m0,w0⟩,turn⟩:=h2
 subst e
 have stat:∀ {H':Hp},(∀ b∈fp,H' b=none)->∀ b∈fp,nE X pins H' b:=fun hn b hb=>⟨hn b hb,(f2 b hb).2⟩
 refine codeAny_forLoop_any (fun n s'=>∃ i σ' H',bc X pins σ' H' s'/\tn i s'.heap/\(∀ b∈fp,H' b=none)/\W i n σ' H') ?_ m0 ⟨0,σ,H2,I2,st2,fun b hb=>(f2 b hb).1,w0⟩
 rintro n s3 ⟨i,σ3,H3,I3,st3,fr3,w3⟩
 rcases turn i n σ3 H3 w3 with ⟨stop,qn⟩ | ⟨go,N,hN,step⟩
 ·refine Mt hp (eV (T.done X rfl rfl rfl hc i pins s3 σ3 H3 X.xe I3 (stat fr3) st3 stop) fun r s4 ⟨hr, I4⟩ => ?_)
  subst hr
  exact Mp ⟨σ3,H3,I4,qn⟩
 ·refine Mt hp (eV (T.item X rfl rfl rfl hc i pins s3 σ3 H3 X.xe I3 (stat fr3) st3 go) fun r s4 ⟨u, hr, h4⟩ => ?_)
  subst hr
  refine Mt hp (eV h4 fun _ s5 ⟨x,H5,I5,r5,y5,st5,fr5⟩=>?_)
  have I5':=I5.pinned (stat fr5) (T.obj _ _ st5)
  refine Mt hp (eV (hg _ s5 σ3 H5 x u _ I5' r5 (step x H5 y5)) fun _ s6 ⟨σ6,H6,I6,q6⟩=>?_)
  refine Mt hp (eV (hb _ s6 σ6 H6 _ I6 q6) fun f s7 q7=>?_)
  have again:∀ {σ7:St}{H7:Hp},bc X (pins++rj fp s5.heap) σ7 H7 s7->N σ7 H7->∃ m,m<n/\∃ i σ' H',bc X pins σ' H' s7/\tn i s7.heap/\(∀ b∈fp,H' b=none)/\W i m σ' H':=fun {σ7 H7} I7 n7=>by
   obtain ⟨m',hm,w7⟩:=hN σ7 H7 n7
   refine ⟨m',hm,i+1,σ7,H7,I7.unpinned,T.keep _ _ _ st5 fun b hb o e=>(I7.pin (b,o) (MJ _ (MJ _ (kJ hb e)))).1,fun b hb=>?_,w7⟩
   obtain ⟨o,e,d⟩:=T.obj _ _ st5 b hb
   exact (I7.pin (b,o) (MJ _ (MJ _ (kJ hb e)))).2.1
  cases f with
  | next=>obtain ⟨σ7,H7,I7,n7⟩:=q7;exact again I7 n7
  | cont=>obtain ⟨σ7,H7,I7,n7⟩:=q7;exact again I7 n7
  | brk=>obtain ⟨σ7,H7,I7,q7⟩:=q7;exact ⟨σ7,H7,I7.unpinned,q7⟩
  | ret v=>obtain ⟨x7,σ7,H7,I7,r7,q7⟩:=q7;exact ⟨x7,σ7,H7,I7.unpinned,r7,q7⟩
end
end L2
namespace L2
open PySem PySem.Spec PyProof.Rows
abbrev R2:=V->V->Hp->VK->Prop
def lg (X:Cx) (f:Value->Value->Sem Value) (r:R2):Prop:=
 ∀ (pins:List (Addr × Obj)) (s:Shared) (σ:St) (H:Hp) (x y:V) (v u:Value) (Q:VK),bc X pins σ H s->cM x v->cM y u->r x y H Q ->
  wpAny (model X.prog X.w) X.A (f v u) (EP X pins σ Q) X.xe s
def Kw (X:Cx) (f:Value->Sem Value) (r:V->Hp->VK->Prop):Prop:=
 ∀ (pins:List (Addr × Obj)) (s:Shared) (σ:St) (H:Hp) (x:V) (v:Value) (Q:VK),bc X pins σ H s->cM x v->r x H Q ->
  wpAny (model X.prog X.w) X.A (f v) (EP X pins σ Q) X.xe s
def dv (X:Cx) (f:Value) (r:List V->Hp->VK->Prop):Prop:=
 ∀ (pins:List (Addr × Obj)) (s:Shared) (σ:St) (H:Hp) (xs:List V) (us:List Value) (Q:VK),bc X pins σ H s->bx xs us->r xs H Q ->
  wpAny (model X.prog X.w) X.A (call f us) (EP X pins σ Q) X.xe s
def Lm (X:Cx) (r:V->Hp->(Bool->Hp->Prop)->Prop):Prop:=
 ∀ (pins:List (Addr × Obj)) (s:Shared) (σ:St) (H:Hp) (x:V) (v:Value) (Q:Bool->Hp->Prop),bc X pins σ H s->cM x v->r x H Q ->
  wpAny (model X.prog X.w) X.A (truthy v) (TP X pins σ Q) X.xe s
def Ko (r:R2) (ta tb:TE):TE:=fun σ H Q=>ta σ H fun x H1=>tb σ H1 fun y H2=>r x y H2 Q
def LG (r:V->Hp->VK->Prop) (ta:TE):TE:=fun σ H Q=>ta σ H fun x H1=>r x H1 Q
def rI (C:Int->Int->Prop) (g:Int->Int->V):R2:=fun x y H Q=>∃ i j,x=.int i/\y=.int j/\C i j/\Q (g i j) H
def Je (g:Int->Int->V):R2:=fun x y H Q=>∃ i j,x=.int i/\y=.int j/\Q (g i j) H
def rU (g:Int->V):V->Hp->VK->Prop:=fun x H Q=>∃ i,x=.int i/\Q (g i) H
section
variable {X:Cx}{a b c:Expr}{ta tb tc:TE}{pos:Pos}
theorem GG (ha:PE X a ta) (hb:PE X b tb) {pins:List (Addr × Obj)}{s:Shared}{σ:St}{H:Hp}{R:V->V->Hp->Prop} (I:bc X pins σ H s)
  (h:ta σ H fun x H1=>tb σ H1 fun y H2=>R x y H2) {Q:Value->Shared->Prop}{f:Value->Value->Sem Value}
  (hf:∀ v u s2 x y H2,bc X pins σ H2 s2->cM x v->cM y u->R x y H2->wpAny (model X.prog X.w) X.A (f v u) Q X.xe s2) :
  wpAny (model X.prog X.w) X.A (eval a X.env) (fun v s₁=>wpAny (model X.prog X.w) X.A (eval b X.env) (fun u s₂=>wpAny (model X.prog X.w) X.A (f v u) Q X.xe s₂) X.xe s₁) X.xe s:=by
 refine eV (ha pins s σ H _ I h) fun v s1 ⟨x,H1,I1,r1,q1⟩=>?_
 refine eV (hb pins s1 σ H1 _ I1 q1) fun u s2 ⟨y,H2,I2,r2,q2⟩=>?_
 exact hf v u s2 x y H2 I2 r1 r2 q2
theorem J5 {op:Operator}{r:R2} (ho:lg X (binaryOp op) r) (ha:PE X a ta) (hb:PE X b tb):PE X (.BinOp a op b pos) (Ko r ta tb):=by
 intro pins s σ H Q I h
 exact wpAny_BinOp (GG ha hb I h fun v u s2 x y H2 I2 rx ry q=>ho pins s2 σ H2 x y v u Q I2 rx ry q)
theorem J3 {op:UnaryOp}{r:V->Hp->VK->Prop} (ho:Kw X (unaryOp op) r) (ha:PE X a ta):PE X (.UnaryOp op a pos) (LG r ta):=by
 intro pins s σ H Q I h
 exact UnaryOp_ (eV (ha pins s σ H _ I h) fun v s1 ⟨x,H1,I1,r1,q1⟩=>ho pins s1 σ H1 x v Q I1 r1 q1)
theorem Kr {f:Value->Value->Sem Value}{C:Int->Int->Prop}{g:Int->Int->Int}
  (rule:∀ (i j:Int) (t u:Tok) (s:Shared) (Q:Value->Shared->Prop) (E:Value->Shared->Prop),C i j->Q (.int (g i j) s.toks) { s with toks:=s.toks+1 }->wpAny (model X.prog X.w) X.A (f (.int i t) (.int j u)) Q E s) :
  lg X f (rI C fun i j=>.int (g i j)):=by
 intro pins s σ H x y v u Q I rx ry h
 obtain ⟨i,j,rfl,rfl,hc,q⟩:=h
 obtain ⟨t,rfl⟩:=rx
 obtain ⟨t',rfl⟩:=ry
 exact rule i j t t' s _ _ hc ⟨.int (g i j),H,I.tok _,⟨_,rfl⟩,q⟩
theorem Jt {f:Value->Value->Sem Value}{g:Int->Int->Int}
  (rule:∀ (i j:Int) (t u:Tok) (s:Shared) (Q:Value->Shared->Prop) (E:Value->Shared->Prop),Q (.int (g i j) s.toks) { s with toks:=s.toks+1 }->wpAny (model X.prog X.w) X.A (f (.int i t) (.int j u)) Q E s) :
  lg X f (Je fun i j=>.int (g i j)):=by
 intro pins s σ H x y v u Q I rx ry h
 obtain ⟨i,j,rfl,rfl,q⟩:=h
 obtain ⟨t,rfl⟩:=rx
 obtain ⟨t',rfl⟩:=ry
 exact rule i j t t' s _ _ ⟨.int (g i j),H,I.tok _,⟨_,rfl⟩,q⟩
def D6 (i j:Int):Prop:=0<j/\j<1073741824
def GK (i j:Int):Prop:=0<=j/\j<=1000000/\i.natAbs<2 ^ 64
def wk (i j:Int):Prop:=(-(2 ^ 64)<i/\i<2 ^ 64)\/(-(2 ^ 64)<j/\j<2 ^ 64)
theorem wk.ok {i j:Int} (h:wk i j):IntMulOk i j:=by
 rcases h with ⟨h1,h2⟩ | ⟨h1,h2⟩
 ·exact .of_left (intBits_le_64 h1 h2)
 ·exact .of_right (intBits_le_64 h1 h2)
theorem HZ:lg X (binaryOp .Add) (Je fun i j=>.int (i+j)):=Jt fun _ _ _ _ _ _ _ q=>add_int q
theorem HN:lg X (binaryOp .Sub) (Je fun i j=>.int (i - j)):=Jt fun _ _ _ _ _ _ _ q=>sub_int q
theorem HS:lg X (binaryOp .Mult) (rI wk fun i j=>.int (i * j)):=Kr fun _ _ _ _ _ _ _ hc q=>mul_int q hc.ok
theorem E9:lg X (binaryOp .FloorDiv) (rI D6 fun i j=>.int (i / j)):=Kr fun i j _ _ _ _ _ hc q=>by
 have h1:(0:Int)<j:=hc.1
 have h2:j<1073741824:=hc.2
 exact floordiv_int (by omega) (by rw [Int.fdiv_eq_ediv_of_nonneg i (by omega)];exact q) (.inl (PyProof.noPylong_small (by omega)))
theorem HU:lg X (binaryOp .Mod) (rI (fun _ j=>0<j) fun i j=>.int (i % j)):=Kr fun i j _ _ _ _ _ hc q=>by
 have h1:(0:Int)<j:=hc
 exact mod_int' (by omega) (by rw [Int.fmod_eq_emod_of_nonneg i (by omega)];exact q)
theorem HQ:lg X (binaryOp .Pow) (rI GK fun i j=>.int (i ^ j.toNat)):=Kr fun _ _ _ _ _ _ _ hc q=>pow_int_small hc.1 hc.2.1 hc.2.2 q
theorem LF {f:Value->Sem Value}{g:Int->Int}
  (rule:∀ (i:Int) (t:Tok) (s:Shared) (Q:Value->Shared->Prop) (E:Value->Shared->Prop),Q (.int (g i) s.toks) { s with toks:=s.toks+1 }->wpAny (model X.prog X.w) X.A (f (.int i t)) Q E s) :
  Kw X f (rU fun i=>.int (g i)):=by
 intro pins s σ H x v Q I rx h
 obtain ⟨i,rfl,q⟩:=h
 obtain ⟨t,rfl⟩:=rx
 exact rule i t s _ _ ⟨.int (g i),H,I.tok _,⟨_,rfl⟩,q⟩
theorem GP:Kw X (unaryOp .USub) (rU fun i=>.int (-i)):=LF fun _ _ _ _ _ q=>neg_int q
end
section
variable {X:Cx}{a b c:Expr}{ta tb tc:TE}{pos:Pos}
theorem Cm {pins:List (Addr × Obj)}{σ:St}{H:Hp}{s:Shared}{Q:VK}{k k':Bool} (I:bc X pins σ H s) (q:Q (.bl k) H) (e:k=k'):EP X pins σ Q (.bool k') s:=by
 subst e
 exact ⟨.bl k,H,I,rfl,q⟩
theorem HV:lg X (compareOp .Is) (fun x y H Q=>y=.non/\Q (.bl (decide (x=.non))) H):=by
 intro pins s σ H x y v u Q I rx ry h
 obtain ⟨rfl,q⟩:=h
 cases ry
 refine is_none_gen (Cm I q ?_)
 cases x <;> first
  | (cases rx;rfl)
  | (obtain ⟨t,rfl⟩:=rx;rfl)
theorem E7:lg X (compareOp .IsNot) (fun x y H Q=>y=.non/\Q (.bl (!decide (x=.non))) H):=by
 intro pins s σ H x y v u Q I rx ry h
 obtain ⟨rfl,q⟩:=h
 cases ry
 refine isnot_none_gen (Cm I q ?_)
 cases x <;> first
  | (cases rx;rfl)
  | (obtain ⟨t,rfl⟩:=rx;rfl)
theorem lg.or {f:Value->Value->Sem Value}{r r':R2} (h:lg X f r) (h':lg X f r'):lg X f (fun x y H Q=>r x y H Q\/r' x y H Q):=by
 intro pins s σ H x y v u Q I rx ry q
 rcases q with q | q
 ·exact h pins s σ H x y v u Q I rx ry q
 ·exact h' pins s σ H x y v u Q I rx ry q
theorem E2 {op:CmpOp}{r:R2} (ho:lg X (compareOp op) r) (ha:PE X a ta) (hb:PE X b tb) (hm:behindInMarks op b=false):PE X (.Compare a [op] [b] pos) (Ko r ta tb):=by
 intro pins s σ H Q I h
 exact wpAny_Compare1 (GG ha hb I h fun v u s2 x y H2 I2 rx ry q=>ho pins s2 σ H2 x y v u Q I2 rx ry q) hm
def JG (t:TE):TT:=fun σ H Q=>t σ H fun x H'=>∃ k,x=.bl k/\Q k H'
theorem EN {op:CmpOp}{r:R2} (ho:lg X (compareOp op) r) (ha:PE X a ta) (hb:PE X b tb) (hm:behindInMarks op b=false):PT X (.Compare a [op] [b] pos) (JG (Ko r ta tb)):=by
 intro pins s σ H Q I h
 refine wpAny_isTrue_Compare1 (eV (ha pins s σ H _ I h) fun v s1 ⟨x,H1,I1,r1,q1⟩=>eV (hb pins s1 σ H1 _ I1 q1) fun u s2 ⟨y,H2,I2,r2,q2⟩=>
  eV (ho pins s2 σ H2 x y v u _ I2 r1 r2 q2) fun c s3 ⟨z,H3,I3,r3,k,e,q3⟩=>?_) hm
 subst e
 cases r3
 exact Mm ⟨H3,I3,q3⟩
def B7 (r r':R2) (ta tb tc:TE):TE:=fun σ H Q=>ta σ H fun x H1=>tb σ H1 fun y H2=>r x y H2 fun z H3=>∃ k,z=.bl k /\
 (if k=true then tc σ H3 fun w' H4=>r' y w' H4 Q else Q (.bl false) H3)
theorem Df {op op':CmpOp}{r r':R2} (ho:lg X (compareOp op) r) (ho':lg X (compareOp op') r') (ha:PE X a ta) (hb:PE X b tb) (hc:PE X c tc)
  (hm:lastMarks [op,op'] [b,c]=false:=by with_unfolding_all rfl):PE X (.Compare a [op,op'] [b,c] pos) (B7 r r' ta tb tc):=by
 intro pins s σ H Q I h
 refine Compare_chain (eV (ha pins s σ H _ I h) fun v s1 ⟨x,H1,I1,r1,q1⟩=>chain_link (eV (hb pins s1 σ H1 _ I1 q1) fun u s2 ⟨y,H2,I2,r2,q2⟩=>
  eV (ho pins s2 σ H2 x y v u _ I2 r1 r2 q2) fun d s3 ⟨z,H3,I3,r3,k,e,q3⟩=>?_)) hm
 subst e
 cases r3
 refine Mm ?_
 cases k with
 | false=>exact ite_ff ⟨.bl false,H3,I3,rfl,q3⟩
 | true=>exact ite_tt (chain_last (eV (hc pins s3 σ H3 _ I3 q3) fun w' s4 ⟨z',H4,I4,r4,q4⟩=>ho' pins s4 σ H4 y z' u w' Q I4 r2 r4 q4))
def GH (K:W.Frag) (x:V) (H:Hp) (k:Bool):Prop:=
 match x with
 | .non=>k=false
 | .bl b=>k=b
 | .int i=>k=(i != 0)
 | .str y=>y.length<=sizeLine/\k=((y.length:Int) != 0)
 | .byt y=>y.size<=sizeLine/\k=((y.size:Int) != 0)
 | .ref p=>(∃ xs,ia K H p xs/\k=!xs.isEmpty)\/(∃ xs,ip K H p xs/\k=!xs.isEmpty)\/∃ kvs,H p=some (.dK kvs)/\k=!kvs.isEmpty
 | _=>False
theorem za {κ:Type}{kvs:List (κ × V)}{vs:List (κ × Value)} (r:KV kvs vs):(!vs.isEmpty)=!kvs.isEmpty:=by
 cases r <;> rfl
theorem sh {xs:List V}{its:List Value} (r:bx xs its):(!its.toArray.isEmpty)=!xs.isEmpty:=by
 cases r <;> simp
theorem oS:(sizeLine:Nat)<2 ^ 63:=by rw [MK];decide
theorem GS:Lm X (fun x H Q=>∃ k,GH X.K x H k/\Q k H):=by
 intro pins s σ H x v Q I rx h
 obtain ⟨k,e,q⟩:=h
 have hl:=oS
 have hs:sizeLine=16777216:=MK
 cases x with
 | non=>
  cases rx
  have e':k=false:=e
  subst e'
  exact truthy_none ⟨H,I,q⟩
 | bl b=>
  cases rx
  have e':k=b:=e
  subst e'
  exact Mm ⟨H,I,q⟩
 | int i=>
  obtain ⟨t,rfl⟩:=rx
  have e':k=(i != 0):=e
  subst e'
  exact PySem.P.truthy_int ⟨H,I,q⟩
 | str y=>
  obtain ⟨t,rfl⟩:=rx
  obtain ⟨hy,e'⟩:y.length<=sizeLine/\k=((y.length:Int) != 0):=e
  subst e'
  exact PySem.P.truthy_str (by omega) ⟨H,I.tok _,q⟩
 | byt y=>
  obtain ⟨t,rfl⟩:=rx
  obtain ⟨hy,e'⟩:y.size<=sizeLine/\k=((y.size:Int) != 0):=e
  subst e'
  exact W.truthy_bytes (by omega) ⟨H,I.tok _,q⟩
 | ref p=>
  cases rx
  have e':(∃ xs,ia X.K H p xs/\k=!xs.isEmpty)\/(∃ xs,ip X.K H p xs/\k=!xs.isEmpty)\/∃ kvs,H p=some (.dK kvs)/\k=!kvs.isEmpty:=e
  rcases e' with ⟨xs,hx,e'⟩ | ⟨xs,hx,e'⟩ | ⟨kvs,hx,e'⟩
  ·subst e'
   obtain ⟨its,r,pl,hz⟩:=I.list hx
   have hlen:=r.length
   exact wpAny_truthy_list pl.isList (by simp only [ML];omega) ⟨H,I.tok _,by rw [sh r];exact q⟩
  ·subst e'
   obtain ⟨its,r,pl,hz⟩:=I.tuple hx
   have hlen:=r.length
   exact truthy_tuple pl (by simp only [ML];omega) ⟨H,I.tok _,by rw [sh r];exact q⟩
  ·subst e'
   obtain ⟨hz,hS,vs,r,m⟩:kvs.length<=sizeLine/\(p == sysModules)=false/\∃ vs,KV kvs vs/\s.heap.DictOf (vd X.prog X.w) p vs:=I.hok p _ hx
   have hlen:kvs.length=vs.length:=Paired.length r
   exact wpAny_truthy_dict hS m (by omega) ⟨H,I.tok _,by rw [za r];exact q⟩
 | _=>exact (show False from e).elim
theorem C6 (ha:PE X a ta) (he:∀ whole,isTrue a X.env whole=(do let v <- whole;standAt a.pos;holding [v] (truthy v))) :
  PT X a (fun σ H Q=>ta σ H fun x H'=>∃ k,GH X.K x H' k/\Q k H'):=by
 intro pins s σ H Q I h
 exact isTrue_plain (eV (ha pins s σ H _ I h) fun v s1 ⟨x,H1,I1,r1,q1⟩=>GS pins s1 σ H1 x v Q I1 r1 q1) (he _)
theorem yX:lg X (binaryOp .Add) (fun x y H Q=>∃ i j,x=.str i/\y=.str j/\i.length+j.length<=sizeLine/\Q (.str (i++j)) H):=by
 intro pins s σ H x y v u Q I rx ry h
 obtain ⟨i,j,rfl,rfl,hz,q⟩:=h
 obtain ⟨t,rfl⟩:=rx
 obtain ⟨t',rfl⟩:=ry
 exact add_str (fun t' tk=>⟨.str (i++j),H,I.tok _,⟨_,rfl⟩,q⟩) hz
theorem iD {x:V}{us:List Value} (r:bx [x] us):∃ u,us=[u]/\cM x u:=by
 cases r with
 | cons r1 r2=>cases r2;exact ⟨_,rfl,r1⟩
theorem BL {x y:V}{us:List Value} (r:bx [x,y] us):∃ u w',us=[u,w']/\cM x u/\cM y w':=by
 cases r with
 | cons r1 r2=>
  cases r2 with
  | cons r3 r4=>cases r4;exact ⟨_,_,rfl,r1,r3⟩
theorem Be (hc:X.calm=true):dv X (.builtin "max") (fun xs H Q=>∃ i j,xs=[.int i,.int j]/\Q (.int (if j > i then j else i)) H):=by
 intro pins s σ H xs us Q I r h
 obtain ⟨i,j,rfl,q⟩:=h
 obtain ⟨u,w',rfl,⟨t,rfl⟩,⟨t',rfl⟩⟩:=BL r
 refine max_two_ints (I.ok.hd hc) fun h' tk k=>⟨_,H,I.kept k,?_,q⟩
 by_cases hj:j > i
 ·rw [LU hj,LU hj];exact ⟨_,rfl⟩
 ·rw [LV hj,LV hj];exact ⟨_,rfl⟩
theorem Bc (hc:X.calm=true):dv X (.builtin "min") (fun xs H Q=>∃ i j,xs=[.int i,.int j]/\Q (.int (if j<i then j else i)) H):=by
 intro pins s σ H xs us Q I r h
 obtain ⟨i,j,rfl,q⟩:=h
 obtain ⟨u,w',rfl,⟨t,rfl⟩,⟨t',rfl⟩⟩:=BL r
 refine min_two_ints (I.ok.hd hc) fun h' tk k=>⟨_,H,I.kept k,?_,q⟩
 by_cases hj:j<i
 ·rw [LU hj,LU hj];exact ⟨_,rfl⟩
 ·rw [LV hj,LV hj];exact ⟨_,rfl⟩
theorem Bi:dv X (.type "int") (fun xs H Q=>(∃ i,xs=[.int i]/\Q (.int i) H)\/∃ k,xs=[.bl k]/\Q (.int (if k then 1 else 0)) H):=by
 intro pins s σ H xs us Q I r h
 rcases h with ⟨i,rfl,q⟩ | ⟨k,rfl,q⟩
 ·obtain ⟨u, rfl, t, rfl⟩ := iD r
  exact call_int_int ⟨.int i,H,I,⟨_,rfl⟩,q⟩
 ·obtain ⟨u, rfl, r1⟩ := iD r
  cases r1
  exact call_int_bool ⟨.int (if k then 1 else 0),H,I.tok _,⟨_,rfl⟩,q⟩
def GJ (K:W.Frag) (x:V) (H:Hp) (n:Nat):Prop:=
 match x with
 | .str y=>y.length<=sizeLine/\n=y.length
 | .byt y=>y.size<=sizeLine/\n=y.size
 | .ref p=>(∃ xs,ia K H p xs/\n=xs.length)\/∃ xs,ip K H p xs/\n=xs.length
 | _=>False
theorem DH:dv X (.builtin "len") (fun xs H Q=>∃ x n,xs=[x]/\GJ X.K x H n/\Q (.int n) H):=by
 intro pins s σ H xs us Q I r h
 obtain ⟨x,n,rfl,e,q⟩:=h
 obtain ⟨u,rfl,rx⟩:=iD r
 have hl:=oS
 have hs:sizeLine=16777216:=MK
 cases x with
 | str y=>
  obtain ⟨t,rfl⟩:=rx
  obtain ⟨hy,e'⟩:y.length<=sizeLine/\n=y.length:=e
  subst e'
  exact len_str (by omega) ⟨.int _,H,I.tok _,⟨_,rfl⟩,q⟩
 | byt y=>
  obtain ⟨t,rfl⟩:=rx
  obtain ⟨hy,e'⟩:y.size<=sizeLine/\n=y.size:=e
  subst e'
  exact W.len_bytes (by omega) ⟨.int _,H,I.tok _,⟨_,rfl⟩,q⟩
 | ref p=>
  cases rx
  have e':(∃ xs,ia X.K H p xs/\n=xs.length)\/∃ xs,ip X.K H p xs/\n=xs.length:=e
  rcases e' with ⟨xs,hx,e'⟩ | ⟨xs,hx,e'⟩
  ·subst e'
   obtain ⟨its,r',pl,hz⟩:=I.list hx
   have hlen:=r'.length
   exact Calls.call_len_list pl.isList (by simp only [ML];omega) ⟨.int xs.length,H,I.tok _,⟨_,by simp only [ML];rw [hlen]⟩,q⟩
  ·subst e'
   obtain ⟨its,r',pl,hz⟩:=I.tuple hx
   have hlen:=r'.length
   exact len_tuple pl (by simp only [ML];omega) ⟨.int xs.length,H,I.tok _,⟨_,by simp only [ML];rw [hlen]⟩,q⟩
 | _=>exact (show False from e).elim
end
end L2
namespace L2
open PySem PySem.Spec PyProof.Rows
structure LN (h:Heap) (x dx C:Addr) (mA:Str->Option Value):Prop where
 obj:h.get? x=some (W.instObj C dx)
 ns:h.Ns1 dx mA
 ne:dx≠x
section
variable {prog:Program}{w:World}{A:Around}{E:Value->Shared->Prop}{s:Shared}{K:W.Frag}{x dx C f:Addr}{mA:Str->Option Value}{name:Str}{v:Value}
end
section
variable {P:Program}{w:World}{H H':Hp}{h h':Heap}{a C dx:Addr}{fs fs':List (Str × V)}
end
structure LM (K:W.Frag) (C:Addr):Prop where
 pg:W.plainGet K C Str.empty=true
 hd:W.hasDictIn K C=true
 po:W.plainOver K C=true
 sa:W.findIn K (.ref C) "__setattr__" = some (some (.builtin "object.__setattr__"))
structure LP (K:W.Frag) (C:Addr) (f:Str) (v:V) (u:Value):Prop where
 at_:W.findIn K (.ref C) f=some (some u)
 rel:cM v u
 get:W.specialIn K u "__get__" = some none
 cp:W.copiedNames.contains f=false
structure LO (K:W.Frag) (C:Addr) (m:Str) (f:Addr):Prop where
 at_:W.findIn K (.ref C) m=some (some (.ref f))
 fn:W.isFn K (.ref f)=true
 kp:W.keepIn K (.ref f)=true
section
variable {X:Cx}{pins:List (Addr × Obj)}{σ:St}{H:Hp}{s:Shared}{a C dx:Addr}{fs:List (Str × V)}{f:Str}{v:V}{A:Around}{E:Value->Shared->Prop}
end
section
variable {X:Cx}{o e value:Expr}{f:Str}{pos pos' tpos:Pos}{ta tv:TE}
end
section
variable {X:Cx}{pins:List (Addr × Obj)}{σ:St}{H:Hp}{s:Shared}{A:Around}{E:Value->Shared->Prop}{Q:Value->Shared->Prop}{c:Value}{b:Bool}
inductive qR (K:W.Frag) (H:Hp):V->Value->Prop where
 | non:qR K H .non (.type "NoneType")
 | bl (x:Bool):qR K H (.bl x) (.type "bool")
 | int (i:Int):qR K H (.int i) (.type "int")
 | str (x:Str):qR K H (.str x) (.type "str")
 | flt (x:UInt64):qR K H (.flt x) (.type "float")
 | lst {a:Addr}{xs:List V} (e:H a=some (.lst xs)):qR K H (.ref a) (.type "list")
 | frz {a:Addr}{o:Obj}{xs:List V} (e:H a=some (.frz o (.lst xs))):qR K H (.ref a) (.type "list")
 | tup {a:Addr}{xs:List V} (e:H a=some (.tup xs)):qR K H (.ref a) (.type "tuple")
 | dK {a:Addr}{kvs:List (uR × V)} (e:H a=some (.dK kvs)):qR K H (.ref a) (.type "dict")
 | dT {a:Addr}{kvs:List (List uR × V)} (e:H a=some (.dT kvs)):qR K H (.ref a) (.type "dict")
 | ins {a C dx:Addr}{fs:List (Str × V)} (e:H a=some (.ins C dx fs)) (cl:LM K C) (ha:W.findIn K (.ref C) "__class__" = some (some (.builtin "object.__class__")))
   (hn:W.specialIn K (.builtin "object.__class__") "__get__" = some (some (.builtin "getset_descriptor.__get__"))) (htk:W.takesIn K (.builtin "object.__class__")=some true)
   (hm:W.mroIn K C (.type "object")=some true):qR K H (.ref a) (.ref C)
end
end L2
namespace L2
open PySem PySem.Spec PyProof.Rows
structure jB (k:Nat) (A:Around):Prop where
 hd:A.handled=none
 dp:A.depth+3 * k+5<recursionLimit
 un:A.units+16 * k+200<cLine
 gd:A.guards=some []
theorem jB.mono {j k:Nat}{A:Around} (r:jB k A) (h:j<=k):jB j A:=⟨r.hd,by have:=r.dp;omega,by have:=r.un;omega,r.gd⟩
theorem jB.deeper {k:Nat}{A:Around} (r:jB (k+1) A) (env:Env):jB k (A.deeper env):=
 ⟨r.hd,by have:=r.dp;show A.depth+1+3 * k+5<_;omega,by have:=r.un;show A.units+3+16 * k+200<_;omega,r.gd⟩
theorem jB.depth {k:Nat}{A:Around} (r:jB k A):A.depth<recursionLimit:=by have:=r.dp;omega
theorem jB.units {k:Nat}{A:Around} (r:jB k A):A.units+64<cLine:=by have:=r.un;omega
def KU:TA:=fun _ H Q=>Q [] H
def JM (ta:TE) (tr:TA):TA:=fun σ H Q=>ta σ H fun x H1=>tr σ H1 fun xs H2=>Q (x::xs) H2
section
variable {X:Cx}{e:Expr}{es:List Expr}{te:TE}{t:TA}{pos:Pos}
theorem yz:PA X [] KU:=fun _ _ _ _ H Q I h=>Calls.spliced_nil ⟨[],H,I,.nil,h⟩
theorem qA (ha:PE X e te) (hr:PA X es t) (hs:starEach (e::es) X.env=(false,eval e X.env)::starEach es X.env:=by rfl):PA X (e::es) (JM te t):=by
 intro pos pins s σ H Q I h
 rw [hs]
 show wpAny _ _ (spliced ((false,eval e X.env)::backTo pos (starEach es X.env))) _ _ s
 refine Calls.spliced_cons (eV (ha pins s σ H _ I h) fun u s1 ⟨x,H1,I1,r1,q1⟩=>?_)
 exact eV (hr pos pins s1 σ H1 _ I1 q1) fun us s2 ⟨xs,H2,I2,r2,q2⟩=>⟨x::xs,H2,I2,.cons r1 r2,q2⟩
def KN (t:TA):TE:=fun σ H Q=>t σ H fun xs H1=>xs.length<=sizeLine/\∀ p,H1 p=none->Q (.ref p) (dk H1 p (.tup xs))
def KW (t:TA):TE:=fun σ H Q=>t σ H fun xs H1=>xs.length<=sizeLine/\∀ p,H1 p=none->Q (.ref p) (dk H1 p (.lst xs))
theorem HE {x1} (h:PA X es t):PE X (.Tuple es x1 pos) (KN t):=by
 intro pins s σ H Q I hq
 refine wpAny_Tuple_spliced (eV (h pos pins s σ H _ I hq) fun us s1 ⟨xs,H1,I1,r,z,q⟩=>⟨by rw [<- r.length];exact z,?_⟩)
 have hf:H1 s1.heap.objs.size=none:=I1.hok.fresh (MD _)
 refine ⟨.ref s1.heap.objs.size,dk H1 s1.heap.objs.size (.tup xs),I1.laid (t':=s1.toks) (fun b u e=>Mz _ e) (MD _) ?_,rfl,q _ hf⟩
 exact ⟨z,us,r,⟨_,MC _ rfl,rfl,_,rfl⟩⟩
theorem HJ (h:PA X es t):PE X (.List es pos) (KW t):=by
 intro pins s σ H Q I hq
 refine wpAny_List_spliced (eV (h pos pins s σ H _ I hq) fun us s1 ⟨xs,H1,I1,r,z,q⟩=>⟨by rw [<- r.length];exact z,?_⟩)
 have hf:H1 s1.heap.objs.size=none:=I1.hok.fresh (MD _)
 refine ⟨.ref s1.heap.objs.size,dk H1 s1.heap.objs.size (.lst xs),I1.laid (t':=s1.toks) (fun b u e=>Mz _ e) (MD _) ?_,rfl,q _ hf⟩
 exact ⟨z,us,0,r,MC _ rfl⟩
end
abbrev Sp:=List V->Hp->VK->XK->Prop
abbrev Bw:=List Env->Hp->Shared->XK->Value->Shared->Prop
structure D4 (P:Program) (w:World) (K:W.Frag) (mg:Str->Option Value) (base:Heap) (A:Around) (outer:List Env) (s:Shared) (H:Hp):Prop where
 frames:A.frames=some outer
 mod:Mod K mg base
 bs:∀ b o,base.get? b=some o->s.heap.get? b=some o/\H b=none
 bsz:base.objs.size<=s.heap.objs.size
 funs:s.heap.FunFrames base outer
 frf:∀ b∈Bu outer,H b=none
 hok:qN P w H s.heap
 bare:AllBare s.gens
def CE (outer:List Env) (P:Program) (w:World) (H:Hp) (s:Shared) (Q:VK) (u:Value) (s':Shared):Prop:=
 ∃ v H',s'.os=s.os/\AllBare s'.gens/\Un (Bu outer) [] H H' s.heap s'.heap/\qN P w H' s'.heap/\cM v u/\Q v H'
def CR (CX:Bw) (outer:List Env) (P:Program) (w:World) (H:Hp) (s:Shared) (Q:VK) (E:XK) (r:Result) (s':Shared):Prop:=
 match r with
 | .ok (.ret u)=>CE outer P w H s Q u s'
 | .ok _=>False
 | .error e=>CX outer H s E e s'
structure tp (P:Program) (w:World) (K:W.Frag) (mg:Str->Option Value) (base:Heap) (CX:Bw) (k:Nat) (f:Addr) (fd:FuncData) (ps:List Str) (sp:Sp):Prop where
 len:∀ vs H Q E,sp vs H Q E->vs.length=ps.length
 run:∀ (A:Around) (outer:List Env) (s:Shared) (H:Hp) (args:Args) (us:List Value) (vs:List V) (Q:VK) (E:XK),jB k A->D4 P w K mg base A outer s H->BindsTo s fd args (ps.zip us)->bx vs us->sp vs H Q E ->
  codeAny (model P w) A (.call (.ref f) args) (CR CX outer P w H s Q E) s
section
variable {X:Cx}{pins:List (Addr × Obj)}{σ:St}{H:Hp}{s s':Shared}
theorem bc.env0 (I:bc X pins σ H s):D4 X.prog X.w X.K X.mg X.base X.A X.stack s H:=
 ⟨I.ok.frames,I.ok.mod,I.bs,L5 I.ok.bsz I.sz,I.stack,I.stkFree,I.hok,I.bare⟩
theorem bc.after {Q:VK}{u:Value} (I:bc X pins σ H s) (h:CE X.stack X.prog X.w H s Q u s'):EP X pins σ Q u s':=by
 obtain ⟨v,H',os,bare,un,hok,r,q⟩:=h
 obtain ⟨hh,g,d,t,os'⟩:=s'
 obtain rfl:os'=s.os:=os
 exact ⟨v,H',I.call (h':=hh) (g':=g) (d':=d) (t':=t) (ch:=[]) un hok bare (fun b z=>absurd z (by simp)),r,q⟩
end
def JN (sp:Sp) (dvs:List V) (E:XK) (t:TA):TE:=fun σ H Q=>t σ H fun vs H1=>sp (vs++dvs) H1 Q E
def lC (K:W.Frag) (fd:FuncData) (ps:List Str) (ds:List Value):Prop:=
 ∀ (s:Shared) (us:List Value),K.In s.heap->(us++ds).length=ps.length->BindsTo s fd ⟨us,[]⟩ (ps.zip (us++ds))
theorem lC.all {K:W.Frag}{fd:FuncData}{ps:List Str} (h:∀ us:List Value,us.length=ps.length->bindArgs fd ⟨us,[]⟩=pure (ps.zip us)):lC K fd ps []:=fun s us _ hl=>by
 rw [MM] at hl ⊢
 exact .of_eq (h us hl)
def yG (CX:Bw) (X:Cx) (E:XK):Prop:=∀ (pins:List (Addr × Obj)) (σ:St) (H:Hp) (s:Shared) (e:Value) (s':Shared),bc X pins σ H s->CX X.stack H s E e s'->X.xe e s'
section
variable {X:Cx}{CX:Bw}{k:Nat}{f C:Addr}{fd:FuncData}{ps:List Str}{sp:Sp}{dvs:List V}{ds:List Value}{E:XK}{x m:Str}{p pos apos:Pos}{e o:Expr}{es:List Expr}{ta:TE}{t:TA}
theorem Hn {pins:List (Addr × Obj)}{σ:St}{H:Hp}{s:Shared}{Q:VK}{us:List Value}{vs:List V} (F:tp X.prog X.w X.K X.mg X.base CX k f fd ps sp) (hr:jB k X.A) (hb:lC X.K fd ps ds) (hd:bx dvs ds) (hx:yG CX X E)
  (I:bc X pins σ H s) (r:bx vs us) (h:sp (vs++dvs) H Q E):wpAny (model X.prog X.w) X.A (call (.ref f) us) (EP X pins σ Q) X.xe s:=by
 have r2:bx (vs++dvs) (us++ds):=r.append hd
 have hl:(us++ds).length=ps.length:=by rw [<- r2.length];exact F.len _ _ _ _ h
 refine wpAny_call (MN (F.run X.A X.stack s H ⟨us,[]⟩ (us++ds) (vs++dvs) Q E hr I.env0 (hb s us I.kIn hl) r2 h) fun r s' hq=>?_)
 cases r with
 | error e=>exact hx pins σ H s e s' I hq
 | ok fl=>
  cases fl with
  | ret u=>exact I.after hq
  | next=>exact False.elim hq
  | brk=>exact False.elim hq
  | cont=>exact False.elim hq
theorem E3 (F:tp X.prog X.w X.K X.mg X.base CX k f fd ps sp) (hr:jB k X.A) (hg:Gl X x) (hm:X.mg x=some (.ref f)) (hk:W.keepIn X.K (.ref f)=true) (hb:lC X.K fd ps ds) (hd:bx dvs ds) (hx:yG CX X E)
  (ha:PA X (e::es) t) (hdb:(x == ("__debug__" : Str))=false:=by decide) (he:starEach (e::es) X.env=(false,eval e X.env)::starEach es X.env:=by rfl) (hpl:(backTo pos (starEach es X.env)).any (·.1)=false:=by rfl) :
  PE X (.Call (.Name x p) (e::es) [] pos) (JN sp dvs E t):=by
 intro pins s σ H Q I h
 refine MP (zT I hg hm ?_ hdb)
 refine W.callWith_K (h₀:=X.base) I.ok.mod.kin hk (eV (ha pos pins s σ H _ I h) fun us s1 ⟨vs,H1,I1,r,q⟩=>⟨I1.kIn,?_⟩) he hpl
 exact Hn F hr hb hd hx I1 r q
structure Mk (K:W.Frag) (C f:Addr):Prop where
 makes:W.makesIn K C=true
 init:W.findIn K (.ref C) "__init__" = some (some (.ref f))
 fn:W.isFn K (.ref f)=true
 kp:W.keepIn K (.ref C)=true
end
section
variable {X:Cx}{CX:Bw}{k:Nat}{f C:Addr}{fd:FuncData}{ps ks:List Str}{sp:Sp}{E:XK}{x m:Str}{p pos apos kpos:Pos}{e o:Expr}{es:List Expr}{kws:List Keyword}{te ta:TE}{t tk:TA}{nm:Option Str}
structure Lp (K:W.Frag) (fd:FuncData) (ps ks:List Str) (g:List Value->List Value->List Value) (gV:List V->List V->List V):Prop where
 to:∀ (s:Shared) (us ws:List Value),K.In s.heap->(g us ws).length=ps.length->BindsTo s fd ⟨us,ks.zip ws⟩ (ps.zip (g us ws))
 rel:∀ {vs:List V}{us:List Value}{zs:List V}{ws:List Value},bx vs us->bx zs ws->bx (gV vs zs) (g us ws)
variable {g:List Value->List Value->List Value}{gV:List V->List V->List V}
end
structure aY (N P:List Str) (sc:Scope):Prop where
 kind:sc.kind=.function
 co:sc.isCoroutine=false
 gen:sc.isGenerator=false
 nd:N.Nodup
 pre:N.take P.length=P
 par:∀ x∈P,sc.names.lookup x=some .local\/sc.names.lookup x=some .cell
 nofree:∀ y∈sc.names,y.2≠.free
theorem uG {kindOf:Str->Option NameKind}{x:Str}:∀ {binds:List (Str × Value)}{m:Str->Option Value},(∀ v,(x,v) ∉ binds)->bindL kindOf binds m x=m x
 | [],_,_=>rfl
 | (n,v)::r,m,h=>by
  unfold bindL
  rw [uG fun w hw=>h w (Mb _ hw)]
  split
  ·have : x ≠ n := by rintro rfl; exact h v Ma
   simp [this]
  ·rfl
theorem uI {kindOf:Str->Option NameKind}{x:Str}:∀ {binds:List (Str × Value)}{m:Str->Option Value},(∀ v,(x,v) ∉ binds)->bindC kindOf binds m x=m x
 | [],_,_=>rfl
 | (n,v)::r,m,h=>by
  unfold bindC
  rw [uI fun w hw=>h w (Mb _ hw)]
  split
  ·rfl
  ·have : x ≠ n := by rintro rfl; exact h v Ma
   simp [this]
theorem uH {kindOf:Str->Option NameKind}{x:Str}{v:Value}:∀ {P:List Str}{vs:List Value}{i:Nat}{m:Str->Option Value},P.Nodup->P[i]?=some x->vs[i]?=some v->kindOf x=some .local ->
  bindL kindOf (P.zip vs) m x=some v
 | [],_,_,_,_,h,_,_=>by simp at h
 | _::_,[],_,_,_,_,h,_=>by simp at h
 | p::P,w::vs,0,m,nd,h1,h2,hk=>by
  simp at h1 h2;subst h1;subst h2
  show bindL kindOf ((p,w)::P.zip vs) m p=_
  unfold bindL
  rw [uG fun v hv=>(MQ.mp nd).1 (MR hv).1,LU hk]
  simp
 | p::P,w::vs,i+1,m,nd,h1,h2,hk=>by
  show bindL kindOf ((p,w)::P.zip vs) m x=_
  unfold bindL
  exact uH (i:=i) (MQ.mp nd).2 (by simpa using h1) (by simpa using h2) hk
theorem uJ {kindOf:Str->Option NameKind}{x:Str}{v:Value}:∀ {P:List Str}{vs:List Value}{i:Nat}{m:Str->Option Value},P.Nodup->P[i]?=some x->vs[i]?=some v->kindOf x≠some .local ->
  bindC kindOf (P.zip vs) m x=some v
 | [],_,_,_,_,h,_,_=>by simp at h
 | _::_,[],_,_,_,_,h,_=>by simp at h
 | p::P,w::vs,0,m,nd,h1,h2,hk=>by
  simp at h1 h2;subst h1;subst h2
  show bindC kindOf ((p,w)::P.zip vs) m p=_
  unfold bindC
  rw [uI fun v hv=>(MQ.mp nd).1 (MR hv).1,LV hk]
  simp
 | p::P,w::vs,i+1,m,nd,h1,h2,hk=>by
  show bindC kindOf ((p,w)::P.zip vs) m x=_
  unfold bindC
  exact uJ (i:=i) (MQ.mp nd).2 (by simpa using h1) (by simpa using h2) hk
def start (N:List Str) (vs:List V):St:=vs.map some++List.replicate (N.length - vs.length) none
def uU (CX:Bw) (P:Program) (w:World) (K:W.Frag) (mg:Str->Option Value) (base:Heap) (N:List Str) (qual:Str) (scope:Scope) (f:Addr) (cd:Value) (A:Around) (outer:List Env) (s:Shared) (H:Hp) (E:XK):Cx where
 prog:=P
 w:=w
 K:=K
 mg:=mg
 base:=base
 A:=A.deeper (envOfC qual scope s.heap.objs.size f cd)
 N:=N
 s₀:=s
 H₀:=H
 env:=envOfC qual scope s.heap.objs.size f cd
 outer:=outer
 stack:=envOfC qual scope s.heap.objs.size f cd::outer
 ex:=[]
 calm:=true
 fn:=fun _=>true
 pn:=[]
 xe:=fun e s'=>wpAny (model P w) (A.deeper (envOfC qual scope s.heap.objs.size f cd)) (leaving (envOfC qual scope s.heap.objs.size f cd) e) (fun _ s''=>CX outer H s E e s'') (fun e' s''=>CX outer H s E e' s'') s'
theorem xG {sc:Scope}{n:Nat}{x:Str} (h:sc.names.lookup x=some .cell):∃ c,(cellsFrom n sc.names []).lookup x=some c:=by
 have q:=W.cellsFrom_some sc.names n [] (.inl h)
 exact MU.mp q
theorem AZ {CX:Bw}{P:Program}{w:World}{K:W.Frag}{mg:Str->Option Value}{base:Heap}{N ps:List Str}{qual:Str}{scope:Scope}{f:Addr}{cd:Value}{A:Around}{outer:List Env}{s s1:Shared}{H:Hp}{E:XK}{us:List Value}{vs:List V}
  (S:aY N ps scope) (hd:A.handled=none) (e0:D4 P w K mg base A outer s H) (hl:vs.length=ps.length) (r:bx vs us)
  (x:InCallC s s.heap.objs.size (bindL (envOfC qual scope s.heap.objs.size f cd).kindOf (ps.zip us) fun _=>none) (cellsFrom (s.heap.objs.size+1) scope.names []) (bindC (envOfC qual scope s.heap.objs.size f cd).kindOf (ps.zip us) fun _=>none) s1) :
  bc (uU CX P w K mg base N qual scope f cd A outer s H E) [] (start N vs) H s1:=by
 have hpl:ps.length<=N.length:=by have:=Mo List.length S.pre;rw [MV] at this;omega
 obtain ⟨h1,tk,rfl,hk⟩:=x.done
 have noA:∀ b:Addr,b ∉ (uU CX P w K mg base N qual scope f cd A outer s H E).ex:=fun b z=>absurd (show b∈([]:List Addr) from z) (by simp)
 refine ⟨⟨e0.mod,S.kind,rfl,rfl,MD _,fun y z c h1 h2=>?_,fun y hy=>?_,fun y c _ h=>?_,fun _=>hd,Around.frames_deeper e0.frames,.inr ⟨rfl,rfl⟩,fun b z=>absurd z (noA b),e0.bs,e0.bsz,fun b _ _=>noA b,fun b z=>absurd z (noA b),e0.funs,e0.frf⟩,
  rfl,e0.bare,Un.kept hk,⟨_,x.toInCall.ns,fun i y v h1 h2 h3=>?_⟩,fun y c h=>⟨_,x.cell y c h⟩,e0.hok.fresh (MD _),fun y c h=>?_,fun p hp=>absurd (show p∈([]:List (Addr × Obj)) from hp) (by simp),e0.hok.kept hk,?_⟩
 ·exact name_of_addr x.apart (MW h1) (MW h2)
 ·have hy : scope.names.lookup y = some .cell \/ scope.names.lookup y = some .free := hy
  rcases hy with hy | hy
  ·exact xG hy
  ·exact absurd rfl (S.nofree _ (MW hy))
 ·exact L7 (x.above y c (MW h))
 ·have hi:i<vs.length:=by
   unfold start at h2
   by_cases hi:i<vs.length
   ·exact hi
   ·rw [MX (by simpa using hi)] at h2
    rw [List.getElem?_replicate] at h2
    split at h2 <;> cases h2
  have ha:vs[i]?=some v:=by
   unfold start at h2
   rw [MY (by simpa using hi),MZ] at h2
   cases e:vs[i]? with
   | none=>rw [e] at h2;cases h2
   | some a=>rw [e] at h2;cases h2;rfl
  obtain ⟨u,hu,rv⟩:=r.get ha
  have hp:ps[i]?=some y:=by
   rw [<- S.pre,List.getElem?_take_of_lt (by omega)];exact h1
  have ndP:ps.Nodup:=by rw [<- S.pre];exact S.nd.sublist (List.take_sublist _ _)
  refine ⟨u,rv,?_⟩
  rcases S.par y (Na hp) with k | k
  ·exact .inl ⟨k,uH ndP hp hu k⟩
  ·obtain ⟨c, e⟩ := xG (n := s.heap.objs.size + 1) k
   refine .inr ⟨.inl k,c,e,?_⟩
   have q:=x.cell y c e
   rw [uJ ndP hp hu (by show scope.names.lookup y≠_;rw [k];decide)] at q
   exact q
 ·exact e0.hok.fresh (L7 (x.above y c (MW h)))
 ·unfold start
  show _=N.length
  rw [Nb,Nd,List.length_replicate]
  omega
theorem Ki {CX:Bw}{P:Program}{w:World}{K:W.Frag}{mg:Str->Option Value}{base:Heap}{k:Nat}{f:Addr}{name qual:Str}{params:Arguments}{body:List Stmt}{scope:Scope}{dV kV doc pm cdv ct oc:Value}{an od:Option Addr}
  {osl:Array (Option Value)}{N ps:List Str}{sp:Sp} (lk:K.lookup f=some ⟨oc,od,.func (W.fnOf name qual params body scope dV kV doc pm an cdv ct),osl⟩) (hcd:W.codeIn K cdv qual=true) (S:aY N ps scope)
  (len:∀ vs H Q E,sp vs H Q E->vs.length=ps.length)
  (hbody : ∀ (A : Around) (outer : List Env) (s : Shared) (H : Hp) (vs : List V) (Q : VK) (E : XK), jB k (A.deeper (envOfC qual scope s.heap.objs.size f cdv)) -> sp vs H Q E ->
   ∃ t,lp (uU CX P w K mg base N qual scope f cdv A outer s H E) body t/\t { nx:=fun _ H'=>Q .non H',rt:=Q } (start N vs) H) :
  tp P w K mg base CX (k+1) f (W.fnOf name qual params body scope dV kV doc pm an cdv ct) ps sp:=by
 refine ⟨len,fun A outer s H args us vs Q E hr e0 hb r hsp=>?_⟩
 have hl:=len _ _ _ _ hsp
 have KX:K.In s.heap:=e0.mod.kin.keeps fun b o e=>(e0.bs b o e).1
 have lim:s.heap.NoLimit:=e0.mod.nolimit.keeps fun b o e=>(e0.bs b o e).1
 have hkind:∀ y∈ps.zip us,scope.names.lookup y.1=some .local\/(scope.names.lookup y.1=some .cell/\((cellsFrom (s.heap.objs.size+1) scope.names []).lookup y.1).isSome=true):=fun ⟨n,v⟩ hy=>by
  rcases S.par n (MR hy).1 with q | q
  ·exact .inl q
  ·exact .inr ⟨q,W.cellsFrom_some _ _ _ (.inl q)⟩
 refine codeAny_call_function hr.depth (KX _ _ lk) rfl S.co S.gen rfl (W.codeRec_of KX hcd) (hb _ _ _ _ ?_)
 refine wpAny_newFunctionEnv_cells S.kind hkind fun env he s1 x=>?_
 subst he
 refine ⟨lim.keeps x.toInCall.keep,codeAny_func ?_⟩
 obtain ⟨t,ht,hq⟩:=hbody A outer s H vs Q E (hr.deeper _) hsp
 have I:bc (uU CX P w K mg base N qual scope f cdv A outer s H E) [] (start N vs) H s1:=AZ S hr.hd e0 hl r x
 refine Ml (ht [] s1 (start N vs) H _ I hq) (fun fl s' hs=>?_) fun e s' hs=>hs
 have fin:∀ {σ':St}{H':Hp}{v:V}{u:Value},bc (uU CX P w K mg base N qual scope f cdv A outer s H E) [] σ' H' s'->cM v u->Q v H'->CE outer P w H s Q u s':=
  fun {σ' H' v u} J rv q=>⟨v,H',J.os,J.bare,J.base,J.hok,rv,q⟩
 cases fl with
 | ret u=>
  obtain ⟨v,σ',H',J,rv,q⟩:=hs
  exact fin J rv q
 | next=>
  obtain ⟨σ',H',J,q⟩:=hs
  exact fin (v:=V.non) (u:=Value.none) J rfl q
 | brk=>
  obtain ⟨_,_,_,q⟩:=hs
  exact False.elim q
 | cont=>
  obtain ⟨_,_,_,q⟩:=hs
  exact False.elim q
end L2
namespace L2
open PySem PySem.Spec PyProof.Rows
section
variable {X:Cx}{x:Str}{p pos:Pos}{e:Expr}{es:List Expr}{t:TA}{id T:String}{r:List V->Hp->VK->Prop}
def Lq (r:List V->Hp->VK->Prop) (t:TA):TE:=fun σ H Q=>t σ H fun vs H1=>r vs H1 Q
theorem xa (hc:dv X (.builtin id) r) (hg:Gl X x) (hm:X.mg x=none) (hv:bootBuiltins x=some (.builtin id)) (ha:PA X (e::es) t) (hn:x ≠ "__name__" := by decide) (hdb:(x == ("__debug__" : Str))=false:=by decide)
  (he:starEach (e::es) X.env=(false,eval e X.env)::starEach es X.env:=by rfl) (hpl:(backTo pos (starEach es X.env)).any (·.1)=false:=by rfl):PE X (.Call (.Name x p) (e::es) [] pos) (Lq r t):=by
 intro pins s σ H Q I h
 refine MP (m9 I hg hm hv ?_ hn hdb)
 exact PyProof.Rows.callWith_builtin1 (eV (ha pos pins s σ H _ I h) fun us s1 ⟨vs,H1,I1,r1,q1⟩=>hc pins s1 σ H1 vs us Q I1 r1 q1) he hpl
theorem uf (hc:dv X (.type T) r) (hg:Gl X x) (hm:X.mg x=none) (hv:bootBuiltins x=some (.type T)) (ha:PA X (e::es) t) (hn:x ≠ "__name__" := by decide) (hdb:(x == ("__debug__" : Str))=false:=by decide)
  (he:starEach (e::es) X.env=(false,eval e X.env)::starEach es X.env:=by rfl) (hpl:(backTo pos (starEach es X.env)).any (·.1)=false:=by rfl):PE X (.Call (.Name x p) (e::es) [] pos) (Lq r t):=by
 intro pins s σ H Q I h
 refine MP (m9 I hg hm hv ?_ hn hdb)
 exact MF (eV (ha pos pins s σ H _ I h) fun us s1 ⟨vs,H1,I1,r1,q1⟩=>hc pins s1 σ H1 vs us Q I1 r1 q1) he hpl
end
end L2
namespace HT
open PySem PyProof.Rows
section
open PySem.SeqAt
open PySem.AutoSeq1 (wpAny_loadPart')
open PySem.MeetsSeq PySem.MeetsSeq2 PySem.MeetsSeq3
end
section
variable {prog:Program}{w:World}{A:Around}{E:Value->Shared->Prop}{s:Shared}
theorem cat_tup {t b:Addr}{vs ws:List Value}{Q:Value->Shared->Prop} (ht:IsTup s.heap t vs.toArray) (hb:IsTup s.heap b ws.toArray) (hv:vs≠[])
  (h1:ws=[]->Q (.ref t) s) (h2:ws≠[]->Q (.ref s.heap.objs.size) { s with heap:=s.heap.push { cls:=.type "tuple",data:=.seq (vs++ws).toArray } })
  (hsz:vs.length+ws.length<=sizeLine):wpAny (model prog w) A (binaryOp .Add (.ref t) (.ref b)) Q E s:=by
 obtain ⟨⟨cls,dd,data,sl⟩,ho,hc,n,hd⟩:=id ht
 obtain ⟨⟨cls2,dd2,data2,sl2⟩,ho2,hc2,n2,hd2⟩:=id hb
 simp only at hc hd hc2 hd2
 subst hc hd hc2 hd2
 have e:vs.toArray++ws.toArray=(vs++ws).toArray:=by simp
 by_cases hw:ws=[]
 ·exact concat_meets ⟨_,ho,rfl⟩ ⟨_,ho2,rfl⟩ Nf seq_tuple_add Ng Nh (Ni _ _)
   (tuple_addW1 t b vs.toArray ws.toArray n n2 dd dd2 sl sl2 (by simpa using hv) (by simp [hw])) ⟨ho,ho2,h1 hw⟩
 ·refine concat_meets ⟨_,ho,rfl⟩ ⟨_,ho2,rfl⟩ Nf seq_tuple_add Ng Nh (Ni _ _)
   (tuple_addW2 t b vs.toArray ws.toArray n n2 dd dd2 sl sl2 (by simpa using hv) (by simpa using hw) (by rw [ML,ML];exact hsz)) ⟨ho,ho2,?_⟩
  rw [e]
  exact h2 hw
def sIx (n d:Nat):Option Int->Nat
 | none=>d
 | some v=>if v<0 then (v+(n:Int)).toNat else min v.toNat n
theorem sIx_none (n d:Nat):sIx n d none=d:=rfl
theorem sIx_nat (n d k:Nat):sIx n d (some (k:Int))=min k n:=by
 show (if (k:Int)<0 then ((k:Int)+(n:Int)).toNat else min (k:Int).toNat n)=min k n
 rw [LV (by omega),Nj]
theorem Hm (n d:Nat) (hd:d<=n) (o:Option Int):sIx n d o<=n:=by
 cases o with
 | none=>exact hd
 | some v=>
  show (if v<0 then (v+(n:Int)).toNat else min v.toNat n)<=n
  by_cases hv:v<0
  ·rw [LU hv];omega
  ·rw [LV hv];exact Nk _ _
theorem Ad (v:Int) (n d:Nat):(if v<0 then max (v+(n:Int)) 0 else min v (n:Int))=((sIx n d (some v):Nat):Int):=by
 show (if v<0 then max (v+(n:Int)) 0 else min v (n:Int))=(((if v<0 then (v+(n:Int)).toNat else min v.toNat n):Nat):Int)
 by_cases hv:v<0
 ·simp only [LU hv];omega
 ·simp only [LV hv];omega
theorem zq (lo hi:Option Int) (n:Nat):Builtin.Slice.sliceAdjust lo hi 1 (n:Int)=(((sIx n 0 lo:Nat):Int),((sIx n n hi:Nat):Int)):=by
 have h1:¬ ((1:Int)<0):=by omega
 unfold Builtin.Slice.sliceAdjust
 simp only [h1,Nl]
 refine Prod.ext ?_ ?_
 ·cases lo with
  | none=>rfl
  | some v=>exact Ad v n 0
 ·cases hi with
  | none=>rfl
  | some v=>exact Ad v n n
theorem yU (i j:Nat):Builtin.Slice.slicePlaces (i:Int) (j:Int) 1=j - i:=by
 unfold Builtin.Slice.slicePlaces
 have h1:(1:Int) > 0:=by omega
 simp only [h1,Nn,Int.ediv_one]
 split <;> omega
theorem r8 {v:Value}{o:Option Int}{Q:Option Int->Shared->Prop} (p:IsPart v o) (h:Q o s):wpAny (model prog w) A (Builtin.Slice.slicePartIndex v) Q E s:=by
 cases p with
 | none=>exact slicePart_none h
 | int i t=>exact slicePart_int h
theorem sliceApplied_gen {sl:Addr}{vl vu:Value}{lo hi:Option Int}{n:Nat}{Q:Int × Int × Nat->Shared->Prop} (hs:s.heap.IsSliceOf sl vl vu .none) (pl:IsPart vl lo) (pu:IsPart vu hi)
  (h:Q (((sIx n 0 lo:Nat):Int),1,sIx n n hi - sIx n 0 lo) s):wpAny (model prog w) A (Builtin.Slice.sliceApplied (.ref sl) (pure (n:Int))) Q E s:=by
 obtain ⟨os,hos,hcs,hds⟩:=id hs
 unfold Builtin.Slice.sliceApplied Builtin.Slice.sliceFields
 refine Mq (Mq (Np hos hds (x:=vl) rfl (Mq (Np hos hds (x:=vu) rfl (Mq (Np hos hds (x:=.none) rfl (Mw ?_)))))))
 refine Mq (slicePart_none ?_)
 show wpAny _ _ (if ((1:Int) == 0)=true then _ else _) _ _ s
 rw [LV (by decide)]
 refine Mq (r8 pl (Mq (r8 pu (Mq (Mw ?_)))))
 show wpAny _ _ (match Builtin.Slice.sliceAdjust lo hi 1 (n:Int) with | (lo,hi)=>pure (lo,(1:Int),Builtin.Slice.slicePlaces lo hi 1)) _ _ s
 rw [zq lo hi n]
 show wpAny _ _ (pure (((sIx n 0 lo:Nat):Int),(1:Int),Builtin.Slice.slicePlaces ((sIx n 0 lo:Nat):Int) ((sIx n n hi:Nat):Int) 1)) _ _ s
 rw [yU]
 exact Mw h
theorem Da (xs:Array Value) (i k:Nat):((List.range k).filterMap fun (m:Nat)=>xs[((i:Int)+(m:Int) * 1).toNat]?).toArray=((xs.toList.drop i).take k).toArray:=by
 have e:(fun (m:Nat)=>xs[((i:Int)+(m:Int) * 1).toNat]?)=fun m=>xs[i+m]?:=by
  funext m
  have:((i:Int)+(m:Int) * 1).toNat=i+m:=by omega
  rw [this]
 rw [e]
 have:=pick_run xs i k
 rw [List.filterMap_map] at this
 have e2:((fun x=>xs[x]?) ∘ fun x=>i+x)=fun m=>xs[i+m]?:=rfl
 rw [e2] at this
 rw [this]
theorem getItem_tuple_cut {t sl:Addr}{items:Array Value}{vl vu:Value}{lo hi:Option Int}{Q:Value->Shared->Prop} (ht:IsTup s.heap t items) (hs:s.heap.IsSliceOf sl vl vu .none) (pl:IsPart vl lo) (pu:IsPart vu hi)
  (hw:¬ (sIx items.size 0 lo=0/\sIx items.size items.size hi=items.size))
  (h:Q (.ref s.heap.objs.size) { s with heap:=s.heap.push { cls:=.type "tuple",data:=.seq ((items.toList.drop (sIx items.size 0 lo)).take (sIx items.size items.size hi - sIx items.size 0 lo)).toArray } })
  (hsz:items.size<=sizeLine):wpAny (model prog w) A (getItem (.ref t) (.ref sl)) Q E s:=by
 have htake:sizeOk (.seq ((items.toList.drop (sIx items.size 0 lo)).take (sIx items.size items.size hi - sIx items.size 0 lo)).toArray):=by
  show ((items.toList.drop (sIx items.size 0 lo)).take (sIx items.size items.size hi - sIx items.size 0 lo)).toArray.size<=sizeLine
  rw [ML,MV,Nq,Mn]
  omega
 have hj:sIx items.size items.size hi<=items.size:=Hm _ _ (MD _) hi
 obtain ⟨os,hos,hcs,hds⟩:=id hs
 have hTs:s.TypeIs (.ref sl) "slice" := ⟨os,hos,hcs⟩
 unfold getItem
 try with_reducible refine Mr ?_
 first | refine Mq (Mw ?_) | skip
 refine Mq (wpAny_sequenceKey ht.typeIs (by decide) ?_)
 refine Mq (Nr (name:=Str.ofString "__getitem__") ht.typeIs Nt
  (Nu Nt ht.typeIs entry_tuple_getitem ?_ (args_tuple_getitem _ _)))
 show wpAny _ _ (Builtin.Tuple.tupleItemsOf (.ref t) >>= _) _ _ s
 refine Mq (tupleItemsOf_ ht ?_)
 refine Mq (Nv hTs ?_)
 rw [LU (by decide)]
 refine Mq (sliceApplied_gen hs pl pu ?_)
 have hno:¬ ((((sIx items.size 0 lo:Nat):Int) == 0 && (1:Int) == 1 && (sIx items.size items.size hi - sIx items.size 0 lo) == items.size)=true):=by
  intro q
  rw [Nw,Nw] at q
  have q1:((sIx items.size 0 lo:Nat):Int)=0:=eq_of_beq q.1.1
  have q2:sIx items.size items.size hi - sIx items.size 0 lo=items.size:=eq_of_beq q.2
  exact hw ⟨by omega,by omega⟩
 show wpAny _ _ (if (((sIx items.size 0 lo:Nat):Int) == 0 && (1:Int) == 1 && (sIx items.size items.size hi - sIx items.size 0 lo) == items.size)=true then _ else _) _ _ s
 rw [LV hno,Da]
 first
  | exact Mq (m:=Builtin.Tuple.tupleExact _) (Nx (Mw ⟨_,rfl,Mw h⟩) htake)
  | exact Mq (m:=Builtin.Tuple.tupleExact _) (Nx (Mq (Mw (Mw ⟨_,rfl,Mw h⟩))) htake)
  | exact Mq (Mq (m:=Builtin.Tuple.tupleExact _) (Nx (Mw (Mw ⟨_,rfl,Mw h⟩)) htake))
  | exact Mq (Mq (m:=Builtin.Tuple.tupleExact _) (Nx (Mw ⟨_,rfl,Mw h⟩) htake))
end
end HT
namespace L2
open PySem PySem.Spec PyProof.Rows
abbrev TO:=St->Hp->(Option Int->Hp->Prop)->Prop
def PO (X:Cx) (e:Option Expr) (t:TO):Prop:=
 ∀ (pins:List (Addr × Obj)) (s:Shared) (σ:St) (H:Hp) (Q:Option Int->Hp->Prop),bc X pins σ H s->t σ H Q ->
  wpAny (model X.prog X.w) X.A (evalPart e X.env) (fun u s'=>∃ o H',bc X pins σ H' s'/\IsPart u o/\Q o H') X.xe s
def Eb:TO:=fun _ H Q=>Q none H
def JI (t:TE):TO:=fun σ H Q=>t σ H fun x H1=>∃ i,x=.int i/\Q (some i) H1
theorem f6 {ns:List Int}:∀ {us:List Value},bx (ns.map V.int) us->IntsAre us ns:=by
 induction ns with
 | nil=>intro us r;rw [Ny] at r;cases r;exact .nil
 | cons n ns ih=>
  intro us r
  rw [Nz] at r
  cases r with
  | cons r1 r2=>
   obtain ⟨t,e⟩:=r1
   subst e
   exact .cons n t (ih r2)
section
variable {X:Cx}{e:Expr}{te:TE}{lo hi:Option Expr}{tl th:TO}{pos p2:Pos}
theorem EV:PO X none Eb:=by
 intro pins s σ H Q I h
 rw [evalPart_none]
 exact Mw ⟨none,H,I,.none,h⟩
theorem EU (h:PE X e te):PO X (some e) (JI te):=by
 intro pins s σ H Q I hw
 rw [evalPart_some]
 refine eV (h pins s σ H _ I hw) fun u s1 ⟨x,H1,I1,r1,q1⟩=>?_
 obtain ⟨i,rfl,q⟩:=q1
 obtain ⟨t,rfl⟩:=r1
 exact ⟨some i,H1,I1,.int i t,q⟩
def DT (X:Cx) (r:V->Option Int->Option Int->Hp->VK->Prop):Prop:=
 ∀ (pins:List (Addr × Obj)) (s:Shared) (σ:St) (H:Hp) (x:V) (v vl vu:Value) (lo hi:Option Int) (sl:Addr) (Q:VK),bc X pins σ H s->cM x v->s.heap.IsSliceOf sl vl vu .none->IsPart vl lo->IsPart vu hi->r x lo hi H Q ->
  ∃ T id,typeLookup (.type T) "__getitem__" = pure (some (.builtin id))/\s.TypeIs v T/\wpAny (model X.prog X.w) X.A (getItem v (.ref sl)) (EP X pins σ Q) X.xe s
theorem DT.or {r r':V->Option Int->Option Int->Hp->VK->Prop} (h:DT X r) (h':DT X r'):DT X (fun x lo hi H Q=>r x lo hi H Q\/r' x lo hi H Q):=by
 intro pins s σ H x v vl vu lo hi sl Q I rx hs pl pu q
 rcases q with q | q
 ·exact h pins s σ H x v vl vu lo hi sl Q I rx hs pl pu q
 ·exact h' pins s σ H x v vl vu lo hi sl Q I rx hs pl pu q
def LH (r:V->Option Int->Option Int->Hp->VK->Prop) (te:TE) (tl th:TO):TE:=fun σ H Q=>te σ H fun x H1=>tl σ H1 fun l H2=>th σ H2 fun u H3=>r x l u H3 Q
theorem Dd {r:V->Option Int->Option Int->Hp->VK->Prop} (hr:DT X r) (he:PE X e te) (hl:PO X lo tl) (hu:PO X hi th):PE X (.Subscript e (.Slice lo hi none p2) pos) (LH r te tl th):=by
 intro pins s σ H Q I h
 refine Subscript_ (eV (he pins s σ H _ I h) fun v s1 ⟨x,H1,I1,r1,q1⟩=>?_)
 refine wpAny_Slice (eV (hl pins s1 σ H1 _ I1 q1) fun vl s2 ⟨l,H2,I2,pl,q2⟩=>eV (hu pins s2 σ H2 _ I2 q2) fun vu s3 ⟨u,H3,I3,pu,q3⟩=>?_)
 rw [evalPart_none]
 refine Mw ?_
 have I4:bc X pins σ H3 { s3 with heap:=s3.heap.push { cls:=.type "slice",data:=.fields #[vl,vu,.none] } }:=I3.kept (t':=s3.toks) fun b ob q=>Mz _ q
 obtain ⟨T,id,hT,ht,hg⟩:=hr pins { s3 with heap:=s3.heap.push { cls:=.type "slice",data:=.fields #[vl,vu,.none] } } σ H3 x v vl vu l u s3.heap.objs.size Q I4 r1 (Heap.IsSliceOf.new ..) pl pu q3
 show wpAny (model X.prog X.w) X.A (subscriptTail e (.Slice lo hi none p2) v (.ref s3.heap.objs.size)) (EP X pins σ Q) X.xe { s3 with heap:=s3.heap.push { cls:=.type "slice",data:=.fields #[vl,vu,.none] } }
 exact tail_any (ops:=[.ref s3.heap.objs.size,v]) ht hT hg (by with_unfolding_all rfl)
def wd (xs:List V) (lo hi:Option Int):List V:=(xs.drop (HT.sIx xs.length 0 lo)).take (HT.sIx xs.length xs.length hi - HT.sIx xs.length 0 lo)
theorem pW (xs:List V) (lo hi:Option Int):(wd xs lo hi).length<=xs.length:=by
 unfold wd
 rw [MV,Nq]
 omega
def Jj (K:W.Frag):V->Option Int->Option Int->Hp->VK->Prop:=fun x lo hi H Q=>∃ a xs,x=.ref a/\ip K H a xs /\
 ¬ (HT.sIx xs.length 0 lo=0/\HT.sIx xs.length xs.length hi=xs.length)/\∀ p,H p=none->Q (.ref p) (dk H p (.tup (wd xs lo hi)))
theorem G8:DT X (Jj X.K):=by
 intro pins s σ H x v vl vu lo hi sl Q I rx hs pl pu h
 obtain ⟨a,xs,rfl,hx,hw,q⟩:=h
 cases rx
 obtain ⟨its,r,ht,hz⟩:=I.tuple hx
 have hlen:its.toArray.size=xs.length:=by rw [ML];exact r.length.symm
 refine ⟨"tuple",_,Nt.lookup,ht.typeIs,?_⟩
 refine HT.getItem_tuple_cut ht hs pl pu (by rw [hlen];exact hw) ?_ (by rw [hlen];exact hz)
 rw [hlen]
 refine ⟨.ref s.heap.objs.size,_,I.laid (t':=s.toks) (o:=.tup (wd xs lo hi)) (fun b ob q=>Mz _ q) (MD _) ?_,rfl,q _ (I.hok.fresh (MD _))⟩
 exact ⟨L5 (pW xs lo hi) hz,_,(r.drop (HT.sIx xs.length 0 lo)).take (HT.sIx xs.length xs.length hi - HT.sIx xs.length 0 lo),IsTup.new _ _⟩
def J0 (K:W.Frag):R2:=fun x y H Q=>∃ a b xs ys,x=.ref a/\y=.ref b/\ip K H a xs/\ip K H b ys/\xs≠[]/\xs.length+ys.length<=sizeLine /\
 (ys=[]->Q (.ref a) H)/\(ys≠[]->∀ p,H p=none->Q (.ref p) (dk H p (.tup (xs++ys))))
theorem bx.nil_iff {xs:List V}{us:List Value} (r:bx xs us):us=[]↔xs=[]:=by
 cases r with
 | nil=>simp
 | cons _ _=>simp
theorem Fc:lg X (binaryOp .Add) (J0 X.K):=by
 intro pins s σ H x y v u Q I rx ry h
 obtain ⟨a,b,xs,ys,rfl,rfl,ha,hb,hx,hz,q1,q2⟩:=h
 cases rx
 cases ry
 obtain ⟨its,r1,p1,_⟩:=I.tuple ha
 obtain ⟨its2,r2,p2,_⟩:=I.tuple hb
 refine HT.cat_tup p1 p2 (fun z=>hx (r1.nil_iff.mp z)) (fun z=>⟨.ref a,H,I,rfl,q1 (r2.nil_iff.mp z)⟩) (fun z=>?_) (by rw [<- r1.length,<- r2.length];exact hz)
 refine ⟨.ref s.heap.objs.size,_,I.laid (t':=s.toks) (o:=.tup (xs++ys)) (fun b ob q=>Mz _ q) (MD _) ?_,rfl,q2 (fun w=>z (r2.nil_iff.mpr w)) _ (I.hok.fresh (MD _))⟩
 exact ⟨by rw [Nb];exact hz,_,r1.append r2,IsTup.new _ _⟩
end
end L2
namespace L2
open PySem PySem.Spec PyProof.Rows
def yo (n:Nat) (i:Int):Option Nat:=if 0<=i then (if i<n then some i.toNat else none) else if -(n:Int)<=i then some (i+n).toNat else none
def atI {α:Type} (xs:List α) (i:Int):Option α:=(yo xs.length i).bind fun j=>xs[j]?
theorem vg {n:Nat}{i:Int}{j:Nat} (h:yo n i=some j):seqIndex? i n=some j/\j<n/\-(n:Int)<=i/\i<n:=by
 unfold yo at h
 by_cases h0:0<=i
 ·rw [LU h0] at h
  by_cases h1:i<n
  ·rw [LU h1] at h
   have e:i.toNat=j:=LW h
   exact ⟨by rw [seqIndex_of h0 h1,e],by omega,by omega,h1⟩
  ·rw [LV h1] at h;cases h
 ·rw [LV h0] at h
  by_cases h1:-(n:Int)<=i
  ·rw [LU h1] at h
   have e:(i+n).toNat=j:=LW h
   exact ⟨by rw [seqIndex_neg (by omega) h1,e],by omega,h1,by omega⟩
  ·rw [LV h1] at h;cases h
theorem vz {α:Type}{xs:List α}{i:Int}{v:α} (h:atI xs i=some v):∃ j,seqIndex? i xs.length=some j/\xs[j]?=some v/\j<xs.length/\-(xs.length:Int)<=i/\i<xs.length:=by
 unfold atI at h
 cases e:yo xs.length i with
 | none=>rw [e] at h;cases h
 | some j=>
  rw [e] at h
  obtain ⟨h1,h2,h3,h4⟩:=vg e
  exact ⟨j,h1,h,h2,h3,h4⟩
theorem vy {α:Type}{xs:List α}{j:Nat}{v:α} (h:xs[j]?=some v):atI xs (j:Int)=some v:=by
 have hj:j<xs.length:=(Mg.mp h).1
 have e:yo xs.length (j:Int)=some j:=by
  unfold yo
  rw [LU (by omega),LU (by omega)];simp
 unfold atI;rw [e];exact h
def vC (b:Expr):Prop:=∀ o i,subscripted b false o i=operate [o,i] (getItem o i)
def DV (X:Cx) (r:R2):Prop:=
 ∀ (value slice:Expr) (pins:List (Addr × Obj)) (s:Shared) (σ:St) (H:Hp) (x y:V) (v u:Value) (Q:VK),bc X pins σ H s->cM x v->cM y u->r x y H Q ->
  subscripted slice false v u=operate [v,u] (getItem v u)->wpAny (model X.prog X.w) X.A (subscriptTail value slice v u) (EP X pins σ Q) X.xe s
def Ly (X:Cx) (id:String) (r:V->List V->Hp->VK->Prop):Prop:=
 ∀ (pins:List (Addr × Obj)) (s:Shared) (σ:St) (H:Hp) (x:V) (xs:List V) (v:Value) (us:List Value) (Q:VK),bc X pins σ H s->cM x v->bx xs us->r x xs H Q ->
  wpAny (model X.prog X.w) X.A (call (.builtin id) (v::us)) (EP X pins σ Q) X.xe s
section
variable {X:Cx}{a b:Expr}{ta tb:TE}{pos:Pos}
theorem DV.or {r r':R2} (h:DV X r) (h':DV X r'):DV X (fun x y H Q=>r x y H Q\/r' x y H Q):=by
 intro value slice pins s σ H x y v u Q I rx ry q hs
 rcases q with q | q
 ·exact h value slice pins s σ H x y v u Q I rx ry q hs
 ·exact h' value slice pins s σ H x y v u Q I rx ry q hs
theorem J6 {r:R2} (hr:DV X r) (ha:PE X a ta) (hb:PE X b tb) (hs:vC b):PE X (.Subscript a b pos) (Ko r ta tb):=by
 intro pins s σ H Q I h
 exact Subscript_ (GG ha hb I h fun v u s2 x y H2 I2 rx ry q=>hr a b pins s2 σ H2 x y v u Q I2 rx ry q (hs _ _))
def Jp (K:W.Frag):R2:=fun x y H Q=>∃ p xs i v,x=.ref p/\y=.int i/\ia K H p xs/\atI xs i=some v/\Q v H
def Jn (K:W.Frag):R2:=fun x y H Q=>∃ p xs i v,x=.ref p/\y=.int i/\ip K H p xs/\atI xs i=some v/\Q v H
def Jo:R2:=fun x y H Q=>∃ z i c,x=.str z/\y=.int i/\z.length<=sizeLine/\atI z.cps.toList i=some c/\Q (.str ⟨#[c]⟩) H
theorem FD:DV X (Jp X.K):=by
 intro value slice pins s σ H x y v u Q I rx ry h hs
 obtain ⟨p,xs,i,z,rfl,rfl,hq,he,q⟩:=h
 cases rx
 obtain ⟨t,rfl⟩:=ry
 obtain ⟨its,r,pl,hz⟩:=I.list hq
 obtain ⟨j,h1,h2,h3,h4,h5⟩:=vz he
 obtain ⟨w,ew,rw'⟩:=r.get h2
 have hl:=r.length
 have hn:=oS
 have fin:EP X pins σ Q w s:=⟨z,H,I,rw',q⟩
 by_cases h0:0<=i
 ·have hj:i.toNat=j:=by
   rw [seqIndex_of h0 h5] at h1
   exact LW h1
  exact item_listR pl.isList h0 (by omega) (by rw [hj];simpa using ew) fin hs
 ·have hj:(i+(its.toArray.size:Int)).toNat=j:=by
   rw [seqIndex_neg (by omega) h4] at h1
   rw [ML,<- hl]
   exact LW h1
  exact subscriptTail_builtinR (x:=w) pl.isList.typeIs slot_list_getitem.lookup
   (wpAny_getItem_list_neg (Q:=fun r s'=>r=w/\EP X pins σ Q r s') pl.isList (by omega) (by rw [ML] <;> omega) (by omega) (by rw [hj];simpa using ew) ⟨rfl,fin⟩) hs
theorem ID:DV X (Jn X.K):=by
 intro value slice pins s σ H x y v u Q I rx ry h hs
 obtain ⟨p,xs,i,z,rfl,rfl,hq,he,q⟩:=h
 cases rx
 obtain ⟨t,rfl⟩:=ry
 obtain ⟨its,r,pl,hz⟩:=I.tuple hq
 obtain ⟨j,h1,h2,h3,h4,h5⟩:=vz he
 obtain ⟨w,ew,rw'⟩:=r.get h2
 have hl:=r.length
 have hn:=oS
 have fin:EP X pins σ Q w s:=⟨z,H,I,rw',q⟩
 exact subscriptTail_builtinR (x:=w) pl.typeIs slot_tuple_getitem.lookup
  (getItem_tuple (j:=j) (Q:=fun r s'=>r=w/\EP X pins σ Q r s') pl (by omega) (by omega) (by rw [ML,<- hl];exact h1) (by simpa using ew) ⟨rfl,fin⟩) hs
theorem IE:DV X Jo:=by
 intro value slice pins s σ H x y v u Q I rx ry h hs
 obtain ⟨z,i,c,rfl,rfl,hz,he,q⟩:=h
 obtain ⟨t,rfl⟩:=rx
 obtain ⟨t',rfl⟩:=ry
 obtain ⟨j,h1,h2,h3,h4,h5⟩:=vz he
 have hl:z.cps.toList.length=z.length:=by simp [Str.length]
 rw [hl] at h1 h4 h5
 have hn:=oS
 exact tail_any (typeIs_str s z t) slot_str_getitem.lookup (getItem_str (c:=c) (by
  have e1:decide (i < -(2 ^ 63:Int))=false:=LR (by omega)
  have e2:decide (i ≥ 2 ^ 63)=false:=LR (by omega)
  rw [e1,e2,Bool.or_false]) (by rw [h1];simpa using h2) ⟨.str ⟨#[c]⟩,H,I.tok _,⟨_,rfl⟩,q⟩) hs
def Lr (K:W.Frag):R2:=fun x y H Q=>Jp K x y H Q\/Jn K x y H Q\/Jo x y H Q
theorem IF:DV X (Lr X.K):=FD.or (ID.or IE)
theorem y9 (its:List Value) (n j:Nat) (u:Value):Obj.mapSeq (·.setIfInBounds j u) { cls:=.type "list",data:=.seq its.toArray n }={ cls:=.type "list",data:=.seq (its.set j u).toArray n }:=by
 simp [Obj.mapSeq]
theorem bc.lst {pins:List (Addr × Obj)}{σ:St}{H:Hp}{s:Shared}{p:Addr}{xs:List V} (I:bc X pins σ H s) (h:H p=some (.lst xs)) :
  ∃ (its:List Value) (n:Nat),bx xs its/\s.heap.get? p=some { cls:=.type "list",data:=.seq its.toArray n }/\xs.length<=sizeLine:=by
 obtain ⟨z,its,n,r,e⟩:=I.hok p _ h
 exact ⟨its,n,r,e,z⟩
theorem bc.lstUpd {pins:List (Addr × Obj)}{σ:St}{H:Hp}{s:Shared}{p:Addr}{xs ys:List V}{its its':List Value}{n n':Nat}{f:Obj->Obj} (I:bc X pins σ H s) (h:H p=some (.lst xs))
  (ho:s.heap.get? p=some { cls:=.type "list",data:=.seq its.toArray n }) (hf:f { cls:=.type "list",data:=.seq its.toArray n }={ cls:=.type "list",data:=.seq its'.toArray n' }) (r:bx ys its') (hz:ys.length<=sizeLine) (t:Nat) :
  bc X pins σ (dk H p (.lst ys)) { s with heap:=s.heap.update p f,toks:=t }:=by
 have e:(s.heap.update p f).get? p=some { cls:=.type "list",data:=.seq its'.toArray n' }:=by
  rw [NA f ho (by rw [hf] <;> rfl),hf]
 refine I.write (x:=p) (e:=p) (by rw [h];trivial) (.inl rfl) (fun b u hb q=>(Heap.get?_update_other _ _ (Md hb)).trans q) ⟨_,e⟩ ?_
 exact ⟨hz,its',n',r,e⟩
def Ge:V->V->V->Hp->(Hp->Prop)->Prop:=fun o i v H Q=>∃ p xs k j,o=.ref p/\i=.int k/\H p=some (.lst xs)/\yo xs.length k=some j/\Q (dk H p (.lst (xs.set j v)))
theorem CQ:JC X Ge:=by
 intro pins s σ H o i v ov iv u Q I ro ri rv h
 obtain ⟨p,xs,k,j,rfl,rfl,hp,hj,q⟩:=h
 cases ro
 obtain ⟨t,rfl⟩:=ri
 obtain ⟨its,n,r,ho,hz⟩:=I.lst hp
 obtain ⟨h1,h2,h3,h4⟩:=vg hj
 have hl:=r.length
 have hn:=oS
 have I':bc X pins σ (dk H p (.lst (xs.set j v))) { s with heap:=s.heap.update p (Obj.mapSeq (·.setIfInBounds j u)) }:=
  I.lstUpd hp ho (y9 its n j u) (r.set rv j) (by rw [NB];exact hz) s.toks
 by_cases h0:0<=k
 ·have hk:k.toNat=j:=by
   rw [seqIndex_of h0 h4] at h1
   exact LW h1
  exact W.ki_setAt ho h0 (by omega) (by rw [ML,<- hl];exact h4) (by rw [hk];exact ⟨_,I',q⟩)
 ·have hk:(k+(its.toArray.size:Int)).toNat=j:=by
   rw [seqIndex_neg (by omega) h3] at h1
   rw [ML,<- hl]
   exact LW h1
  exact W.ki_setBack ho (by omega) (by rw [ML,<- hl];exact h3) (by omega) (by rw [hk];exact ⟨_,I',q⟩)
theorem vF (lo hi:Option Int) (n:Nat):(sliceBounds lo hi none n).1=((HT.sIx n 0 lo:Nat):Int)/\(sliceBounds lo hi none n).2.1=((HT.sIx n n hi:Nat):Int)/\(sliceBounds lo hi none n).2.2=1:=by
 refine ⟨?_,?_,rfl⟩
 ·cases lo with
  | none=>simp [sliceBounds,HT.sIx]
  | some i=>
   simp only [sliceBounds,HT.sIx,Option.getD_none,show (1:Int) > 0 by decide,Nn]
   by_cases h:i<0
   ·simp only [h,Nn] <;> omega
   ·simp only [h,Nl] <;> omega
 ·cases hi with
  | none=>simp [sliceBounds,HT.sIx]
  | some i=>
   simp only [sliceBounds,HT.sIx,Option.getD_none,show (1:Int) > 0 by decide,Nn]
   by_cases h:i<0
   ·simp only [h,Nn] <;> omega
   ·simp only [h,Nl] <;> omega
theorem tE (its:List Value) (lo hi:Option Int):slicePick its.toArray lo hi none=((its.drop (HT.sIx its.length 0 lo)).take (HT.sIx its.length its.length hi - HT.sIx its.length 0 lo)).toArray:=by
 obtain ⟨h1,h2,h3⟩:=vF lo hi its.toArray.size
 unfold slicePick
 rw [h1,h2,h3]
 simp only [sliceRange_one,pick_run,ML] <;> rfl
def Jk (K:W.Frag):V->Option Int->Option Int->Hp->VK->Prop:=fun x lo hi H Q=>∃ a xs,x=.ref a/\ia K H a xs/\∀ p,H p=none->Q (.ref p) (dk H p (.lst (wd xs lo hi)))
theorem Et:DT X (Jk X.K):=by
 intro pins s σ H x v vl vu lo hi sl Q I rx hs pl pu h
 obtain ⟨a,xs,rfl,hx,q⟩:=h
 cases rx
 obtain ⟨its,r,ht,hz⟩:=I.list hx
 have hlen:=r.length
 refine ⟨"list",_,slot_list_getitem.lookup,ht.isList.typeIs,?_⟩
 refine wpAny_getItem_list_slice ht.isList hs pl pu .none (by simp) ?_ (by rw [ML] <;> omega)
 rw [tE,<- hlen]
 refine ⟨.ref s.heap.objs.size,_,I.laid (t':=s.toks) (o:=.lst (wd xs lo hi)) (fun b ob q=>Mz _ q) (MD _) ?_,rfl,q _ (I.hok.fresh (MD _))⟩
 exact ⟨L5 (pW xs lo hi) hz,_,0,(r.drop (HT.sIx xs.length 0 lo)).take (HT.sIx xs.length xs.length hi - HT.sIx xs.length 0 lo),MC _ rfl⟩
theorem dv.or {f:Value}{r r':List V->Hp->VK->Prop} (h:dv X f r) (h':dv X f r'):dv X f (fun xs H Q=>r xs H Q\/r' xs H Q):=by
 intro pins s σ H xs us Q I rs q
 rcases q with q | q
 ·exact h pins s σ H xs us Q I rs q
 ·exact h' pins s σ H xs us Q I rs q
theorem vW:dv X (.type "list") (fun xs H Q=>∃ p ys,xs=[.ref p]/\(ia X.K H p ys\/ip X.K H p ys)/\∀ l,H l=none->Q (.ref l) (dk H l (.lst ys))):=by
 intro pins s σ H xs us Q I r h
 obtain ⟨p,ys,rfl,hq,q⟩:=h
 obtain ⟨u,rfl,rx⟩:=iD r
 cases rx
 have fin:∀ (its:List Value),bx ys its->ys.length<=sizeLine->∀ (h':Heap) (c':Nat),(∀ b o',s.heap.get? b=some o'->h'.get? b=some o') ->
   h'.get? s.heap.objs.size=some { cls:=.type "list",dict:=none,data:=.seq its.toArray c',slots:=#[] }->EP X pins σ Q (.ref s.heap.objs.size) { s with heap:=h' }:=fun its r' hz h' c' kp e=>
  ⟨.ref s.heap.objs.size,_,I.laid (t':=s.toks) kp (MD _) (show gq X.prog X.w _ h' _ (.lst ys) from ⟨hz,its,c',r',e⟩),rfl,q _ (I.hok.fresh (MD _))⟩
 rcases hq with hq | hq
 ·obtain ⟨its, r', pl, hz⟩ := I.list hq
  have hlen:=r'.length
  obtain ⟨o,ho,hc,n,hd⟩:=pl.isList
  exact call_list_seq p (.inl rfl) ho hc hd (fun h' c' kp e=>fin its r' hz h' c' kp e) (by simp only [ML] <;> omega)
 ·obtain ⟨its, r', pl, hz⟩ := I.tuple hq
  have hlen:=r'.length
  obtain ⟨o,ho,hc,n,hd⟩:=pl
  exact call_list_seq p (.inr rfl) ho hc hd (fun h' c' kp e=>fin its r' hz h' c' kp e) (by simp only [ML] <;> omega)
theorem tR:dv X (.type "tuple") (fun xs H Q=>∃ p ys,xs=[.ref p]/\((ia X.K H p ys/\∀ l,H l=none->Q (.ref l) (dk H l (.tup ys)))\/(ip X.K H p ys/\Q (.ref p) H))):=by
 intro pins s σ H xs us Q I r h
 obtain ⟨p,ys,rfl,h⟩:=h
 obtain ⟨u,rfl,rx⟩:=iD r
 cases rx
 rcases h with ⟨hq,q⟩ | ⟨hq,q⟩
 ·obtain ⟨its, r', pl, hz⟩ := I.list hq
  have hlen:=r'.length
  refine call_tuple_list pl.isList (fun h' kp=>?_) (by simp only [ML] <;> omega)
  have I1:bc X pins σ H { s with heap:=h' }:=I.kept (t':=s.toks) kp
  have I2:bc X pins σ (dk H h'.objs.size (.tup ys)) { s with heap:=h'.push { cls:=.type "tuple",data:=.seq its.toArray } }:=
   I1.laid (t':=s.toks) (fun b o e=>Mz _ e) (MD _) (show gq X.prog X.w _ _ _ (.tup ys) from ⟨hz,its,r',IsTup.new _ _⟩)
  exact ⟨.ref h'.objs.size,_,I2,rfl,q _ (I1.hok.fresh (MD _))⟩
 ·obtain ⟨its, r', pl, hz⟩ := I.tuple hq
  exact call_tuple_same pl ⟨.ref p,H,I,rfl,q⟩
def KE (K:W.Frag) (T:String) (x:V) (H:Hp):Prop:=match x with
 | .str _=>T = "str"
 | .int _=>T = "int"
 | .ref p=>(T = "list" /\ ∃ xs,ia K H p xs)\/(T = "tuple" /\ ∃ o,K.lookup p=some o/\o.cls=.type "tuple" /\ o.dict=none) \/
   (T = "dict" /\ ((∃ kvs,H p=some (.dK kvs))\/∃ kvs,H p=some (.dT kvs)))\/(T = "set" /\ ∃ S n,H p=some (.set S n))
 | _=>False
theorem GQ {pins:List (Addr × Obj)}{σ:St}{H:Hp}{s:Shared}{T:String}{x:V}{v:Value} (I:bc X pins σ H s) (r:cM x v) (ty:KE X.K T x H) :
  s.TypeIs v T/\∀ a,v=.ref a->∃ ob,s.heap.get? a=some ob/\ob.dict=none:=by
 cases x with
 | str z=>
  obtain ⟨t,rfl⟩:=r
  cases (show T = "str" from ty)
  exact ⟨typeIs_str s z t,fun _ e=>nomatch e⟩
 | int i=>
  obtain ⟨t,rfl⟩:=r
  cases (show T = "int" from ty)
  exact ⟨typeIs_int s i t,fun _ e=>nomatch e⟩
 | ref p=>
  cases r
  rcases ty with ⟨rfl,xs,hq⟩ | ⟨rfl,o,hk,hc,hd⟩ | ⟨rfl,hk⟩ | ⟨rfl,S,n,hk⟩
  ·obtain ⟨its, _, pl, _⟩ := I.list hq
   refine ⟨pl.isList.typeIs,fun a e=>?_⟩
   cases e
   obtain ⟨o,n,e,c,hd,_⟩:=pl
   exact ⟨o,e,hd⟩
  ·refine ⟨⟨o, I.kIn p o hk, hc⟩, fun a e => ?_⟩
   cases e
   exact ⟨o,I.kIn _ o hk,hd⟩
  ·have z:∃ o,s.heap.get? p=some o/\o.ExactDict:=by
    rcases hk with ⟨kvs,hk⟩ | ⟨kvs,hk⟩
    ·obtain ⟨_, _, _, _, o, _, _, e, ex, _⟩ := I.hok p _ hk
     exact ⟨o,e,ex⟩
    ·obtain ⟨_, _, _, _, o, _, _, e, ex, _⟩ := I.hok p _ hk
     exact ⟨o,e,ex⟩
   obtain ⟨o,e,ex⟩:=z
   refine ⟨⟨o,e,ex.1⟩,fun a e2=>?_⟩
   cases e2
   exact ⟨o,e,ex.2.1⟩
  ·obtain ⟨o, _, _, _, e, ex, _⟩ := I.hok p _ hk
   refine ⟨⟨o,e,ex.1⟩,fun a e2=>?_⟩
   cases e2
   exact ⟨o,e,ex.2.1⟩
 | _=>exact False.elim ty
def LJ (K:W.Frag) (T:String) (r:V->List V->Hp->VK->Prop) (to:TE) (t:TA):TE:=fun σ H Q=>to σ H fun x H1=>KE K T x H1/\t σ H1 fun xs H2=>r x xs H2 Q
variable {o e:Expr}{es:List Expr}{to:TE}{t:TA}{name:Str}{apos cpos:Pos}{T id:String}{r:V->List V->Hp->VK->Prop}
theorem J7 (pa:PlainAttrs T) (slot:Slot T name id) (hty:typeOf (.builtin id)=pure (.type "method_descriptor")) (hm:Ly X id r) (ho:PE X o to) (ha:PA X (e::es) t)
  (hbase:attributeBase o name X.env (eval o X.env)=eval o X.env:=by rfl)
  (hfew : ((backTo cpos (starEach (e :: es) X.env)).all (fun x => !x.1) && (backToKw cpos (keywordEach [] X.env)).all (fun x => x.1.isSome)
   && decide ((e::es).length+([]:List Keyword).length+(if ([]:List Keyword).isEmpty then 0 else 1)<30))=true:=by rfl)
  (hline:(apos.endLine == cpos.line)=true:=by rfl) (hs:starEach (e::es) X.env=(false,eval e X.env)::starEach es X.env:=by rfl) (hplain:(backTo cpos (starEach es X.env)).any (·.1)=false:=by rfl) :
  PE X (.Call (.Attribute o name apos) (e::es) [] cpos) (LJ X.K T r to t):=by
 intro pins s σ H Q I h
 refine wpAny_Call_method_late hbase hfew hline rfl (eV (ho pins s σ H _ I h) fun v s1 ⟨x,H1,I1,r1,ty,q1⟩=>?_)
 obtain ⟨h1,h2⟩:=GQ I1 r1 ty
 refine ⟨T,id,pa,slot,hty,h1,h2,?_⟩
 have hA:=ha cpos pins s1 σ H1 _ I1 q1
 rw [hs] at hA ⊢
 refine Calls.callWith_builtin (by show (false || (backTo cpos (starEach es X.env)).any (·.1))=false;rw [hplain] <;> rfl) (Calls.evalArgs_plain ?_)
 exact eV hA fun us s2 ⟨vs,H2,I2,r2,q2⟩=>hm pins s2 σ H2 x vs v us Q I2 r1 r2 q2
end
end L2
namespace L2
open PySem PySem.Spec PyProof.Rows
def LA (X:Cx) (id:String) (r:V->List V->Hp->VK->Prop):Prop:=
 ∀ (pins:List (Addr × Obj)) (s:Shared) (σ:St) (H:Hp) (x:V) (xs:List V) (v:Value) (us:List Value) (Q:VK),bc X pins σ H s->cM x v->bx xs us->r x xs H Q ->
  wpAny (model X.prog X.w) X.A (call (.builtin id) (v::us)) (EP X pins σ Q) X.xe s
theorem bx.one:∀ {x:V}{us:List Value},bx [x] us->∃ u,us=[u]/\cM x u
 | _,_,.cons r .nil=>⟨_,rfl,r⟩
theorem bx.eraseIdx:∀ {xs:List V}{us:List Value} (i:Nat),bx xs us->bx (xs.eraseIdx i) (us.eraseIdx i)
 | _,_,_,.nil=>.nil
 | _,_,0,.cons _ t=>t
 | _,_,i+1,.cons r t=>.cons r (bx.eraseIdx i t)
theorem bx.rep {xs:List V}{us:List Value} (h:bx xs us):∀ k:Nat,bx (List.replicate k xs).flatten (List.replicate k us).flatten
 | 0=>.nil
 | k+1=>by
  rw [NC,NC,ND,ND]
  exact bx.append h (bx.rep h k)
theorem uo {α:Type}:∀ (l:List α) (i:Nat),(l.eraseIdx i).length<=l.length
 | [],_=>MD _
 | _::_,0=>NF _
 | _::r,i+1=>Nat.succ_le_succ (uo r i)
theorem uA (its:List Value):∀ (k:Nat) (acc:List Value),
  List.foldl (fun x1 x2=>x1++x2) acc.toArray (List.replicate k its.toArray)=(acc++(List.replicate k its).flatten).toArray
 | 0,acc=>by simp
 | k+1,acc=>by
  have e:acc.toArray++its.toArray=(acc++its).toArray:=by simp
  have e2:(acc++its)++(List.replicate k its).flatten=acc++(List.replicate (k+1) its).flatten:=by
   rw [NC,ND,NG]
  rw [<- e2,<- uA its k (acc++its),<- e,NC,NH]
section
variable {X:Cx}{pins:List (Addr × Obj)}{σ:St}{H:Hp}{s:Shared}{l b:Addr}{xs ys zs:List V}
theorem bc.lset {its its':List Value}{n:Nat}{f:Array Value->Array Value}{t':Nat} (I:bc X pins σ H s) (hH:H l=some (.lst xs))
  (e:s.heap.get? l=some { cls:=.type "list",data:=.seq its.toArray n }) (hf:f its.toArray=its'.toArray) (hv:bx ys its') (hz:ys.length<=sizeLine) :
  bc X pins σ (dk H l (.lst ys)) { s with heap:=s.heap.update l (Obj.mapSeq f),toks:=t' }:=by
 have q:=PySem.IsL.update e f
 rw [hf] at q
 refine I.write (x:=l) (e:=l) (by rw [hH];exact trivial) (.inl rfl) (fun b' u hb hu=>(Heap.get?_update_other s.heap (Obj.mapSeq f) (Md hb)).trans hu) ⟨_,q⟩ ?_
 exact ⟨hz,its',_,hv,q⟩
theorem bc.lnew {its:List Value}{t':Nat} (I:bc X pins σ H s) (hv:bx ys its) (hz:ys.length<=sizeLine) :
  bc X pins σ (dk H s.heap.objs.size (.lst ys)) { s with heap:=s.heap.push { cls:=.type "list",data:=.seq its.toArray },toks:=t' }:=
 I.laid (fun _ _ q=>Mz _ q) (MD _) ⟨hz,its,0,hv,MC _ rfl⟩
theorem bc.fresh (I:bc X pins σ H s):H s.heap.objs.size=none:=I.hok.fresh (MD _)
theorem bc.lstM (I:bc X pins σ H s) (hH:H l=some (.lst xs)):xs.length<=sizeLine/\∃ (its:List Value) (n:Nat),bx xs its/\xs.length=its.length/\s.heap.get? l=some { cls:=.type "list",data:=.seq its.toArray n }:=by
 obtain ⟨z,its,n,r,e⟩:=I.hok l _ hH
 exact ⟨z,its,n,r,r.length,e⟩
theorem xg {n:Nat} (h:n<=sizeLine):Builtin.List.listTooLong n=false:=by
 unfold Builtin.List.listTooLong
 exact LR (by omega)
end
section
variable {X:Cx}
def zO:V->List V->Hp->VK->Prop:=fun x vs H Q=>∃ l xs y,x=.ref l/\vs=[y]/\H l=some (.lst xs)/\xs.length<sizeLine/\Q .non (dk H l (.lst (xs++[y])))
theorem uj:LA X "list.append" zO:=by
 intro pins s σ H x vs v us Q I rx rv h
 obtain ⟨l,xs,y,rfl,rfl,hH,hz,q⟩:=h
 cases rx
 obtain ⟨u,rfl,ru⟩:=rv.one
 obtain ⟨z,its,n,r,hl,e⟩:=I.lstM hH
 refine NI F.slot_list_append ⟨_,e,rfl⟩ F.entry_list_append (F.args_list_append_2 _ _) (PySem.list_append l its.toArray n u (by rw [ML];omega)) ⟨e,?_⟩
 refine ⟨.non,_,I.lset (its':=its++[u]) hH e (by simp) (r.append (.cons ru .nil)) ?_,rfl,q⟩
 rw [Nb,NJ]
 omega
def Cf:V->List V->Hp->VK->Prop:=fun x vs H Q=>∃ l xs i k y,x=.ref l/\vs=[.int i]/\H l=some (.lst xs)/\-(2 ^ 63)<=i/\i<2 ^ 63/\seqIndex? i xs.length=some k/\xs[k]?=some y/\Q y (dk H l (.lst (xs.eraseIdx k)))
theorem Dp:LA X "list.pop" Cf:=by
 intro pins s σ H x vs v us Q I rx rv h
 obtain ⟨l,xs,i,k,y,rfl,rfl,hH,h1,h2,hk,hy,q⟩:=h
 cases rx
 obtain ⟨u,rfl,ru⟩:=rv.one
 obtain ⟨t,rfl⟩:=ru
 obtain ⟨z,its,n,r,hl,e⟩:=I.lstM hH
 obtain ⟨w,hw,rw'⟩:=r.get hy
 refine NI F.slot_list_pop ⟨_,e,rfl⟩ F.entry_list_pop (F.args_list_pop_2 _ _)
  (MeetsSeq.list_pop_at l its.toArray n i t k w (fitsIndex_both h1 h2) (by rw [ML,<- hl];exact hk) (by rw [<- NK];exact hw) (by rw [ML];omega)) ⟨e,?_⟩
 refine ⟨y,_,I.lset (its':=its.eraseIdx k) hH e ?_ (r.eraseIdx k) ?_,rw',q⟩
 ·show its.toArray.eraseIdxIfInBounds k = (its.eraseIdx k).toArray
  rw [List.eraseIdxIfInBounds_toArray]
 ·have := uo xs k
  omega
def Jr:R2:=fun x y H Q=>∃ l b xs zs,x=.ref l/\y=.ref b/\H l=some (.lst xs)/\H b=some (.lst zs)/\xs.length+zs.length<=sizeLine/\∀ p,H p=none->Q (.ref p) (dk H p (.lst (xs++zs)))
theorem HY:lg X (binaryOp .Add) Jr:=by
 intro pins s σ H x y v u Q I rx ry h
 obtain ⟨l,b,xs,zs,rfl,rfl,hH,hB,hz,q⟩:=h
 cases rx
 cases ry
 obtain ⟨z,its,n,r,hl,e⟩:=I.lstM hH
 obtain ⟨z2,its2,n2,r2,hl2,e2⟩:=I.lstM hB
 refine PySem.P.add_list e e2 ?_ (by rw [ML,ML];omega)
 have ea:its.toArray++its2.toArray=(its++its2).toArray:=by simp
 rw [ea]
 exact ⟨.ref _,_,I.lnew (t':=s.toks) (r.append r2) (by rw [Nb];omega),rfl,q _ I.fresh⟩
def Jm:R2:=fun x y H Q=>∃ l k xs,x=.ref l/\y=.int k/\H l=some (.lst xs)/\-(2 ^ 63)<=k/\k<2 ^ 63/\xs.length * k.toNat<=sizeLine /\
 ∀ p,H p=none->Q (.ref p) (dk H p (.lst (List.replicate k.toNat xs).flatten))
theorem FA {α:Type} (xs:List α) (k:Nat):(List.replicate k xs).flatten.length=k * xs.length:=by
 induction k with
 | zero=>simp
 | succ k ih=>rw [NC,ND,Nb,ih,Nat.succ_mul,Nat.add_comm]
theorem HP:lg X (binaryOp .Mult) Jm:=by
 intro pins s σ H x y v u Q I rx ry h
 obtain ⟨l,k,xs,rfl,rfl,hH,h1,h2,hz,q⟩:=h
 cases rx
 obtain ⟨t,rfl⟩:=ry
 obtain ⟨z,its,n,r,hl,e⟩:=I.lstM hH
 have hlen:its.toArray.size * k.toNat<=sizeLine:=by rw [ML,<- hl];exact hz
 have hcap:¬ its.toArray.size * k.toNat > (2 ^ 63 - 1) / 8:=by
  have:(sizeLine:Nat)<=(2 ^ 63 - 1) / 8:=by decide
  omega
 have hfit:¬ (!Builtin.List.listFitsIndex k)=true:=by
  rw [fitsIndex_both h1 h2]
  exact Mu
 have hlong:¬ Builtin.List.listTooLong (its.toArray.size * k.toNat)=true:=by
  rw [xg hlen]
  exact Mu
 have hnew:List.foldl (fun x1 x2=>x1++x2) #[] (List.replicate (if its.toArray.isEmpty=true then 0 else k.toNat) its.toArray)=(List.replicate k.toNat its).flatten.toArray:=by
  have f0:∀ m:Nat,List.foldl (fun x1 x2=>x1++x2) #[] (List.replicate m its.toArray)=(List.replicate m its).flatten.toArray:=fun m=>by
   have:=uA its m []
   rw [NL] at this
   exact this
  rw [f0]
  cases its with
  | nil=>simp
  | cons a r'=>rw [LV (by simp)]
 refine wpAny_binaryOp_repeat_ref (T:="list") (U:="int") (by decide) ⟨_,e,rfl⟩ (fun s'=>typeIs_int s' k t) noFill_list_mul F.fills_int_mul F.slot_int_rmul repeat_list F.slot_int_index.lookup
  (NI F.slot_int_rmul (typeIs_int s k t) F.entry_int_rmul (F.args_int_rmul_2 _ _) (int___rmul___int_list k t l its.toArray n)
   ⟨e,rfl,⟨_,e,rfl⟩,NI F.slot_list_mul ⟨_,e,rfl⟩ F.entry_list_mul (F.args_list_mul_2 _ _) (AutoListH.list___mul___list_int_3 l its.toArray n k t hfit hcap hlong) ⟨e,?_⟩⟩)
 rw [hnew]
 exact ⟨.ref _,_,I.lnew (t':=s.toks) (r.rep k.toNat) (by rw [FA,Nat.mul_comm];exact hz),rfl,q _ I.fresh⟩
end
section
variable {prog:Program}{w:World}{A:Around}{E:Value->Shared->Prop}{s:Shared}
end
section
variable {X:Cx}
end
end L2
namespace Att
open PySem PySem.W PySem.Calls PyProof.Rows
theorem qu {P:Params}{h:Heap}:∀ (ns:List Int) (vs:List Value),WellAll P h vs (ns.map WData.int)->IntsAre vs ns:=by
 intro ns
 induction ns with
 | nil=>
  intro vs w
  rw [Ny] at w
  cases w
  exact .nil
 | cons n ns ih=>
  intro vs w
  rw [Nz] at w
  cases w with
  | cons a b=>
   cases a
   exact .cons _ _ (ih _ b)
theorem AG {l:OpenLaw}{n:Nat} (hn:l.most=some n) {P:Params}{h:Heap}{args:List WData}{vals:List Value}
  (hpre:l.row.toRowW.claim.pre args=true) (hwl:WellAll P h vals args) :
  ∃ a vs ns,vals=[Value.ref a]/\args=[WData.list (ns.map WData.int)]/\h.get? a=some { cls:=.type "list",data:=.seq vs.toArray }/\IntsAre vs ns/\ns.length<=n:=by
 have hsh:WShape.hasAll [] args [.list .int]=true:=(pre_splitW hpre).1
 have hc:l.pre.holds [] { args:=args }=true:=(pre_splitW hpre).2
 obtain ⟨d,r,rfl,h1,h2⟩:=hasAllW_cons hsh
 obtain rfl:=hasAllW_nil h2
 obtain ⟨xs,rfl,h3⟩:=hasW_list h1
 obtain ⟨ns,rfl⟩:=items_int h3
 have hlen:ns.length<=n:=by
  unfold OpenLaw.pre at hc
  have h4:(WTm.not (.lt (.lit (.int (n:Int))) (.len (.arg 0)))).holds [] { args:=[.list (ns.map .int)] }=true:=by
   have h4:=(holds_andW hc).1
   rw [hn] at h4
   exact h4
  have h5:=condW_of h4 (w_not (w_lt w_lit (w_len_list (w_arg rfl))))
  rw [Nd] at h5
  refine Nat.le_of_not_lt fun q=>?_
  have q':(n:Int)<((ns.length:Nat):Int):=by omega
  first
   | (rw [NM q'] at h5;exact absurd h5 (by decide))
   | (simp at h5;omega)
 cases hwl with
 | cons w1 w2=>
  cases w2
  cases w1 with
  | list ho hall=>exact ⟨_,_,ns,rfl,rfl,ho,qu ns _ hall,hlen⟩
theorem AI (l:OpenLaw) (args:List WData):l.row.toRowW.claim.post args (.bool true) args=true:=
 postW_of (r:=l.row.toRowW) (X:=(true == true))
  (show WShape.has [] (.bool true) .bool=true by first | rfl | decide | simp [WShape.has,WShape.arms,WShape.armsAll])
  (show (WTm.eq .res (.lit (.bool true))).value [] { args:=args,res:=some (.bool true),after:=args }=some (.bool (true == true)) from w_eq_bool (w_res rfl) w_lit) rfl
theorem attach_call {l:OpenLaw}{n:Nat}{q:Program}{loose:List Str}{XP:(Str->Option Value)->Heap->Prop}{YP:World->Heap->Prop}{d:DefRec}
  (hn:l.most=some n) (hdf:d.params.defaults=[])
  (call : ∀ (w : World) (s₀ s₁ : Shared) (mg mb : Str -> Option Value) (fa : Addr) (o : Obj) (pm cd doc : Value) (a : Addr) (vs : List Value) (ns : List Int),
   Ground q loose [] XP w s₀ mg mb s₁.heap->YP w s₁.heap ->
   s₁.heap.get? fa=some o->o.data=.func (docDef d.name d.params d.body d.scope pm cd doc)->s₁.heap.CodeRec cd d.name->mg d.name=some (.ref fa) ->
   s₁.heap.get? a=some { cls:=.type "list",data:=.seq vs.toArray }->IntsAre vs ns->ns.length<=n->s₁.gens=#[] ->
   codeAny (model l.prog w) callerA (.call (.ref fa) ⟨[.ref a],[]⟩) (fun r s'=>r=.ok (.ret (.bool true))/\OldK s₁.heap s'.heap/\s'.os=s₁.os/\AllBare s'.gens) s₁) :
  WalkO q loose XP YP l.row.toRowW d [] (fun f vs=>PySem.call f vs):=by
 intro w s₀ s₁ mg mb G Y fa o pm cd doc dV kV ho hd hcd hD hmg hg args vals as hpre hlay hrd hwl hlo
 obtain rfl:dV=.none:=Dflts.none hD hdf
 obtain rfl:kV=.none:=Dflts.noKw hD
 obtain ⟨a,vs,ns,rfl,rfl,hobj,hints,hlen⟩:=AG hn hpre hwl
 refine enter_call (MN (call w s₀ s₁ mg mb fa o pm cd doc a vs ns G Y ho (fd_plain hd) hcd hmg hobj hints hlen hg) fun r s' hq=>?_)
 obtain ⟨rfl,h2,h3,h4⟩:=hq
 exact ⟨.inl ⟨.bool true,.bool true,[],rfl,fun _=>rfl,.bool true,AI l _,fun _=>⟨List.Pairwise.nil,fun _ hm=>(nomatch hm)⟩⟩,h2,h3,h4⟩
section
variable {prog:Program}{w:World}{A:Around}{E:Value->Shared->Prop}{s:Shared}{K:Frag}
end
end Att
namespace L2
open PySem PySem.Spec PyProof.Rows
theorem t4:∀ {vs:List Value}{ns:List Int},IntsAre vs ns->bx (ns.map V.int) vs
 | _,_,.nil=>.nil
 | _,_,.cons n t h=>.cons ⟨t,rfl⟩ (t4 h)
def D3 (H:Hp):Prop:=∀ b,H b=none\/∃ o xs,H b=some (.frz o (.lst xs))
theorem Ds {P:Program}{w:World}{K:W.Frag}{mg mb:Str->Option Value}{CX:Bw}{k:Nat}{fa a:Addr}{fd:FuncData}{x:Str}{sp:Sp}{s₁:Shared}{vs:List Value}{ns:List Int}
  (KX:K.In s₁.heap) (hns:s₁.heap.Ns mainGlobals mg) (hb:s₁.heap.Ns builtinsNs mb) (hbb:∀ x:Str,x ≠ "__name__" -> mb x=bootBuiltins x) (hlim:s₁.heap.NoLimit) (hg:s₁.gens=#[])
  (ha:s₁.heap.get? a=some { cls:=.type "list",data:=.seq vs.toArray }) (hi:IntsAre vs ns) (hl:ns.length<=sizeLine) (hr:jB k callerA)
  (F:∀ base:Heap,K.In base->base.Ns mainGlobals mg->tp P w K mg base CX k fa fd [x] sp) (hbind:∀ (s:Shared) (u:Value),BindsTo s fd ⟨[u],[]⟩ [(x,u)])
  (hsp:∀ H:Hp,D3 H->ia K H a (ns.map V.int)->sp [.ref a] H (fun v _=>v=.bl true) fun _ _ _=>False)
  (hCX:∀ H e s',CX [] H s₁ (fun _ _ _=>False) e s'->False) :
  codeAny (model P w) callerA (.call (.ref fa) ⟨[.ref a],[]⟩) (fun r s'=>r=.ok (.ret (.bool true))/\OldK s₁.heap s'.heap/\s'.os=s₁.os/\AllBare s'.gens) s₁:=by
 have rv:=t4 hi
 have lenV:=hi.length
 have core:∀ H:Hp,D3 H->ia K H a (ns.map V.int)->qN P w H s₁.heap->(∀ b,H b≠none->b=a)->(H a≠none->K.lookup a=none) ->
   codeAny (model P w) callerA (.call (.ref fa) ⟨[.ref a],[]⟩) (fun r s'=>r=.ok (.ret (.bool true))/\OldK s₁.heap s'.heap/\s'.os=s₁.os/\AllBare s'.gens) s₁:=by
  intro H hO hS hok hA hK
  have base_of:∀ {b:Addr}{o:Obj},s₁.heap.get? b=some o->H b=none->(uS s₁.heap H).get? b=some o:=fun e n=>Dv e n
  have noA:∀ {b:Addr}{o:Obj}{es:Array DictEntry}{ep:Nat},s₁.heap.get? b=some o->o.data=.dict es ep->H b=none:=fun {b o es ep} e d=>by
   cases q:H b with
   | none=>rfl
   | some u=>
    have e':b=a:=hA b (by rw [q];simp)
    subst e'
    rw [ha] at e;cases e
    have d':Data.seq vs.toArray _=Data.dict es ep:=d
    cases d'
  have nsK:∀ {b:Addr}{m:Str->Option Value},s₁.heap.Ns b m->(uS s₁.heap H).Ns b m:=fun {b m} ⟨o,es,ep,e,d,r⟩=>⟨o,es,ep,base_of e (noA e d),d,r⟩
  have hKb:K.In (uS s₁.heap H):=fun b o e=>base_of (KX b o e) (by
   cases q:H b with
   | none=>rfl
   | some u=>
    have e':b=a:=hA b (by rw [q];simp)
    subst e'
    rw [hK (by rw [q];simp)] at e;cases e)
  have hM:Mod K mg (uS s₁.heap H):=⟨hKb,nsK hns,⟨mb,nsK hb,hbb⟩,let ⟨mc,h1,h2⟩:=hlim;⟨mc,nsK h1,h2⟩⟩
  have e0:D4 P w K mg (uS s₁.heap H) callerA [] s₁ H:=⟨rfl,hM,fun b o e=>Fj e,Nat.le_of_eq (A1 _ _),trivial,fun b hb=>absurd (show b∈([]:List Addr) from hb) (by simp),hok,.of_eq hg⟩
  refine MN ((F _ hKb (nsK hns)).run callerA [] s₁ H ⟨[.ref a],[]⟩ [.ref a] [.ref a] _ _ hr e0 (hbind s₁ (.ref a)) (.cons rfl .nil) (hsp H hO hS)) fun r s' h=>?_
  cases r with
  | error e=>exact (hCX H e s' h).elim
  | ok fl=>
   cases fl with
   | next=>exact False.elim h
   | brk=>exact False.elim h
   | cont=>exact False.elim h
   | ret u=>
    obtain ⟨v,H',os,bare,un,hok',r',q⟩:=h
    have q':v=.bl true:=q
    subst q'
    obtain rfl:u=Value.bool true:=r'
    refine ⟨rfl,OldK.of_keep fun b o e=>?_,os,bare⟩
    cases q:H b with
    | none=>exact un.keep b o e q (by intro z;exact absurd (show b∈([]:List Addr) from z) (by simp)) (by simp)
    | some u=>
     rcases hO b with z | ⟨ob,xs,z⟩
     ·rw [q] at z;cases z
     ·have z2 := un.frzs b ob _ z
      obtain ⟨e1,_⟩:=hok b _ z
      obtain ⟨e2,_⟩:=hok' b _ z2
      rw [e] at e1;cases e1
      exact e2
 cases hk:K.lookup a with
 | some o=>
  have e:=KX a o hk
  rw [ha] at e
  cases e
  refine core (fun _=>none) (fun _=>.inl rfl) (.inr ⟨_,vs.toArray,_,hk,rfl,rfl,rfl,by rw [ML,lenV];exact hl,by simpa using rv⟩) (fun b u z=>by have z':(none:Option HO)=some u:=z;cases z') (fun b z=>absurd rfl z) fun z=>absurd rfl z
 | none=>
  refine core (fun b=>if b=a then some (.frz { cls:=.type "list",data:=.seq vs.toArray } (.lst (ns.map V.int))) else none) (fun b=>?_) (.inl (.inr ⟨{ cls:=.type "list",data:=.seq vs.toArray },LU rfl⟩)) (fun b u z=>?_) (fun b z=>?_) fun _=>hk
  ·by_cases hb : b = a
   ·exact .inr ⟨_,_,LU hb⟩
   ·exact .inl (LV hb)
  ·by_cases hb : b = a
   ·have z' := (LU hb).symm.trans z
    cases z'
    subst hb
    exact ⟨ha,by rw [Nd];exact hl,vs,_,rv,ha⟩
   ·have z' := (LV hb).symm.trans z
    cases z'
  ·by_cases hb : b = a
   ·exact hb
   ·exact absurd (LV hb) z
end L2
namespace L2
open PySem PySem.Spec PyProof.Rows
theorem walk_of {l:W.OpenLaw}{n k:Nat}{q:Program}{loose:List Str}{XP:(Str->Option Value)->Heap->Prop}{YP:World->Heap->Prop}{d:DefRec}{K:Params->W.Frag}{CX:World->Bw}{sp:World->Sp}{x:Str}
  (hn:l.most=some n) (hn2:n<=sizeLine) (hdf:d.params.defaults=[]) (hr:jB k callerA)
  (hY:∀ (w:World) (h:Heap),YP w h->(K w.params).In h)
  (F : ∀ (w : World) (mg : Str -> Option Value) (fa : Addr) (h : Heap), (K w.params).In h -> h.Ns mainGlobals mg -> mg d.name = some (.ref fa) ->
   ∃ fd:FuncData,(∀ (s:Shared) (u:Value),BindsTo s fd ⟨[u],[]⟩ [(x,u)]) /\
    ∀ base:Heap,(K w.params).In base->base.Ns mainGlobals mg->tp l.prog w (K w.params) mg base (CX w) k fa fd [x] (sp w))
  (hsp:∀ (w:World) (H:Hp) (a:Addr) (ns:List Int),ns.length<=n->D3 H->ia (K w.params) H a (ns.map V.int)->sp w [.ref a] H (fun v _=>v=.bl true) fun _ _ _=>False)
  (hCX:∀ (w:World) (H:Hp) (s:Shared) (e:Value) (s':Shared),CX w [] H s (fun _ _ _=>False) e s'->False) :
  W.WalkO q loose XP YP l.row.toRowW d [] (fun f vs=>PySem.call f vs):=by
 refine Att.attach_call hn hdf fun w s₀ s₁ mg mb fa o pm cd doc a vs ns G Y ho hd hcd hmg hobj hints hlen hg=>?_
 have KX:=hY w _ Y
 obtain ⟨fd,hb,hF⟩:=F w mg fa _ KX G.T.g hmg
 exact Ds KX G.T.g G.T.b G.T.builtins G.T.nolimit hg hobj hints (L5 hlen hn2) hr hF hb (fun H hO hS=>hsp w H a ns hlen hO hS) fun H e s'=>hCX w H s₁ e s'
end L2
namespace L2
open PySem PySem.Spec PyProof.Rows
def fg (s:Stmt):Arguments:=match s with
 | .FunctionDef _ a _ _ _ _ _ _ _ _=>a
 | _=>{ posonlyargs:=[],args:=[],vararg:=none,kwonlyargs:=[],kw_defaults:=[],kwarg:=none,defaults:=[] }
def c8 (s:Stmt):List Stmt:=match s with
 | .FunctionDef _ _ b _ _ _ _ _ _ _=>b
 | _=>[]
def aw (s:Stmt):Scope:=match s with
 | .FunctionDef _ _ _ _ _ _ sc _ _ _=>sc
 | _=>{ kind:=.function,names:=[],isGenerator:=false,isCoroutine:=false }
abbrev By:Bw:=fun _ _ _ _ _ _=>False
abbrev E0:XK:=fun _ _ _=>False
theorem J9 {X:Cx}:yG By X E0:=fun _ _ _ _ _ _ _ h=>h.elim
structure iS (K:W.Frag) (x qual:Str) (st:Stmt) (f:Addr) (fd:FuncData):Prop where
 ex:∃ (oc:Value) (od:Option Addr) (kV doc pm:Value) (an:Option Addr) (cdv ct:Value) (osl:Array (Option Value)),
  fd=W.fnOf x qual (fg st) (c8 st) (aw st) .none kV doc pm an cdv ct/\K.lookup f=some ⟨oc,od,.func fd,osl⟩/\W.codeIn K cdv qual=true
 kp:W.keepIn K (.ref f)=true
section
variable {P:Program}{w:World}{K:W.Frag}{mg:Str->Option Value}{base:Heap}
theorem iS.ok {x qual:Str}{st:Stmt}{f:Addr}{fd:FuncData}{N ps:List Str}{k:Nat}{sp:Sp} (F:iS K x qual st f fd) (S:aY N ps (aw st)) (len:∀ vs H Q E,sp vs H Q E->vs.length=ps.length)
  (hbody : ∀ (cdv : Value) (A : Around) (outer : List Env) (s : Shared) (H : Hp) (vs : List V) (Q : VK) (E : XK), jB k (A.deeper (envOfC qual (aw st) s.heap.objs.size f cdv)) -> sp vs H Q E ->
   ∃ t,lp (uU By P w K mg base N qual (aw st) f cdv A outer s H E).nox (c8 st) t/\t { nx:=fun _ H'=>Q .non H',rt:=Q } (start N vs) H):tp P w K mg base By (k+1) f fd ps sp:=by
 obtain ⟨oc,od,kV,doc,pm,an,cdv,ct,osl,rfl,lk,hcd⟩:=F.ex
 refine Ki lk hcd S len fun A outer s H vs Q E hr hsp=>?_
 obtain ⟨t,h,q⟩:=hbody cdv A outer s H vs Q E hr hsp
 exact ⟨t,h.nox,q⟩
theorem iS.binds {x qual:Str}{st:Stmt}{f:Addr}{fd:FuncData}{ps:List Str} (F:iS K x qual st f fd)
  (h:∀ (kV doc pm:Value) (an:Option Addr) (cdv ct:Value) (us:List Value),us.length=ps.length->bindArgs (W.fnOf x qual (fg st) (c8 st) (aw st) .none kV doc pm an cdv ct) ⟨us,[]⟩=pure (ps.zip us)):lC K fd ps []:=by
 obtain ⟨oc,od,kV,doc,pm,an,cdv,ct,osl,rfl,lk,hcd⟩:=F.ex
 exact .all (h kV doc pm an cdv ct)
theorem IP {x qual:Str}{st:Stmt}{f:Addr}{oc:Value}{od an:Option Addr}{osl:Array (Option Value)}{kV doc pm cdv ct:Value} (l:K.lookup f=some ⟨oc,od,.func (W.fnOf x qual (fg st) (c8 st) (aw st) .none kV doc pm an cdv ct),osl⟩)
  (c:W.codeIn K cdv qual=true) (k:W.keepIn K (.ref f)=true):iS K x qual st f (W.fnOf x qual (fg st) (c8 st) (aw st) .none kV doc pm an cdv ct):=⟨⟨oc,od,kV,doc,pm,an,cdv,ct,osl,rfl,l,c⟩,k⟩
end
section
variable {X:Cx}
end
theorem Jy {A B:Prop} (h:B):if false=true then A else B:=by
 rw [LV Mu]
 exact h
theorem Jx {A B:Prop} (h:A):if true=true then A else B:=by
 rw [LU rfl]
 exact h
end L2
namespace Lw
open PySem PySem.Spec PyProof.Rows L2
def top (i:Nat):Stmt:=PySem.Challenge.pw_rootwebs_k35_tree_bars.main.body.getD i (.Pass ⟨0,0,0,0⟩)
abbrev jM:Stmt:=top 4
abbrev fq:Stmt:=top 5
abbrev jN:Stmt:=top 6
abbrev gJ:Stmt:=top 7
abbrev iX:Stmt:=top 8
abbrev gS:Stmt:=top 10
abbrev kI:Stmt:=top 11
abbrev dB:Stmt:=top 14
abbrev gK:Stmt:=top 13
abbrev mv:Stmt:=top 12
abbrev kH:Stmt:=top 15
abbrev gI:Stmt:=top 17
abbrev gH:Stmt:=top 20
abbrev dE:Stmt:=top 21
abbrev jO:Stmt:=top 25
abbrev jo:Stmt:=top 27
abbrev gR:Stmt:=top 26
abbrev jP:Stmt:=top 24
abbrev mw:Stmt:=top 28
abbrev fS:Stmt:=top 30
abbrev iY:Stmt:=top 31
abbrev gU:Stmt:=top 32
abbrev iZ:Stmt:=top 33
abbrev iz:Stmt:=top 34
abbrev d7:Stmt:=top 35
abbrev dC:Stmt:=top 36
abbrev iI:Stmt:=top 37
abbrev fI:Stmt:=top 38
abbrev br:Stmt:=top 39
abbrev gT:Stmt:=top 40
abbrev i3:Stmt:=top 41
abbrev fm:Stmt:=top 42
abbrev d6:Stmt:=top 43
abbrev i0:Stmt:=top 44
abbrev kz:Stmt:=top 45
noncomputable def en (P:Params) (n:Str) (t:Tok) (v:Value):DictEntry:=⟨PyData.keyHash P n,.str n t,v⟩
noncomputable def fo (n:Str) (st:Stmt) (m:Str) (t:Tok) (c:Addr):Obj:=⟨.type "function",none,.func (W.fnOf n n (fg st) (c8 st) (aw st) .none .none .none (.str m t) none (.ref c) .none),#[]⟩
noncomputable def co (n:Str) (t:Tok) (l k i:Int) (a:Addr) (p:Bool) (u:Nat):Obj:=⟨.type "code",none,.fields #[.str n t,.str n (t+1),.str "/claim/cut.py" (t+2),.int l 0,.int k 0,.int 0 0,.int 0 0,.int 3 0,.ref a,.bool true,.int i 0,.ref (a+1),.none,bif p then .ref (a+2) else .none,bif p then .ref (a+3) else .none,.ref (bif p then a+4 else a+2),.int u 0,.int l 0,.str "/claim/cut.py" (u+1)],#[]⟩
noncomputable def Kz (P:Params):W.Frag:=[(3,⟨.type "dict",none,.dict #[en P "__name__" 165 (.str "law_rootwebs_k35_tree_bars" 380),en P "__doc__" 166 .none,en P "__package__" 167 .none,en P "__loader__" 168 (.builtin "__main__.__loader__#opaque"),en P "__spec__" 169 .none,en P "__annotations__" 170 (.ref 6),en P "__builtins__" 171 (.ref 4),en P "__file__" 173 (.str "/claim/cut.py" 172),en P "__cached__" 174 .none,en P "RootError" 206 (.ref 24),en P "NoPlace" 222 (.ref 37),en P "is_whole" 231 (.ref 46),en P "is_whole_from" 240 (.ref 53),en P "is_place" 248 (.ref 60),en P "is_places" 254 (.ref 65),en P "is_headed" 263 (.ref 72),en P "check_place" 273 (.ref 79),en P "is_tied" 282 (.ref 86),en P "far_of" 291 (.ref 93),en P "fars_from" 297 (.ref 98),en P "next_places" 303 (.ref 103),en P "star_of" 311 (.ref 110),en P "pieces_of" 319 (.ref 115),en P "LEAST_RING" 323 (.int 3 322),en P "ring_good" 329 (.ref 120),en P "rings_of" 335 (.ref 125),en P "LEAST_BARE" 339 (.int 4 338),en P "bar_good" 347 (.ref 132),en P "is_apart" 355 (.ref 139),en P "is_bar_ring" 363 (.ref 146),en P "is_bare" 369 (.ref 151),en P "bar_of" 379 (.ref 158),en P "_law_cell_at" 389 (.ref 165),en P "_law_next" 396 (.ref 172),en P "_law_pen_of" 404 (.ref 179),en P "_law_draw" 413 (.ref 186),en P "_law_whole" 420 (.ref 193),en P "_law_named" 426 (.ref 198),en P "_law_names_by" 432 (.ref 203),en P "_law_far" 438 (.ref 208),en P "_law_steps" 444 (.ref 213),en P "_law_sparse_by" 450 (.ref 218),en P "_law_web_by" 462 (.ref 225),en P "_law_bare" 474 (.ref 232),en P "_law_good" 480 (.ref 237),en P "_law_rings" 486 (.ref 242),en P "_law_bent" 499 (.ref 249),en P "law" 505 (.ref 254)] 48,#[]⟩),
 (45,co "is_whole" 225 7 1 181 40 true 229),
 (46,fo "is_whole" jM "rootwebs.kinds" 223 45),
 (52,co "is_whole_from" 232 9 3 181 47 true 238),
 (53,fo "is_whole_from" fq "rootwebs.kinds" 223 52),
 (59,co "is_place" 241 11 2 181 54 true 246),
 (60,fo "is_place" jN "rootwebs.kinds" 223 59),
 (64,co "is_places" 249 13 2 181 61 false 252),
 (65,fo "is_places" gJ "rootwebs.kinds" 223 64),
 (71,co "is_headed" 255 15 3 181 66 true 261),
 (72,fo "is_headed" iX "rootwebs.kinds" 223 71),
 (78,co "check_place" 266 18 2 181 73 true 271),
 (79,fo "check_place" gS "rootwebs.webs" 264 78),
 (85,co "is_tied" 274 21 3 181 80 true 280),
 (86,fo "is_tied" kI "rootwebs.webs" 264 85),
 (92,co "far_of" 283 23 3 181 87 true 289),
 (93,fo "far_of" mv "rootwebs.webs" 264 92),
 (97,co "fars_from" 292 27 2 181 94 false 295),
 (98,fo "fars_from" gK "rootwebs.webs" 264 97),
 (102,co "next_places" 298 39 2 181 99 false 301),
 (103,fo "next_places" dB "rootwebs.webs" 264 102),
 (109,co "star_of" 304 41 2 181 104 true 309),
 (110,fo "star_of" kH "rootwebs.webs" 264 109),
 (114,co "pieces_of" 314 45 1 181 111 false 317),
 (115,fo "pieces_of" gI "rootwebs.looks" 312 114),
 (119,co "ring_good" 324 55 2 181 116 false 327),
 (120,fo "ring_good" gH "rootwebs.rings" 320 119),
 (124,co "rings_of" 330 59 2 181 121 false 333),
 (125,fo "rings_of" dE "rootwebs.rings" 320 124),
 (131,co "bar_good" 340 68 2 181 126 true 345),
 (132,fo "bar_good" jP "rootwebs.trees" 336 131),
 (138,co "is_apart" 348 72 2 181 133 true 353),
 (139,fo "is_apart" jO "rootwebs.trees" 336 138),
 (145,co "is_bar_ring" 356 74 2 181 140 true 361),
 (146,fo "is_bar_ring" gR "rootwebs.trees" 336 145),
 (150,co "is_bare" 364 76 2 181 147 false 367),
 (151,fo "is_bare" jo "rootwebs.trees" 336 150),
 (157,co "bar_of" 370 78 1 181 152 true 377),
 (158,fo "bar_of" mw "rootwebs.trees" 336 157),
 (164,co "_law_cell_at" 382 88 2 181 159 true 387),
 (165,fo "_law_cell_at" fS "law_rootwebs_k35_tree_bars" 380 164),
 (171,co "_law_next" 390 92 1 181 166 true 394),
 (172,fo "_law_next" iY "law_rootwebs_k35_tree_bars" 380 171),
 (178,co "_law_pen_of" 397 95 1 181 173 true 402),
 (179,fo "_law_pen_of" gU "law_rootwebs_k35_tree_bars" 380 178),
 (185,co "_law_draw" 405 98 2 181 180 true 411),
 (186,fo "_law_draw" iZ "law_rootwebs_k35_tree_bars" 380 185),
 (192,co "_law_whole" 414 105 1 181 187 true 418),
 (193,fo "_law_whole" iz "law_rootwebs_k35_tree_bars" 380 192),
 (197,co "_law_named" 421 107 2 181 194 false 424),
 (198,fo "_law_named" d7 "law_rootwebs_k35_tree_bars" 380 197),
 (202,co "_law_names_by" 427 110 2 181 199 false 430),
 (203,fo "_law_names_by" dC "law_rootwebs_k35_tree_bars" 380 202),
 (207,co "_law_far" 433 113 1 181 204 false 436),
 (208,fo "_law_far" iI "law_rootwebs_k35_tree_bars" 380 207),
 (212,co "_law_steps" 439 124 2 181 209 false 442),
 (213,fo "_law_steps" fI "law_rootwebs_k35_tree_bars" 380 212),
 (217,co "_law_sparse_by" 445 130 1 181 214 false 448),
 (218,fo "_law_sparse_by" br "law_rootwebs_k35_tree_bars" 380 217),
 (224,co "_law_web_by" 451 149 1 181 219 true 460),
 (225,fo "_law_web_by" gT "law_rootwebs_k35_tree_bars" 380 224),
 (231,co "_law_bare" 463 162 2 181 226 true 472),
 (232,fo "_law_bare" i3 "law_rootwebs_k35_tree_bars" 380 231),
 (236,co "_law_good" 475 170 3 181 233 false 478),
 (237,fo "_law_good" fm "law_rootwebs_k35_tree_bars" 380 236),
 (241,co "_law_rings" 481 183 1 181 238 false 484),
 (242,fo "_law_rings" d6 "law_rootwebs_k35_tree_bars" 380 241),
 (248,co "_law_bent" 487 195 2 181 243 true 497),
 (249,fo "_law_bent" i0 "law_rootwebs_k35_tree_bars" 380 248),
 (253,co "law" 500 207 1 181 250 false 503),
 (254,fo "law" kz "law_rootwebs_k35_tree_bars" 380 253)]
noncomputable def Qz:Program:=W.view PySem.Challenge.pw_rootwebs_k35_tree_bars [1,2,4,5,6,7,8,10,11,12,13,14,15,17,19,20,21,23,24,25,26,27,28,30,31,32,33,34,35,36,37,38,39,40,41,42,43,44,45]
noncomputable abbrev Hz:W.Hook:=W.kHook Kz [3,45,46,52,53,59,60,64,65,71,72,78,79,85,86,92,93,97,98,102,103,109,110,114,115,119,120,124,125,131,132,138,139,145,146,150,151,157,158,164,165,171,172,178,179,185,186,192,193,197,198,202,203,207,208,212,213,217,218,224,225,231,232,236,237,241,242,248,249,253,254] fun _=>by kernel_rfl
theorem GL:PySem.Challenge.rw_rootwebs_k35_tree_bars.wellSaid=true:=by kernel_rfl
noncomputable abbrev Xz (s:Shared):Bool:=W.xlAt Qz [] s && W.recOk (W.RowW.records (W.OpenRow.toRowW (W.OpenLaw.row PySem.Challenge.rw_rootwebs_k35_tree_bars))) s
theorem GM:W.LeftO PySem.Challenge.rw_rootwebs_k35_tree_bars.row.prog Qz [] Xz (W.Hook.obs Hz) (W.Hook.val Hz) 3100:=fun w=>by kernel_rfl
end Lw
namespace L2
open PySem PySem.Spec PyProof.Rows
theorem fT {x:Str}:∀ {names:List (Str × NameKind)}{k:NameKind},names.lookup x=some k->(x,k)∈names
 | [],_,h=>by simp at h
 | (n,j)::r,k,h=>by
  rw [NN] at h
  cases hx:x == n with
  | true=>
   rw [hx] at h
   have e:x=n:=eq_of_beq hx
   cases h
   rw [e];exact Ma
  | false=>rw [hx] at h;exact Mb _ (fT h)
theorem me {env:Env}{x:Str}:∀ {names:List (Str × NameKind)},
  (names.map fun (n, k) => if (k == NameKind.free && env.scope.kind == .function && env.kindOf n == some .cell) then (n, NameKind.cell) else (n, k)).lookup x =
   (names.lookup x).map fun k=>if (k == NameKind.free && env.scope.kind == .function && env.kindOf x == some .cell) then NameKind.cell else k
 | []=>rfl
 | (n,k)::r=>by
  have ih:=me (env:=env) (x:=x) (names:=r)
  rw [Nz]
  show List.lookup x ((if (k == NameKind.free && env.scope.kind == .function && env.kindOf n == some .cell)=true then (n,NameKind.cell) else (n,k))::_)=_
  cases hx:x == n with
  | true=>
   have e:x=n:=eq_of_beq hx
   subst e
   by_cases hc:(k == NameKind.free && env.scope.kind == .function && env.kindOf x == some .cell)=true
   ·rw [LU hc,NN,hx,NN,hx];show some NameKind.cell=some (if _ then _ else _);rw [LU hc]
   ·rw [LV hc,NN,hx,NN,hx];show some k=some (if _ then _ else _);rw [LV hc]
  | false=>
   by_cases hc:(k == NameKind.free && env.scope.kind == .function && env.kindOf n == some .cell)=true
   ·rw [LU hc,NN,hx,NN,hx];exact ih
   ·rw [LV hc,NN,hx,NN,hx];exact ih
theorem nq {env:Env}{f:Str × NameKind->List (Str × Addr)->Sem (ForInStep (List (Str × Addr)))}
  (h1:∀ n c acc,env.cells.lookup n=some c->f (n,.free) acc=pure (.yield ((n,c)::acc))) (h2:∀ n k acc,k≠.free->f (n,k) acc=pure (.yield acc)) :
  ∀ (names:List (Str × NameKind)) (acc:List (Str × Addr)),(∀ y∈names,y.2=.free->∃ c,env.cells.lookup y.1=some c)->(∀ x c,acc.lookup x=some c->env.cells.lookup x=some c) ->
   ∃ cl,forIn names acc f=(pure cl:Sem (List (Str × Addr)))/\(∀ x c,cl.lookup x=some c->env.cells.lookup x=some c)/\(∀ x,(acc.lookup x).isSome=true->(cl.lookup x).isSome=true)/\(∀ y∈names,y.2=.free->(cl.lookup y.1).isSome=true)
 | [],acc,_,ha=>⟨acc,rfl,ha,fun _ h=>h,fun y hy=>by simp at hy⟩
 | (n,k)::r,acc,hn,ha=>by
  by_cases hk:k=.free
  ·subst hk
   obtain ⟨c,hc⟩:=hn (n,.free) Ma rfl
   obtain ⟨cl,e1,e2,e3,e4⟩:=nq h1 h2 r ((n,c)::acc) (fun y hy=>hn y (Mb _ hy)) (fun x d h=>by
    rw [NN] at h
    cases hx:x == n with
    | true=>rw [hx] at h;cases h;rw [eq_of_beq hx];exact hc
    | false=>rw [hx] at h;exact ha x d h)
   refine ⟨cl,?_,e2,fun x h=>e3 x ?_,fun y hy hf=>?_⟩
   ·rw [List.forIn_cons,h1 n c acc hc];exact e1
   ·rw [NN];cases hx:x == n <;> simp [h]
   ·rcases Mc.mp hy with z | z
    ·subst z;exact e3 n (by simp [NN])
    ·exact e4 y z hf
  ·obtain ⟨cl, e1, e2, e3, e4⟩ := nq h1 h2 r acc (fun y hy => hn y (Mb _ hy)) ha
   refine ⟨cl,?_,e2,e3,fun y hy hf=>?_⟩
   ·rw [List.forIn_cons,h2 n k acc hk];exact e1
   ·rcases Mc.mp hy with z | z
    ·subst z;exact absurd hf hk
    ·exact e4 y z hf
theorem yi {env:Env}{n:Str}{c:Addr} (h:env.cells.lookup n=some c):cellOf env n=pure c:=by
 unfold cellOf;rw [h]
def zx (env:Env) (x:Str × NameKind) (r:List (Str × Addr)):Sem (ForInStep (List (Str × Addr))):=
 match x with | (name,kind)=>if kind == .free then do let c <- cellOf env name;pure (.yield ((name,c)::r)) else pure (.yield r)
theorem zh {scope:Scope}{env:Env} (hn:∀ y∈scope.names,y.2=.free->∃ c,env.cells.lookup y.1=some c) :
  ∃ cl,closureFor scope env=pure cl/\(∀ x c,cl.lookup x=some c->env.cells.lookup x=some c)/\(∀ y∈scope.names,y.2=.free->(cl.lookup y.1).isSome=true):=by
 obtain ⟨cl,e1,e2,_,e4⟩:=nq (env:=env) (f:=zx env)
  (fun n c acc h=>by unfold zx;simp only [NO,Nn];rw [yi h];rfl)
  (fun n k acc h => by
   unfold zx
   have:(k == NameKind.free)=false:=by simpa using h
   simp only [this,NP,Nl]) scope.names [] hn (fun x c h=>by simp at h)
 refine ⟨cl,?_,e2,e4⟩
 show (forIn scope.names [] (zx env) >>= fun s=>pure s)=pure cl
 rw [e1];rfl
def j8 (X:Cx) (Nc:List Str) (scope:Scope) (cl:List (Str × Addr)) (C:Addr) (s:Shared) (H:Hp) (fp:List Addr):Cx where
 prog:=X.prog
 w:=X.w
 K:=X.K
 mg:=X.mg
 base:=X.base
 A:=X.A
 N:=Nc
 s₀:=s
 H₀:=H
 env:=compEnvC scope (cellsFrom (C+1) scope.names cl) C X.env
 outer:=X.stack
 stack:=X.stack
 ex:=fp
 fn:=fun x=>scope.names.lookup x == some .cell
 calm:=X.calm
 pn:=[]
 xe:=fun _ _=>False
def qY (cap:List (Option Nat)) (σ:St):St:=cap.map fun o=>o.bind fun j=>(σ[j]?).join
def ik (N:List Str) (env:Env) (scope:Scope):List Str->List (Option Nat)->Bool
 | [],[]=>true
 | _::Nc,none::cap=>ik N env scope Nc cap
 | x::Nc,some j::cap=>(N[j]? == some x) && (scope.names.lookup x == some .free) && ik N env scope Nc cap
 | _,_=>false
theorem pC {N:List Str}{env:Env}{scope:Scope}:∀ {Nc:List Str}{cap:List (Option Nat)},ik N env scope Nc cap=true->cap.length=Nc.length
 | [],[],_=>rfl
 | [],_::_,h=>by simp [ik] at h
 | _::_,[],h=>by simp [ik] at h
 | _::Nc,none::cap,h=>by rw [NQ,NQ,pC (Nc:=Nc) (cap:=cap) h]
 | x::Nc,some j::cap,h=>by
  have h':ik N env scope Nc cap=true:=by unfold ik at h;simp only [Nw] at h;exact h.2
  rw [NQ,NQ,pC h']
theorem rT {N:List Str}{env:Env}{scope:Scope}:∀ {Nc:List Str}{cap:List (Option Nat)}{i j:Nat}{x:Str},ik N env scope Nc cap=true->cap[i]?=some (some j)->Nc[i]?=some x->N[j]?=some x/\scope.names.lookup x=some .free
 | [],_,_,_,_,_,_,e=>by simp at e
 | _::_,[],_,_,_,h,_,_=>by simp [ik] at h
 | y::Nc,none::cap,0,j,x,h,e,_=>by simp at e
 | y::Nc,some k::cap,0,j,x,h,e,e2=>by
  simp at e e2;subst e;subst e2
  unfold ik at h;simp only [Nw] at h
  exact ⟨eq_of_beq h.1.1,eq_of_beq h.1.2⟩
 | y::Nc,none::cap,i+1,j,x,h,e,e2=>rT (Nc:=Nc) (cap:=cap) (i:=i) h (by simpa using e) (by simpa using e2)
 | y::Nc,some k::cap,i+1,j,x,h,e,e2=>by
  have h':ik N env scope Nc cap=true:=by unfold ik at h;simp only [Nw] at h;exact h.2
  exact rT (Nc:=Nc) (cap:=cap) (i:=i) h' (by simpa using e) (by simpa using e2)
structure cA (N:List Str) (env:Env) (scope:Scope) (Nc:List Str) (cap:List (Option Nat)):Prop where
 kind:scope.kind=.function
 nd:∀ y∈scope.names,scope.names.lookup y.1=some y.2
 free:∀ y∈scope.names,y.2=.free->env.kindOf y.1=some .cell\/env.kindOf y.1=some .free
 cap:ik N env scope Nc cap=true
theorem mD {n0:Nat}{x:Str}{c:Addr}:∀ {names:List (Str × NameKind)}{cl:List (Str × Addr)}{n:Nat},n0<=n->((x,NameKind.cell)∈names\/∃ c',cl.lookup x=some c'/\n0<=c')->(cellsFrom n names cl).lookup x=some c->n0<=c
 | [],cl,n,_,h,e=>by
  rcases h with z | ⟨c',z1,z2⟩
  ·simp at z
  ·have e' : cl.lookup x = some c := e
   rw [z1] at e';cases e';exact z2
 | (y,k)::r,cl,n,hn,h,e=>by
  unfold cellsFrom at e
  split at e
  ·rename_i hk
   refine mD (n:=n+1) (by omega) ?_ e
   cases hx:x == y with
   | true=>exact .inr ⟨n,by rw [NN,hx],hn⟩
   | false=>
    rcases h with z | ⟨c',z1,z2⟩
    ·rcases Mc.mp z with q | q
     ·have : x = y := Mo Prod.fst q
      rw [this] at hx;simp at hx
     ·exact .inl q
    ·exact .inr ⟨c',by rw [NN,hx];exact z1,z2⟩
  ·rename_i hk
   refine mD hn ?_ e
   rcases h with z | z
   ·rcases Mc.mp z with q | q
    ·have : k = .cell := (Mo Prod.snd q).symm
     exact absurd (by rw [this];rfl) hk
    ·exact .inl q
   ·exact .inr z
theorem kj {x:Str}:∀ {names:List (Str × NameKind)}{cl:List (Str × Addr)}{n:Nat},(x,NameKind.cell) ∉ names->(cellsFrom n names cl).lookup x=cl.lookup x
 | [],cl,n,_=>rfl
 | (y,k)::r,cl,n,hn=>by
  unfold cellsFrom
  have hr:(x,NameKind.cell) ∉ r:=fun z=>hn (Mb _ z)
  split
  ·rename_i hk
   rw [kj hr,NN]
   cases hx:x == y with
   | true=>exact absurd (by rw [eq_of_beq hx,(eq_of_beq hk:k=.cell)];exact Ma) hn
   | false=>rfl
  ·exact kj hr
theorem pB {n0:Nat}:∀ {names:List (Str × NameKind)}{cl:List (Str × Addr)}{n:Nat},n0<=n->(∀ x y c,cl.lookup x=some c->cl.lookup y=some c->n0<=c->x=y)->(∀ x c,cl.lookup x=some c->c<n) ->
  ∀ x y c,(cellsFrom n names cl).lookup x=some c->(cellsFrom n names cl).lookup y=some c->n0<=c->x=y
 | [],cl,n,_,h,_=>h
 | (z,k)::r,cl,n,hn,h,hb=>by
  unfold cellsFrom
  split
  ·refine pB (n := n + 1) (by omega) (fun x y c e1 e2 hc => ?_) (fun x c e => ?_)
   ·rw [NN] at e1 e2
    cases hx:x == z with
    | true=>
     cases hy:y == z with
     | true=>rw [eq_of_beq hx,eq_of_beq hy]
     | false=>
      rw [hx] at e1;rw [hy] at e2
      cases e1
      exact absurd (hb y _ e2) (LZ _)
    | false=>
     cases hy:y == z with
     | true=>
      rw [hx] at e1;rw [hy] at e2
      cases e2
      exact absurd (hb x _ e1) (LZ _)
     | false=>rw [hx] at e1;rw [hy] at e2;exact h x y c e1 e2 hc
   ·rw [NN] at e
    cases hx:x == z with
    | true=>rw [hx] at e;cases e;exact NR _
    | false=>rw [hx] at e;exact NS (hb x c e)
  ·exact pB hn h hb
theorem lV {x:Str}{c:Addr}:∀ {names:List (Str × NameKind)}{cl:List (Str × Addr)}{h:Heap},(cellsFrom h.objs.size names cl).lookup x=some c->cl.lookup x=some c\/(pushCells h names).IsCell c none
 | [],cl,h,e=>.inl e
 | (y,k)::r,cl,h,e=>by
  unfold cellsFrom at e
  unfold pushCells
  split at e
  ·rename_i hk
   rw [LU hk]
   have e':(cellsFrom (h.push { cls:=.type "cell",data:=.cell none }).objs.size r ((y,h.objs.size)::cl)).lookup x=some c:=by rw [NT];exact e
   rcases lV e' with q | q
   ·rw [NN] at q
    cases hx:x == y with
    | true=>
     rw [hx] at q;cases q
     exact .inr ⟨_,NU _ _ _ _ (MC _ rfl),rfl⟩
    | false=>rw [hx] at q;exact .inl q
   ·exact .inr q
  ·rename_i hk
   rw [LV hk]
   exact lV e
theorem A0 {X:Cx}{pins:List (Addr × Obj)}{σ:St}{H:Hp}{s:Shared}{h':Heap}{t':Nat}{fp:List Addr}{Nc:List Str}{scope:Scope}{cl:List (Str × Addr)}{cap:List (Option Nat)}
  (I:bc X pins σ H s) (hf:∀ b∈fp,nE X pins H b) (hfs:∀ b∈fp,b<s.heap.objs.size) (S:cA X.N X.env scope Nc cap)
  (hcl:∀ x c,cl.lookup x=some c->X.env.cells.lookup x=some c) (hall:∀ y∈scope.names,y.2=.free->(cl.lookup y.1).isSome=true)
  (hn:h'.Ns s.heap.objs.size (fun _=>none)) (hk:∀ b o,s.heap.get? b=some o->h'.get? b=some o) (hce:∀ x c,(cellsFrom (s.heap.objs.size+1) scope.names cl).lookup x=some c->cl.lookup x=some c\/h'.IsCell c none) :
  bc (j8 X Nc scope cl s.heap.objs.size s H fp) [] (qY cap σ) H { s with heap:=h',toks:=t' }:=by
 have hrl:∀ x,(j8 X Nc scope cl s.heap.objs.size s H fp).env.kindOf x=(scope.names.lookup x).map fun k=>if (k == NameKind.free && X.env.scope.kind == .function && X.env.kindOf x == some .cell) then NameKind.cell else k:=fun x=>me
 have hcf:∀ x,((j8 X Nc scope cl s.heap.objs.size s H fp).env.kindOf x=some .cell\/(j8 X Nc scope cl s.heap.objs.size s H fp).env.kindOf x=some .free)->scope.names.lookup x=some .free\/scope.names.lookup x=some .cell:=fun x hx=>by
  rw [hrl] at hx
  cases e:scope.names.lookup x with
  | none=>rw [e] at hx;rcases hx with z | z <;> cases z
  | some k=>
   rw [e] at hx
   by_cases hkf:k=.free
   ·rw [hkf];exact .inl rfl
   ·have : (k == NameKind.free) = false := by simpa using hkf
    simp only [this,My,Option.map_some] at hx
    rcases hx with z | z
    ·have z' : k = .cell := by simpa using z
     rw [z'];exact .inr rfl
    ·have z' : k = .free := by simpa using z
     exact absurd z' hkf
 have hclx:∀ x,scope.names.lookup x=some .free->∃ c,cl.lookup x=some c:=fun x e=>MU.mp (hall (x,.free) (fT e) rfl)
 have hcb:∀ x c,cl.lookup x=some c->c<s.heap.objs.size:=fun x c e=>by
  obtain ⟨v,q⟩:=I.cell x c (hcl x c e)
  exact q.lt
 have hcell:∀ x c,(cellsFrom (s.heap.objs.size+1) scope.names cl).lookup x=some c->(cl.lookup x=some c/\c<s.heap.objs.size)\/(s.heap.objs.size+1<=c/\h'.IsCell c none):=fun x c e=>by
  by_cases hm:(x,NameKind.cell)∈scope.names
  ·have h1 := mD (MD _) (.inl hm) e
   rcases hce x c e with z | z
   ·have := hcb x c z
    exact absurd (LY (NS this) h1) (LZ _)
   ·exact .inr ⟨h1,z⟩
  ·rw [kj hm] at e
   exact .inl ⟨e,hcb x c e⟩
 have hinj:∀ x y c,(cellsFrom (s.heap.objs.size+1) scope.names cl).lookup x=some c->(cellsFrom (s.heap.objs.size+1) scope.names cl).lookup y=some c->x=y:=fun x y c e1 e2=>by
  rcases hcell x c e1 with ⟨a1,a2⟩ | ⟨a1,a2⟩
  ·rcases hcell y c e2 with ⟨b1, b2⟩ | ⟨b1, b2⟩
   ·exact I.ok.inj x y c (hcl x c a1) (hcl y c b1)
   ·exact absurd (LY (NS a2) b1) (LZ _)
  ·exact pB (MD _) (fun x y c q _ hc=>absurd (LY (NS (hcb x c q)) hc) (LZ _)) (fun x c q=>NS (hcb x c q)) x y c e1 e2 a1
 refine ⟨⟨I.ok.mod,S.kind,I.ok.glob,I.ok.blt,MD _,fun x y c e1 e2=>hinj x y c e1 e2,fun x hx=>?_,fun x c e e2=>?_,I.ok.hd,I.ok.frames,.inl rfl,
  fun b hb=>⟨L0 (hfs b hb),fun x c e=>?_⟩,I.bs,L5 I.ok.bsz I.sz,fun b o e hb=>?_,fun b hb z=>?_,I.stack,I.stkFree⟩,
  rfl,I.bare,Un.kept hk,⟨_,hn,fun i x v e1 e2 e3=>?_⟩,fun x c e=>?_,I.hok.fresh (MD _),fun x c e=>?_,fun p hp=>absurd (show p∈([]:List (Addr × Obj)) from hp) (by simp),I.hok.kept hk,?_⟩
 ·rcases hcf x hx with q | q
  ·by_cases hm : (x, NameKind.cell) ∈ scope.names
   ·rcases MU.mp (W.cellsFrom_some scope.names (s.heap.objs.size + 1) cl (.inl (S.nd (x, .cell) hm))) with ⟨c, e⟩
    exact ⟨c,e⟩
   ·obtain ⟨c, e⟩ := hclx x q
    exact ⟨c,(kj hm).trans e⟩
  ·obtain ⟨c, e⟩ := MU.mp (W.cellsFrom_some scope.names (s.heap.objs.size + 1) cl (.inl q))
   exact ⟨c,e⟩
 ·have hm : (x, NameKind.cell) ∈ scope.names := fT (eq_of_beq (show (scope.names.lookup x == some .cell) = true from e))
  exact Nat.le_of_succ_le (mD (MD _) (.inl hm) e2)
 ·rcases hcell x c e with ⟨a1, a2⟩ | ⟨a1, a2⟩
  ·exact (hf b hb).2.2.2.2.1 x c (hcl x c a1)
  ·exact fun z=>absurd (LY (NS (hfs b hb)) (by rw [<- z];exact a1)) (LZ _)
 ·rcases (hf b hb).2.2.2.1 with z | z
  ·exact I.ok.noex b o e z
  ·exact absurd (LY (LY (LX e) I.ok.bsz) z) (LZ _)
 ·rcases Mc.mp (I.stkSub b z) with q | q
  ·exact (hf b hb).2.1 q
  ·exact (hf b hb).2.2.1 q
 ·have e2':∃ j,cap[i]?=some (some j)/\σ[j]?=some (some v):=by
   unfold qY at e2
   rw [MZ] at e2
   cases hc:cap[i]? with
   | none=>rw [hc] at e2;cases e2
   | some o=>
    rw [hc] at e2
    cases o with
    | none=>cases e2
    | some j=>
     refine ⟨j,rfl,?_⟩
     simp only [Option.map_some,Option.bind_some] at e2
     cases hj:σ[j]? with
     | none=>rw [hj] at e2;cases e2
     | some q=>
      rw [hj] at e2
      simp only [Option.join_some] at e2
      rw [LW e2]
  obtain ⟨j,hj,hv⟩:=e2'
  obtain ⟨hN,hx⟩:=rT S.cap hj e1
  have hkx:=S.free (x,.free) (fT hx) rfl
  obtain ⟨m,hm,hl⟩:=I.loc
  obtain ⟨u,r,l⟩:=hl j x v hN hv (hkx.elim (fun z=>.inr (.inl z)) (fun z=>.inr (.inr z)))
  refine ⟨u,r,.inr ⟨?_,?_⟩⟩
  ·rw [hrl, hx]
   show some (if _ then _ else _)=_\/some (if _ then _ else _)=_
   by_cases hc:(NameKind.free == NameKind.free && X.env.scope.kind == .function && X.env.kindOf x == some .cell)=true
   ·rw [LU hc];exact .inl rfl
   ·rw [LV hc];exact .inr rfl
  ·obtain ⟨c, ec⟩ := hclx x hx
   have hm:(x,NameKind.cell) ∉ scope.names:=fun z=>by
    have:=S.nd (x,.cell) z
    rw [hx] at this;cases this
   refine ⟨c,(kj hm).trans ec,?_⟩
   rcases l with ⟨k,_⟩ | ⟨k,c',ec',z⟩
   ·rcases hkx with q | q <;> (rw [k] at q;cases q)
   ·have q := hcl x c ec
    rw [ec'] at q;cases q
    obtain ⟨o,ho,hd⟩:=z
    exact ⟨o,hk _ o ho,hd⟩
 ·rcases hcell x c e with ⟨a1, a2⟩ | ⟨a1, a2⟩
  ·obtain ⟨v, o, ho, hd⟩ := I.cell x c (hcl x c a1)
   exact ⟨v,o,hk _ o ho,hd⟩
  ·exact ⟨none,a2⟩
 ·rcases hcell x c e with ⟨a1, a2⟩ | ⟨a1, a2⟩
  ·exact I.freeC x c (hcl x c a1)
  ·exact I.hok.fresh (Nat.le_of_succ_le a1)
 ·show (cap.map _).length = Nc.length
  rw [Nd,pC S.cap]
abbrev v3:Value->Shared->Prop:=fun _ _=>False
def u6 (ifs:List Expr) (env:Env):Sem Bool:=forIn ifs true fun c r=>if r=true then do let ok <- isTrue c env (eval c env);pure (ForInStep.yield ok) else pure (ForInStep.yield r)
def sZ (X:Cx) (ifs:List Expr) (t:TT):Prop:=
 ∀ (pins:List (Addr × Obj)) (s:Shared) (σ:St) (H:Hp) (Q:Bool->Hp->Prop),bc X pins σ H s->t σ H Q->wpAny (model X.prog X.w) X.A (u6 ifs X.env) (TP X pins σ Q) X.xe s
def JF:TT:=fun _ H Q=>Q true H
theorem EM {X:Cx}:sZ X [] JF:=fun _ _ _ H _ I h=>Mw ⟨H,I,h⟩
theorem EL {X:Cx}{c:Expr}{t:TT} (h:PT X c t):sZ X [c] t:=fun pins s σ H Q I q=>wpAny_tests_one (h pins s σ H Q I q)
def IW (e:Expr) (acc:Value) (env:Env):Sem Unit:=match e with
 | .ListComp elt _ _ _=>do let _ <- call (.builtin "list.append") [acc,<- eval elt env]
 | .SetComp elt _ _ _=>do let v <- eval elt env;standAt elt.pos;let _ <- call (.builtin "set.add") [acc,v]
 | _=>unsupported "internal:not-a-comprehension"
def nc:Expr->Bool
 | .ListComp ..=>true
 | .SetComp ..=>true
 | _=>false
def nO (M:Model) (A:Around) (e:Expr) (k:Nat) (acc:Value) (env:Env) (C:Shared->Prop) (E:Value->Shared->Prop) (s:Shared):Prop:=match (clausesOf e)[k]? with
 | some g=>wpAny M A (eval g.iter env) (fun x s1=>wpAny M A (foldedSetIterable g.iter env x) (fun x s2=>wpAny M A (pyIter x) (fun it s3=>
   codeAny M A (.compStart e k it acc env) (fun r s4=>(∃ f,r=.ok f)/\C s4) s3) E s2) E s1) E s
 | none=>wpAny M A (IW e acc env) (fun _ s1=>C s1) E s
theorem xM {M:Model}{A:Around}{e:Expr}{k:Nat}{acc:Value}{env:Env}{C C':Shared->Prop}{E:Value->Shared->Prop}{s:Shared} (hC:∀ s,C s->C' s) (h:nO M A e k acc env C v3 s):nO M A e k acc env C' E s:=by
 unfold nO at h ⊢
 split at h
 ·exact Ml h (fun _ _ h=>Ml h (fun _ _ h=>Ml h (fun _ _ h=>MN h fun _ _ h=>⟨h.1,hC _ h.2⟩) fun _ _ z=>z.elim) fun _ _ z=>z.elim) fun _ _ z=>z.elim
 ·exact Ml h (fun _ _ h=>hC _ h) fun _ _ z=>z.elim
theorem D8 {M:Model}{A:Around}{E:Value->Shared->Prop}{s:Shared}{e:Expr}{d:Nat}{g:Comprehension}{it acc:Value}{env:Env}{Q:Fin->Shared->Prop} (he:nc e=true) (hz:∀ g∈clausesOf e,g.is_async=0) (hg:(clausesOf e)[d]?=some g)
  (h : wpAny M A (pyNext it) (fun r s₁ => match r with
   | none=>Q (.done .next) s₁
   | some v=>wpAny M A (letOwnedTupleGo g.target it v) (fun _ s₁'=>wpAny M A (assign g.target env v) (fun _ s₂=>wpAny M A (u6 g.ifs env) (fun ok s₃=>
     if ok=true then nO M A e (d+1) acc env (fun s₄=>wpAny M A (again (.compLoop e d it acc env)) Q E s₄) E s₃ else wpAny M A (again (.compLoop e d it acc env)) Q E s₃) E s₂) E s₁') E s₁) E s) :
  wpAny M A (compTurn e d it acc env) Q E s:=by
 have h0:=hz g (Na hg)
 have h1:∀ g',(clausesOf e)[d+1]?=some g'->g'.is_async=0:=fun g' h=>hz g' (Na h)
 unfold compTurn
 cases e <;> first
  | exact absurd (show false=true from he) Mu
  | (rename_i elt gens sc pos
     have hg':gens[d]?=some g:=hg
     have h1':∀ g',gens[d+1]?=some g'->g'.is_async=0:=h1
     dsimp only
     rw [hg']
     dsimp only
     rw [h0]
     refine Mq (Ms ?_)
     show wpAny M A (pyNext it >>= _) Q E s
     refine Mq (Ml h (fun r s₁ h₁=>?_) fun _ _ z=>z)
     cases r with
     | none=>exact Mw h₁
     | some v=>
      refine Mq (Ml h₁ (fun _ s₁' h₁'=>?_) fun _ _ z=>z)
      refine Mq (Ml h₁' (fun _ s₂ h₂=>?_) fun _ _ z=>z)
      refine Mq (Ml h₂ (fun ok s₃ h₃=>?_) fun _ _ z=>z)
      cases ok with
      | false=>exact h₃
      | true=>
       simp only [Nn] at h₃ ⊢
       unfold nO at h₃
       dsimp only [clausesOf] at h₃
       cases e2:gens[d+1]? with
       | none=>
        rw [e2] at h₃
        exact Mq h₃
       | some g'=>
        rw [e2] at h₃
        have e3:=h1' g' e2
        simp only [e3]
        refine Mq (Ml h₃ (fun x s₄ h₄=>?_) fun _ _ z=>z)
        refine Mq (Ms ?_)
        show wpAny M A (foldedSetIterable g'.iter env x >>= _) Q E s₄
        refine Mq (Ml h₄ (fun x s₅ h₅=>?_) fun _ _ z=>z)
        refine Mq (Mr ?_)
        show wpAny M A (pyIter x) _ E s₅
        refine Ml h₅ (fun it' s₆ h₆=>?_) fun _ _ z=>z
        refine Mq (wpAny_runOwn (MN h₆ fun r s₇ h₇=>?_))
        obtain ⟨⟨f,rfl⟩,hc⟩:=h₇
        exact hc)
section
variable {prog:Program}{w:World}{A:Around}{R:Result->Shared->Prop}{s:Shared}
theorem t6 {e:Expr}{k:Nat}{g:Comprehension}{it acc:Value}{env:Env} (he:nc e=true) (hz:∀ g∈clausesOf e,g.is_async=0) (hg:(clausesOf e)[k]?=some g)
  (h0:codeAny (model prog w) A (.compLoop e k it acc env) R s) (h:wpAny (model prog w) A (pyIter it) (fun it' s'=>codeAny (model prog w) A (.compLoop e k it' acc env) R s') v3 s) :
  codeAny (model prog w) A (.compStart e k it acc env) R s:=by
 have ha:=hz g (Na hg)
 cases e <;> first
  | exact absurd (show false=true from he) Mu
  | (refine NV ?_
     show wpAny _ _ ((compStart _ k it acc env).onRaise (fun x=>do noteFrame x env;standAt theWindowsPlace)) _ _ s
     refine wpAny_notedAt ?_
     unfold compStart
     rw [hg]
     have e1:((some g).elim false fun x=>x.is_async != 0)=false:=by show (g.is_async != 0)=false;rw [ha];rfl
     rw [e1]
     simp only [NP,Nl]
     refine Mq (NW (wpAny_ite ?_))
     split
     ·exact Mw (And.intro rfl h0)
     ·refine Mq (NX ?_)
      refine Mq (Ms ?_)
      exact Mq (Ml h (fun it' s' h'=>Mw (And.intro rfl h')) fun _ _ z=>z.elim))
theorem AW {e:Expr}{d:Nat}{g:Comprehension}{it acc:Value}{env:Env} (he:nc e=true) (hz:∀ g∈clausesOf e,g.is_async=0) (hg:(clausesOf e)[d]?=some g) (I:Nat->Shared->Prop)
  (turn : ∀ n s, I n s -> wpAny (model prog w) A (pyNext it) (fun r s₁ => match r with
   | none=>R (.ok .next) s₁
   | some v=>wpAny (model prog w) A (letOwnedTupleGo g.target it v) (fun _ s₁'=>wpAny (model prog w) A (assign g.target env v) (fun _ s₂=>
     wpAny (model prog w) A (u6 g.ifs env) (fun ok s₃=>
      if ok=true then nO (model prog w) A e (d+1) acc env (fun s₅=>∃ m,m<n/\I m s₅) v3 s₃
      else ∃ m,m<n/\I m s₃) v3 s₂) v3 s₁') v3 s₁) v3 s)
  (n:Nat) (h:I n s):codeAny (model prog w) A (.compLoop e d it acc env) R s:=by
 refine codeAny_loop (by cases e <;> first | exact absurd (show false=true from he) Mu | rfl) I (fun n s hI=>?_) n h
 cases e <;> first
  | exact absurd (show false=true from he) Mu
  | (show wpAny _ A ((compTurn _ d it acc env).onRaise (fun x => do noteFrame x env; theTreesLotGoes x)) _ _ s
     refine wpAny_noted (D8 he hz hg (Ml (turn n s hI) (fun r s₁ h₁=>?_) fun _ _ z=>z.elim))
     cases r with
     | none=>exact h₁
     | some v=>
      refine Ml h₁ (fun _ s₂ h₂=>Ml h₂ (fun _ s₃ h₃=>Ml h₃ (fun ok s₄ h₄=>?_) fun _ _ z=>z.elim) fun _ _ z=>z.elim) fun _ _ z=>z.elim
      cases ok with
      | false=>exact Mw ⟨rfl,h₄⟩
      | true=>
       simp only [Nn] at h₄ ⊢
       exact xM (fun s₅ h₅=>Mw ⟨rfl,h₅⟩) h₄)
end
abbrev DS:=St->Hp->(St->Hp->Prop)->Prop
def yr (X:Cx) (e:Expr) (k:Nat) (acc:Addr) (t:DS):Prop:=
 ∀ (pins:List (Addr × Obj)) (s:Shared) (σ:St) (H:Hp) (N:St->Hp->Prop),bc X pins σ H s->t σ H N->nO (model X.prog X.w) X.A e k (.ref acc) X.env (fun s'=>∃ σ' H',bc X pins σ' H' s'/\N σ' H') v3 s
def Kq (J:It) (g:TG) (tt:TT) (tb:DS) (N:St->Hp->Prop) (σ:St) (H:Hp):Prop:=∃ W:Nat->Nat->St->Hp->Prop,(∃ m,W 0 m σ H)/\∀ i m σ1 H,W i m σ1 H ->
 (J.stop i H/\N σ1 H)\/(J.go i H/\∃ N':St->Hp->Prop,(∀ σ' H',N' σ' H'->∃ m',m'<m/\W (i+1) m' σ' H')/\∀ x H',J.yld i H x H'->g x σ1 H' fun σ2 H2=>tt σ2 H2 fun b H3=>if b=true then tb σ2 H3 N' else N' σ2 H3)
section
variable {X:Cx}{e:Expr}{d:Nat}{cl:Comprehension}{g:TG}{tt:TT}{tb:DS}{acc:Addr}
theorem pY {J:It}{fp:List Addr}{it:Addr}{tn:Nat->Heap->Prop}{pins:List (Addr × Obj)}{N:St->Hp->Prop}{σ:St}{H:Hp}{s:Shared} (he:nc e=true) (hz:∀ g∈clausesOf e,g.is_async=0) (hg:(clausesOf e)[d]?=some cl) (hxe:X.xe=v3) (hc:X.calm=true)
  (T:Aq X.prog X.w X.K cl.target J fp it tn) (hgc:PG X cl.target g) (htc:sZ X cl.ifs tt) (hb:yr X e (d+1) acc tb) (I:bc X pins σ H s) (st:tn 0 s.heap) (fr:∀ b∈fp,nE X pins H b) (h:Kq J g tt tb N σ H) :
  codeAny (model X.prog X.w) X.A (.compLoop e d (.ref it) (.ref acc) X.env) (fun r s'=>r=.ok .next/\∃ σ' H',bc X pins σ' H' s'/\N σ' H') s:=by
 obtain ⟨W,⟨m0,w0⟩,turn⟩:=h
 have stat:∀ {H':Hp},(∀ b∈fp,H' b=none)->∀ b∈fp,nE X pins H' b:=fun hn b hb=>⟨hn b hb,(fr b hb).2⟩
 refine AW he hz hg (fun n s'=>∃ i σ' H',bc X pins σ' H' s'/\tn i s'.heap/\(∀ b∈fp,H' b=none)/\W i n σ' H') ?_ m0 ⟨0,_,_,I,st,fun b hb=>(fr b hb).1,w0⟩
 rintro n s5 ⟨i,σ5,H5,I5,st5,fr5,w5⟩
 rcases turn i n σ5 H5 w5 with ⟨stop,qn⟩ | ⟨go,N',hN,step⟩
 ·refine eV (T.done X rfl rfl rfl hc i pins s5 σ5 H5 v3 I5 (stat fr5) st5 stop) fun r s6 ⟨hr, I6⟩ => ?_
  subst hr
  exact ⟨rfl,_,_,I6,qn⟩
 ·refine eV (T.item X rfl rfl rfl hc i pins s5 σ5 H5 v3 I5 (stat fr5) st5 go) fun r s6 ⟨u, hr, h6⟩ => ?_
  subst hr
  refine eV h6 fun _ s7 ⟨x,H7,I7,r7,y7,st7,fr7⟩=>?_
  have I7':=I7.pinned (stat fr7) (T.obj _ _ st7)
  have z1:=hgc _ s7 σ5 H7 x u _ I7' r7 (step x H7 y7)
  rw [hxe] at z1
  refine eV z1 fun _ s8 ⟨σ8,H8,I8,q8⟩=>?_
  have z2:=htc _ s8 σ8 H8 _ I8 q8
  rw [hxe] at z2
  refine eV z2 fun b s9 ⟨H9,I9,q9⟩=>?_
  have again:∀ {σa:St}{Ha:Hp}{sa:Shared},bc X (pins++rj fp s7.heap) σa Ha sa->N' σa Ha->∃ m,m<n/\∃ i σ' H',bc X pins σ' H' sa/\tn i sa.heap/\(∀ b∈fp,H' b=none)/\W i m σ' H':=fun {σa Ha sa} Ia na=>by
   obtain ⟨m',hm,wa⟩:=hN σa Ha na
   refine ⟨m',hm,i+1,σa,Ha,Ia.unpinned,T.keep _ _ _ st7 fun b hb o e=>(Ia.pin (b,o) (MJ _ (MJ _ (kJ hb e)))).1,fun b hb=>?_,wa⟩
   obtain ⟨o,e,d⟩:=T.obj _ _ st7 b hb
   exact (Ia.pin (b,o) (MJ _ (MJ _ (kJ hb e)))).2.1
  cases b with
  | false=>
   rw [LV Mu] at q9 ⊢
   exact again I9 q9
  | true=>
   rw [LU rfl] at q9 ⊢
   exact xM (fun s' ⟨σ',H',I',n'⟩=>again I' n') (hb _ s9 σ8 H9 _ I9 q9)
def B6 (wi:TI) (g:TG) (tt:TT) (tb:DS):DS:=fun σ H N=>wi σ H fun J H1=>Kq J g tt tb N σ H1
theorem AM {wi:TI} (he:nc e=true) (hz:∀ g∈clausesOf e,g.is_async=0) (hg:(clausesOf e)[d]?=some cl) (hxe:X.xe=v3) (hc:X.calm=true) (hi:PI X cl.target cl.iter wi) (hgc:PG X cl.target g) (htc:sZ X cl.ifs tt) (hb:yr X e (d+1) acc tb)
  (hs:∀ x,foldedSetIterable cl.iter X.env x=pure x):yr X e d acc (B6 wi g tt tb):=by
 intro pins s σ H N I h
 unfold nO
 rw [hg]
 have z:=hi pins s σ H _ I h
 rw [hxe] at z
 refine eV z fun v s1 h1=>NY (hs v) (eV h1 fun itv s2 h2=>?_)
 obtain ⟨it,fp,tn,J,H2,e',I2,T,st2,f2,rd⟩:=h2
 subst e'
 have loop:=pY he hz hg hxe hc T hgc htc hb I2 st2 f2 rd
 exact t6 he hz hg (MN loop fun r s' ⟨h1,h2⟩=>⟨⟨_,h1⟩,h2⟩) (T.self _ 0 _ _ _ st2 (MN loop fun r s' ⟨h1,h2⟩=>⟨⟨_,h1⟩,h2⟩))
def BN (te:TE) (acc:Addr):DS:=fun σ H N=>te σ H fun y H4=>∃ ys,H4 acc=some (.lst ys)/\ys.length<sizeLine/\N σ (dk H4 acc (.lst (ys++[y])))
theorem rM {te:TE}{elt:Expr}{gens:List Comprehension}{scope:Scope}{pos:Pos} (hg:gens[d]?=none) (hxe:X.xe=v3) (hel:PE X elt te):yr X (.ListComp elt gens scope pos) d acc (BN te acc):=by
 intro pins s σ H N I h
 unfold nO
 show (match gens[d]? with | some g=>_ | none=>_:Prop)
 rw [hg]
 show wpAny _ _ (do let _ <- call (.builtin "list.append") [.ref acc,<- eval elt X.env]) _ _ _
 have z:=hel pins s σ H _ I h
 rw [hxe] at z
 refine Mq (eV z fun v10 s10 ⟨y,H10,I10,r10,ys,hy,hz,nn⟩=>?_)
 have z4:=uj (X:=X) pins s10 σ H10 (.ref acc) [y] (.ref acc) [v10] (fun _ H'=>N σ H') I10 rfl (.cons r10 .nil) ⟨_,ys,y,rfl,rfl,hy,hz,nn⟩
 rw [hxe] at z4
 exact Mq (eV z4 fun v11 s11 ⟨y',H11,I11,r11,n11⟩=>Mw ⟨_,_,I11,n11⟩)
end
theorem Dz {M:Model}{A:Around}{E:Value->Shared->Prop}{s:Shared}{scope:Scope}{cl:List (Str × Addr)}{env:Env}{Q:Env->Shared->Prop}
  (hQ : ∀ h', h'.Ns s.heap.objs.size (fun _ => none) -> (∀ b o, s.heap.get? b = some o -> h'.get? b = some o) -> (∀ x c, (cellsFrom (s.heap.objs.size + 1) scope.names cl).lookup x = some c -> cl.lookup x = some c \/ h'.IsCell c none) ->
   ∀ cenv:Env,({ cenv with scope:=relabel scope env }:Env)=compEnvC scope (cellsFrom (s.heap.objs.size+1) scope.names cl) s.heap.objs.size env->cenv.locals=s.heap.objs.size->Q cenv { s with heap:=h' }) :
  wpAny M A (newFunctionEnv scope env.globals cl [] env.qual none .none (some env)) Q E s:=by
 simp only [newFunctionEnv,Option.isSome_some,Nn]
 refine Mq (wpAny_alloc ?_)
 refine Mq (wpAny_layCells _ (fun name kind cells=>by cases hkc:kind == NameKind.cell <;> simp [hkc]) _ _ _ _ ?_)
 have hsz:(s.heap.push { cls:=.type "dict",data:=.dict #[] }).objs.size=s.heap.objs.size+1:=NT ..
 refine Mq (Mw (Mw ?_))
 show Q _ { s with heap:=pushCells (s.heap.push { cls:=.type "dict",data:=.dict #[] }) scope.names }
 refine hQ _ ((Heap.Ns.new s.heap (.type "dict")).keeps (NU _ _)) (fun b o e=>NU _ _ b o (Mz _ e)) (fun x c e=>?_) _ ?_ rfl
 ·rw [<- hsz] at e
  exact lV e
 ·show _ = _
  unfold compEnvC
  rw [<- hsz]
def rf (o0:Addr->HO) (wi:TI) (cap:List (Option Nat)) (g:TG) (tt:TT) (tb:Addr->DS):TE:=fun σ H Q=>wi σ H fun J H1=>∀ acc,H1 acc=none->Kq J g tt (tb acc) (fun _ H'=>Q (.ref acc) H') (qY cap σ) (dk H1 acc (o0 acc))
def BO (wi:TI) (cap:List (Option Nat)) (g:TG) (tt:TT) (te:TE):TE:=rf (fun _=>.lst []) wi cap g tt (BN te)
def LB (X:Cx) (newAcc:Sem Value) (o0:Addr->HO):Prop:=∀ (pins:List (Addr × Obj)) (s:Shared) (σ:St) (H:Hp) (Q:Value->Shared->Prop),bc X pins σ H s ->
 (∀ s',bc X pins σ (dk H s.heap.objs.size (o0 s.heap.objs.size)) s'->(∀ b o,s.heap.get? b=some o->s'.heap.get? b=some o)->s.heap.objs.size<s'.heap.objs.size->Q (.ref s.heap.objs.size) s')->wpAny (model X.prog X.w) X.A newAcc Q X.xe s
theorem xj {X:Cx}:LB X (newList []) (fun _=>.lst []):=fun pins s σ H Q I h=>
 Nx (h _ (I.lnew (t':=s.toks) (ys:=[]) (its:=[]) .nil (NZ _)) (fun b o e=>Mz _ e) (by rw [NT];exact NR _))
section
variable {X:Cx}{e:Expr}{cl0:Comprehension}{rest:List Comprehension}{scope:Scope}{Nc:List Str}{cap:List (Option Nat)}{wi:TI}{g:TG}{tt:TT}{tb:Addr->DS}{pos':Pos}{o0:Addr->HO}{newAcc:Sem Value}
theorem uF {use:Option (Value->Sem Unit)}{pins:List (Addr × Obj)}{s:Shared}{σ:St}{H:Hp}{Q:VK}{QQ:Value->Shared->Prop}
  (he:nc e=true) (hz:∀ g∈clausesOf e,g.is_async=0) (hcl0:clausesOf e=cl0::rest) (hmk:LB X newAcc o0)
  (hc:X.calm=true) (S:cA X.N X.env scope Nc cap) (hi:PI X cl0.target cl0.iter wi)
  (hg:∀ cl C s H fp,PG (j8 X Nc scope cl C s H fp) cl0.target g) (ht:∀ cl C s H fp,sZ (j8 X Nc scope cl C s H fp) cl0.ifs tt) (hb:∀ cl C s H fp acc,yr (j8 X Nc scope cl C s H fp) e 1 acc (tb acc))
  (I:bc X pins σ H s) (h:rf o0 wi cap g tt tb σ H Q)
  (hfin:∀ C acc s' H',bc X pins σ H' s'->nE X pins H' C->(∃ m,s'.heap.Ns C m)->Q (.ref acc) H'->compPost (model X.prog X.w) X.A X.xe use QQ (.ref acc) C (.ok .next) s')
  (hs:∀ x,foldedSetIterable cl0.iter X.env x=pure x) :
  wpAny (model X.prog X.w) X.A (comprehension e scope X.env pos' newAcc false (eval cl0.iter X.env) use) QQ X.xe s:=by
 obtain ⟨cl,hclos,hcl,hall⟩:=zh (scope:=scope) (env:=X.env) (fun y hy hf=>I.ok.has y.1 (S.free y hy hf))
 have hg0:(clausesOf e)[0]?=some cl0:=by rw [hcl0];rfl
 refine wpAny_comprehension_free hcl0 hs hclos S.kind (fun x hx e=>by rw [S.nd x hx,e]) ?_
 refine eV (hi pins s σ H _ I h) fun v s1 h1=>eV h1 fun itv s2 h2=>?_
 obtain ⟨it,fp,tn,J,H2,e',I2,T,st2,f2,rd⟩:=h2
 subst e'
 have rd:=rd _ I2.fresh
 refine hmk pins s2 σ H2 _ I2 fun s3 I3 hk3 hsz3=>?_
 have st3:tn 0 s3.heap:=T.keep _ _ _ st2 fun b _ o e=>hk3 b o e
 have fpn:∀ b∈fp,b≠s2.heap.objs.size:=fun b hb=>by
  obtain ⟨o,eo,_⟩:=T.obj _ _ st2 b hb
  exact L0 (LX eo)
 have f3:∀ b∈fp,nE X pins (dk H2 s2.heap.objs.size (o0 s2.heap.objs.size)) b:=fun b hb=>⟨by rw [cu (fpn b hb)];exact (f2 b hb).1,(f2 b hb).2⟩
 have hfs:∀ b∈fp,b<s3.heap.objs.size:=fun b hb=>by
  obtain ⟨o,eo,_⟩:=T.obj _ _ st3 b hb
  exact LX eo
 refine Dz fun h1 hns1 hk1 hce cenv ecenv elc=>?_
 rw [ecenv]
 have IB:bc (j8 X Nc scope cl s3.heap.objs.size s3 (dk H2 s2.heap.objs.size (o0 s2.heap.objs.size)) fp) [] (qY cap σ) (dk H2 s2.heap.objs.size (o0 s2.heap.objs.size)) { s3 with heap:=h1,toks:=s3.toks }:=
  A0 I3 f3 hfs S hcl hall hns1 hk1 hce
 have stB:tn 0 h1:=T.keep _ _ _ st3 fun b _ o e=>hk1 b o e
 rw [elc]
 have frB:∀ b∈fp,nE (j8 X Nc scope cl s3.heap.objs.size s3 (dk H2 s2.heap.objs.size (o0 s2.heap.objs.size)) fp) [] (dk H2 s2.heap.objs.size (o0 s2.heap.objs.size)) b:=fun b hb=>
  ⟨(f3 b hb).1,(IB.ok.exf b hb).1,IB.ok.exfs b hb,.inl hb,(IB.ok.exf b hb).2,fun p hp=>absurd (show p∈([]:List (Addr × Obj)) from hp) (by simp)⟩
 have loop:=pY (X:=j8 X Nc scope cl s3.heap.objs.size s3 (dk H2 s2.heap.objs.size (o0 s2.heap.objs.size)) fp) he hz hg0 rfl hc T (hg _ _ _ _ _) (ht _ _ _ _ _) (hb _ _ _ _ _ _) IB stB frB rd
 have fin:∀ r s',(r=.ok .next/\∃ σ' H',bc (j8 X Nc scope cl s3.heap.objs.size s3 (dk H2 s2.heap.objs.size (o0 s2.heap.objs.size)) fp) [] σ' H' s'/\Q (.ref s2.heap.objs.size) H')->compPost (model X.prog X.w) X.A X.xe use QQ (.ref s2.heap.objs.size) s3.heap.objs.size r s':=by
  rintro r s' ⟨rfl,σ',H',J',q⟩
  have I5:bc X pins σ H' s':=I3.call' (ch:=fp) J'.os J'.base J'.hok J'.bare fun b hbf=>⟨(f3 b hbf).2.2.2.1,(f3 b hbf).2.1,(f3 b hbf).2.2.2.2.1,(f3 b hbf).2.2.2.2.2⟩
  obtain ⟨mm,hnn,_⟩:=J'.loc
  exact hfin _ _ s' H' I5 (I3.fpOk (MD _) J'.free) ⟨mm,hnn⟩ q
 exact t6 he hz hg0 (MN loop fin) (T.self _ 0 _ _ _ stB (MN loop fin))
variable {elt:Expr}{pos:Pos}
theorem De (hc:X.calm=true) (hz:∀ g∈cl0::rest,g.is_async=0) (S:cA X.N X.env scope Nc cap) (hi:PI X cl0.target cl0.iter wi)
  (hg:∀ cl C s H fp,PG (j8 X Nc scope cl C s H fp) cl0.target g) (ht:∀ cl C s H fp,sZ (j8 X Nc scope cl C s H fp) cl0.ifs tt) (hb:∀ cl C s H fp acc,yr (j8 X Nc scope cl C s H fp) (.ListComp elt (cl0::rest) scope pos) 1 acc (tb acc))
  (hs:∀ x,foldedSetIterable cl0.iter X.env x=pure x):PE X (.ListComp elt (cl0::rest) scope pos) (rf (fun _=>.lst []) wi cap g tt tb):=by
 intro pins s σ H Q I h
 have h0:=hz cl0 Ma
 obtain ⟨tg0,it0,if0,as0⟩:=cl0
 have h0':as0=0:=h0
 subst h0'
 rw [arm_eval_ListComp]
 refine uF (e:=.ListComp elt (_::rest) scope pos) (Q:=Q) rfl hz rfl xj hc S hi hg ht hb I h (fun C acc s' H' I' hf hn q=>?_) hs
 obtain ⟨m,hn⟩:=hn
 refine ⟨m,hn,fun h' sb=>⟨.ref acc,H',?_,rfl,q⟩⟩
 exact I'.turned (t':=s'.toks) (it:=C) (fun b o hb e=>(sb.2 b hb).trans e) hf.1 hf.2.1 hf.2.2.2.1 hf.2.2.2.2.1 hf.2.2.2.2.2
theorem w9 {i:Nat}{x:Str}{pos1:Pos}{pos2:Pos} (hc:X.calm=true) (hz:∀ g∈cl0::rest,g.is_async=0) (hN:X.N.Nodup) (hix:X.N[i]?=some x) (hx:X.env.scope.names.lookup x=some .local) (S:cA X.N X.env scope Nc cap) (hi:PI X cl0.target cl0.iter wi)
  (hg:∀ cl C s H fp,PG (j8 X Nc scope cl C s H fp) cl0.target g) (ht:∀ cl C s H fp,sZ (j8 X Nc scope cl C s H fp) cl0.ifs tt) (hb:∀ cl C s H fp acc,yr (j8 X Nc scope cl C s H fp) (.ListComp elt (cl0::rest) scope pos) 1 acc (tb acc))
  (hsw:swapsWith (.ListComp elt (cl0::rest) scope pos) (some (.Name x pos1)) pos2.line X.env=pure true) (hs:∀ x,foldedSetIterable cl0.iter X.env x=pure x) :
  PS X (.Assign [.Name x pos1] (.ListComp elt (cl0::rest) scope pos) pos2) (Bz (rf (fun _=>.lst []) wi cap g tt tb) (wy i)):=by
 intro pins s σ H D I h
 have h0:=hz cl0 Ma
 obtain ⟨tg0,it0,if0,as0⟩:=cl0
 have h0':as0=0:=h0
 subst h0'
 rw [exec_Assign_Name_used _ _ _ _ hsw]
 refine Mq (Ms (Mq ?_))
 show wpAny _ X.A (do let _ <- comprehension (.ListComp elt (⟨tg0,it0,if0,0⟩::rest) scope pos) scope X.env _ (newList []) false (eval it0 X.env) (some (assign (.Name x pos1) X.env))) _ _ s
 refine Mq (Ml (uF (e:=.ListComp elt (_::rest) scope pos) (use:=some (assign (.Name x pos1) X.env)) (Q:=fun v H1=>D.nx (σ.set i (some v)) H1) (QQ:=fun _ s'=>SP X pins D .next s') rfl hz rfl xj hc S hi hg ht hb I h (fun C acc s' H' I' hf hn q=>?_) hs)
  (fun _ s' hq=>Mw (Mw hq)) fun _ _ e=>e)
 obtain ⟨m,hn⟩:=hn
 show wpAny _ X.A (assign (.Name x pos1) X.env (.ref acc)) _ _ _
 refine wpAny_assign_Name (t5 I' hN hix (.inl hx) (show cM (.ref acc) (.ref acc) from rfl) (fun s'' I'' hsb=>?_) (.inr hx))
 obtain ⟨a,sb,ha⟩:=hsb
 have hCa:C≠a:=by
  rcases ha with z | z
  ·rw [z];exact hf.2.1
  ·exact fun e=>hf.2.2.2.2.1 x a z e.symm
 refine ⟨m,hn.sameBut sb hCa,fun h' sb'=>⟨_,H',?_,q⟩⟩
 exact I''.turned (t':=s''.toks) (it:=C) (fun b o hb e=>(sb'.2 b hb).trans e) hf.1 hf.2.1 hf.2.2.2.1 hf.2.2.2.2.1 hf.2.2.2.2.2
variable {tg iter:Expr}{ifs:List Expr}{te:TE}
theorem ui:∀ g∈([⟨tg,iter,ifs,0⟩]:List Comprehension),g.is_async=0:=fun g hg=>by rw [N1.mp hg]
theorem E1 (hc:X.calm=true) (S:cA X.N X.env scope Nc cap) (hi:PI X tg iter wi)
  (hg:∀ cl C s H fp,PG (j8 X Nc scope cl C s H fp) tg g) (ht:∀ cl C s H fp,sZ (j8 X Nc scope cl C s H fp) ifs tt) (he:∀ cl C s H fp,PE (j8 X Nc scope cl C s H fp) elt te)
  (hs:∀ x,foldedSetIterable iter X.env x=pure x:=by intro _;rfl):PE X (.ListComp elt [⟨tg,iter,ifs,0⟩] scope pos) (BO wi cap g tt te):=
 De (cl0:=⟨tg,iter,ifs,0⟩) hc ui S hi hg ht (fun cl C s H fp acc=>rM rfl rfl (he cl C s H fp)) hs
theorem ES {i:Nat}{x:Str}{pos1:Pos}{pos2:Pos} (hc:X.calm=true) (hN:X.N.Nodup) (hix:X.N[i]?=some x) (hx:X.env.scope.names.lookup x=some .local) (S:cA X.N X.env scope Nc cap) (hi:PI X tg iter wi)
  (hg:∀ cl C s H fp,PG (j8 X Nc scope cl C s H fp) tg g) (ht:∀ cl C s H fp,sZ (j8 X Nc scope cl C s H fp) ifs tt) (he:∀ cl C s H fp,PE (j8 X Nc scope cl C s H fp) elt te)
  (hsw:swapsWith (.ListComp elt [⟨tg,iter,ifs,0⟩] scope pos) (some (.Name x pos1)) pos2.line X.env=pure true) (hs:∀ x,foldedSetIterable iter X.env x=pure x:=by intro _;rfl) :
  PS X (.Assign [.Name x pos1] (.ListComp elt [⟨tg,iter,ifs,0⟩] scope pos) pos2) (Bz (BO wi cap g tt te) (wy i)):=
 w9 (cl0:=⟨tg,iter,ifs,0⟩) hc ui hN hix hx S hi hg ht (fun cl C s H fp acc=>rM rfl rfl (he cl C s H fp)) hsw hs
end
end L2
namespace RS
open PySem PySem.W PyProof.Rows
open AutoSeq1 (wpAny_loadPart')
section
variable {prog:Program}{w:World}{A:Around}{E:Value->Shared->Prop}{s:Shared}
theorem vU {it t:Addr}{i:Nat}{items}{x:Value}{Q:Value->Shared->Prop} (hit:s.heap.IsTupleIter it t i) (ht:s.heap.IsTuple t items) (hx:items[i]?=some x)
  (hQ:∀ h',h'.IsTupleIter it t (i+1)->Heap.SameBut it s.heap h'->Q x { s with heap:=h' }):wpAny (model prog w) A (Builtin.SmallTypes.nextOf (.ref it)) Q E s:=by
 obtain ⟨o,ho,hc,hd⟩:=id hit
 obtain ⟨ol,hol,_,nl,hdl⟩:=ht
 unfold Builtin.SmallTypes.nextOf
 refine Mq (Nr (name:=Str.ofString "__next__") hit.typeIs N2 (Nu N2 hit.typeIs N3 ?_ (N4 _)))
 show wpAny _ _ (field (.ref it) 0 >>= _) _ _ s
 refine Mq (Np ho hd (x:=.ref t) rfl ?_)
 show wpAny _ _ (if (Value.ref t == Value.none)=true then _ else _) _ _ s
 rw [LV (show ¬ ((Value.ref t == Value.none)=true) from Mu)]
 show wpAny _ _ (field (.ref it) 1 >>= _) _ _ s
 refine Mq (Np ho hd (x:=.int i 0) rfl ?_)
 show wpAny _ _ (seqItems? (.ref t) >>= _) _ _ s
 refine Mq (N5 hol hdl ?_)
 simp only [Nj,hx]
 refine Mq (wpAny_setField ho hd (by simp) (Mw ⟨x,rfl,Mw (hQ _ ?_ (N6 ..))⟩))
 exact ⟨_,NA _ ho (Obj.isFreed_of_fields (Obj.data_mapFields hd _)),(Obj.cls_mapFields ..).trans hc,by rw [Obj.data_mapFields hd];simp [rawInt]⟩
theorem pH {it t:Addr}{i:Nat}{items}{Q:Value->Shared->Prop} (hh:A.handled=none) (hit:s.heap.IsTupleIter it t i) (ht:s.heap.IsTuple t items) (hx:items[i]?=none)
  (hE:∀ h' e,Heap.ExtBut it s.heap h'->(∃ o,h'.get? e=some o/\o.cls=.type "StopIteration")->E (.ref e) { s with heap:=h' }):wpAny (model prog w) A (Builtin.SmallTypes.nextOf (.ref it)) Q E s:=by
 obtain ⟨o,ho,hc,hd⟩:=id hit
 obtain ⟨ol,hol,_,nl,hdl⟩:=ht
 unfold Builtin.SmallTypes.nextOf
 refine Mq (Nr (name:=Str.ofString "__next__") hit.typeIs N2 (Nu N2 hit.typeIs N3 ?_ (N4 _)))
 show wpAny _ _ (field (.ref it) 0 >>= _) _ _ s
 refine Mq (Np ho hd (x:=.ref t) rfl ?_)
 show wpAny _ _ (if (Value.ref t == Value.none)=true then _ else _) _ _ s
 rw [LV (show ¬ ((Value.ref t == Value.none)=true) from Mu)]
 show wpAny _ _ (field (.ref it) 1 >>= _) _ _ s
 refine Mq (Np ho hd (x:=.int i 0) rfl ?_)
 show wpAny _ _ (seqItems? (.ref t) >>= _) _ _ s
 refine Mq (N5 hol hdl ?_)
 simp only [Nj,hx]
 refine Mq (NX (Mq (wpAny_setField ho hd (by simp) ?_)))
 show wpAny _ _ (newExc (.type "StopIteration") [] >>= _) _ _ _
 refine Mq ?_
 simp only [newExc,newTuple]
 refine Mq (Nx ?_ (by size_fits))
 refine Mq (m:=firstArgMember _ _) (NY (a:=Value.none) (by first | rfl | (simp only [firstArgMember];rfl)) ?_)
 refine Nx ?_ (by size_fits)
 simp only [raiseNew]
 refine Mq (wpAny_handled ?_)
 first | rw [show A.in1.handled=none from hh] | rw [hh]
 refine Mq (Mw (wpAny_throw ?_))
 exact hE _ _ (((N6 ..).extBut.push _).push _) ⟨_,MC _ rfl,rfl⟩
end
theorem IX {prog:Program}{w:World}{A:Around} (hh:A.handled=none) (it l:Addr) (hne:l≠it) (items:Array Value) :
  Draws prog w A it [it,l] items.size (fun i v=>items[i]?=some v) (fun i h=>h.IsTupleIter it l i/\h.IsTuple l items) where
 live:=fun _ _ st=>let ⟨o,ho,_⟩:=st.1;⟨o,ho⟩
 frame:=fun _ _ _ st hk=>⟨by
  obtain ⟨o,ho,r⟩:=st.1
  exact ⟨o,hk it (by simp) o ho,r⟩,by
  obtain ⟨o,ho,r⟩:=st.2
  exact ⟨o,hk l (by simp) o ho,r⟩⟩
 item:=fun i s Q E hi st hQ=>by
  refine vU st.1 st.2 (x:=items[i]) (by simp [hi]) fun h' hit' hs'=>?_
  refine hQ _ h' s.toks (by simp [hi]) ⟨hit',?_⟩ hs'
  obtain ⟨o,ho,r⟩:=st.2
  exact ⟨o,(hs'.2 l hne).trans ho,r⟩
 done:=fun s Q E st hE=>pH hh st.1 st.2 (by simp) hE
theorem yd (l:Addr) (items:Array Value) (n:Nat) (dct:Option Addr) (sl:Array (Option Value)) :
  Meets (Builtin.«enumerate.__new__» ⟨[.type "enumerate",.ref l],[]⟩) (fun _ R s=>s.heap.get? l=some { cls:=.type "tuple",dict:=dct,data:=.seq items n,slots:=sl } /\
   R (.ok (.ret (.ref (s.heap.push { cls:=.type "tuple_iterator",data:=.fields #[.ref l,.int 0 0] }).objs.size)))
    { s with heap:=(s.heap.push { cls:=.type "tuple_iterator",data:=.fields #[.ref l,.int 0 0] }).push { cls:=.type "enumerate",data:=.fields #[.none,.bool false,.ref s.heap.objs.size,rawInt 0,.none,.none] } }):=
 .of_wp fun prog w A R s h=>by
  obtain ⟨hp,g,d,tk,os⟩:=s;obtain ⟨hl,h⟩:=h
  have hsub:=sub_enumerate
  have hL:Heap.IsTuple (Shared.heap ⟨hp,g,d,tk,os⟩) l items:=⟨_,hl,rfl,n,rfl⟩
  wp_walk using wpAny_loadPart' hl
  refine wpAny_stack_any fun st=>Mw ?_
  split
  ·rename_i c _ _ _ _ _
   cases (c == Value.type "enumerate")
   ·wp_walk using wpAny_loadPart' hl, N7 hL
    exact ⟨_,rfl,h⟩
   ·wp_walk using wpAny_loadPart' hl, N7 hL
    exact ⟨_,rfl,h⟩
  ·wp_walk using wpAny_loadPart' hl, N7 hL
   exact ⟨_,rfl,h⟩
section
variable {prog:Program}{w:World}{A:Around}{E:Value->Shared->Prop}{s:Shared}
theorem zp {l:Addr}{items:Array Value}{Q:Value->Shared->Prop} (hL:s.heap.IsTuple l items)
  (h : ∀ h', IsEnum h' (s.heap.objs.size + 1) s.heap.objs.size 0 .none -> h'.IsTupleIter s.heap.objs.size l 0 -> h'.objs.size = s.heap.objs.size + 2 ->
   (∀ b o,s.heap.get? b=some o->h'.get? b=some o)->Q (.ref (s.heap.objs.size+1)) { s with heap:=h' }) :
  wpAny (model prog w) A (call (.type "enumerate") [.ref l]) Q E s:=by
 obtain ⟨⟨c,dct,dt,sl⟩,hl,hc,n,hd⟩:=hL
 replace hc:c=.type "tuple" := hc
 replace hd:dt=.seq items n:=hd
 subst hc hd
 refine callType_new F.called_enumerate (by decide) (F.typeCall_enumerate_1 _) (F.newCall_enumerate_1 _) (fun obj=>F.args_object_init_2 obj _) F.entry_enumerate_new (yd l items n dct sl) ⟨hl,?_⟩
 have hz:(s.heap.push { cls:=.type "tuple_iterator",data:=.fields #[.ref l,.int 0 0] }).objs.size=s.heap.objs.size+1:=NT ..
 show _/\_
 rw [hz]
 have he:IsEnum ((s.heap.push { cls:=.type "tuple_iterator",data:=.fields #[.ref l,.int 0 0] }).push
   { cls:=.type "enumerate",data:=.fields #[.none,.bool false,.ref s.heap.objs.size,rawInt 0,.none,.none] }) (s.heap.objs.size+1) s.heap.objs.size 0 .none:=by
  have:=MC (s.heap.push { cls:=.type "tuple_iterator",data:=.fields #[.ref l,.int 0 0] })
   (o:={ cls:=.type "enumerate",data:=.fields #[.none,.bool false,.ref s.heap.objs.size,rawInt 0,.none,.none] }) rfl
  rw [hz] at this;exact this
 exact ⟨⟨_,he,rfl⟩,h _ he ⟨_,Mz _ (MC _ rfl),rfl,rfl⟩ (by rw [NT,hz]) fun b o x=>Mz _ (Mz _ x)⟩
end
end RS
namespace L2
open PySem PySem.Spec PyProof.Rows RS
def Sq (b:Bool) (K:W.Frag) (H:Hp) (a:Addr) (xs:List V):Prop:=if b=true then ia K H a xs else ip K H a xs
def KJ (b:Bool) (K:W.Frag) (a:Addr):It:=
 ⟨fun i H => ∃ xs x, Sq b K H a xs /\ xs[i]? = some x,
  fun i H x H'=>∃ q y,x=.ref q/\H q=none/\H'=dk H q (.tup [.int i,y])/\∀ xs,Sq b K H a xs->xs[i]?=some y,
  fun i H=>∃ xs,Sq b K H a xs/\xs.length=i⟩
def uW (b:Bool) (h:Heap) (it a:Addr) (i:Nat):Prop:=if b=true then h.IsListIter it a i else h.IsTupleIter it a i
theorem uW.obj {b:Bool}{h:Heap}{it a:Addr}{i:Nat} (x:uW b h it a i):∃ o,h.get? it=some o/\∀ v,o.data≠.cell v:=by
 cases b with
 | true=>obtain ⟨o,e,c,d⟩:=(show h.IsListIter it a i from x);exact ⟨o,e,fun v z=>by rw [d] at z;cases z⟩
 | false=>obtain ⟨o,e,c,d⟩:=(show h.IsTupleIter it a i from x);exact ⟨o,e,fun v z=>by rw [d] at z;cases z⟩
theorem uW.keep {b:Bool}{h h':Heap}{it a:Addr}{i:Nat} (x:uW b h it a i) (k:∀ o,h.get? it=some o->h'.get? it=some o):uW b h' it a i:=by
 cases b with
 | true=>obtain ⟨o,e,r⟩:=(show h.IsListIter it a i from x);exact (show h'.IsListIter it a i from ⟨o,k o e,r⟩)
 | false=>obtain ⟨o,e,r⟩:=(show h.IsTupleIter it a i from x);exact (show h'.IsTupleIter it a i from ⟨o,k o e,r⟩)
theorem xF {X:Cx}{pins:List (Addr × Obj)}{σ:St}{H:Hp}{s:Shared}{b:Bool}{a it:Addr}{xs:List V} (I:bc X pins σ H s) (hc:X.calm=true) (hq:Sq b X.K H a xs) (hne:a≠it) :
  ∃ (its:Array Value) (St:Nat->Heap->Prop),bx xs its.toList/\Draws X.prog X.w X.A.in1 it [it,a] its.size (fun i v=>its[i]?=some v) St/\(∀ i,uW b s.heap it a i->St i s.heap)/\∀ i h,St i h->uW b h it a i:=by
 have hh:X.A.in1.handled=none:=by simpa using I.ok.hd hc
 cases b with
 | true=>
  obtain ⟨its,rv,p,hz⟩:=I.list (show ia X.K H a xs from hq)
  exact ⟨its.toArray,_,by simpa using rv,Draws.list hh it a hne its.toArray,fun i h=>⟨h,p.isList⟩,fun i h st=>st.1⟩
 | false=>
  obtain ⟨its,rv,p,hz⟩:=I.tuple (show ip X.K H a xs from hq)
  exact ⟨its.toArray,_,by simpa using rv,IX hh it a hne its.toArray,fun i h=>⟨h,p⟩,fun i h st=>st.1⟩
theorem G5 {X:Cx}{pins:List (Addr × Obj)}{σ:St}{H:Hp}{s:Shared}{b:Bool}{a:Addr}{xs ys:List V} (I:bc X pins σ H s) (h1:Sq b X.K H a xs) (h2:Sq b X.K H a ys):xs=ys:=by
 cases b with
 | true=>exact I.list_inj h1 h2
 | false=>exact I.tuple_inj h1 h2
theorem bc.turns {X:Cx}{pins:List (Addr × Obj)}{σ:St}{H:Hp}{s:Shared}{h':Heap}{t':Nat}{ch:List Addr} (I:bc X pins σ H s) (k:∀ b o,b ∉ ch->s.heap.get? b=some o->h'.get? b=some o) (hf:∀ b∈ch,nE X pins H b):bc X pins σ H { s with heap:=h',toks:=t' }:=by
 have nit:∀ b u,H b=some u->b ∉ ch:=fun b u e z=>by rw [(hf b z).1] at e;cases e
 refine I.step (g':=s.gens) (d':=s.drawn) (ch:=ch) (fun b hb=>?_) (fun b o _ _ hc e _=>k b o hc e) (fun b o _ _ hc e _=>⟨o.slots,k b o hc e⟩) (fun _ _ _ _ n=>n)
  (fun b o hc e=>⟨o,k b o hc e⟩) (fun _ _ e=>e) (fun _ _ _ e=>e) (fun b ps e=>⟨#[],by rw [e];simp⟩) (fun m hm=>?_) (fun b u e=>?_) I.bare
 ·obtain ⟨f0, f1, f2, f3, f4, f5⟩ := hf b hb
  exact ⟨f3,f1,f4,f5⟩
 ·obtain ⟨o, es, ep, ho, r⟩ := hm
  exact ⟨o,es,ep,k _ o (fun z=>(hf _ z).2.1 rfl) ho,r⟩
 ·refine (I.hok b u e).stay (fun c v hc q => k c v ?_ q) (fun _ q => q) fun _ _ q => q
  rcases hc with z | z
  ·rw [z];exact nit b u e
  ·exact nit c _ z
theorem Av {P:Program}{w:World}{K:W.Frag}{elts:List Expr}{k1:Nat}{pos:Pos}{b:Bool} (a it e:Addr) (hei:e≠it) (hai:a≠it) (hae:a≠e) :
  Aq P w K (.Tuple elts k1 pos) (KJ b K a) [e,it] e (fun i h=>(∃ old,IsEnum h e it (i:Nat) old)/\uW b h it a i) where
 mem:=by simp
 obj:=fun i h st x hx=>by
  obtain ⟨⟨old,he⟩,hi⟩:=st
  rcases Mc.mp hx with rfl | hx
  ·exact ⟨_,he,fun v z=>by cases z⟩
  ·rw [N1.mp hx];exact hi.obj
 keep:=fun i h h' st k=>by
  obtain ⟨⟨old,he⟩,hi⟩:=st
  exact ⟨⟨old,k e (by simp) _ he⟩,hi.keep fun o eo=>k it (by simp) o eo⟩
 item:=by
  intro X hP hw hK hc i pins s σ H E I hf st hg
  subst hP hw hK
  obtain ⟨⟨old,he⟩,hi⟩:=st
  obtain ⟨xs,x,hq,hx⟩:=hg
  obtain ⟨its,St,rv,D,d1,d2⟩:=xF I hc hq hai
  obtain ⟨u,hu,ru⟩:=rv.get hx
  have hlt:i<its.size:=by
   have:=(Mg.mp hu).1
   simpa using this
  have hef:e ∉ [it,a]:=by
   simp only [Mc,N8,N9,not_or];exact ⟨hei,Md hae⟩
  obtain ⟨f0,f1,f2,f3,f4,f5⟩:=hf e (by simp)
  obtain ⟨g0,g1,g2,g3,g4,g5⟩:=hf it (by simp)
  have helt:e<s.heap.objs.size:=LX he
  have hilt:it<s.heap.objs.size:=by obtain ⟨o,eo,_⟩:=hi.obj;exact LX eo
  refine wpAny_pyNext_enum_itemD D he (d1 i hi) hlt hei hef fun y h' tk hy ho hst' ht hsz hk=>?_
  have ey:y=u:=by
   rw [<- NK,hu] at hy
   exact (LW hy).symm
  subst ey
  refine ⟨_,rfl,?_⟩
  refine wpAny_letOwnedTupleGo_enum (s:={ s with heap:=h',toks:=tk+1 }) ho fun h2 he2 hs2=>?_
  replace hs2:Heap.SameBut e h' h2:=hs2
  have hold:∀ b o,b≠e->b≠it->s.heap.get? b=some o->h2.get? b=some o:=fun b o h1 h3 q=>(hs2.2 b h1).trans (hk b o h1 h3 q)
  have ht2:h2.get? s.heap.objs.size=some { cls:=.type "tuple",data:=.seq #[.int i tk,y] }:=(hs2.2 _ (Mv helt)).trans ht
  have hqn:H s.heap.objs.size=none:=I.hok.fresh (MD _)
  have I1:bc X pins σ (dk H s.heap.objs.size (.tup [.int i,x])) { s with heap:=s.heap.push { cls:=.type "tuple",data:=.seq #[.int i tk,y] },toks:=tk }:=by
   refine I.laid (t':=tk) (fun b o eo=>Mz _ eo) (MD _) ?_
   exact ⟨by show 2<=sizeLine;decide,[.int i tk,y],.cons ⟨tk,rfl⟩ (.cons ru .nil),_,MC _ rfl,rfl,0,rfl⟩
  have hne:∀ b∈[e,it],b≠s.heap.objs.size:=fun b hb=>by
   rcases Mc.mp hb with rfl | hb
   ·exact L0 helt
   ·rw [N1.mp hb];exact L0 hilt
  have hf':∀ b∈[e,it],nE X pins (dk H s.heap.objs.size (.tup [.int i,x])) b:=fun b hb=>by
   obtain ⟨k0,k1⟩:=hf b hb
   exact ⟨by rw [cu (hne b hb)];exact k0,k1⟩
  have I2:bc X pins σ (dk H s.heap.objs.size (.tup [.int i,x])) { s with heap:=h2,toks:=tk+1 }:=by
   refine bc.turns (s:={ s with heap:=s.heap.push { cls:=.type "tuple",data:=.seq #[.int i tk,y] },toks:=tk }) I1 (ch:=[e,it]) (t':=tk+1) (fun b o hb eo=>?_) hf'
   simp only [Mc,N8,N9,not_or] at hb
   by_cases hbq:b=s.heap.objs.size
   ·subst hbq
    have:=(MC s.heap (o:={ cls:=.type "tuple",data:=.seq #[.int i tk,y] }) rfl).symm.trans eo
    rw [ht2];exact this
   ·have:s.heap.get? b=some o:=by
     rw [Oa _ _ _ hbq] at eo;exact eo
    exact hold b o hb.1 hb.2 this
  refine ⟨.ref s.heap.objs.size,_,I2,rfl,⟨_,x,rfl,hqn,rfl,fun ys hy=>by rw [G5 I hy hq];exact hx⟩,⟨⟨y,by simpa using he2⟩,?_⟩,fun b hb=>(hf' b hb).1⟩
  refine (d2 (i+1) h' hst').keep fun o eo=>?_
  exact (hs2.2 it (Md hei)).trans eo
 done:=by
  intro X hP hw hK hc i pins s σ H E I hf st hg
  subst hP hw hK
  obtain ⟨⟨old,he⟩,hi⟩:=st
  obtain ⟨xs,hq,hx⟩:=hg
  obtain ⟨its,St,rv,D,d1,d2⟩:=xF I hc hq hai
  have hil:its.size=i:=by
   have h1:=rv.length
   have h2:its.toList.length=its.size:=Mn
   omega
  subst hil
  refine wpAny_pyNext_enum_endD D he (d1 _ hi) fun h' hx=>⟨rfl,?_⟩
  refine I.turns (ch:=[e,it]) (t':=s.toks) (fun b o hb eo=>hx b o (fun z=>hb (by rw [z];simp)) eo) hf
 self:=fun _ _ _ _ _ st h=>by
  obtain ⟨⟨old,he⟩,hi⟩:=st
  exact wpAny_pyIter_enum he h
section
variable {X:Cx}{tg:Expr}
def IL (K:W.Frag) (ta:TA):TI:=fun σ H R=>ta σ H fun vs H1=>∃ a b,vs=[.ref a]/\(∃ xs,Sq b K H1 a xs)/\R (KJ b K a) H1
theorem EW {a:Expr}{ta:TA}{p pos tpos:Pos}{elts:List Expr}{k1:Nat} (hg:Gl X "enumerate") (hm:X.mg "enumerate" = none) (ha:PA X [a] ta) (hs:starEach [a] X.env=[(false,eval a X.env)]:=by rfl):PI X (.Tuple elts k1 tpos) (.Call (.Name "enumerate" p) [a] [] pos) (IL X.K ta):=by
 intro pins s σ H R I h
 refine Call_ (m9 I hg hm (by rfl) (MF (eV (ha pos pins s σ H _ I h) fun us s1 ⟨vs,H1,I1,r1,q1⟩=>?_) hs rfl))
 obtain ⟨l,b,e,⟨xs,hq⟩,q⟩:=q1
 subst e
 obtain ⟨u,rfl,ru⟩:=iD r1
 cases ru
 have fin:∀ h',IsEnum h' (s1.heap.objs.size+1) s1.heap.objs.size 0 .none->uW b h' s1.heap.objs.size l 0->l<s1.heap.objs.size->h'.objs.size=s1.heap.objs.size+2->(∀ b o,s1.heap.get? b=some o->h'.get? b=some o) ->
   wpAny (model X.prog X.w) X.A (pyIter (.ref (s1.heap.objs.size+1))) (KF X pins σ (.Tuple elts k1 tpos) R) X.xe { s1 with heap:=h' }:=by
  intro h' he hi hl hsz hk
  have I2:bc X pins σ H1 { s1 with heap:=h' }:=I1.kept (t':=s1.toks) hk
  refine wpAny_pyIter_enum he ?_
  refine ⟨_,[s1.heap.objs.size+1,s1.heap.objs.size],_,_,H1,rfl,I2,Av (b:=b) l s1.heap.objs.size (s1.heap.objs.size+1) (Nat.succ_ne_self _) (L0 hl) (L0 (NS hl)),⟨⟨.none,he⟩,hi⟩,fun b hb=>?_,q⟩
  rcases Mc.mp hb with rfl | hb
  ·exact I1.fpOk (NF _) (I1.hok.fresh (NF _))
  ·rw [N1.mp hb];exact I1.fpOk (MD _) (I1.hok.fresh (MD _))
 cases b with
 | true=>
  obtain ⟨its,rv,pl,hz⟩:=I1.list (show ia X.K H1 l xs from hq)
  have hl:l<s1.heap.objs.size:=by obtain ⟨o,eo,_⟩:=pl.isList;exact LX eo
  exact call_enumerate_list pl.isList fun h' he hi hsz hk=>fin h' he hi hl hsz hk
 | false=>
  obtain ⟨its,rv,pl,hz⟩:=I1.tuple (show ip X.K H1 l xs from hq)
  have hl:l<s1.heap.objs.size:=by obtain ⟨o,eo,_⟩:=pl;exact LX eo
  exact zp pl fun h' he hi hsz hk=>fin h' he hi hl hsz hk
end
end L2
namespace RS
open PySem
def Aj (mask:Nat):Nat->Nat->Nat->List Nat
 | 0,_,_=>[]
 | n+1,i,pe=>(List.range (SetTable.runEnd mask i+1 - i)).map (i+·)++Aj mask n (SetTable.leap mask i pe).1 (SetTable.leap mask i pe).2
def cX (mask:Nat) (h:Int):List Nat:=Aj mask (SetTable.turns mask) (SetTable.bits h % (mask+1)) (SetTable.bits h)
def je (t:SetTable):Nat->SetTable.Probe->List Nat
 | 0,_=>[]
 | n+1,p=>p.j::je t n (t.advance p)
def nQ (mask i pe:Nat) (d:Option Nat):SetTable.Probe:={ j:=i,more:=SetTable.runEnd mask i - i,i,perturb:=pe,dummy:=d }
theorem wJ (t:SetTable):∀ (m n:Nat) (p:SetTable.Probe),p.more=m ->
  je t (m+1+n) p=(List.range (m+1)).map (p.j+·)++je t n (nQ t.mask (SetTable.leap t.mask p.i p.perturb).1 (SetTable.leap t.mask p.i p.perturb).2 p.dummy)
 | 0,n,p,h=>by
  have e:0+1+n=n+1:=by omega
  rw [e]
  show p.j::je t n (t.advance p)=_
  have ea:t.advance p=nQ t.mask (SetTable.leap t.mask p.i p.perturb).1 (SetTable.leap t.mask p.i p.perturb).2 p.dummy:=by
   unfold SetTable.advance
   rw [LV (by omega)]
   rfl
  rw [ea]
  simp
 | m+1,n,p,h=>by
  have e:m+1+1+n=(m+1+n)+1:=by omega
  rw [e]
  show p.j::je t (m+1+n) (t.advance p)=_
  have ea:t.advance p={ p with j:=p.j+1,more:=p.more - 1 }:=by
   unfold SetTable.advance
   rw [LU (by omega)]
  rw [ea,wJ t m n { p with j:=p.j+1,more:=p.more - 1 } (by show p.more - 1=m;omega)]
  rw [Ob (n:=m+1),Nz,Oc]
  show p.j::((List.range (m+1)).map (p.j+1+·)++_)=(p.j+0)::(List.map _ _)++_
  rw [Nat.add_zero]
  show p.j::(_++_)=p.j::(_++_)
  congr 2
  apply Od
  intro a _
  show p.j+1+a=p.j+(a+1)
  omega
theorem Cb (mask i:Nat):i<=SetTable.runEnd mask i/\SetTable.runEnd mask i<=i+9:=by
 unfold SetTable.runEnd;split <;> omega
theorem rD (t:SetTable):∀ (n i pe:Nat) (d:Option Nat),je t (Aj t.mask n i pe).length (nQ t.mask i pe d)=Aj t.mask n i pe
 | 0,_,_,_=>rfl
 | n+1,i,pe,d=>by
  have hr:=Cb t.mask i
  show je t ((List.range (SetTable.runEnd t.mask i+1 - i)).map (i+·)++_).length _=_
  rw [Nb,Nd,Oe]
  have e:SetTable.runEnd t.mask i+1 - i=(SetTable.runEnd t.mask i - i)+1:=by omega
  rw [e,wJ t (SetTable.runEnd t.mask i - i) _ (nQ t.mask i pe d) rfl]
  show _++je t (Aj t.mask n (SetTable.leap t.mask i pe).1 (SetTable.leap t.mask i pe).2).length (nQ t.mask (SetTable.leap t.mask i pe).1 (SetTable.leap t.mask i pe).2 d)=_
  rw [rD t n]
  show _=(List.range (SetTable.runEnd t.mask i+1 - i)).map (i+·)++_
  rw [e];rfl
theorem u7 (mask:Nat):∀ (n i pe:Nat),(Aj mask n i pe).length<=10 * n
 | 0,_,_=>NZ _
 | n+1,i,pe=>by
  have hr:=Cb mask i
  have ih:=u7 mask n (SetTable.leap mask i pe).1 (SetTable.leap mask i pe).2
  show ((List.range (SetTable.runEnd mask i+1 - i)).map (i+·)++_).length<=_
  rw [Nb,Nd,Oe]
  omega
theorem vp (t:SetTable) (hashAt:Nat->Int) (h:Int):∀ (pre:List Nat) (j:Nat) (post:List Nat) (fuel:Nat) (p:SetTable.Probe),je t (pre.length+1+post.length) p=pre++j::post->pre.length<fuel->p.dummy=none ->
  (∀ k∈pre,∃ i,t.slot k=.live i/\hashAt i≠h) ->
  (t.slot j=.empty->SetTable.probe.go t hashAt h fuel p=some (.empty j none))/\(∀ i,t.slot j=.live i->hashAt i=h->∃ nx,SetTable.probe.go t hashAt h fuel p=some (.candidate j i nx))
 | [],j,post,0,p,_,hf,_,_=>by simp at hf
 | [],j,post,fuel+1,p,hw,_,hd,_=>by
  have ew:je t (([]:List Nat).length+1+post.length) p=p.j::je t post.length (t.advance p):=by
   rw [Of,show 0+1+post.length=post.length+1 from by omega];rfl
  rw [ew,NL] at hw
  have ej:p.j=j:=(Og hw).1
  refine ⟨fun he=>?_,fun i hl hh=>?_⟩
  ·show (match t.slot p.j with | .empty => _ | .dummy => _ | .live i => _) = _
   rw [ej,he,hd]
  ·refine ⟨t.advance p, ?_⟩
   show (match t.slot p.j with | .empty=>_ | .dummy=>_ | .live i=>_)=_
   rw [ej,hl]
   show (if (hashAt i == h)=true then _ else _)=_
   rw [LU (by simpa using hh)]
 | x::pre,j,post,0,p,_,hf,_,_=>by simp at hf
 | x::pre,j,post,fuel+1,p,hw,hf,hd,hp=>by
  have ew:je t ((x::pre).length+1+post.length) p=p.j::je t (pre.length+1+post.length) (t.advance p):=by
   rw [NQ,show pre.length+1+1+post.length=(pre.length+1+post.length)+1 from by omega];rfl
  rw [ew,Oh] at hw
  have ej:p.j=x:=(Og hw).1
  have er:=(Og hw).2
  obtain ⟨i,hl,hne⟩:=hp x Ma
  have hda:(t.advance p).dummy=none:=by
   unfold SetTable.advance
   split
   ·exact hd
   ·exact hd
  have ih:=vp t hashAt h pre j post fuel (t.advance p) er (by rw [NQ] at hf;omega) hda (fun k hk=>hp k (Mb _ hk))
  have eg:SetTable.probe.go t hashAt h (fuel+1) p=SetTable.probe.go t hashAt h fuel (t.advance p):=by
   show (match t.slot p.j with | .empty=>_ | .dummy=>_ | .live i=>_)=_
   rw [ej,hl]
   show (if (hashAt i == h)=true then _ else _)=_
   rw [LV (by simpa using hne)]
  rw [eg]
  exact ih
def DP (xs:List Nat):Prop:=xs.Pairwise (·<·)
theorem rV (xs:Array Nat) (j:Nat):∀ (fuel lo hi:Nat),lo<=hi->hi<=xs.size->hi - lo<=fuel->(∀ i k,i<k->k<xs.size->xs.getD i j<xs.getD k j)->(∀ i,i<lo->xs.getD i j<j)->(∀ i,hi<=i->i<xs.size->j<=xs.getD i j) ->
  let b:=SetTable.below.go xs j fuel lo hi
  b<=xs.size/\(∀ i,i<b->xs.getD i j<j)/\(∀ i,b<=i->i<xs.size->j<=xs.getD i j)
 | 0,lo,hi,h1,h2,h3,hr,ha,hb=>by
  have e:lo=hi:=by omega
  subst e
  exact ⟨h2,ha,hb⟩
 | fuel+1,lo,hi,h1,h2,h3,hr,ha,hb=>by
  by_cases hlt:lo<hi
  ·simp only [SetTable.below.go, hlt, Nn]
   by_cases hc:xs.getD ((lo+hi) / 2) j<j
   ·rw [LU hc]
    refine rV xs j fuel _ hi (by omega) h2 (by omega) hr (fun i hi'=>?_) hb
    by_cases e:i=(lo+hi) / 2
    ·rw [e];exact hc
    ·have := hr i ((lo + hi) / 2) (by omega) (by omega)
     omega
   ·rw [LV hc]
    refine rV xs j fuel lo _ (by omega) (by omega) (by omega) hr ha (fun i hi' hs=>?_)
    by_cases e:i=(lo+hi) / 2
    ·rw [e];omega
    ·have := hr ((lo + hi) / 2) i (by omega) hs
     omega
  ·have e : lo = hi := by omega
   subst e
   simp only [SetTable.below.go,hlt,Nl]
   exact ⟨h2,ha,hb⟩
theorem u9 {xs:Array Nat} (h:DP xs.toList) (j:Nat):∀ i k,i<k->k<xs.size->xs.getD i j<xs.getD k j:=fun i k hik hk=>by
 have hi:i<xs.size:=by omega
 have:=List.pairwise_iff_getElem.mp h i k (by simpa using hi) (by simpa using hk) hik
 simpa [Array.getD,hi,hk] using this
theorem nt {xs:Array Nat} (h:DP xs.toList) (j:Nat):SetTable.below xs j<=xs.size/\(∀ i,i<SetTable.below xs j->xs.getD i j<j)/\(∀ i,SetTable.below xs j<=i->i<xs.size->j<=xs.getD i j):=
 rV xs j xs.size 0 xs.size (NZ _) (MD _) (by omega) (u9 h j) (fun i hi=>by omega) (fun i h1 h2=>by omega)
theorem Bl {xs:Array Nat} (h:DP xs.toList) {i j:Nat} (e:xs[i]?=some j):SetTable.below xs j=i:=by
 obtain ⟨h1,h2,h3⟩:=nt h j
 have hi:i<xs.size:=by
  rcases Oi.mp e with ⟨q,_⟩;exact q
 have ei:xs.getD i j=j:=by
  rcases Oi.mp e with ⟨q,z⟩
  simp [Array.getD,hi,z]
 by_cases hlt:SetTable.below xs j<i
 ·have a := h3 (SetTable.below xs j) (MD _) (by omega)
  have b:=u9 h j (SetTable.below xs j) i hlt hi
  omega
 ·by_cases hgt : i < SetTable.below xs j
  ·have:=h2 i hgt;omega
  ·omega
theorem kY {α:Type} (xs:Array α) (p:Nat) (x:α):(SetTable.insertAt xs p x).toList=xs.toList.take p++x::xs.toList.drop p:=by
 unfold SetTable.insertAt
 simp [Oj]
theorem kK {α:Type} (p:α->Prop):∀ (l:List α),(∃ x∈l,p x)->∃ pre x post,l=pre++x::post/\p x/\∀ y∈pre,¬ p y
 | [],h=>by obtain ⟨x,hx,_⟩:=h;simp at hx
 | a::l,h=>by
  by_cases ha:p a
  ·exact ⟨[],a,l,rfl,ha,fun y hy=>by simp at hy⟩
  ·obtain ⟨x, hx, px⟩ := h
   rcases Mc.mp hx with z | z
   ·rw [z] at px;exact absurd px ha
   ·obtain ⟨pre, y, post, e, py, hp⟩ := kK p l ⟨x, z, px⟩
    refine ⟨a::pre,y,post,by rw [e];rfl,py,fun w hw=>?_⟩
    rcases Mc.mp hw with q | q
    ·rw [q];exact ha
    ·exact hp w q
structure tT (t:SetTable) (es:Array (Int × Value)) (Z:List (Nat × Int × Value)):Prop where
 place:t.place.toList=Z.map (·.1)
 ents:es.toList=Z.map (·.2)
 ris:DP (Z.map (·.1))
 top:∀ z∈Z,z.1<=t.mask
 dum:t.dummies=#[]
 reach:∀ z∈Z,∃ pre post,cX t.mask z.2.1=pre++z.1::post/\∀ k∈pre,k∈Z.map (·.1)
theorem tT.size {t:SetTable}{es:Array (Int × Value)}{Z:List (Nat × Int × Value)} (T:tT t es Z):t.place.size=Z.length/\es.size=Z.length:=by
 have a:=Mo List.length T.place
 have b:=Mo List.length T.ents
 simp at a b
 exact ⟨a,b⟩
theorem tT.fill {t:SetTable}{es:Array (Int × Value)}{Z:List (Nat × Int × Value)} (T:tT t es Z):t.fill=Z.length:=by
 unfold SetTable.fill;rw [T.size.1,T.dum];rfl
theorem uw (j:Nat):SetTable.has #[] j=false:=by
 unfold SetTable.has;simp
theorem tT.slot_empty {t:SetTable}{es:Array (Int × Value)}{Z:List (Nat × Int × Value)} (T:tT t es Z) {j:Nat} (h:j ∉ Z.map (·.1)):t.slot j=.empty:=by
 unfold SetTable.slot
 have hn:¬ (t.place[SetTable.below t.place j]? == some j)=true:=by
  intro e
  have e':t.place[SetTable.below t.place j]?=some j:=by simpa using e
  apply h
  rw [<- T.place]
  rw [<- NK] at e'
  exact Na e'
 simp only [hn,T.dum,uw]
 rfl
theorem tT.slot_live {t:SetTable}{es:Array (Int × Value)}{Z:List (Nat × Int × Value)} (T:tT t es Z) {i:Nat}{z:Nat × Int × Value} (h:Z[i]?=some z):t.slot z.1=.live i:=by
 have e:t.place[i]?=some z.1:=by
  rw [<- NK,T.place,MZ,h];rfl
 have r:DP t.place.toList:=by rw [T.place];exact T.ris
 have eb:=Bl r e
 unfold SetTable.slot
 have hc:(t.place[SetTable.below t.place z.1]? == some z.1)=true:=by rw [eb,e];simp
 simp only [hc,Nn]
 rw [eb]
theorem tT.hashAt {t:SetTable}{es:Array (Int × Value)}{Z:List (Nat × Int × Value)} (T:tT t es Z) {i:Nat}{z:Nat × Int × Value} (h:Z[i]?=some z):es[i]?=some z.2:=by
 rw [<- NK,T.ents,MZ,h];rfl
theorem kb {α:Type}:∀ {l1 l2:List α},l1.Nodup->(∀ x∈l1,x∈l2)->l1.length<=l2.length
 | [],_,_,_=>NZ _
 | a::r,l2,hn,hs=>by
  obtain ⟨s,t,e⟩:=List.append_of_mem (hs a Ma)
  have hn':=MQ.mp hn
  have ih:=kb (l1:=r) (l2:=s++t) hn'.2 (fun x hx=>by
   have hx2:=hs x (Mb _ hx)
   rw [e] at hx2
   rcases Me.mp hx2 with q | q
   ·exact Mf _ q
   ·rcases Mc.mp q with q | q
    ·rw [q] at hx;exact absurd hx hn'.1
    ·exact MJ _ q)
  rw [e,Nb,NQ,NQ]
  rw [Nb] at ih
  omega
theorem zG (mask:Nat):∀ (n i pe:Nat),i<=mask->∀ j∈Aj mask n i pe,j<=mask
 | 0,_,_,_,j,h=>by simp [Aj] at h
 | n+1,i,pe,hi,j,h=>by
  rcases Me.mp h with q | q
  ·obtain ⟨k, hk, e⟩ := Ol.mp q
   have hk':=L4.mp hk
   have:SetTable.runEnd mask i<=mask:=by unfold SetTable.runEnd;split <;> omega
   have e':i+k=j:=e
   omega
  ·refine zG mask n _ _ ?_ j q
   show (i * 5+1+pe / 32) % (mask+1)<=mask
   exact Nat.le_of_lt_succ (Nat.mod_lt _ (Nat.succ_pos mask))
theorem kf {mask:Nat}{h:Int}{j:Nat} (e:j∈cX mask h):j<=mask:=by
 refine zG mask _ _ _ ?_ j e
 exact Nat.le_of_lt_succ (Nat.mod_lt _ (Nat.succ_pos mask))
theorem uy {m:Nat}{l:List Nat} (h:l.length<=m):∃ j,j<=m/\j ∉ l:=by
 refine Om fun hn=>?_
 have hall:∀ j∈List.range (m+1),j∈l:=fun j hj=>by
  refine Om fun hj'=>hn ⟨j,?_,hj'⟩
  have:=L4.mp hj;omega
 have:=kb (On (n:=m+1)) hall
 rw [Oe] at this
 omega
theorem tT.search {t:SetTable}{es:Array (Int × Value)}{Z:List (Nat × Int × Value)} (T:tT t es Z) {h:Int} (cov:∀ j,j<=t.mask->j∈cX t.mask h) (hz:Z.length<=t.mask) (hA:Nat->Int) (hAe:∀ i z,Z[i]?=some z->hA i=z.2.1) :
  (∃ i z nx,Z[i]?=some z/\z.2.1=h/\t.probe hA h (t.probeStart h)=some (.candidate z.1 i nx)) \/
  ((∀ z∈Z,z.2.1≠h)/\∃ j pre post,t.probe hA h (t.probeStart h)=some (.empty j none)/\j<=t.mask/\j ∉ Z.map (·.1)/\cX t.mask h=pre++j::post/\∀ k∈pre,k∈Z.map (·.1)):=by
 obtain ⟨j0,hj0,hn0⟩:=uy (m:=t.mask) (l:=Z.map (·.1)) (by rw [Nd];exact hz)
 obtain ⟨pre,j,post,e,hs,hp⟩:=kK (fun j=>j ∉ Z.map (·.1)\/∃ z∈Z,z.1=j/\z.2.1=h) (cX t.mask h) ⟨j0,cov j0 hj0,.inl hn0⟩
 have hw:je t (pre.length+1+post.length) (t.probeStart h)=pre++j::post:=by
  have q:=rD t (SetTable.turns t.mask) (SetTable.bits h % (t.mask+1)) (SetTable.bits h) none
  have el:(Aj t.mask (SetTable.turns t.mask) (SetTable.bits h % (t.mask+1)) (SetTable.bits h)).length=pre.length+1+post.length:=by
   show (cX t.mask h).length=_
   rw [e,Nb,NQ];omega
  rw [el] at q
  exact q.trans e
 have hlen:pre.length<10 * SetTable.turns t.mask:=by
  have q:=u7 t.mask (SetTable.turns t.mask) (SetTable.bits h % (t.mask+1)) (SetTable.bits h)
  have el:(Aj t.mask (SetTable.turns t.mask) (SetTable.bits h % (t.mask+1)) (SetTable.bits h)).length=pre.length+1+post.length:=by
   show (cX t.mask h).length=_
   rw [e,Nb,NQ];omega
  omega
 have occ:∀ k∈pre,k∈Z.map (·.1):=fun k hk=>by
  refine Om fun q=>hp k hk (.inl q)
 have hpre:∀ k∈pre,∃ i,t.slot k=.live i/\hA i≠h:=fun k hk=>by
  obtain ⟨z,hzm,ez⟩:=Ol.mp (occ k hk)
  obtain ⟨i,hi⟩:=Oo hzm
  refine ⟨i,ez ▸ T.slot_live hi,fun q=>hp k hk (.inr ⟨z,hzm,ez,?_⟩)⟩
  rw [<- hAe i z hi];exact q
 obtain ⟨g1,g2⟩:=vp t hA h pre j post (10 * SetTable.turns t.mask) (t.probeStart h) hw hlen rfl hpre
 by_cases hany:∃ z∈Z,z.2.1=h
 ·obtain ⟨z, hzm, ez⟩ := hany
  obtain ⟨pz,qz,ezz,hoz⟩:=T.reach z hzm
  rw [ez] at ezz
  have hjo:j∈Z.map (·.1):=by
   have e2:pre++j::post=pz++z.1::qz:=by rw [<- e,<- ezz]
   rcases List.append_eq_append_iff.mp e2 with ⟨a,h1,h2⟩ | ⟨c,h1,h2⟩
   ·cases a with
    | nil=>
     simp only [NL] at h2
     rw [(Og h2).1];exact Oq hzm
    | cons x a=>
     rw [Oh] at h2
     have:j∈pz:=by rw [h1,(Og h2).1];simp
     exact hoz j this
   ·cases c with
    | nil=>
     simp only [NL] at h2
     rw [<- (Og h2).1];exact Oq hzm
    | cons x c=>
     rw [Oh] at h2
     have:z.1∈pre:=by rw [h1,(Og h2).1];simp
     exact absurd (.inr ⟨z,hzm,rfl,ez⟩) (hp z.1 this)
  rcases hs with q | ⟨z',hz',e1,e2⟩
  ·exact absurd hjo q
  ·obtain ⟨i, hi⟩ := Oo hz'
   obtain ⟨nx,en⟩:=g2 i (e1 ▸ T.slot_live hi) (by rw [hAe i z' hi];exact e2)
   exact .inl ⟨i,z',nx,hi,e2,by rw [e1];exact en⟩
 ·have hno : ∀ z ∈ Z, z.2.1 ≠ h := fun z hz' e' => hany ⟨z, hz', e'⟩
  rcases hs with q | ⟨z',hz',e1,e2⟩
  ·have hjm : j <= t.mask := kf (h := h) (by rw [e]; simp)
   exact .inr ⟨hno,j,pre,post,g1 (T.slot_empty q),hjm,q,e,occ⟩
  ·exact absurd e2 (hno z' hz')
theorem yT {l:List Nat}{j p:Nat} (h:DP l) (h1:∀ x∈l.take p,x<j) (h2:∀ x∈l.drop p,j<x):DP (l.take p++j::l.drop p):=by
 unfold DP at *
 have h':(l.take p++l.drop p).Pairwise (·<·):=by rw [Os];exact h
 rw [List.pairwise_append] at h' ⊢
 refine ⟨h'.1,Ot.mpr ⟨fun x hx=>h2 x hx,h'.2.1⟩,fun a ha b hb=>?_⟩
 rcases Mc.mp hb with q | q
 ·rw [q];exact h1 a ha
 ·exact h'.2.2 a ha b q
theorem tT.put {t:SetTable}{es:Array (Int × Value)}{Z:List (Nat × Int × Value)} (T:tT t es Z) {j:Nat}{h:Int}{x:Value}{pre post:List Nat} (hj:j<=t.mask) (hn:j ∉ Z.map (·.1)) (e:cX t.mask h=pre++j::post) (hp:∀ k∈pre,k∈Z.map (·.1)) :
  ∃ Z',tT (t.put j).1 (SetTable.insertAt es (t.put j).2 (h,x)) Z'/\Z'.Perm ((j,h,x)::Z)/\(t.put j).1={ t with place:=SetTable.insertAt t.place (SetTable.below t.place j) j }:=by
 have e1:(t.put j).1={ t with place:=SetTable.insertAt t.place (SetTable.below t.place j) j }:=by
  unfold SetTable.put
  simp only [T.dum,uw]
  rw [LV Mu]
 have e2:(t.put j).2=SetTable.below t.place j:=rfl
 have r:DP t.place.toList:=by rw [T.place];exact T.ris
 obtain ⟨b1,b2,b3⟩:=nt r j
 generalize hb:SetTable.below t.place j=p at *
 refine ⟨Z.take p++(j,h,x)::Z.drop p,⟨?_,?_,?_,fun z hz=>?_,by rw [e1];exact T.dum,fun z hz=>?_⟩,?_,e1⟩
 ·rw [e1]
  show (SetTable.insertAt t.place p j).toList=_
  rw [kY,T.place,Ou,Nz,Ov,Ow]
 ·rw [e2,kY,T.ents,Ou,Nz,Ov,Ow]
 ·rw [Ou, Nz, Ov, Ow]
  have hlen:t.place.size=(Z.map (·.1)).length:=by rw [<- T.place];simp
  refine yT T.ris (fun y hy=>?_) (fun y hy=>?_)
  ·obtain ⟨i, hi⟩ := Oo hy
   rw [List.getElem?_take] at hi
   split at hi
   ·rename_i hlt
    have q:=b2 i hlt
    rw [<- T.place,NK] at hi
    simp only [Ox,hi,Oy] at q
    exact q
   ·cases hi
  ·obtain ⟨i, hi⟩ := Oo hy
   rw [Oz] at hi
   have hmem:y∈Z.map (·.1):=Na hi
   rw [<- T.place,NK] at hi
   have hlt:p+i<t.place.size:=(Oi.mp hi).1
   have q:=b3 (p+i) (by omega) hlt
   simp only [Ox,hi,Oy] at q
   have:y≠j:=fun ey=>hn (ey ▸ hmem)
   omega
 ·rw [e1]
  show z.1<=t.mask
  rcases Me.mp hz with q | q
  ·exact T.top z (OA q)
  ·rcases Mc.mp q with q | q
   ·rw [q];exact hj
   ·exact T.top z (OB q)
 ·rw [e1]
  show ∃ pre post,cX t.mask z.2.1=pre++z.1::post/\_
  have sub:∀ k∈Z.map (·.1),k∈(Z.take p++(j,h,x)::Z.drop p).map (·.1):=fun k hk=>by
   rw [<- Os p Z,Ou] at hk
   rw [Ou,Nz]
   rcases Me.mp hk with q | q
   ·exact Mf _ q
   ·exact MJ _ (Mb _ q)
  have old:∀ z∈Z,∃ pre post,cX t.mask z.2.1=pre++z.1::post/\∀ k∈pre,k∈(Z.take p++(j,h,x)::Z.drop p).map (·.1):=fun z hz=>by
   obtain ⟨a,b,c,d⟩:=T.reach z hz
   exact ⟨a,b,c,fun k hk=>sub k (d k hk)⟩
  rcases Me.mp hz with q | q
  ·exact old z (OA q)
  ·rcases Mc.mp q with q | q
   ·rw [q];exact ⟨pre,post,e,fun k hk=>sub k (hp k hk)⟩
   ·exact old z (OB q)
 ·have q : (Z.take p ++ (j, h, x) :: Z.drop p).Perm ((j, h, x) :: (Z.take p ++ Z.drop p)) := List.perm_middle
  rw [Os] at q
  exact q
theorem uz (mask:Nat) (owner:Array (Option Nat)):∀ (n i pe:Nat),
  SetTable.layClean.free mask owner n i pe=(Aj mask n i pe).find? fun j=>(owner.getD j (some 0)).isNone
 | 0,_,_=>rfl
 | n+1,i,pe=>by
  show (match (List.range (SetTable.runEnd mask i+1 - i)).find? fun k=>(owner.getD (i+k) (some 0)).isNone with | some k=>_ | none=>_)=_
  show _=((List.range (SetTable.runEnd mask i+1 - i)).map (i+·)++Aj mask n (SetTable.leap mask i pe).1 (SetTable.leap mask i pe).2).find? _
  rw [OC,List.find?_map,<- uz mask owner n]
  have ec:((fun j=>(owner.getD j (some 0)).isNone) ∘ fun x=>i+x)=fun k=>(owner.getD (i+k) (some 0)).isNone:=rfl
  rw [ec]
  cases (List.range (SetTable.runEnd mask i+1 - i)).find? fun k=>(owner.getD (i+k) (some 0)).isNone with
  | some k=>rfl
  | none=>rfl
structure Gz (mask:Nat) (hs:List Int) (owner:Array (Option Nat)):Prop where
 size:owner.size=mask+1
 all:∀ (i:Nat) (h:Int),hs[i]?=some h->∃ j:Nat,j<=mask/\owner[j]?=some (some i)/\∃ pre post,cX mask h=pre++j::post/\∀ k∈pre,∃ i':Nat,owner[k]?=some (some i')
 lt:∀ (j i:Nat),owner[j]?=some (some i)->i<hs.length
 inj:∀ (j j' i:Nat),owner[j]?=some (some i)->owner[j']?=some (some i)->j=j'
theorem E6 (mask:Nat):Gz mask [] (Array.replicate (mask+1) none):=by
 have hno:∀ (j i:Nat),(Array.replicate (mask+1) (none:Option Nat))[j]?≠some (some i):=fun j i e=>by
  rw [Array.getElem?_replicate] at e
  split at e <;> cases e
 exact ⟨by simp,fun i h e=>by simp at e,fun j i e=>absurd e (hno j i),fun j j' i e=>absurd e (hno j i)⟩
theorem Dh {mask:Nat}{hs:List Int}{owner:Array (Option Nat)} (O:Gz mask hs owner) (hl:hs.length<=mask):∃ j,j<=mask/\owner[j]?=some none:=by
 refine Om fun hn=>?_
 have hall:∀ j,j<=mask->∃ i,owner[j]?=some (some i):=fun j hj=>by
  have hs':j<owner.size:=by rw [O.size];omega
  cases e:owner[j]? with
  | none=>rw [OD] at e;omega
  | some o=>
   cases o with
   | none=>exact absurd ⟨j,hj,e⟩ hn
   | some i=>exact ⟨i,rfl⟩
 have key:∀ n,n<=mask+1->∃ l:List Nat,l.length=n/\l.Nodup/\(∀ i∈l,i<hs.length)/\∀ i∈l,∃ j,j<n/\owner[j]?=some (some i):=by
  intro n
  induction n with
  | zero=>exact fun _=>⟨[],rfl,OE,fun _ h=>by simp at h,fun _ h=>by simp at h⟩
  | succ n ih=>
   intro hn'
   obtain ⟨l,h1,h2,h3,h4⟩:=ih (by omega)
   obtain ⟨i,hi⟩:=hall n (by omega)
   refine ⟨i::l,by rw [NQ,h1],MQ.mpr ⟨fun hm=>?_,h2⟩,fun x hx=>?_,fun x hx=>?_⟩
   ·obtain ⟨j, hj, ej⟩ := h4 i hm
    have:=O.inj j n i ej hi
    omega
   ·rcases Mc.mp hx with q | q
    ·rw [q];exact O.lt n i hi
    ·exact h3 x q
   ·rcases Mc.mp hx with q | q
    ·rw [q];exact ⟨n,by omega,hi⟩
    ·obtain ⟨j, hj, ej⟩ := h4 x q
     exact ⟨j,by omega,ej⟩
 obtain ⟨l,h1,h2,h3,_⟩:=key (mask+1) (MD _)
 have:=kb h2 (l2:=List.range hs.length) (fun x hx=>L4.mpr (h3 x hx))
 rw [Oe,h1] at this
 omega
theorem Dg {mask:Nat}{hs:List Int}{owner:Array (Option Nat)}{h:Int} (O:Gz mask hs owner) (hl:hs.length<=mask) (cov:∀ j,j<=mask->j∈cX mask h) :
  ∃ j,SetTable.layClean.free mask owner (SetTable.turns mask) (SetTable.bits h % (mask+1)) (SetTable.bits h)=some j/\Gz mask (hs++[h]) (owner.setIfInBounds j (some hs.length)):=by
 obtain ⟨j0,hj0,e0⟩:=Dh O hl
 have none_iff:∀ j,((owner.getD j (some 0)).isNone=true)↔owner[j]?=some none:=fun j=>by
  rw [Ox]
  cases owner[j]? with
  | none=>simp
  | some o=>cases o <;> simp
 obtain ⟨pre,j,post,e,hs',hp⟩:=kK (fun j=>owner[j]?=some none) (cX mask h) ⟨j0,cov j0 hj0,e0⟩
 have hjm:j<=mask:=kf (h:=h) (by rw [e];simp)
 have hjs:j<owner.size:=by rw [O.size];omega
 have hocc:∀ k∈pre,∃ i',owner[k]?=some (some i'):=fun k hk=>by
  have hkm:k<=mask:=kf (h:=h) (by rw [e];simp [hk])
  cases q:owner[k]? with
  | none=>
   rw [OD,O.size] at q
   omega
  | some o=>
   cases o with
   | none=>exact absurd q (hp k hk)
   | some i=>exact ⟨i,rfl⟩
 have hset:∀ k,(owner.setIfInBounds j (some hs.length))[k]?=if j=k then some (some hs.length) else owner[k]?:=fun k=>by
  rw [Array.getElem?_setIfInBounds]
  by_cases q:j=k
  ·rw [LU q,LU q,LU hjs]
  ·rw [LV q,LV q]
 have keep:∀ k i',owner[k]?=some (some i')->(owner.setIfInBounds j (some hs.length))[k]?=some (some i'):=fun k i' q=>by
  rw [hset,LV]
  ·exact q
  ·intro ej;rw [<- ej,hs'] at q;cases q
 refine ⟨j,?_,by simp [O.size],fun i h' ei=>?_,fun k i ei=>?_,fun k k' i e1 e2=>?_⟩
 ·rw [uz]
  show (cX mask h).find? _=some j
  rw [e,OC]
  have e1:pre.find? (fun j=>(owner.getD j (some 0)).isNone)=none:=by
   rw [List.find?_eq_none]
   intro k hk q
   exact hp k hk ((none_iff k).mp q)
  simp only [e1,Option.none_or,List.find?_cons,(none_iff j).mpr hs']
 ·by_cases hi : i < hs.length
  ·rw [MY hi] at ei
   obtain ⟨j',a1,a2,pr,po,a3,a4⟩:=O.all i h' ei
   exact ⟨j',a1,keep j' i a2,pr,po,a3,fun k hk=>(a4 k hk).elim fun i' q=>⟨i',keep k i' q⟩⟩
  ·have hi':i=hs.length:=by
    have:=(Mg.mp ei).1
    simp at this;omega
   subst hi'
   rw [MX (MD _),OF] at ei
   have eh:h=h':=by simpa using ei
   subst eh
   exact ⟨j,hjm,by rw [hset,LU rfl],pre,post,e,fun k hk=>(hocc k hk).elim fun i' q=>⟨i',keep k i' q⟩⟩
 ·rw [hset] at ei
  rw [Nb,NJ]
  split at ei
  ·cases ei;omega
  ·have:=O.lt k i ei;omega
 ·rw [hset] at e1 e2
  split at e1
  ·rename_i q1
   cases e1
   split at e2
   ·rename_i q2;rw [<- q1,q2]
   ·have:=O.lt k' _ e2;omega
  ·split at e2
   ·cases e2
    have:=O.lt k _ e1;omega
   ·exact O.inj k k' i e1 e2
theorem xb {mask:Nat}:∀ (hs0 hs1:List Int) (owner:Array (Option Nat)),Gz mask hs0 owner->hs0.length+hs1.length<=mask+1->(∀ h∈hs1,∀ j,j<=mask->j∈cX mask h) ->
  ∃ owner',hs1.foldl (fun (acc:Option (Array (Option Nat) × Nat)) h=>do
   let (owner,k) <- acc
   let j <- SetTable.layClean.free mask owner (SetTable.turns mask) (SetTable.bits h % (mask+1)) (SetTable.bits h)
   pure (owner.setIfInBounds j (some k),k+1)) (some (owner,hs0.length))=some (owner',(hs0++hs1).length)/\Gz mask (hs0++hs1) owner'
 | hs0,[],owner,O,_,_=>⟨owner,by simp,by simpa using O⟩
 | hs0,h::hs1,owner,O,hl,cov=>by
  rw [NQ] at hl
  obtain ⟨j,ej,O'⟩:=Dg (h:=h) O (by omega) (cov h Ma)
  obtain ⟨ow,e1,e2⟩:=xb (hs0++[h]) hs1 _ O' (by rw [Nb,NJ];omega) (fun x hx=>cov x (Mb _ hx))
  rw [NG,List.singleton_append] at e1 e2
  refine ⟨ow,?_,e2⟩
  rw [NH]
  show List.foldl _ ((SetTable.layClean.free mask owner (SetTable.turns mask) (SetTable.bits h % (mask+1)) (SetTable.bits h)).bind fun j=>some (owner.setIfInBounds j (some hs0.length),hs0.length+1)) hs1=_
  rw [ej]
  show List.foldl _ (some (owner.setIfInBounds j (some hs0.length),hs0.length+1)) hs1=_
  rw [Nb,NJ] at e1
  exact e1
theorem w6 {α:Type}:∀ l:List α,(List.range l.length).filterMap (fun i=>l[i]?)=l
 | []=>rfl
 | a::l=>by
  rw [NQ,Ob,L9]
  show a::List.filterMap _ _=_
  rw [List.filterMap_map]
  show a::List.filterMap (fun i=>l[i]?) _=_
  rw [w6 l]
theorem FB {mask:Nat}{hs:List Int} (hl:hs.length<=mask+1) (cov:∀ h∈hs,∀ j,j<=mask->j∈cX mask h):∃ owner,SetTable.layClean mask hs.toArray=some owner/\Gz mask hs owner:=by
 obtain ⟨ow,e1,e2⟩:=xb [] hs _ (E6 mask) (by rw [Of,OG];exact hl) cov
 refine ⟨ow,?_,by simpa using e2⟩
 unfold SetTable.layClean
 rw [List.foldl_toArray']
 ·show Option.map (·.1) (hs.foldl _ (some (Array.replicate (mask + 1) none, ([] : List Int).length))) = _
  rw [e1];rfl
 ·simp
theorem r9 {t:SetTable}{es:Array (Int × Value)}{wanted mask:Nat} (hm:SetTable.sizeAbove wanted - 1=mask) (hl:es.size<=mask) (cov:∀ e∈es.toList,∀ j,j<=mask->j∈cX mask e.1) :
  ∃ t' order Z',t.relaid (es.map (·.1)) wanted=some (t',order)/\tT t' (order.filterMap (es[·]?)) Z'/\(Z'.map (·.2)).Perm es.toList/\t'.mask=mask/\t'.led=t.led/\t'.plain=t.plain/\order.toList.Perm (List.range es.size):=by
 have ea:es.map (·.1)=(es.toList.map (·.1)).toArray:=by rw [<- Array.toList_map]
 obtain ⟨ow,e1,O⟩:=FB (mask:=mask) (hs:=es.toList.map (·.1)) (by simp;omega) (fun h hh=>by
  obtain ⟨e,he,q⟩:=Ol.mp hh
  rw [<- q];exact cov e he)
 let live:List (Nat × Nat):=(List.range (mask+1)).filterMap fun j=>(ow.getD j none).map (j,·)
 have hlive:∀ j i,(j,i)∈live↔(j<=mask/\ow[j]?=some (some i)):=fun j i=>by
  simp only [live,MH,L4]
  constructor
  ·rintro ⟨k, hk, q⟩
   rw [Ox] at q
   cases e:ow[k]? with
   | none=>rw [e] at q;cases q
   | some o=>
    rw [e] at q
    cases o with
    | none=>cases q
    | some i'=>
     simp only [Oy,Option.map_some,Option.some.injEq,Prod.mk.injEq] at q
     obtain ⟨q1,q2⟩:=q
     subst q1;subst q2
     exact ⟨by omega,e⟩
  ·rintro ⟨hj, e⟩
   refine ⟨j,by omega,?_⟩
   rw [Ox,e];rfl
 have hfst:(live.map (·.1)).Pairwise (·<·):=by
  have gen:∀ (l:List Nat),l.Pairwise (·<·)->((l.filterMap fun j=>(ow.getD j none).map (j,·)).map (·.1)).Pairwise (·<·)/\∀ x∈((l.filterMap fun j=>(ow.getD j none).map (j,·)).map (·.1)),x∈l:=by
   intro l
   induction l with
   | nil=>intro _;exact ⟨List.Pairwise.nil,fun x hx=>by simp at hx⟩
   | cons a l ih=>
    intro hp
    obtain ⟨h1,h2⟩:=Ot.mp hp
    obtain ⟨i1,i2⟩:=ih h2
    rw [L9]
    cases q:(ow.getD a none).map (a,·) with
    | none=>exact ⟨i1,fun x hx=>Mb _ (i2 x hx)⟩
    | some p=>
     have ep:p.1=a:=by
      cases hq:ow.getD a none with
      | none=>rw [hq] at q;cases q
      | some i=>rw [hq] at q;cases q;rfl
     show (p.1::List.map _ _).Pairwise _/\∀ x∈p.1::List.map _ _,x∈a::l
     rw [ep]
     exact ⟨Ot.mpr ⟨fun x hx=>h1 x (i2 x hx),i1⟩,fun x hx=>by
      rcases Mc.mp hx with z | z
      ·rw [z];exact Ma
      ·exact Mb _ (i2 x z)⟩
  exact (gen _ OH).1
 have hnd:live.Nodup:=by
  have:=hfst.imp (fun h=>L0 h)
  exact List.Pairwise.of_map (·.1) (fun a b h e=>h (by rw [e])) this
 have hsz:∀ j i,(j,i)∈live->i<es.size:=fun j i h=>by
  have:=O.lt j i ((hlive j i).mp h).2
  simpa using this
 have hsnd:(live.map (·.2)).Perm (List.range es.size):=by
  refine (OI ?_ On).mpr fun i=>?_
  ·refine List.Pairwise.map _ (fun a b h => ?_) (List.Pairwise.and_mem.mp hnd)
   obtain ⟨ha,hb,hne⟩:=h
   intro e
   have q1:=((hlive a.1 a.2).mp ha).2
   have q2:=((hlive b.1 b.2).mp hb).2
   rw [<- e] at q2
   exact hne (Prod.ext (O.inj _ _ _ q1 q2) e)
  ·rw [L4, Ol]
   constructor
   ·rintro ⟨p,hp,e⟩;rw [<- e];exact hsz p.1 p.2 hp
   ·intro hi
    obtain ⟨j,hj,q,_⟩:=O.all i (es[i].1) (by rw [MZ,NK,OJ hi];rfl)
    exact ⟨(j,i),(hlive j i).mpr ⟨hj,q⟩,rfl⟩
 let Z':List (Nat × Int × Value):=live.filterMap fun p=>(es[p.2]?).map fun e=>(p.1,e)
 have hZ1:Z'.map (·.1)=live.map (·.1):=by
  have gen:∀ l:List (Nat × Nat),(∀ p∈l,p.2<es.size)->(l.filterMap fun p=>(es[p.2]?).map fun e=>(p.1,e)).map (·.1)=l.map (·.1):=by
   intro l
   induction l with
   | nil=>intro _;rfl
   | cons p l ih=>
    intro h
    rw [L9,OJ (h p Ma)]
    show p.1::List.map _ _=p.1::List.map _ _
    rw [ih fun q hq=>h q (Mb _ hq)]
  exact gen live fun p hp=>hsz p.1 p.2 hp
 have hZ2:Z'.map (·.2)=(live.map (·.2)).filterMap (es[·]?):=by
  have gen:∀ l:List (Nat × Nat),(l.filterMap fun p=>(es[p.2]?).map fun e=>(p.1,e)).map (·.2)=(l.map (·.2)).filterMap (es[·]?):=by
   intro l
   induction l with
   | nil=>rfl
   | cons p l ih=>
    rw [L9,Nz,L9]
    cases es[p.2]? with
    | none=>exact ih
    | some e=>show e::List.map _ _=e::_;rw [ih]
  exact gen live
 have hes:(List.range es.size).filterMap (es[·]?)=es.toList:=by
  have q:=w6 es.toList
  rw [Mn] at q
  simpa only [NK] using q
 refine ⟨{ mask,place:=(live.map (·.1)).toArray,dummies:=#[],finger:=t.finger,led:=t.led,moves:=t.movedTo mask,plain:=t.plain },(live.map (·.2)).toArray,Z',?_,⟨?_,?_,?_,fun z hz=>?_,rfl,fun z hz=>?_⟩,?_,rfl,rfl,rfl,hsnd⟩
 ·unfold SetTable.relaid SetTable.laid
  rw [hm,ea,e1]
  rfl
 ·show (live.map (·.1))=_;rw [hZ1]
 ·rw [hZ2];simp
 ·rw [hZ1];exact hfst
 ·have : z.1 ∈ live.map (·.1) := by rw [<- hZ1]; exact Oq hz
  obtain ⟨p,hp,q⟩:=Ol.mp this
  rw [<- q];exact ((hlive p.1 p.2).mp hp).1
 ·obtain ⟨p, hp, q⟩ := MH.mp hz
  rw [OJ (hsz p.1 p.2 hp)] at q
  have ez:z=(p.1,es[p.2]'(hsz p.1 p.2 hp)):=(LW q).symm
  obtain ⟨hj,ho⟩:=(hlive p.1 p.2).mp hp
  obtain ⟨j,a1,a2,pre,post,a3,a4⟩:=O.all p.2 (es[p.2]'(hsz p.1 p.2 hp)).1 (by rw [MZ,NK,OJ (hsz p.1 p.2 hp)];rfl)
  have ejp:j=p.1:=O.inj _ _ _ a2 ho
  refine ⟨pre,post,by rw [ez];rw [ejp] at a3;exact a3,fun k hk=>?_⟩
  obtain ⟨i',hi'⟩:=a4 k hk
  rw [hZ1]
  have hkm:k<=mask:=kf (h:=(es[p.2]'(hsz p.1 p.2 hp)).1) (by rw [a3];simp [hk])
  exact Ol.mpr ⟨(k,i'),(hlive k i').mpr ⟨hkm,hi'⟩,rfl⟩
 ·rw [hZ2, <- hes]
  exact hsnd.filterMap _
def prs:List (List Int):=((List.range 36).filter fun n=>n / 6<n % 6).map fun n=>[((n / 6:Nat):Int),((n % 6:Nat):Int)]
def hsh (ks:List Int):Int:=reduceHash (Builtin.Tuple.tupleHashOf (ks.map hashInt))
theorem IM {prog:Program}{w:World} (ks:List Int):tupleKeyHash (intKind prog w) ks=hsh ks:=rfl
def GF (mask:Nat):Bool:=prs.all fun ks=>(List.range (mask+1)).all fun j=>(cX mask (hsh ks)).contains j
theorem Li:GF 7=true:=by decide +kernel
theorem Gr:GF 31=true:=by decide +kernel
theorem Kd:(prs.map hsh).Nodup:=by decide +kernel
theorem zQ:prs.length=15:=by decide +kernel
theorem yC {mask:Nat} (h:GF mask=true) {ks:List Int} (hk:ks∈prs):∀ j,j<=mask->j∈cX mask (hsh ks):=fun j hj=>by
 have a:=OK.mp h ks hk
 have b:=OK.mp a j (L4.mpr (by omega))
 simpa using b
theorem IJ {l:List (List Int)} (h:(l.map hsh).Nodup) {a b:List Int} (ha:a∈l) (hb:b∈l) (e:hsh a=hsh b):a=b:=by
 induction l with
 | nil=>simp at ha
 | cons c l ih=>
  rw [Nz] at h
  obtain ⟨h1,h2⟩:=MQ.mp h
  rcases Mc.mp ha with qa | qa <;> rcases Mc.mp hb with qb | qb
  ·rw [qa,qb]
  ·exact absurd (by rw [<- qa,e];exact Oq qb) h1
  ·exact absurd (by rw [<- qb,<- e];exact Oq qa) h1
  ·exact ih h2 qa qb
theorem FH {a b:List Int} (ha:a∈prs) (hb:b∈prs) (e:hsh a=hsh b):a=b:=IJ Kd ha hb e
theorem zP {a b:Int} (h1:0<=a) (h2:a<b) (h3:b<6):[a,b]∈prs:=by
 have key:∀ x:Nat,x<6->∀ y:Nat,y<6->x<y->[(x:Int),(y:Int)]∈prs:=by decide +kernel
 have:=key a.toNat (by omega) b.toNat (by omega) (by omega)
 rw [OL h1,OL (by omega)] at this
 exact this
end RS
namespace RS
open PySem PyProof.Rows
abbrev KP:=List Int × Addr
structure eH (w:World) (h:Heap) (a:Addr) (qs:List (Int × Value)) (o:Obj) (es:Array (Int × Value)) (ep:Nat) (t:SetTable) (Z:List (Nat × Int × Value)):Prop where
 ho:h.get? a=some o
 ex:o.ExactSet
 hd:o.data=.set es ep t
 tab:tT t es Z
 plain:t.plain=true
 led:t.led=!w.params.followText "set-order"
 big:(t.mask=7/\Z.length<=4)\/(t.mask=31/\Z.length<=18)
 perm:(Z.map (·.2)).Perm qs
def yv (p:KP):Int × Value:=(hsh p.1,Value.ref p.2)
def fF (w:World) (h:Heap) (a:Addr) (ps:List KP):Prop:=∃ o es ep t Z,eH w h a (ps.map yv) o es ep t Z/\(∀ p∈ps,p.1∈prs)/\(ps.map (·.1)).Nodup
theorem eH.len {w:World}{h:Heap}{a:Addr}{ps:List (Int × Value)}{o es ep t Z} (S:eH w h a ps o es ep t Z):Z.length=ps.length:=by
 have:=S.perm.length_eq
 simpa using this
theorem mi {ps:List KP} (hk:∀ p∈ps,p.1∈prs) (hn:(ps.map (·.1)).Nodup):ps.length<=15:=by
 have:=kb hn (l2:=prs) (fun x hx=>by obtain ⟨p,hp,e⟩:=Ol.mp hx;rw [<- e];exact hk p hp)
 rw [Nd,zQ] at this
 exact this
theorem eH.fits {w:World}{h:Heap}{a:Addr}{ps:List (Int × Value)}{o es ep t Z} (S:eH w h a ps o es ep t Z):t.fits es.size=true:=by
 unfold SetTable.fits
 rw [S.tab.fill,S.tab.size.1,S.tab.size.2]
 rcases S.big with ⟨h1,h2⟩ | ⟨h1,h2⟩ <;> simp [h1] <;> omega
theorem eH.cov {w:World}{h:Heap}{a:Addr}{ps:List (Int × Value)}{o es ep t Z} (S:eH w h a ps o es ep t Z) {k:List Int} (hk:k∈prs):∀ j,j<=t.mask->j∈cX t.mask (hsh k):=by
 rcases S.big with ⟨h1,h2⟩ | ⟨h1,h2⟩ <;> rw [h1]
 ·exact yC Li hk
 ·exact yC Gr hk
theorem fF.keeps {w:World}{h h':Heap}{a:Addr}{ps:List KP} (S:fF w h a ps) (k:∀ o,h.get? a=some o->h'.get? a=some o):fF w h' a ps:=by
 obtain ⟨o,es,ep,t,Z,S,hk,hn⟩:=S
 exact ⟨o,es,ep,t,Z,⟨k o S.ho,S.ex,S.hd,S.tab,S.plain,S.led,S.big,S.perm⟩,hk,hn⟩
section
variable {prog:Program}{w:World}{A:Around}{E:Value->Shared->Prop}{s:Shared}
abbrev Tk (prog:Program) (w:World) (h:Heap) (k:List Int) (r:Addr):Prop:=IsTupleKey (intKind prog w) h k r
theorem items_int {k:List Int}{vs:List Value} (h:ItemsAre (intKind prog w) k vs):∀ v∈vs,∃ i t,v=.int i t:=by
 induction h with
 | nil=>intro v hv;simp at hv
 | @cons k v' ks vs h1 _ ih=>
  intro v hv
  rcases Mc.mp hv with q | q
  ·obtain ⟨t, e⟩ := LQ (k := k) (v := v') h1
   exact ⟨k,t,by rw [q,e]⟩
  ·exact ih v q
theorem xf {k:List Int}{r:Addr}{Q:Bool->Shared->Prop} (hk:Tk prog w s.heap k r) (h:Q false s):wpAny (model prog w) A (ofAClassStatement 8 (.ref r)) Q E s:=by
 have hT:=hk.typeIs
 obtain ⟨o,items,n,ho,hc,hd,hi⟩:=hk
 unfold ofAClassStatement
 refine Mq (Nv hT ?_)
 dsimp only
 simp only [NO,Nn]
 refine Mq (Mw ?_)
 simp only [OM,NP,Nl]
 refine Mq (N5 ho hd ?_)
 dsimp only
 refine Mq ?_
 show wpAny _ _ (forIn items _ _) _ _ s
 rw [<- Array.forIn_toList]
 refine ON _ (fun rest r s'=>r.1=none/\s'=s/\∀ v∈rest,∃ i t,v=.int i t) _ ?_ ?_ _ _ ⟨rfl,rfl,items_int hi⟩
 ·rintro v rest r s' ⟨hr, rfl, hall⟩
  obtain ⟨i,t,e⟩:=hall v Ma
  subst e
  unfold ofAClassStatement
  refine Mq (Mw ?_)
  simp only [NP,Nl]
  exact Mw ⟨rfl,rfl,fun u hu'=>hall u (Mb _ hu')⟩
 ·rintro ⟨r1, r2⟩ s' ⟨hr, rfl, _⟩
  simp only at hr
  subst hr
  exact Mw h
theorem tQ {k:List Int}{r:Addr}{Q:Bool->Shared->Prop} (hk:Tk prog w s.heap k r) (h:Q true s):wpAny (model prog w) A (hashByValue 8 (.ref r)) Q E s:=by
 have hT:=hk.typeIs
 obtain ⟨o,items,n,ho,hc,hd,hi⟩:=hk
 unfold hashByValue
 refine Mq (wpAny_specialOf hT F.slot_tuple_hash.lookup ?_)
 dsimp only
 refine Mq (N5 ho hd ?_)
 refine Mq ?_
 show wpAny _ _ (forIn items _ _) _ _ s
 rw [<- Array.forIn_toList]
 refine ON _ (fun rest r s'=>r.1=none/\s'=s/\∀ v∈rest,∃ i t,v=.int i t) _ ?_ ?_ _ _ ⟨rfl,rfl,items_int hi⟩
 ·rintro v rest r s' ⟨hr, rfl, hall⟩
  obtain ⟨i,t,e⟩:=hall v Ma
  subst e
  unfold hashByValue
  refine Mq (Mw ?_)
  simp only [OM,NP,Nl]
  exact Mw ⟨rfl,rfl,fun u hu'=>hall u (Mb _ hu')⟩
 ·rintro ⟨r1, r2⟩ s' ⟨hr, rfl, _⟩
  simp only at hr
  subst hr
  exact Mw h
theorem Dl {k:List Int}{r:Addr}{ys:List Value}{Q:Bool->Shared->Prop} (hk:Tk prog w s.heap k r) (hy:∀ y∈ys,∃ k' r',y=.ref r'/\Tk prog w s.heap k' r') (h:Q false s):wpAny (model prog w) A (searchCouldBeSeen (.ref r) ys) Q E s:=by
 unfold searchCouldBeSeen
 refine Mq ?_
 refine ON _ (fun rest r' s'=>r'.1=none/\s'=s/\∀ y∈rest,∃ k' r',y=.ref r'/\Tk prog w s.heap k' r') _ ?_ ?_ _ _ ⟨rfl,rfl,hy⟩
 ·rintro v rest q s' ⟨hr, rfl, hall⟩
  obtain ⟨k',r',e,hk'⟩:=hall v Ma
  subst e
  have hrest:=fun u hu'=>hall u (Mb _ hu')
  dsimp only
  by_cases hv:(r == r' || carriedByValue (Value.ref r) && carriedByValue (Value.ref r'))=true
  ·rw [LU hv]
   exact Mw ⟨rfl,rfl,hrest⟩
  ·rw [LV hv]
   refine Mq (wpAny_eqIsQuiet_tuple hk ?_)
   simp only [OM,NP,Nl]
   refine Mq (wpAny_eqIsQuiet_tuple hk' ?_)
   simp only [OM,NP,Nl]
   refine Mq (xf hk ?_)
   simp only [NP,Nl]
   refine Mq (xf hk' ?_)
   simp only [NP,Nl]
   exact Mw ⟨rfl,rfl,hrest⟩
 ·rintro ⟨r1, r2⟩ s' ⟨hr, rfl, _⟩
  simp only at hr
  subst hr
  exact Mw h
end
end RS
namespace RS
open PySem PyProof.Rows
section
variable {prog:Program}{w:World}{A:Around}{E:Value->Shared->Prop}{s:Shared}
theorem Cn {h:Heap}{a:Addr}{ps:List KP}{o es ep t Z} (S:eH w h a (ps.map yv) o es ep t Z) {z:Nat × Int × Value} (hz:z∈Z):∃ p∈ps,z.2=(hsh p.1,Value.ref p.2):=by
 have:z.2∈Z.map (·.2):=Oq hz
 obtain ⟨p,hp,e⟩:=Ol.mp (S.perm.mem_iff.mp this)
 exact ⟨p,hp,e.symm⟩
theorem IV {h:Heap}{a:Addr}{ps:List KP}{o es ep t Z} (S:eH w h a (ps.map yv) o es ep t Z) {p:KP} (hp:p∈ps):∃ z∈Z,z.2=(hsh p.1,Value.ref p.2):=by
 have:yv p∈ps.map yv:=Oq hp
 obtain ⟨z,hz,e⟩:=Ol.mp (S.perm.mem_iff.mpr this)
 exact ⟨z,hz,e⟩
theorem Ar {a r:Addr}{k:List Int}{ps:List KP}{o es ep t Z}{Q:SetFound->Shared->Prop} (S:eH w s.heap a (ps.map yv) o es ep t Z) (hks:∀ p∈ps,p.1∈prs) (hk:k∈prs) (hr:Tk prog w s.heap k r) (hps:∀ p∈ps,Tk prog w s.heap p.1 p.2) (hu:A.units<cLine)
  (h1:k∈ps.map (·.1)->Q (.there none) s)
  (h2:k ∉ ps.map (·.1)->∀ j pre post,j<=t.mask->j ∉ Z.map (·.1)->cX t.mask (hsh k)=pre++j::post->(∀ x∈pre,x∈Z.map (·.1))->Q (.free j false) s) :
  wpAny (model prog w) A (setSearch a (.ref r) (hsh k) true) Q E s:=by
 have hodd:t.gaveWay=false:=by
  unfold SetTable.gaveWay
  rcases S.big with ⟨q,_⟩ | ⟨q,_⟩ <;> rw [q] <;> decide
 have hz:Z.length<=t.mask:=by rcases S.big with ⟨q,q2⟩ | ⟨q,q2⟩ <;> omega
 unfold setSearch setSearchFrom
 refine Mq (OO S.ho S.hd S.fits ?_)
 dsimp only
 rw [hodd]
 simp only [NP,Nl]
 generalize hpr:SetTable.probe t _ (hsh k) (Option.getD none (t.probeStart (hsh k)))=pr
 have key:∀ (hA:Nat->Int) pr,(∀ i z,Z[i]?=some z->hA i=z.2.1)->t.probe hA (hsh k) (t.probeStart (hsh k))=pr ->
   (∃ i z nx,Z[i]?=some z/\z.2.1=hsh k/\pr=some (.candidate z.1 i nx)) \/
   ((∀ z∈Z,z.2.1≠hsh k)/\∃ j pre post,pr=some (.empty j none)/\j<=t.mask/\j ∉ Z.map (·.1)/\cX t.mask (hsh k)=pre++j::post/\∀ x∈pre,x∈Z.map (·.1)):=fun hA pr hAe e=>by
  subst e
  exact S.tab.search (S.cov hk) hz hA hAe
 rcases key _ pr (fun i z hi=>by show (Option.map (·.1) es[i]?).getD 0=_;rw [S.tab.hashAt hi];rfl) hpr with ⟨i,z,nx,hi,ez,e⟩ | ⟨hno,j,pre,post,e,hj,hn,e2,hp⟩
 ·subst e
  dsimp only
  have hzm:z∈Z:=Na hi
  obtain ⟨p,hp,ep'⟩:=Cn S hzm
  have ek:p.1=k:=FH (hks p hp) hk (by rw [<- ez,ep'])
  have hin:k∈ps.map (·.1):=by rw [<- ek];exact Oq hp
  have rest:wpAny (model prog w) A (do
    let some (_,y):=es[i]? | unsupported "internal:set-entry"
    let equal <- holding [y] (eqBool y (.ref r))
    let (es',_,t') <- setState a
    if true && equal then return SetFound.there none
    let some same:=t'.sameMemory t.moves t.mask | unsupported "set.changed-during-lookup:is-the-new-block-at-the-old-address"
    let still <- match (if same then t'.slot z.1 else .empty) with
     | .live i'=>match es'[i']? with
      | some (_,y')=>do pure (if <- isSame y' y then some i' else none)
      | none=>pure none
     | _=>pure none
    match still with
    | none=>rule "set.search.anew";setSearchFrom a (.ref r) (hsh k) true 99999 none
    | some i'=>if equal then return .there (some i') else setSearchFrom a (.ref r) (hsh k) true 99999 (some nx)) Q E s:=by
   rw [S.tab.hashAt hi,ep']
   dsimp only
   refine Mq (Mr (wpAny_eqBool_tuple hu (hps p hp) hr ?_))
   refine Mq (OO S.ho S.hd S.fits ?_)
   dsimp only
   rw [ek,NM rfl]
   simp only [OP,Nn]
   exact Mw (h1 hin)
  by_cases hl:(!t.led)=true
  ·rw [LU hl]
   refine Mq (Dl hr (fun y hy=>?_) ?_)
   ·obtain ⟨e', he', q⟩ := Ol.mp hy
    have he2:e'∈es.toList:=by
     have:=Array.mem_filter.mp (OQ.mp he')
     exact OQ.mpr this.1
    rw [S.tab.ents] at he2
    obtain ⟨z',hz',q2⟩:=Ol.mp he2
    obtain ⟨p',hp',q3⟩:=Cn S hz'
    exact ⟨p'.1,p'.2,by rw [<- q,<- q2,q3],hps p' hp'⟩
   ·simp only [NP, Nl]
    exact rest
  ·rw [LV hl]
   exact rest
 ·subst e
  dsimp only
  refine Mw (h2 (fun hin=>?_) j pre post hj hn e2 hp)
  obtain ⟨p,hpm,ek⟩:=Ol.mp hin
  obtain ⟨z,hzm,ez⟩:=IV S hpm
  exact hno z hzm (by rw [ez,<- ek])
end
end RS
namespace RS
open PySem PyProof.Rows
def nD (ps:List KP) (k:List Int) (r:Addr):List KP:=if k∈ps.map (·.1) then ps else ps++[(k,r)]
section
variable {prog:Program}{w:World}{A:Around}{E:Value->Shared->Prop}{s:Shared}
theorem GN {a r:Addr}{k:List Int}{ps:List KP}{Q:Bool->Shared->Prop} (S:fF w s.heap a ps) (hk:k∈prs) (hr:Tk prog w s.heap k r) (hps:∀ p∈ps,Tk prog w s.heap p.1 p.2) (hu:A.units<cLine)
  (h:∀ b h',Heap.SameBut a s.heap h'->fF w h' a (nD ps k r)->Q b { s with heap:=h' }):wpAny (model prog w) A (setAddHashed a (.ref r) (hsh k)) Q E s:=by
 obtain ⟨o,es,ep,t,Z,S,hk0,hn0⟩:=S
 unfold setAddHashed setAddHashedIn
 refine Mr (Mq (OO S.ho S.hd S.fits ?_))
 dsimp only
 have hsc:byScan (Value.ref r) es=false:=rfl
 rw [hsc]
 simp only [NP,Nl]
 refine Mq (Ar S hk0 hk hr hps hu (fun hin=>?_) fun hin j pre post hj hn e hp=>?_)
 ·dsimp only
  refine Mw ?_
  have q:=h false s.heap (Heap.SameBut.refl a s.heap) (by unfold nD;rw [LU hin];exact ⟨o,es,ep,t,Z,S,hk0,hn0⟩)
  cases s;exact q
 ·dsimp only
  refine Mq (OO S.ho S.hd S.fits ?_)
  dsimp only
  obtain ⟨Z',T',hperm,et⟩:=S.tab.put (x:=Value.ref r) hj hn e hp
  have e2:(t.put j).2=SetTable.below t.place j:=rfl
  have hpl:(t.put j).1.plain=true:=by rw [et];exact S.plain
  have hled:(t.put j).1.led=t.led:=by rw [et]
  have hmask:(t.put j).1.mask=t.mask:=by rw [et]
  have hperm':(Z'.map (·.2)).Perm ((ps++[(k,r)]).map yv):=by
   have q1:=hperm.map (·.2)
   refine q1.trans ?_
   rw [Nz,Ou]
   refine List.Perm.trans (List.Perm.cons _ S.perm) ?_
   exact (List.perm_append_singleton _ _).symm
  have hkeys:∀ p∈ps++[(k,r)],p.1∈prs:=fun p hp'=>by
   rcases Me.mp hp' with q | q
   ·exact hk0 p q
   ·rw [N1] at q;rw [q];exact hk
  have hnd:((ps++[(k,r)]).map (·.1)).Nodup:=by
   rw [Ou]
   refine OR.mpr ⟨hn0,by simp,fun x hx y hy=>?_⟩
   simp at hy
   rw [hy];rintro rfl;exact hin hx
  have hlen15:=mi hkeys hnd
  have hZ':Z'.length=ps.length+1:=by rw [hperm.length_eq,NQ,S.len,Nd]
  have hesz:(SetTable.insertAt es (t.put j).2 (hsh k,Value.ref r)).size=Z'.length:=T'.size.2
  have hadd:nD ps k r=ps++[(k,r)]:=by unfold nD;rw [LV hin]
  rw [hadd] at h
  rw [Nb,NJ] at hlen15
  generalize ht1:(t.put j).1=t1 at *
  generalize hes1:SetTable.insertAt es (t.put j).2 (hsh k,Value.ref r)=es1 at *
  have hline:es1.size<=sizeLine:=by rw [hesz,hZ'];exact L5 hlen15 (by decide)
  rw [hpl]
  simp only [Nn]
  refine Mq (tQ hr ?_)
  simp only [Nn]
  refine Mq (OS S.ho S.hd ?_ hline)
  have hg:(s.heap.update a (Obj.putSet es1 t1)).get? a=some { o with data:=.set es1 (ep+1) t1 }:=by
   have:=NA (Obj.putSet es1 t1) S.ho (by rw [OT es1 t1 S.hd];rfl)
   rw [OT es1 t1 S.hd] at this;exact this
  have hsb1:=N6 s.heap a (Obj.putSet es1 t1)
  have hfill:t1.fill=ps.length+1:=by rw [T'.fill,hZ']
  by_cases hfull:t1.tooFull=true
  ·simp only [hfull, OU, OP, Nn]
   have hm7:t.mask=7/\ps.length=4:=by
    unfold SetTable.tooFull at hfull
    rw [hfill,hmask] at hfull
    have hf:(ps.length+1) * 5 ≥ t.mask * 3:=by simpa using hfull
    have hl:=S.len
    rw [Nd] at hl
    rcases S.big with ⟨q,q2⟩ | ⟨q,q2⟩
    ·rw [q] at hf;exact ⟨q,by omega⟩
    ·rw [q] at hf;omega
   have hes0:es.size=4:=by rw [S.tab.size.2,S.len,Nd,hm7.2]
   have hsz1:es1.size=5:=by rw [hesz,hZ',hm7.2]
   have hgr:SetTable.grown (es.size+1)=20:=by rw [hes0];rfl
   rw [hgr]
   unfold setRelay
   have hfits1:t1.fits es1.size=true:=by
    unfold SetTable.fits
    rw [T'.fill,T'.size.1,hesz,hmask,hm7.1,hZ',hm7.2];rfl
   refine Mq (Mq (OO hg rfl hfits1 ?_))
   dsimp only
   rw [LV (by decide)]
   obtain ⟨t2,order,Z2,er,T2,hp2,hm2,hl2,hpl2,_⟩:=r9 (t:=t1) (es:=es1) (wanted:=20) (mask:=31) (by rfl) (by rw [hsz1];decide) (fun e' he'=>by
    rw [T'.ents] at he'
    obtain ⟨p,hp',q⟩:=Ol.mp (hperm'.mem_iff.mp he')
    rw [<- q]
    exact yC Gr (hkeys p hp'))
   rw [er]
   have hZ2:Z2.length=5:=by
    have:=hp2.length_eq
    simp at this
    omega
   have hes2:(order.filterMap (es1[·]?)).size=5:=by rw [T2.size.2,hZ2]
   have hne:((order.filterMap (es1[·]?)).size != es1.size)=false:=by rw [hes2,hsz1];rfl
   refine Mq ?_
   show wpAny _ A (if ((order.filterMap (es1[·]?)).size != es1.size)=true then _ else _) _ _ _
   rw [hne]
   simp only [NP,Nl]
   refine Mw ?_
   refine OS hg rfl ?_ (by rw [hes2];decide)
   have hg2:((s.heap.update a (Obj.putSet es1 t1)).update a (Obj.putSet (order.filterMap (es1[·]?)) t2)).get? a=some { o with data:=.set (order.filterMap (es1[·]?)) (ep+1+1) t2 }:=by
    have:=NA (Obj.putSet (order.filterMap (es1[·]?)) t2) hg (by rw [OT _ t2 rfl];rfl)
    rw [OT _ t2 rfl] at this;exact this
   refine Mw ?_
   refine h true _ (hsb1.trans (N6 _ a _)) ⟨_,_,_,t2,Z2,⟨hg2,S.ex,rfl,T2,by rw [hpl2];exact hpl,by rw [hl2,hled];exact S.led,.inr ⟨hm2,by omega⟩,?_⟩,hkeys,hnd⟩
   refine hp2.trans ?_
   rw [T'.ents];exact hperm'
  ·have hf : t1.tooFull = false := by simpa using hfull
   simp only [hf,OV,NP,Nl]
   refine Mw ?_
   refine h true _ hsb1 ⟨_,_,_,t1,Z',⟨hg,S.ex,rfl,T',hpl,by rw [hled];exact S.led,?_,hperm'⟩,hkeys,hnd⟩
   unfold SetTable.tooFull at hf
   rw [hfill,hmask] at hf
   have hf':¬ ((ps.length+1) * 5 ≥ t.mask * 3):=by simpa using hf
   rw [hmask,hZ']
   rcases S.big with ⟨q,q2⟩ | ⟨q,q2⟩
   ·rw [q] at hf' ⊢;exact .inl ⟨rfl,by omega⟩
   ·rw [q] at hf' ⊢;exact .inr ⟨rfl,by omega⟩
end
def fY (qs:List KP):List KP:=qs.foldl (fun ps p=>nD ps p.1 p.2) []
theorem yk (qs:List KP) (p:KP):fY (qs++[p])=nD (fY qs) p.1 p.2:=by unfold fY;rw [OW];rfl
theorem DL {ps:List KP}{k:List Int}{r:Addr}{p:KP} (h:p∈nD ps k r):p∈ps\/p=(k,r):=by
 unfold nD at h
 split at h
 ·exact .inl h
 ·rcases Me.mp h with q | q
  ·exact .inl q
  ·exact .inr (N1.mp q)
theorem pZ:∀ {qs ps:List KP}{p:KP},p∈qs.foldl (fun ps p=>nD ps p.1 p.2) ps->p∈ps\/p∈qs
 | [],_,_,h=>.inl h
 | q::qs,ps,p,h=>by
  rw [NH] at h
  rcases pZ h with z | z
  ·rcases DL z with z | z
   ·exact .inl z
   ·exact .inr (by rw [z];exact Ma)
  ·exact .inr (Mb _ z)
theorem nu {qs:List KP}{p:KP} (h:p∈fY qs):p∈qs:=(pZ h).elim (fun z=>by simp at z) id
theorem zr {ps:List KP}{k:List Int}{r:Addr} (h:(ps.map (·.1)).Nodup):((nD ps k r).map (·.1)).Nodup:=by
 unfold nD
 split
 ·exact h
 ·rename_i hn
  rw [Ou]
  refine OR.mpr ⟨h,by simp,fun x hx y hy=>?_⟩
  simp at hy
  rw [hy];rintro rfl;exact hn hx
theorem mV:∀ {qs ps:List KP},(ps.map (·.1)).Nodup->((qs.foldl (fun ps p=>nD ps p.1 p.2) ps).map (·.1)).Nodup
 | [],_,h=>h
 | q::qs,ps,h=>by rw [NH];exact mV (zr h)
theorem vX {qs:List KP}:((fY qs).map (·.1)).Nodup:=mV (ps:=[]) OE
def nK (w:World):Bool:=!w.params.followText "set-order"
theorem pV {w:World}{h:Heap}{a:Addr} (e:h.get? a=some { cls:=.type "set",dict:=none,data:=.set #[] 0 (.fresh 0 0 (nK w)) }):fF w h a []:=
 ⟨_,_,_,_,[],⟨e,⟨rfl,rfl,rfl⟩,rfl,⟨rfl,rfl,List.Pairwise.nil,fun z hz=>by simp at hz,rfl,fun z hz=>by simp at hz⟩,rfl,rfl,.inl ⟨rfl,by decide⟩,List.Perm.nil⟩,fun p hp=>by simp at hp,OE⟩
section
variable {prog:Program}{w:World}{A:Around}{R:Result->Shared->Prop}{I:Addr}{fp wr:List Addr}{G:Array GenState->Array GenState->Prop}{P:Nat->Value->Prop}{St:Nat->Shared->Prop}
structure BI (prog:Program) (w:World) (u:Nat) (S:Addr) (vs:List Value) (J:Nat->Heap->Prop):Prop where
 keep:∀ i h h',(∀ b o,b<=S->h.get? b=some o->h'.get? b=some o)->J i h->J i h'
 add:∀ (A:Around) (i:Nat) (v:Value) (s:Shared) (E:Value->Shared->Prop) (Q:Bool->Shared->Prop),A.units<=u->vs[i]?=some v->J i s.heap ->
  (∀ b h' tk,s.toks<=tk->Heap.SameBut S s.heap h'->J (i+1) h'->Q b { s with heap:=h',toks:=tk })->wpAny (model prog w) A (setAdd S v) Q E s
theorem xm {u:Nat}{vs:List Value}{J:Nat->Heap->Prop} (W:WalksS prog w A.in1 I fp wr G vs.length P St) (S:Addr) (hSf:S ∉ fp) (hwr:∀ b∈wr,S<b) (hP:∀ (i:Nat) v,P i v->vs[i]?=some v) (hJ:BI prog w u S vs J) (hu:A.units+1<=u) :
  ∀ (k i:Nat) (s:Shared),vs.length - i=k->i<=vs.length->St i s->J i s.heap ->
   (∀ s',Moved (S::wr) G s s'->J vs.length s'.heap->R (.ok (.ret .none)) s') ->
   codeAny (model prog w) A (.builtin "set.update.loop" ⟨[.ref S,.ref I],[]⟩) R s:=by
 have hSw:S ∉ wr:=fun h=>hSf (W.sub _ h)
 have hsub:∀ b∈wr,b∈S::wr:=fun b hb=>Mb _ hb
 have hle:∀ b,b<=S->b ∉ wr:=fun b hb z=>LZ _ (LY (hwr b z) hb)
 intro k
 induction k with
 | zero=>
  intro i s ek hi hst hS hR
  have hin:i=vs.length:=by omega
  subst hin
  refine OX F.entry_set_update_loop ?_
  rw [OY OZ _]
  show wpAny _ A.in1 (pyNext (.ref I) >>= _) _ _ s
  refine Mq (W.done s _ _ hst fun s' hm=>?_)
  show wpAny _ A.in1 (ret Value.none) _ _ s'
  exact Mw (hR s' (hm.mono hsub) (hJ.keep _ _ _ (fun b o hb e=>hm.heap b o (hle b hb) e) hS))
 | succ k ih=>
  intro i s ek hi hst hS hR
  have hlt:i<vs.length:=by omega
  refine OX F.entry_set_update_loop ?_
  rw [OY OZ _]
  show wpAny _ A.in1 (pyNext (.ref I) >>= _) _ _ s
  refine Mq (W.item i s _ _ hlt hst fun v s' hPv hst' hm=>?_)
  have hv:=hP i v hPv
  have hS':=hJ.keep i _ s'.heap (fun b o hb e=>hm.heap b o (hle b hb) e) hS
  show wpAny _ A.in1 (holding [v] (setAdd S v) >>= _) _ _ s'
  refine Mq (Mr ?_)
  refine hJ.add A.in1 i v s' _ _ (by show A.units+1<=u;exact hu) hv hS' fun b h' tk ht hsb hS2=>?_
  have hkeep:∀ b o,b≠S->s'.heap.get? b=some o->h'.get? b=some o:=fun b o hb e=>(hsb.2 b hb).trans e
  refine Mw ⟨plainId_quiet OZ _,ih (i+1) _ (by omega) hlt (W.frame _ s' _ _ hst' ht fun b hb o e=>hkeep b o (fun z=>hSf (by rw [<- z];exact hb)) e) hS2 fun s'' hm'' hS''=>?_⟩
  refine hR s'' (Moved.trans W.gtrans ((hm.mono hsub).then_heap ht fun b o hb e=>?_) hm'') hS''
  exact hkeep b o (fun z=>hb (by rw [z];exact Ma)) e
end
section
variable {prog:Program}{w:World}{A:Around}{E:Value->Shared->Prop}{s:Shared}
theorem oC (a:Value) {Q1:Value->Shared->Prop}
  (h:Q1 (.ref s.heap.objs.size) { s with heap:=s.heap.push { cls:=.type "set",dict:=none,data:=.set #[] 0 (.fresh 0 0 (nK w)) } }) :
  codeAny (model prog w) A (.call (.builtin "set.__new__") ⟨[.type "set",a],[]⟩) (wants Q1 E) s:=by
 refine NV ?_
 show wpAny _ A.in1 (do checkBuiltinCall "set.__new__" ⟨[.type "set",a],[]⟩;again (.builtin "set.__new__" ⟨[.type "set",a],[]⟩)) _ _ s
 refine Mq (NY (F.newCall_set_1 a) (Mw ⟨plainId_quiet F.plain_set_new _,OX F.entry_set_new ?_⟩))
 rw [OY F.plain_set_new _]
 unfold Builtin.«set.__new__» Builtin.Frozenset.newClass
 have hsub:=sub_set_self
 obtain ⟨hp,g,d,tk,os⟩:=s
 dsimp only
 wp_walk
 refine NW (Mw ?_)
 dsimp only
 simp only [newObj]
 refine Mq (wpAny_alloc (Mw ?_))
 exact Mw h
namespace F
theorem sub_list_set:isSubtype (.type "list") (.type "set")=pure false:=by rw [O0];kernel_rfl
theorem sub_list_frozenset:isSubtype (.type "list") (.type "frozenset")=pure false:=by rw [O0];kernel_rfl
end F
theorem oq {l:Addr}{items:Array Value}{J:Nat->Heap->Prop}{Q:Value->Shared->Prop}
  (hh:A.handled=none) (hl:s.heap.IsList l items) (hJ:BI prog w (A.units+20) s.heap.objs.size items.toList J)
  (h0:∀ h',(∀ b o,s.heap.get? b=some o->h'.get? b=some o)->h'.get? s.heap.objs.size=some { cls:=.type "set",dict:=none,data:=.set #[] 0 (.fresh 0 0 (nK w)) }->J 0 h')
  (h:∀ (h':Heap) (tk:Nat),J items.size h'->(∀ b o,b<s.heap.objs.size->s.heap.get? b=some o->h'.get? b=some o)->Q (.ref s.heap.objs.size) { s with heap:=h',toks:=tk }) :
  wpAny (model prog w) A (call (.type "set") [.ref l]) Q E s:=by
 obtain ⟨c,tl,hmro⟩:=O1.mro
 have hmade:=O1.made
 have hsub:=O1.sub
 refine wpAny_call (NV ?_)
 show wpAny _ _ (callAny (.type "set") _) _ _ _
 refine Mw ⟨O2 _ (by decide +kernel),OX PySem.F.entry_type_call ?_⟩
 rw [Around.under_plain (weight_type_call_type "set" [.ref l] []) rfl]
 have h1:=O1.notType
 have h2:=O1.canCreate
 have hct:=PySem.F.typeCall_set_1 (.ref l)
 repeat (any_goals (first | assumption | wp_step))
 refine MN (oC (.ref l) (E:=E) (Q1:=fun obj s1=>obj=.ref s.heap.objs.size/\s1={ s with heap:=s.heap.push { cls:=.type "set",dict:=none,data:=.set #[] 0 (.fresh 0 0 (nK w)) } }) ⟨rfl,rfl⟩) fun r s1 hr=>?_
 cases r with
 | error e=>exact hr
 | ok fl=>
  cases fl with
  | ret obj=>
   obtain ⟨rfl,rfl⟩:=hr
   generalize hled:nK w=led
   have hS:(s.heap.push { cls:=.type "set",dict:=none,data:=.set #[] 0 (.fresh 0 0 led) }).get? s.heap.objs.size=some { cls:=.type "set",dict:=none,data:=.set #[] 0 (.fresh 0 0 led) }:=MC _ rfl
   have hTy:Shared.TypeIs { s with heap:=s.heap.push { cls:=.type "set",dict:=none,data:=.set #[] 0 (.fresh 0 0 led) } } (.ref s.heap.objs.size) "set" := ⟨_,hS,rfl⟩
   have hli:=O1.init.lookup
   have hbi:=O1.init.bind (.ref s.heap.objs.size)
   repeat (any_goals (first | assumption | wp_step))
   refine MN (codeAny_call_builtin (R:=wants (fun r s2=>r=.none/\∃ h' tk,s2={ s with heap:=h',toks:=tk }/\J items.size h' /\
     (∀ b o,b<s.heap.objs.size->s.heap.get? b=some o->h'.get? b=some o)) E) O1.init.plain PySem.F.entry_set_init (check_set_init_1 hTy ?_)) fun r2 s2 hr2=>?_
   ·obtain ⟨ol, hol, hcl, nl, hdl⟩ := hl
    obtain ⟨ocls,odict,odata,oslots⟩:=ol
    simp only at hcl hdl
    subst hcl;subst hdl
    have hol':(s.heap.push { cls:=.type "set",dict:=none,data:=.set #[] 0 (.fresh 0 0 led) }).get? l=some { cls:=.type "list",dict:=odict,data:=.seq items nl,slots:=oslots }:=Mz _ hol
    have hsls:=F.sub_list_set
    have hslf:=F.sub_list_frozenset
    have hne:(Value.type "list" == Value.type "dict")=false:=by decide
    have hl1:(s.heap.push { cls:=.type "set",dict:=none,data:=.set #[] 0 (.fresh 0 0 led) }).IsList l items:=⟨_,hol',rfl,nl,rfl⟩
    unfold Builtin.«set.__init__» noKeywords Builtin.Frozenset.updateFrom
    generalize hPI:pyIter=PI
    wp_walk
    subst hPI
    refine O3 hl1 ?_
    refine Mq (O4 ?_)
    have hlS:l<s.heap.objs.size:=LX hol
    have hh3:A.in1.in1.in1.handled=none:=by simp [hh]
    have hneI:l≠(s.heap.push { cls:=.type "set",dict:=none,data:=.set #[] 0 (.fresh 0 0 led) }).objs.size:=by
     rw [NT];exact L0 (NS hlS)
    have hSf:s.heap.objs.size ∉ [(s.heap.push { cls:=.type "set",dict:=none,data:=.set #[] 0 (.fresh 0 0 led) }).objs.size,l]:=by
     rw [NT];simp only [Mc,N1,N8,N9,not_or]
     exact ⟨L0 (NR _),Mv hlS⟩
    have W:=(Walks.list (prog:=prog) (w:=w) hh3 (s.heap.push { cls:=.type "set",dict:=none,data:=.set #[] 0 (.fresh 0 0 led) }).objs.size l hneI items).toS
    rw [show items.size=items.toList.length by rw [Mn]] at W
    refine xm W s.heap.objs.size hSf (fun b hb=>?_) (fun i v hv=>by rw [NK];exact hv) hJ (by simp only [Around.in1];omega) (items.toList.length - 0) 0 _ (by omega) (NZ _)
     ⟨⟨_,MC _ rfl,rfl,rfl⟩,?hL⟩ ?hS0 ?hR
    case hL=>
     obtain ⟨o,ho,rest⟩:=hl1
     exact ⟨o,Mz _ ho,rest⟩
    case hS0=>
     refine h0 _ (fun b o e=>Mz _ (Mz _ e)) ?_
     rw [hled]
     exact Mz _ hS
    case hR=>
     intro s' hm hS'
     obtain ⟨h',g',d',tk',os'⟩:=s'
     have eg:g'=s.gens:=hm.gens
     have ed:d'=s.drawn:=hm.drawn
     have eo:os'=s.os:=hm.os
     subst eg;subst ed;subst eo
     show wpAny _ _ _ _ _ _
     refine Mw ?_
     show wpAny _ _ (ret Value.none) _ _ _
     refine Mw ⟨rfl,h',tk',rfl,by rw [Mn] at hS';exact hS',fun b o hb e=>?_⟩
     have hb1:b≠s.heap.objs.size:=L0 hb
     have hb2:b≠(s.heap.push { cls:=.type "set",dict:=none,data:=.set #[] 0 (.fresh 0 0 led) }).objs.size:=by
      rw [NT];exact L0 (NS hb)
     exact hm.heap b o (by simp only [Mc,N1,N8,N9,not_or];exact ⟨hb1,hb2⟩) (Mz _ (Mz _ e))
    ·rw [NT] at hb
     rw [N1.mp hb]
     exact NR _
   ·cases r2 with
    | error e=>exact hr2
    | ok fl2=>
     cases fl2 with
     | ret r=>
      obtain ⟨rfl,h',tk,rfl,hS',hk'⟩:=hr2
      repeat (any_goals (first | assumption | wp_step))
      exact h _ _ hS' hk'
     | _=>exact hr2.elim
  | _=>exact hr.elim
namespace F
theorem sub_tuple_set:isSubtype (.type "tuple") (.type "set")=pure false:=by rw [O0];kernel_rfl
theorem sub_tuple_frozenset:isSubtype (.type "tuple") (.type "frozenset")=pure false:=by rw [O0];kernel_rfl
end F
theorem mS {l:Addr}{items:Array Value}{J:Nat->Heap->Prop}{Q:Value->Shared->Prop}
  (hh:A.handled=none) (hl:s.heap.IsTuple l items) (hJ:BI prog w (A.units+20) s.heap.objs.size items.toList J)
  (h0:∀ h',(∀ b o,s.heap.get? b=some o->h'.get? b=some o)->h'.get? s.heap.objs.size=some { cls:=.type "set",dict:=none,data:=.set #[] 0 (.fresh 0 0 (nK w)) }->J 0 h')
  (h:∀ (h':Heap) (tk:Nat),J items.size h'->(∀ b o,b<s.heap.objs.size->s.heap.get? b=some o->h'.get? b=some o)->Q (.ref s.heap.objs.size) { s with heap:=h',toks:=tk }) :
  wpAny (model prog w) A (call (.type "set") [.ref l]) Q E s:=by
 obtain ⟨c,tl,hmro⟩:=O1.mro
 have hmade:=O1.made
 have hsub:=O1.sub
 refine wpAny_call (NV ?_)
 show wpAny _ _ (callAny (.type "set") _) _ _ _
 refine Mw ⟨O2 _ (by decide +kernel),OX PySem.F.entry_type_call ?_⟩
 rw [Around.under_plain (weight_type_call_type "set" [.ref l] []) rfl]
 have h1:=O1.notType
 have h2:=O1.canCreate
 have hct:=PySem.F.typeCall_set_1 (.ref l)
 repeat (any_goals (first | assumption | wp_step))
 refine MN (oC (.ref l) (E:=E) (Q1:=fun obj s1=>obj=.ref s.heap.objs.size/\s1={ s with heap:=s.heap.push { cls:=.type "set",dict:=none,data:=.set #[] 0 (.fresh 0 0 (nK w)) } }) ⟨rfl,rfl⟩) fun r s1 hr=>?_
 cases r with
 | error e=>exact hr
 | ok fl=>
  cases fl with
  | ret obj=>
   obtain ⟨rfl,rfl⟩:=hr
   generalize hled:nK w=led
   have hS:(s.heap.push { cls:=.type "set",dict:=none,data:=.set #[] 0 (.fresh 0 0 led) }).get? s.heap.objs.size=some { cls:=.type "set",dict:=none,data:=.set #[] 0 (.fresh 0 0 led) }:=MC _ rfl
   have hTy:Shared.TypeIs { s with heap:=s.heap.push { cls:=.type "set",dict:=none,data:=.set #[] 0 (.fresh 0 0 led) } } (.ref s.heap.objs.size) "set" := ⟨_,hS,rfl⟩
   have hli:=O1.init.lookup
   have hbi:=O1.init.bind (.ref s.heap.objs.size)
   repeat (any_goals (first | assumption | wp_step))
   refine MN (codeAny_call_builtin (R:=wants (fun r s2=>r=.none/\∃ h' tk,s2={ s with heap:=h',toks:=tk }/\J items.size h' /\
     (∀ b o,b<s.heap.objs.size->s.heap.get? b=some o->h'.get? b=some o)) E) O1.init.plain PySem.F.entry_set_init (check_set_init_1 hTy ?_)) fun r2 s2 hr2=>?_
   ·obtain ⟨ol, hol, hcl, nl, hdl⟩ := hl
    obtain ⟨ocls,odict,odata,oslots⟩:=ol
    simp only at hcl hdl
    subst hcl;subst hdl
    have hol':(s.heap.push { cls:=.type "set",dict:=none,data:=.set #[] 0 (.fresh 0 0 led) }).get? l=some { cls:=.type "tuple",dict:=odict,data:=.seq items nl,slots:=oslots }:=Mz _ hol
    have hsls:=F.sub_tuple_set
    have hslf:=F.sub_tuple_frozenset
    have hne:(Value.type "tuple" == Value.type "dict")=false:=by decide
    have hl1:(s.heap.push { cls:=.type "set",dict:=none,data:=.set #[] 0 (.fresh 0 0 led) }).IsTuple l items:=⟨_,hol',rfl,nl,rfl⟩
    unfold Builtin.«set.__init__» noKeywords Builtin.Frozenset.updateFrom
    generalize hPI:pyIter=PI
    wp_walk
    subst hPI
    refine N7 hl1 ?_
    refine Mq (O4 ?_)
    have hlS:l<s.heap.objs.size:=LX hol
    have hh3:A.in1.in1.in1.handled=none:=by simp [hh]
    have hneI:l≠(s.heap.push { cls:=.type "set",dict:=none,data:=.set #[] 0 (.fresh 0 0 led) }).objs.size:=by
     rw [NT];exact L0 (NS hlS)
    have hSf:s.heap.objs.size ∉ [(s.heap.push { cls:=.type "set",dict:=none,data:=.set #[] 0 (.fresh 0 0 led) }).objs.size,l]:=by
     rw [NT];simp only [Mc,N1,N8,N9,not_or]
     exact ⟨L0 (NR _),Mv hlS⟩
    have W:=(Walks.tuple (prog:=prog) (w:=w) hh3 (s.heap.push { cls:=.type "set",dict:=none,data:=.set #[] 0 (.fresh 0 0 led) }).objs.size l hneI items).toS
    rw [show items.size=items.toList.length by rw [Mn]] at W
    refine xm W s.heap.objs.size hSf (fun b hb=>?_) (fun i v hv=>by rw [NK];exact hv) hJ (by simp only [Around.in1];omega) (items.toList.length - 0) 0 _ (by omega) (NZ _)
     ⟨⟨_,MC _ rfl,rfl,rfl⟩,?hL⟩ ?hS0 ?hR
    case hL=>
     obtain ⟨o,ho,rest⟩:=hl1
     exact ⟨o,Mz _ ho,rest⟩
    case hS0=>
     refine h0 _ (fun b o e=>Mz _ (Mz _ e)) ?_
     rw [hled]
     exact Mz _ hS
    case hR=>
     intro s' hm hS'
     obtain ⟨h',g',d',tk',os'⟩:=s'
     have eg:g'=s.gens:=hm.gens
     have ed:d'=s.drawn:=hm.drawn
     have eo:os'=s.os:=hm.os
     subst eg;subst ed;subst eo
     show wpAny _ _ _ _ _ _
     refine Mw ?_
     show wpAny _ _ (ret Value.none) _ _ _
     refine Mw ⟨rfl,h',tk',rfl,by rw [Mn] at hS';exact hS',fun b o hb e=>?_⟩
     have hb1:b≠s.heap.objs.size:=L0 hb
     have hb2:b≠(s.heap.push { cls:=.type "set",dict:=none,data:=.set #[] 0 (.fresh 0 0 led) }).objs.size:=by
      rw [NT];exact L0 (NS hb)
     exact hm.heap b o (by simp only [Mc,N1,N8,N9,not_or];exact ⟨hb1,hb2⟩) (Mz _ (Mz _ e))
    ·rw [NT] at hb
     rw [N1.mp hb]
     exact NR _
   ·cases r2 with
    | error e=>exact hr2
    | ok fl2=>
     cases fl2 with
     | ret r=>
      obtain ⟨rfl,h',tk,rfl,hS',hk'⟩:=hr2
      repeat (any_goals (first | assumption | wp_step))
      exact h _ _ hS' hk'
     | _=>exact hr2.elim
  | _=>exact hr.elim
theorem sx {qs:List KP}{S:Addr}{u:Nat} (hk:∀ p∈qs,p.1∈prs) (hS:∀ p∈qs,p.2<S) (hu:u<cLine):BI prog w u S (qs.map fun p=>Value.ref p.2) (fun i h=>fF w h S (fY (qs.take i))/\∀ p∈qs,Tk prog w h p.1 p.2):=by
 have keepT:∀ {h1 h2:Heap}{q:KP},q∈qs->(∀ b o,b<S->h1.get? b=some o->h2.get? b=some o)->Tk prog w h1 q.1 q.2->Tk prog w h2 q.1 q.2:=fun {h1 h2 q} hq kk t=>by
  obtain ⟨o,items,n,ho,r⟩:=t
  exact ⟨o,items,n,kk _ o (hS q hq) ho,r⟩
 refine ⟨fun i h h' hk' ⟨j1,j2⟩=>⟨j1.keeps fun o e=>hk' S o (MD _) e,fun p hp=>keepT hp (fun b o hb e=>hk' b o (L7 hb) e) (j2 p hp)⟩,fun A i v s E Q hA hv ⟨j1,j2⟩ hQ=>?_⟩
 rw [MZ] at hv
 cases e:qs[i]? with
 | none=>rw [e] at hv;cases hv
 | some p=>
  rw [e] at hv
  cases hv
  have hpm:p∈qs:=Na e
  unfold setAdd
  refine Mr ?_
  refine Mq (wpAny_pyHash_tuple (by omega) (j2 p hpm) ?_)
  rw [IM]
  refine GN (s:={ s with toks:=s.toks+(p.1.length+1) }) j1 (hk p hpm) (j2 p hpm) (fun q hq=>j2 q (OA (nu hq))) (by omega) fun b h' hsb hS2=>?_
  have etk:qs.take (i+1)=qs.take i++[p]:=by rw [O5,e];rfl
  refine hQ b h' _ (O6 _ _) hsb ⟨by rw [etk,yk];exact hS2,fun q hq=>keepT hq (fun b o hb e=>(hsb.2 b (L0 hb)).trans e) (j2 q hq)⟩
theorem Ci {qs:List KP} (hT:∀ p∈qs,Tk prog w s.heap p.1 p.2):∀ p∈qs,p.2<s.heap.objs.size:=fun p hp=>by
 obtain ⟨o,_,_,ho,_⟩:=hT p hp
 exact LX ho
theorem xS {l:Addr}{items:Array Value}{qs:List KP}{Q:Value->Shared->Prop}
  (hh:A.handled=none) (hl:s.heap.IsList l items) (hi:items.toList=qs.map fun p=>Value.ref p.2) (hk:∀ p∈qs,p.1∈prs) (hT:∀ p∈qs,Tk prog w s.heap p.1 p.2) (hu:A.units+20<cLine)
  (h:∀ (h':Heap) (tk:Nat),fF w h' s.heap.objs.size (fY qs)->(∀ b o,b<s.heap.objs.size->s.heap.get? b=some o->h'.get? b=some o)->Q (.ref s.heap.objs.size) { s with heap:=h',toks:=tk }) :
  wpAny (model prog w) A (call (.type "set") [.ref l]) Q E s:=by
 have hlen:items.size=qs.length:=by rw [<- Mn,hi,Nd]
 refine oq hh hl (hi ▸ sx hk (Ci hT) hu) (fun h' k e=>⟨pV e,fun p hp=>?_⟩) fun h' tk ⟨j1,_⟩=>h h' tk ?_
 ·obtain ⟨o, its, n, ho, rest⟩ := hT p hp
  exact ⟨o,its,n,k _ _ ho,rest⟩
 ·rw [hlen, O7] at j1
  exact j1
theorem vG {l:Addr}{items:Array Value}{qs:List KP}{Q:Value->Shared->Prop}
  (hh:A.handled=none) (hl:s.heap.IsTuple l items) (hi:items.toList=qs.map fun p=>Value.ref p.2) (hk:∀ p∈qs,p.1∈prs) (hT:∀ p∈qs,Tk prog w s.heap p.1 p.2) (hu:A.units+20<cLine)
  (h:∀ (h':Heap) (tk:Nat),fF w h' s.heap.objs.size (fY qs)->(∀ b o,b<s.heap.objs.size->s.heap.get? b=some o->h'.get? b=some o)->Q (.ref s.heap.objs.size) { s with heap:=h',toks:=tk }) :
  wpAny (model prog w) A (call (.type "set") [.ref l]) Q E s:=by
 have hlen:items.size=qs.length:=by rw [<- Mn,hi,Nd]
 refine mS hh hl (hi ▸ sx hk (Ci hT) hu) (fun h' k e=>⟨pV e,fun p hp=>?_⟩) fun h' tk ⟨j1,_⟩=>h h' tk ?_
 ·obtain ⟨o, its, n, ho, rest⟩ := hT p hp
  exact ⟨o,its,n,k _ _ ho,rest⟩
 ·rw [hlen, O7] at j1
  exact j1
end
end RS
namespace RS
open PySem PySem.W PyProof.Rows
structure fG (n:Nat) (p:Array Nat):Prop where
 size:p.size=n
 perm:p.toList.Perm (List.range n)
def at' (key:Nat->Int) (p:Array Nat) (k:Nat):Int:=key (p.getD k 0)
def DQ (key:Nat->Int) (p:Array Nat) (m:Nat):Prop:=∀ i j,i<j->j<m->at' key p i<at' key p j
def D5 (key:Nat->Int) (p:Array Nat) (m:Nat):Prop:=∀ i j,i<j->j<m->at' key p j<at' key p i
section
variable {n:Nat}{key:Nat->Int}{cmp:Nat->Nat->(Bool->Shared->Prop)->Shared->Prop}{s:Shared}{p:Array Nat}
theorem fG.lt (g:fG n p) {k:Nat} (hk:k<n):p.getD k 0<n:=by
 have hs:k<p.size:=by rw [g.size];exact hk
 have:p[k]∈p.toList:=by rw [OQ];exact Array.getElem_mem hs
 have:=g.perm.mem_iff.mp this
 rw [L4] at this
 simpa [Array.getD,hs] using this
theorem fG.inj (g:fG n p) {k k':Nat} (hk:k<n) (hk':k'<n) (e:p.getD k 0=p.getD k' 0):k=k':=by
 have hs:k<p.toList.length:=by rw [Mn,g.size];exact hk
 have hs':k'<p.toList.length:=by rw [Mn,g.size];exact hk'
 have nd:p.toList.Nodup:=g.perm.nodup_iff.mpr On
 refine (Mh (h₀:=hs) (h₁:=hs') nd).mp ?_
 have h1:k<p.size:=by rw [g.size];exact hk
 have h2:k'<p.size:=by rw [g.size];exact hk'
 simpa [Array.getD,h1,h2] using e
variable (hkey:∀ i j,i<n->j<n->key i=key j->i=j) (hc:∀ i j,i<n->j<n->∀ C:Bool->Shared->Prop,C (decide (key i<key j)) s->cmp i j C s)
include hkey in
theorem B3 (g:fG n p) {k k':Nat} (hk:k<n) (hk':k'<n) (h:k≠k'):at' key p k≠at' key p k':=fun e=>h (g.inj hk hk' (hkey _ _ (g.lt hk) (g.lt hk') e))
include hkey hc
theorem yF (g:fG n p):∀ (f m:Nat) (Q:Nat->Shared->Prop),1<=m->m+f<=n->DQ key p m->(∀ m',m<=m'->m'<=m+f->DQ key p m'->(m'=m+f\/at' key p m'<at' key p (m' - 1))->Q m' s)->(kas_asc p f m).kasWp cmp Q s
 | 0,m,Q,h1,h2,ha,hQ=>hQ m (MD _) (MD _) ha (.inl rfl)
 | f+1,m,Q,h1,h2,ha,hQ=>by
  show cmp (p.getD m 0) (p.getD (m - 1) 0) _ s
  refine hc _ _ (g.lt (by omega)) (g.lt (by omega)) _ ?_
  by_cases hlt:key (p.getD m 0)<key (p.getD (m - 1) 0)
  ·rw [NM hlt]; (show (if true = true then _ else _ : KasT _).kasWp cmp _ s); rw [LU rfl]
   exact hQ m (MD _) (by omega) ha (.inr hlt)
  ·rw [LR hlt]; (show (if false = true then _ else _ : KasT _).kasWp cmp _ s); rw [LV Mu]
   have hne:=B3 hkey g (k:=m) (k':=m - 1) (by omega) (by omega) (by omega)
   have hgt:at' key p (m - 1)<at' key p m:=by unfold at' at *;omega
   refine yF g f (m+1) Q (by omega) (by omega) (fun i j hij hj=>?_) (fun m' a b c d=>hQ m' (by omega) (by omega) c (d.elim (fun e=>.inl (by omega)) .inr))
   by_cases ej:j=m
   ·subst ej
    by_cases ei:i=j - 1
    ·rw [ei];exact hgt
    ·have:=ha i (j - 1) (by omega) (by omega);omega
   ·exact ha i j hij (by omega)
theorem Aa (g:fG n p):∀ (f m:Nat) (Q:Array Nat × Nat × Nat->Shared->Prop),1<=m->m+f<=n->D5 key p m->(∀ m',m<=m'->m'<=m+f->D5 key p m'->Q (p,m',0) s)->(kas_desc f p m 0).kasWp cmp Q s
 | 0,m,Q,h1,h2,ha,hQ=>hQ m (MD _) (MD _) ha
 | f+1,m,Q,h1,h2,ha,hQ=>by
  show cmp (p.getD m 0) (p.getD (m - 1) 0) _ s
  refine hc _ _ (g.lt (by omega)) (g.lt (by omega)) _ ?_
  by_cases hlt:key (p.getD m 0)<key (p.getD (m - 1) 0)
  ·rw [NM hlt]; (show (if true = true then _ else _ : KasT _).kasWp cmp _ s); rw [LU rfl, LV (by omega)]
   refine Aa g f (m+1) Q (by omega) (by omega) (fun i j hij hj=>?_) (fun m' a b c=>hQ m' (by omega) (by omega) c)
   by_cases ej:j=m
   ·subst ej
    by_cases ei:i=j - 1
    ·rw [ei];exact hlt
    ·have := ha i (j - 1) (by omega) (by omega)
     have:at' key p j<at' key p (j - 1):=hlt
     omega
   ·exact ha i j hij (by omega)
  ·rw [LR hlt]; (show (if false = true then _ else _ : KasT _).kasWp cmp _ s); rw [LV Mu]
   show cmp (p.getD (m - 1) 0) (p.getD m 0) _ s
   refine hc _ _ (g.lt (by omega)) (g.lt (by omega)) _ ?_
   have hne:=B3 hkey g (k:=m) (k':=m - 1) (by omega) (by omega) (by omega)
   have hgt:key (p.getD (m - 1) 0)<key (p.getD m 0):=by unfold at' at hne;omega
   rw [NM hgt];(show (if true=true then _ else _:KasT _).kasWp cmp _ s);rw [LU rfl]
   exact hQ m (MD _) (by omega) ha
omit hkey hc in
theorem rA {p p':Array Nat}{k k':Nat} (h:p[k]?=p'[k']?):at' key p k=at' key p' k':=by
 unfold at'
 rw [Ox,Ox,h]
omit hkey hc in
theorem ux {p':Array Nat} (g:fG n p) (h:p'.Perm p) (hs:p'.size=p.size):fG n p':=⟨hs.trans g.size,(Array.perm_iff_toList_perm.mp h).trans g.perm⟩
omit hkey hc in
theorem EJ (g:fG n p) {m:Nat} (hm:m<=n) (hd:D5 key p m):fG n (kas_rev p 0 m)/\DQ key (kas_rev p 0 m) m:=by
 have hs:m<=p.size:=by rw [g.size];exact hm
 refine ⟨ux g (mirror_perm _ _ _ _) (mirror_size _ _ _ _),fun i j hij hj=>?_⟩
 have ei:at' key (kas_rev p 0 m) i=at' key p (0+m - 1 - i):=rA (by unfold kas_rev;rw [getElem?_mirror_all hs,LU ⟨NZ _,by omega⟩])
 have ej:at' key (kas_rev p 0 m) j=at' key p (0+m - 1 - j):=rA (by unfold kas_rev;rw [getElem?_mirror_all hs,LU ⟨NZ _,by omega⟩])
 rw [ei,ej]
 exact hd _ _ (by omega) (by omega)
theorem Ct (g:fG n p) {m:Nat} (h1:1<=m) (hm:m<=n) (hd:D5 key p m) (Q:Nat × Array Nat->Shared->Prop) (hQ:∀ m' p',fG n p'->1<=m'->m'<=n->DQ key p' m'->Q (m',p') s):(kas_tail3 m n p).kasWp cmp Q s:=by
 obtain ⟨g',ha⟩:=EJ (key:=key) g hm hd
 unfold kas_tail3
 rw [O8]
 exact yF hkey hc g' (n - m) m _ h1 (by omega) ha fun m' a b c d=>hQ m' _ g' (by omega) (by omega) c
theorem DF (g:fG n p) (h2:2<=n) (Q:Nat × Array Nat->Shared->Prop) (hQ:∀ m' p',fG n p'->1<=m'->m'<=n->DQ key p' m'->Q (m',p') s):(kas_count n p).kasWp cmp Q s:=by
 unfold kas_count
 rw [O8]
 refine yF hkey hc g (n - 1) 1 _ (MD _) (by omega) (fun i j hij hj=>by omega) fun m a b c d=>?_
 by_cases e:m=n
 ·rw [LU (by simpa using e)]
  exact hQ m p g a (by omega) c
 ·rw [LV (by simpa using e)]
  by_cases h1:m > 1
  ·rw [LU h1]
   show cmp (p.getD 0 0) (p.getD (m - 1) 0) _ s
   refine hc _ _ (g.lt (by omega)) (g.lt (by omega)) _ ?_
   have:at' key p 0<at' key p (m - 1):=c 0 (m - 1) (by omega) (by omega)
   rw [NM (show key (p.getD 0 0)<key (p.getD (m - 1) 0) from this)];(show (if true=true then _ else _:KasT _).kasWp cmp _ s);rw [LU rfl]
   exact hQ m p g a (by omega) c
  ·rw [LV h1]
   have em:m=1:=by omega
   subst em
   unfold kas_descPart
   rw [O8]
   have hlt:at' key p 1<at' key p 0:=d.elim (fun e'=>by omega) id
   refine Aa hkey hc g (n - (1+1)) (1+1) _ (by omega) (by omega) (fun i j hij hj=>?_) fun m' a' b' c'=>?_
   ·have ei : i = 0 := by omega
    have ej:j=1:=by omega
    rw [ei,ej];exact hlt
   ·show (if (0 : Nat) > 0 then _ else _ : KasT (Nat × Array Nat)).kasWp cmp Q s
    rw [LV (by omega)]
    exact Ct hkey hc g (by omega) (by omega) c' Q hQ
theorem rL (g:fG n p) {k:Nat} (hk:k<n) (ha:DQ key p k):∀ (f l r:Nat) (Q:Nat->Shared->Prop),l<=r->r<=k->r - l<=f->(∀ i,i<l->at' key p i<at' key p k)->(∀ i,r<=i->i<k->at' key p k<at' key p i) ->
  (∀ l',l'<=k->(∀ i,i<l'->at' key p i<at' key p k)->(∀ i,l'<=i->i<k->at' key p k<at' key p i)->Q l' s)->(kas_place p k f l r).kasWp cmp Q s
 | 0,l,r,Q,h1,h2,h3,ha1,hb1,hQ=>by
  have e:l=r:=by omega
  subst e
  exact hQ l h2 ha1 hb1
 | f+1,l,r,Q,h1,h2,h3,ha1,hb1,hQ=>by
  unfold kas_place
  by_cases e:l ≥ r
  ·rw [LU e]
   have e':l=r:=by omega
   subst e'
   exact hQ l h2 ha1 hb1
  ·rw [LV e]
   show cmp (p.getD k 0) (p.getD ((l+r) / 2) 0) _ s
   refine hc _ _ (g.lt hk) (g.lt (by omega)) _ ?_
   by_cases hlt:key (p.getD k 0)<key (p.getD ((l+r) / 2) 0)
   ·rw [NM hlt]; (show (if true = true then _ else _ : KasT _).kasWp cmp _ s); rw [LU rfl]
    refine rL g hk ha f l ((l+r) / 2) Q (by omega) (by omega) (by omega) ha1 (fun i hi hik=>?_) hQ
    by_cases ei:i=(l+r) / 2
    ·rw [ei];exact hlt
    ·have := ha ((l + r) / 2) i (by omega) hik
     have:at' key p k<at' key p ((l+r) / 2):=hlt
     omega
   ·rw [LR hlt]; (show (if false = true then _ else _ : KasT _).kasWp cmp _ s); rw [LV Mu]
    have hne:=B3 hkey g (k:=k) (k':=(l+r) / 2) hk (by omega) (by omega)
    have hgt:at' key p ((l+r) / 2)<at' key p k:=by unfold at' at *;omega
    refine rL g hk ha f ((l+r) / 2+1) r Q (by omega) h2 (by omega) (fun i hi=>?_) hb1 hQ
    by_cases ei:i=(l+r) / 2
    ·rw [ei];exact hgt
    ·have := ha i ((l + r) / 2) (by omega) (by omega)
     omega
theorem Cq:∀ (f:Nat) (p:Array Nat) (k:Nat) (Q:Array Nat->Shared->Prop),fG n p->k+f=n->DQ key p k->(∀ p',fG n p'->DQ key p' n->Q p' s)->(kas_bin f p k).kasWp cmp Q s
 | 0,p,k,Q,g,hk,ha,hQ=>by
  have e:k=n:=by omega
  rw [e] at ha
  exact hQ p g ha
 | f+1,p,k,Q,g,hk,ha,hQ=>by
  unfold kas_bin
  rw [O8]
  refine rL hkey hc g (by omega) ha k 0 k _ (NZ _) (MD _) (by omega) (fun i hi=>by omega) (fun i h1 h2=>by omega) fun l hl ha1 hb1=>?_
  have hs:k<p.size:=by rw [g.size];omega
  refine Cq f _ (k+1) Q (ux g (bubble_perm _ _ _) (bubble_size _ _ _)) (by omega) (fun i j hij hj=>?_) hQ
  have hb:∀ x,at' key (bubble p k (k - l)) x=if x=l then at' key p k else if l<x/\x<=k then at' key p (x - 1) else at' key p x:=fun x=>by
   have e:=getElem?_bubble hs (k - l) (by omega) x
   have el:k - (k - l)=l:=by omega
   rw [el] at e
   by_cases e1:x=l
   ·rw [LU e1] at e ⊢;exact rA e
   ·rw [LV e1] at e ⊢
    by_cases e2:l<x/\x<=k
    ·rw [LU e2] at e ⊢;exact rA e
    ·rw [LV e2] at e ⊢;exact rA e
  rw [hb i,hb j]
  by_cases i1:i=l
  ·rw [LU i1, LV (by omega), LU ⟨by omega, by omega⟩]
   exact hb1 (j - 1) (by omega) (by omega)
  ·rw [LV i1]
   by_cases i2:l<i/\i<=k
   ·rw [LU i2, LV (by omega), LU ⟨by omega, by omega⟩]
    exact ha (i - 1) (j - 1) (by omega) (by omega)
   ·rw [LV i2]
    have hi:i<l:=by omega
    by_cases j1:j=l
    ·rw [LU j1];exact ha1 i hi
    ·rw [LV j1]
     by_cases j2:l<j/\j<=k
     ·rw [LU j2]
      by_cases ej:i=j - 1
      ·omega
      ·exact ha i (j - 1) (by omega) (by omega)
     ·rw [LV j2];exact ha i j hij (by omega)
theorem Eo (h2:2<=n) (Q:Array Nat->Shared->Prop) (hQ:∀ p',fG n p'->DQ key p' n->Q p' s):(kas_sort n).kasWp cmp Q s:=by
 unfold kas_sort
 rw [O8]
 have g0:fG n (List.toArray (List.range n)):=⟨by simp,by simp⟩
 refine DF hkey hc g0 h2 _ fun m p' g h1 hm ha=>?_
 show (if m<n then _ else _:KasT (Array Nat)).kasWp cmp Q s
 by_cases e:m<n
 ·rw [LU e]
  have em:max m 1=m:=by omega
  rw [em]
  exact Cq hkey hc (n - m) p' m Q g (by omega) ha hQ
 ·rw [LV e]
  have em:m=n:=by omega
  rw [em] at ha
  exact hQ p' g ha
end
def tS (k:List Int):Int:=k.getD 0 0 * 6+k.getD 1 0
theorem jc {k:List Int} (h:k∈prs):∃ a b:Int,k=[a,b]/\0<=a/\a<b/\b<6:=by
 have key:∀ k∈prs,0<=k.getD 0 0/\k.getD 0 0<k.getD 1 0/\k.getD 1 0<6/\k=[k.getD 0 0,k.getD 1 0]:=by decide +kernel
 obtain ⟨h1,h2,h3,h4⟩:=key k h
 exact ⟨_,_,h4,h1,h2,h3⟩
theorem FV {k k':List Int} (h:k∈prs) (h':k'∈prs) (e:tS k=tS k'):k=k':=by
 obtain ⟨a,b,rfl,h1,h2,h3⟩:=jc h
 obtain ⟨c,d,rfl,h4,h5,h6⟩:=jc h'
 have e':a * 6+b=c * 6+d:=e
 have:a=c:=by omega
 have:b=d:=by omega
 subst_vars;rfl
section
variable {prog:Program}{w:World}{A:Around}{E:Value->Shared->Prop}{s:Shared}
theorem yy {h:Heap}{a b:Int}{r:Addr} (t:Tk prog w h [a,b] r):∃ o n t1 t2,h.get? r=some o/\o.cls=.type "tuple" /\ o.data=.seq #[.int a t1,.int b t2] n:=by
 obtain ⟨o,items,n,ho,hc,hd,hi⟩:=t
 cases hi':items.toList with
 | nil=>rw [hi'] at hi;cases hi
 | cons v1 r1=>
  rw [hi'] at hi
  cases hi with
  | cons h1 t1=>
   cases t1 with
   | cons h2 t2=>
    cases t2
    obtain ⟨x1,e1⟩:=LQ (k:=a) h1
    obtain ⟨x2,e2⟩:=LQ (k:=b) h2
    have e:items=#[.int a x1,.int b x2]:=by
     apply Array.toList_inj.mp;rw [hi',e1,e2]
    exact ⟨o,n,x1,x2,ho,hc,by rw [hd,e]⟩
theorem E5 {x y:Addr}{k k':List Int}{Q:Bool->Shared->Prop} (hx:Tk prog w s.heap k x) (hy:Tk prog w s.heap k' y) (hk:k∈prs) (hk':k'∈prs) (h:Q (decide (tS k<tS k')) s) :
  wpAny (model prog w) A (keyLt' (tuples' true) (.ref x) (.ref y)) Q E s:=by
 obtain ⟨a,b,rfl,h1,h2,h3⟩:=jc hk
 obtain ⟨c,d,rfl,h4,h5,h6⟩:=jc hk'
 obtain ⟨o,n,t1,t2,ho,_,hd⟩:=yy hx
 obtain ⟨o',n',t1',t2',ho',_,hd'⟩:=yy hy
 have h':Q (decide (a * 6+b<c * 6+d)) s:=h
 refine kat_lt ho hd ho' hd' ?_
 show KatLex prog w A true (decide (2<2)) Q [(.int a t1,.int c t1'),(.int b t2,.int d t2')] 0 s
 refine kat_cons (LS ?_)
 by_cases e1:a=c
 ·rw [show (a == c) = true by simpa using e1]
  refine kat_yes (kat_cons (LS ?_))
  by_cases e2:b=d
  ·rw [show (b == d) = true by simpa using e2]
   refine kat_yes (kat_nil ?_)
   have:decide (a * 6+b<c * 6+d)=decide (2<2):=by rw [O9];omega
   rw [<- this];exact h'
  ·rw [show (b == d) = false by simpa using e2]
   refine kat_no ?_
   show wpAny _ A (oneLt' false _ _) Q _ s
   refine kat_one _ _ (lt_int ?_)
   have:decide (a * 6+b<c * 6+d)=decide (b<d):=by rw [O9];omega
   show Q _ s
   rw [<- this];exact h'
 ·rw [show (a == c) = false by simpa using e1]
  refine kat_no ?_
  show wpAny _ A (keyLt' oneType' _ _) Q _ s
  refine kat_lt_int ?_
  have:decide (a * 6+b<c * 6+d)=decide (a<c):=by rw [O9];omega
  rw [<- this];exact h'
end
def jj (ps:List KP):Prop:=ps.Pairwise fun p q=>tS p.1<tS q.1
def bf (ps:List KP):List Value:=ps.map fun p=>Value.ref p.2
section
variable {prog:Program}{w:World}{A:Around}{E:Value->Shared->Prop}{s:Shared}
theorem zC {h:Heap}:∀ {ps:List KP},(∀ p∈ps,p.1∈prs)->(∀ p∈ps,Tk prog w h p.1 p.2)->∃ fs,KatTups h (bf ps) fs/\fs.length=ps.length/\∀ v∈fs,∃ i t,v=Value.int i t
 | [],_,_=>⟨[],KatTups.nil,rfl,fun v hv=>by simp at hv⟩
 | p::ps,hk,ht=>by
  obtain ⟨fs,h1,h2,h3⟩:=zC (ps:=ps) (fun q hq=>hk q (Mb _ hq)) (fun q hq=>ht q (Mb _ hq))
  obtain ⟨a,b,e,_⟩:=jc (hk p Ma)
  have t:=ht p Ma
  rw [e] at t
  obtain ⟨o,n,t1,t2,ho,hc,hd⟩:=yy t
  refine ⟨.int a t1::fs,KatTups.cons ho hc hd rfl h1,by rw [NQ,NQ,h2],fun v hv=>?_⟩
  rcases Mc.mp hv with q | q
  ·exact ⟨a,t1,q⟩
  ·exact h3 v q
theorem HM {ps:List KP} (hk:∀ p∈ps,p.1∈prs) (hn:(ps.map (·.1)).Nodup) {p:Array Nat} (g:fG ps.length p) (ha:DQ (fun i=>tS (ps.getD i ([],0)).1) p ps.length) :
  ∃ out:List KP,(p.toList.map fun i=>(bf ps).getD i Value.none)=bf out/\out.Perm ps/\jj out:=by
 refine ⟨p.toList.map fun i=>ps.getD i ([],0),?_,?_,?_⟩
 ·unfold bf
  rw [Oc]
  refine Od fun i hi=>?_
  have hi':i<ps.length:=L4.mp (g.perm.mem_iff.mp hi)
  simp [Pb,hi']
 ·refine (g.perm.map _).trans ?_
  have:(List.range ps.length).map (fun i=>ps.getD i ([],0))=ps:=by
   apply Pc
   intro i
   rw [MZ]
   by_cases hi:i<ps.length
   ·rw [Pd hi];simp [hi]
   ·rw [Pe (by simpa using hi),Pe (by omega)];rfl
  rw [this]
 ·unfold jj
  rw [Pf]
  refine List.pairwise_iff_getElem.mpr fun i j hi hj hij=>?_
  have hi':i<p.size:=by simpa using hi
  have hj':j<p.size:=by simpa using hj
  have:=ha i j hij (by rw [<- g.size];exact hj')
  unfold at' at this
  simpa [Array.getD,hi',hj'] using this
theorem yP {a:Addr}{ps:List KP}{n:Nat}{P:PySem.Fin->Shared->Prop} (ho:s.heap.get? a=some (seqObj "list" (bf ps).toArray n)) (hk:∀ p∈ps,p.1∈prs) (hn:(ps.map (·.1)).Nodup) (hT:∀ p∈ps,Tk prog w s.heap p.1 p.2)
  (h:∀ out:List KP,out.Perm ps->jj out->P (.done (.ret .none)) { s with heap:=sortedHeap s.heap a (bf ps) (bf out).toArray }) :
  wpAny (model prog w) A (Builtin.«list.sort» ⟨[.ref a],[]⟩) P E s:=by
 have hlen:=mi hk hn
 have hvl:(bf ps).length=ps.length:=by unfold bf;rw [Nd]
 rw [list_sort_plain]
 have hal:a<s.heap.objs.size:=LX ho
 refine Mq (listItems_at ho rfl ?_)
 refine Mq (Pg ho rfl ?_ (by rw [ML,hvl];exact L5 hlen (by decide)) (NZ _))
 obtain ⟨e1,ho1⟩:∃ e1,(s.heap.update a (Obj.mapSeq fun _=>#[])).get? a=some (seqObj "list" #[] e1):=⟨_,Ph ho (fun _=>#[])⟩
 refine Mq (seqEpoch_at ho1 rfl ?_)
 refine Mq (wpAny_newTuple ?_)
 refine Mq (Pi ?_)
 refine Mr ?_
 have ho6:(((s.heap.update a (Obj.mapSeq fun _=>#[])).push (seqObj "tuple" (bf ps).toArray 0)).push (seqObj "list" #[] 0)).get? a=some (seqObj "list" #[] e1):=by
  rw [Oa _ _ _ (by rw [Pj,Pk];exact L0 (NS hal)),Oa _ _ _ (by rw [Pk];exact L0 hal)]
  exact ho1
 show wpAny (model prog w) A _ P E { s with heap:=((s.heap.update a (Obj.mapSeq fun _=>#[])).push (seqObj "tuple" (bf ps).toArray 0)).push (seqObj "list" #[] 0) }
 dsimp only
 have hna:∀ p∈ps,p.2≠a:=fun p hp e=>by
  obtain ⟨o,items,m,ho',hc',_⟩:=hT p hp
  rw [e,ho] at ho'
  have:=LW ho'
  subst this
  exact absurd (show Value.type "list" = Value.type "tuple" from hc') (by decide)
 generalize hS:({ s with heap:=((s.heap.update a (Obj.mapSeq fun _=>#[])).push (seqObj "tuple" (bf ps).toArray 0)).push (seqObj "list" #[] 0) }:Shared)=s1
 have eh1:s1.heap=((s.heap.update a (Obj.mapSeq fun _=>#[])).push (seqObj "tuple" (bf ps).toArray 0)).push (seqObj "list" #[] 0):=by rw [<- hS]
 have hT1:∀ p∈ps,Tk prog w s1.heap p.1 p.2:=fun p hp=>by
  obtain ⟨o,items,m,ho',rest⟩:=hT p hp
  refine ⟨o,items,m,?_,rest⟩
  rw [eh1]
  refine Mz _ (Mz _ ?_)
  rw [Pl _ _ _ _ (hna p hp)]
  exact ho'
 rw [<- eh1] at ho6
 have hfin:∀ out:List KP,out.Perm ps->jj out->P (.done (.ret .none)) { s1 with heap:=s1.heap.update a (Obj.mapSeq fun _=>(bf out).toArray) }:=fun out h1 h2=>by
  have q:=h out h1 h2
  rw [<- hS]
  exact q
 have hszv:(bf ps).toArray.size=ps.length:=by rw [ML,hvl]
 by_cases h2:(bf ps).toArray.size<2
 ·rw [LU h2, LU h2]
  refine Mq (Mw ?_)
  rw [StateT.run_pure]
  refine Mq (Mw ?_)
  dsimp only
  refine Mq (seqEpoch_at ho6 rfl ?_)
  have eo:(arrOf (SortSt.mk' general' ((bf ps).toArray.zip (bf ps).toArray) #[] 7 none)).map (·.2)=(bf ps).toArray:=by
   show (((bf ps).toArray.zip (bf ps).toArray)).map (·.2)=_
   apply Array.toList_inj.mp
   rw [Array.toList_map,Array.toList_zip]
   exact List.map_snd_zip (MD _)
  rw [eo]
  refine Mq (Pg ho6 rfl ?_ (NZ _) (by show (bf ps).toArray.size<=_;rw [hszv];exact L5 hlen (by decide)))
  simp only [Pm,NP,Nl]
  refine Mw (hfin ps (List.Perm.refl _) ?_)
  rw [hszv] at h2
  match ps,h2 with
  | [],_=>exact List.Pairwise.nil
  | [_],_=>exact List.pairwise_singleton _ _
  | _::_::_,h=>rw [NQ,NQ] at h;omega
 ·rw [LV h2, LV h2]
  rw [hszv] at h2
  obtain ⟨fs,k1,k2,k3⟩:=zC hk hT1
  refine Mq (kat_kind (T:=Value.type "int") k1 (by omega) (fun v hv=>?_) (by rfl) ?_)
  ·obtain ⟨i, t, e⟩ := k3 v hv
   rw [e];exact .now
  ·have et : (Value.type "int" != Value.type "tuple") = true := by decide
   rw [et]
   refine Mq (Ml (kat_run (ks:=bf ps) (vs:=bf ps) (Q:=fun st' s'=>s'=s1/\failedOf st'=none/\∃ out:List KP,out.Perm ps/\jj out/\(arrOf st').map (·.2)=(bf out).toArray)
    (G:=fun p s'=>s'=s1/\∃ out:List KP,(p.toList.map fun i=>(bf ps).getD i Value.none)=bf out/\out.Perm ps/\jj out) rfl (by rw [hvl];omega) (by rw [hvl];omega) ?_ ?_) ?_ fun _ _ e=>e)
   ·rintro p st' s' hp har hf ⟨e, out, o1, o2, o3⟩
    exact ⟨e,hf,out,o2,o3,by rw [kat_snds rfl har,o1]⟩
   ·rw [hvl]
    refine Eo (key:=fun i=>tS (ps.getD i ([],0)).1) (fun i j hi hj e=>?_) (fun i j hi hj C hC=>?_) (by omega) _ (fun p g ha=>⟨rfl,HM hk hn g ha⟩)
    ·have hi' : ps.getD i ([], 0) = ps[i] := by simp [Pb, hi]
     have hj':ps.getD j ([],0)=ps[j]:=by simp [Pb,hj]
     simp only [hi',hj'] at e
     have e2:=FV (hk _ (Po hi)) (hk _ (Po hj)) e
     have hil:i<(ps.map (·.1)).length:=by rw [Nd];exact hi
     have hjl:j<(ps.map (·.1)).length:=by rw [Nd];exact hj
     exact (Mh (h₀:=hil) (h₁:=hjl) hn).mp (by simpa using e2)
    ·unfold kas_ask
     have gi:(bf ps).getD i Value.none=.ref ps[i].2:=by unfold bf;simp [Pb,hi]
     have gj:(bf ps).getD j Value.none=.ref ps[j].2:=by unfold bf;simp [Pb,hj]
     have hi':ps.getD i ([],0)=ps[i]:=by simp [Pb,hi]
     have hj':ps.getD j ([],0)=ps[j]:=by simp [Pb,hj]
     rw [gi,gj]
     simp only [hi',hj'] at hC
     exact E5 (hT1 _ (Po hi)) (hT1 _ (Po hj)) (hk _ (Po hi)) (hk _ (Po hj)) hC
   ·rintro ⟨⟨⟩, st'⟩ s' ⟨rfl, hf, out, o1, o2, o3⟩
    dsimp only
    refine Mq (seqEpoch_at ho6 rfl ?_)
    rw [o3]
    refine Mq (Pg ho6 rfl ?_ (NZ _) (by show (bf out).toArray.size<=_;rw [ML];unfold bf;rw [Nd,o1.length_eq];exact L5 hlen (by decide)))
    rw [hf]
    simp only [Pm,NP,Nl]
    exact Mw (hfin out o1 o2)
end
end RS
namespace RS
open PySem PySem.W PyProof.Rows
namespace Fx
theorem slot_setiter_next:Slot "set_iterator" "__next__" "set_iterator.__next__" :=
 .of (owner:="set_iterator") (n:="__next__") (by rw [typeLookup_type,builtinLookup_eq_fast];kernel_rfl) (by decide +kernel) (by decide +kernel) (by decide +kernel)
  (by first | exact .inl (by decide +kernel) | exact .inr (by decide +kernel)) (by rw [O0];kernel_rfl)
theorem entry_setiter_next:entryFor table "set_iterator.__next__" = some Builtin.«set_iterator.__next__»:=entryFor_of_fast (by kernel_rfl)
theorem args_setiter_next (a:Value):argsOk "set_iterator.__next__" ⟨[a],[]⟩:=by unfold argsOk;kernel_rfl
theorem entry_set_iter:entryFor table "set.__iter__" = some Builtin.«frozenset.__iter__»:=
 entryFor_alias (id':="frozenset.__iter__") (by kernel_rfl) rfl (by decide +kernel) (by kernel_rfl)
end Fx
def d5 (h:Heap) (I S:Addr) (i n ep slot:Nat):Prop:=h.get? I=some { cls:=.type "set_iterator",dict:=none,data:=.fields #[.int (slot:Int) 0,.int (i:Int) 0,.ref S,.int (n:Int) 0,.int (ep:Int) 0],slots:=#[] }
def eB (w:World) (S:Addr) (ep:Nat) (es:Array (Int × Value)):List (Int × Value):=if w.params.followText "set-order" then (pickOrder (w.params.setOrder S ep) es).toList else es.toList
def dM (w:World) (Z:List (Nat × Int × Value)) (i:Nat):Nat:=if w.params.followText "set-order" then 0 else if i=0 then 0 else (Z.getD (i - 1) (0,0,.none)).1+1
theorem ue {α:Type} (next:Nat->Nat):∀ (fuel k:Nat) (left:List α) (out:Array α),left.length=fuel->(pickOrder.go next fuel k left out).toList.Perm (out.toList++left)
 | 0,k,left,out,h=>by
  have:left=[]:=List.length_eq_zero_iff.mp h
  subst this
  show out.toList.Perm (out.toList++[])
  rw [MM]
 | fuel+1,k,left,out,h=>by
  have hlt:next k % left.length<left.length:=Nat.mod_lt _ (by omega)
  show (match left[next k % left.length]? with | some x=>_ | none=>_:Array α).toList.Perm _
  rw [Pp hlt]
  show (pickOrder.go next fuel (k+1) (left.eraseIdx (next k % left.length)) (out.push left[next k % left.length])).toList.Perm _
  refine (ue next fuel (k+1) _ _ (by rw [List.length_eraseIdx_of_lt hlt];omega)).trans ?_
  rw [Array.toList_push,NG]
  refine List.Perm.append_left _ ?_
  rw [List.singleton_append,List.eraseIdx_eq_take_drop_succ]
  have q:(left.take (next k % left.length)++left[next k % left.length]::left.drop (next k % left.length+1))=left:=by
   rw [List.getElem_cons_drop];exact Os _ _
  have q2:=(List.perm_middle (a:=left[next k % left.length]) (l₁:=left.take (next k % left.length)) (l₂:=left.drop (next k % left.length+1))).symm
  rw [q] at q2
  exact q2
theorem lL {w:World}{S:Addr}{ep:Nat}{es:Array (Int × Value)}:(eB w S ep es).Perm es.toList:=by
 unfold eB
 split
 ·have := ue (w.params.setOrder S ep) es.size 0 es.toList #[] (by simp)
  simpa [pickOrder] using this
 ·exact List.Perm.refl _
theorem DJ {t:SetTable}{es:Array (Int × Value)}{Z:List (Nat × Int × Value)} (T:tT t es Z) {w:World} (hb:w.params.followText "set-order" = false) {i:Nat} (hi:i<=Z.length):SetTable.below t.place (dM w Z i)=i:=by
 have r:DP t.place.toList:=by rw [T.place];exact T.ris
 obtain ⟨b1,b2,b3⟩:=nt r (dM w Z i)
 have hsz:=T.size.1
 have gz:∀ k,k<Z.length->t.place.getD k (dM w Z i)=(Z.getD k (0,0,.none)).1:=fun k hk=>by
  have e:t.place[k]?=some (Z[k]).1:=by rw [<- NK,T.place,MZ,Pp hk];rfl
  rw [Ox,e,Pb,Pp hk];rfl
 have hris:∀ a b,a<b->b<Z.length->(Z.getD a (0,0,.none)).1<(Z.getD b (0,0,.none)).1:=fun a b hab hbz=>by
  rw [<- gz a (by omega),<- gz b hbz]
  exact u9 r _ a b hab (by omega)
 have hs:dM w Z i=if i=0 then 0 else (Z.getD (i - 1) (0,0,.none)).1+1:=by
  unfold dM;rw [hb,LV Mu]
 by_cases h0:i=0
 ·rw [LU h0] at hs
  rw [hs] at b2 ⊢
  by_cases hz:SetTable.below t.place 0=0
  ·rw [hz,h0]
  ·have:=b2 0 (by omega);omega
 ·rw [LV h0] at hs
  have hlo:¬ SetTable.below t.place (dM w Z i)<=i - 1:=fun hle=>by
   have:=b3 (i - 1) hle (by omega)
   rw [gz _ (by omega)] at this
   omega
  have hhi:¬ i<SetTable.below t.place (dM w Z i):=fun hlt=>by
   have:=b2 i hlt
   have hiz:i<Z.length:=by omega
   rw [gz i hiz] at this
   have:=hris (i - 1) i (by omega) hiz
   omega
  omega
section
variable {prog:Program}{w:World}{A:Around}{E:Value->Shared->Prop}{s:Shared}
theorem wU {a:Addr}{ps:List (Int × Value)}{o es ep t Z}{i:Nat}{Q:Option (Value × Nat)->Shared->Prop} (S:eH w s.heap a ps o es ep t Z) (hi:i<=Z.length)
  (h:Q (((eB w a ep es)[i]?).map fun e=>(e.2,dM w Z (i+1))) s):wpAny (model prog w) A (setNext a (dM w Z i) i ep) Q E s:=by
 unfold setNext
 refine Mq (OO S.ho S.hd S.fits ?_)
 dsimp only
 unfold setsByText
 refine Mq (Mq (NW (Mw ?_)))
 cases hb:w.params.followText "set-order" with
 | true=>
  have e1:eB w a ep es=(pickOrder (w.params.setOrder a ep) es).toList:=by unfold eB;rw [hb,LU rfl]
  have e2:∀ j,dM w Z j=0:=fun j=>by unfold dM;rw [hb,LU rfl]
  rw [e1,e2] at h
  show wpAny _ _ (if (w.params.followText "set-order")=true then _ else _) _ _ _
  rw [hb,LU rfl]
  rw [LV (by simp)]
  refine Mq ?_
  unfold setWalk
  refine Mq (OO S.ho S.hd S.fits ?_)
  dsimp only
  unfold setsByText
  refine Mq (Mq (NW (Mw ?_)))
  show wpAny _ _ (if (w.params.followText "set-order")=true then _ else _) _ _ _
  rw [hb,LU rfl]
  refine Mq (NW (Mw (Mw ?_)))
  rw [e2,<- NK]
  exact h
 | false=>
  have e1:eB w a ep es=es.toList:=by unfold eB;rw [hb,LV Mu]
  have hled:t.led=true:=by rw [S.led,hb];rfl
  show wpAny _ _ (if (w.params.followText "set-order")=true then _ else _) _ _ _
  rw [hb,LV Mu]
  have hdr:(!t.plain && decide (es.size > 1))=false:=by rw [S.plain];rfl
  show wpAny _ _ (if (!t.plain && decide (es.size > 1))=true then _ else _) _ _ _
  rw [hdr,LV Mu]
  refine Mq ?_
  show wpAny _ _ (if (!t.led && !es.isEmpty)=true then _ else _) _ _ _
  rw [hled]
  simp only [OM,My,NP,Nl]
  refine Mw (Mw ?_)
  rw [DJ S.tab hb hi]
  rw [e1,NK] at h
  by_cases hlt:i<Z.length
  ·have ez : Z[i]? = some Z[i] := Pp hlt
   have ee:=S.tab.hashAt ez
   have ep':t.place[i]?=some (Z[i]).1:=by rw [<- NK,S.tab.place,MZ,ez];rfl
   rw [ee,ep']
   rw [ee] at h
   have es':dM w Z (i+1)=(Z[i]).1+1:=by
    unfold dM
    rw [hb,LV Mu,LV (by omega),Pq,Pb,ez];rfl
   rw [es'] at h
   exact h
  ·have : es[i]? = none := by rw [OD, S.tab.size.2]; omega
   rw [this]
   rw [this] at h
   exact h
end
end RS
namespace RS
open PySem PySem.W PyProof.Rows
section
variable {prog:Program}{w:World}{A:Around}{E:Value->Shared->Prop}{s:Shared}
theorem d5.typeIs {I S:Addr}{i n ep slot:Nat} (h:d5 s.heap I S i n ep slot):s.TypeIs (.ref I) "set_iterator" := ⟨_,h,rfl⟩
theorem iw {a:Addr}{ps:List (Int × Value)}{o es ep t Z} (S:eH w s.heap a ps o es ep t Z):s.TypeIs (.ref a) "set" := ⟨o,S.ho,S.ex.1⟩
theorem CS {a:Addr}{ps:List (Int × Value)}{o es ep t Z}{Q:Value->Shared->Prop} (S:eH w s.heap a ps o es ep t Z)
  (hQ:Q (.ref s.heap.objs.size) { s with heap:=s.heap.push { cls:=.type "set_iterator",data:=.fields #[.int ((0:Nat):Int) 0,.int ((0:Nat):Int) 0,.ref a,.int (Z.length:Int) 0,.int (ep:Int) 0] } }) :
  wpAny (model prog w) A (pyIter (.ref a)) Q E s:=by
 refine wpAny_pyIter_slot (iw S) PySem.F.slot_set_iter (Nu PySem.F.slot_set_iter (iw S) Fx.entry_set_iter ?_ (PySem.F.args_set_iter_1 _))
 unfold Builtin.«frozenset.__iter__» Builtin.Frozenset.sizeOf
 refine Mq (m:=Builtin.Frozenset.slot0 "__iter__" _) (NY (a:=a) rfl ?_)
 refine Mq (Mq (Pr S.ho S.hd S.fits (Mw ?_)))
 unfold setDrawn
 refine Mq (Mq (OO S.ho S.hd S.fits ?_))
 dsimp only
 unfold setsByText
 refine Mq (Mq (NW (Mw (Mw ?_))))
 have hdr:(!w.params.followText "set-order" && (!t.plain && decide (es.size > 1)))=false:=by rw [S.plain];simp
 show wpAny _ _ (if (!w.params.followText "set-order" && (!t.plain && decide (es.size > 1)))=true then _ else _) _ _ _
 rw [hdr,LV Mu]
 refine Mq (Mw ?_)
 refine Mq (wpAny_setEpoch_of S.ho S.hd S.fits ?_)
 refine Mq (Nx (Mw ⟨_,rfl, "set_iterator",_,⟨_,MC _ rfl,rfl⟩,Fx.slot_setiter_next.lookup,?_⟩))
 rw [S.tab.size.2]
 exact hQ
theorem CT {I a:Addr}{ps:List (Int × Value)}{o es ep t Z}{i:Nat}{v:Int × Value}{Q:Option Value->Shared->Prop} (S:eH w s.heap a ps o es ep t Z) (hit:d5 s.heap I a i Z.length ep (dM w Z i)) (hv:(eB w a ep es)[i]?=some v)
  (hQ:∀ h',d5 h' I a (i+1) Z.length ep (dM w Z (i+1))->Heap.SameBut I s.heap h'->Q (some v.2) { s with heap:=h' }):wpAny (model prog w) A (pyNext (.ref I)) Q E s:=by
 have hT:=hit.typeIs
 have hoi:=hit
 unfold d5 at hoi
 have hil:i<Z.length:=by
  have:=(Mg.mp hv).1
  rw [lL.length_eq,Mn,S.tab.size.2] at this
  exact this
 unfold pyNext
 refine Mq (wpAny_attempt (Nr (name:=Str.ofString "__next__") hT Fx.slot_setiter_next (Nu Fx.slot_setiter_next hT Fx.entry_setiter_next ?_ (Fx.args_setiter_next _))))
 unfold Builtin.«set_iterator.__next__»
 refine Mq (m:=slotArgs "__next__" 0 _) (NY (a:=(.ref I,[])) rfl ?_)
 dsimp only
 unfold fieldsOf
 refine Mq (Mq (Mx hoi ?_))
 refine Mw ?_
 refine Mq (Pr S.ho S.hd S.fits ?_)
 rw [S.tab.size.2]
 simp only [Pm,NP,Nl,Nj]
 refine Mq (wU S (L7 hil) ?_)
 rw [hv]
 dsimp only [Option.map_some]
 refine Mq (Pt hoi (by simp) fun h1 e1 sb1=>?_)
 refine Mq (Pt (s:={ s with heap:=h1 }) e1 (by simp) fun h2 e2 sb2=>?_)
 refine Mw ⟨v.2,rfl,Mw (hQ h2 ?_ (sb1.trans sb2))⟩
 unfold d5
 rw [e2]
 simp [rawInt]
theorem Ey {I a:Addr}{ps:List (Int × Value)}{o es ep t Z}{Q:Option Value->Shared->Prop} (hh:A.handled=none) (S:eH w s.heap a ps o es ep t Z) (hit:d5 s.heap I a Z.length Z.length ep (dM w Z Z.length))
  (hQ:∀ h',Heap.ExtBut I s.heap h'->Q none { s with heap:=h' }):wpAny (model prog w) A (pyNext (.ref I)) Q E s:=by
 have hT:=hit.typeIs
 have hoi:=hit
 unfold d5 at hoi
 have hv:(eB w a ep es)[Z.length]?=none:=by
  rw [List.getElem?_eq_none_iff,lL.length_eq,Mn,S.tab.size.2]
  exact MD _
 unfold pyNext
 refine Mq (wpAny_attempt (Nr (name:=Str.ofString "__next__") hT Fx.slot_setiter_next (Nu Fx.slot_setiter_next hT Fx.entry_setiter_next ?_ (Fx.args_setiter_next _))))
 unfold Builtin.«set_iterator.__next__»
 refine Mq (m:=slotArgs "__next__" 0 _) (NY (a:=(.ref I,[])) rfl ?_)
 dsimp only
 unfold fieldsOf
 refine Mq (Mq (Mx hoi ?_))
 refine Mw ?_
 refine Mq (Pr S.ho S.hd S.fits ?_)
 rw [S.tab.size.2]
 simp only [Pm,NP,Nl,Nj]
 refine Mq (wU S (MD _) ?_)
 rw [hv]
 dsimp only [Option.map_none]
 refine Mq (Pt hoi (by simp) fun h1 e1 sb1=>?_)
 refine Mq ?_
 simp only [newExc,newTuple]
 refine Mq (Nx ?_ (by size_fits))
 refine Mq (m:=firstArgMember _ _) (NY (a:=Value.none) (by first | rfl | (simp only [firstArgMember];rfl)) ?_)
 refine Nx ?_ (by size_fits)
 simp only [raiseNew]
 refine Mq (wpAny_handled ?_)
 rw [show A.in1.handled=none from hh]
 refine Mq (Mw (wpAny_throw ?_))
 refine Mq (wpAny_isInstance (T:="StopIteration") (b:=true) ⟨_,MC _ rfl,rfl⟩ isSubtype_stop ?_)
 exact Mw (hQ _ ((sb1.extBut.push _).push _))
end
end RS
namespace RS
open PySem PySem.W PyProof.Rows
namespace Fx
theorem entry_extend_loop:entryFor table "list.extend.loop" = some Builtin.«list.extend.loop»:=entryFor_of_fast (by kernel_rfl)
theorem plain_extend_loop:plainId "list.extend.loop" = true:=by decide +kernel
theorem split_set_len:splitId "set.__len__" = some ("set", "__len__"):=by decide +kernel
end Fx
section
variable {prog:Program}{w:World}{A:Around}{E:Value->Shared->Prop}{s:Shared}
theorem ye {a:Addr}{ps:List (Int × Value)}{o es ep t Z}{Q:Bool->Shared->Prop} (S:eH w s.heap a ps o es ep t Z) (h:Q false s):wpAny (model prog w) A (Builtin.List.listLengthHint (.ref a)) Q E s:=by
 unfold Builtin.List.listLengthHint
 refine Mq (wpAny_specialOf (iw S) PySem.F.slot_set_len.lookup ?_)
 dsimp only
 rw [Fx.split_set_len]
 dsimp only
 refine Mq (wpAny_isInstance (iw S) sub_set_self ?_)
 simp only [OM,NP,Nl]
 rw [LU (by rfl)]
 refine Mq (Nv (iw S) ?_)
 exact Mw h
theorem yf {R:Result->Shared->Prop}{I a L:Addr}{ps:List (Int × Value)}{o es ep t Z} (hh:A.handled=none) (hIa:I≠a) (hIL:I≠L) (hLa:L≠a) (hz:Z.length<=100) :
  ∀ (k i n:Nat) (s:Shared),Z.length - i=k->i<=Z.length->eH w s.heap a ps o es ep t Z->d5 s.heap I a i Z.length ep (dM w Z i)->s.heap.get? L=some (seqObj "list" (((eB w a ep es).take i).map (·.2)).toArray n) ->
   (∀ h' m,(∀ b u,b≠I->b≠L->s.heap.get? b=some u->h'.get? b=some u)->h'.get? L=some (seqObj "list" ((eB w a ep es).map (·.2)).toArray m)->R (.ok (.ret (.ref L))) { s with heap:=h' }) ->
   codeAny (model prog w) A (.builtin "list.extend.loop" ⟨[.ref L,.ref I,.ref L],[]⟩) R s:=by
 intro k
 induction k with
 | zero=>
  intro i n s ek hi S hit hL hR
  have e:i=Z.length:=by omega
  subst e
  refine OX Fx.entry_extend_loop ?_
  rw [OY Fx.plain_extend_loop _]
  show wpAny _ A.in1 (pyNext (.ref I) >>= _) _ _ s
  refine Mq (Ey (by simpa using hh) S hit fun h' eb=>?_)
  show wpAny _ A.in1 (ret (.ref L)) _ _ _
  refine Mw (hR h' n (fun b u hb _ q=>eb b u hb q) ?_)
  rw [Oj (by rw [lL.length_eq,Mn,S.tab.size.2];exact MD _)] at hL
  exact eb L _ (Md hIL) hL
 | succ k ih=>
  intro i n s ek hi S hit hL hR
  have hil:i<(eB w a ep es).length:=by rw [lL.length_eq,Mn,S.tab.size.2];omega
  refine OX Fx.entry_extend_loop ?_
  rw [OY Fx.plain_extend_loop _]
  show wpAny _ A.in1 (pyNext (.ref I) >>= _) _ _ s
  refine Mq (CT S hit (Pp hil) fun h' hit' sb=>?_)
  have hL':h'.get? L=some (seqObj "list" (((eB w a ep es).take i).map (·.2)).toArray n):=(sb.2 L (Md hIL)).trans hL
  have hsz:(((eB w a ep es).take i).map (·.2)).toArray.size<=100:=by
   rw [ML,Nd,MV];omega
  show wpAny _ A.in1 (Builtin.List.listUpdate (.ref L) _ >>= _) _ _ _
  refine Mq (Pg (s:={ s with heap:=h' }) hL' rfl ?_ (L5 hsz (by decide)) (by rw [Array.size_push];exact L5 (Nat.succ_le_succ hsz) (by decide)))
  have hL2:=Ph hL' (·.push ((eB w a ep es)[i]).2)
  have eL:(((eB w a ep es).take i).map (·.2)).toArray.push ((eB w a ep es)[i]).2=(((eB w a ep es).take (i+1)).map (·.2)).toArray:=by
   have q:(eB w a ep es).take (i+1)=(eB w a ep es).take i++[(eB w a ep es)[i]]:=by rw [O5,Pp hil];rfl
   rw [q,Ou,List.push_toArray];rfl
  rw [eL] at hL2
  have hsb2:=N6 h' L (Obj.mapSeq (·.push ((eB w a ep es)[i]).2))
  refine Mw ⟨plainId_quiet Fx.plain_extend_loop _,ih (i+1) _ _ (by omega) (by omega) ?_ ?_ hL2 fun h'' m kk hm=>?_⟩
  ·refine ⟨?_, S.ex, S.hd, S.tab, S.plain, S.led, S.big, S.perm⟩
   exact (hsb2.2 a (Md hLa)).trans ((sb.2 a (Md hIa)).trans S.ho)
  ·exact (hsb2.2 I hIL).trans hit'
  ·refine hR h'' m (fun b u hb1 hb2 q => kk b u hb1 hb2 ?_) hm
   exact (hsb2.2 b hb2).trans ((sb.2 b hb1).trans q)
theorem oz {α β:Type}{f:α->β}{l m:List β} (h:l.Perm m):∀ ps:List α,m=ps.map f->∃ qs:List α,qs.Perm ps/\l=qs.map f:=by
 induction h with
 | nil=>
  intro ps e
  have:ps=[]:=List.map_eq_nil_iff.mp e.symm
  exact ⟨[],by rw [this],rfl⟩
 | cons x _ ih=>
  intro ps e
  cases ps with
  | nil=>cases e
  | cons p ps=>
   rw [Nz] at e
   obtain ⟨qs,h1,h2⟩:=ih ps (Og e).2
   exact ⟨p::qs,h1.cons p,by rw [Nz,<- h2,(Og e).1]⟩
 | swap x y l=>
  intro ps e
  match ps,e with
  | p::q::r,e=>
   rw [Nz,Nz] at e
   obtain ⟨e1,e2⟩:=Og e
   obtain ⟨e2,e3⟩:=Og e2
   exact ⟨q::p::r,List.Perm.swap _ _ _,by rw [Nz,Nz,e1,e2,e3]⟩
 | trans _ _ ih1 ih2=>
  intro ps e
  obtain ⟨qs,h1,h2⟩:=ih2 ps e
  obtain ⟨rs,h3,h4⟩:=ih1 qs h2
  exact ⟨rs,h3.trans h1,h4⟩
theorem pX {a:Addr}{ps:List (Int × Value)}{o es ep t Z}{Q:List Value->Shared->Prop} (hh:A.handled=none) (S:eH w s.heap a ps o es ep t Z) (hz:Z.length<=100)
  (h:∀ qs:List (Int × Value),qs.Perm ps->∀ h',(∀ b u,s.heap.get? b=some u->h'.get? b=some u)->s.heap.objs.size<=h'.objs.size->Q (qs.map (·.2)) { s with heap:=h' }):wpAny (model prog w) A (collect (.ref a)) Q E s:=by
 have hal:a<s.heap.objs.size:=LX S.ho
 unfold collect
 refine Mq (O4 (OX entry_proto_collect' ?_))
 show wpAny _ _ (do again (.builtin "list.__iadd__" ⟨[<- newList [],.ref a],[]⟩)) _ _ s
 refine Mq (Pi (Mw ⟨O2 _ (by decide +kernel),OX entry_list_iadd' ?_⟩))
 show wpAny _ _ (Builtin.List.listExtendWith (.ref s.heap.objs.size) (.ref a) (.ref s.heap.objs.size)) _ _ { s with heap:=s.heap.push (seqObj "list" #[] 0) }
 have S1:eH w (s.heap.push (seqObj "list" #[] 0)) a ps o es ep t Z:=⟨Mz _ S.ho,S.ex,S.hd,S.tab,S.plain,S.led,S.big,S.perm⟩
 unfold Builtin.List.listExtendWith
 refine Mq (Nv (iw (s:={ s with heap:=s.heap.push (seqObj "list" #[] 0) }) S1) ?_)
 have hsame:Builtin.List.listSameRef (.ref s.heap.objs.size) (.ref a)=false:=by
  show (s.heap.objs.size == a)=false
  simpa using Mv hal
 rw [hsame,LV (by decide)]
 refine Mq (CS (s:={ s with heap:=s.heap.push (seqObj "list" #[] 0) }) S1 ?_)
 dsimp only
 generalize hH:(s.heap.push (seqObj "list" #[] 0)).push { cls:=.type "set_iterator",data:=.fields #[.int ((0:Nat):Int) 0,.int ((0:Nat):Int) 0,.ref a,.int (Z.length:Int) 0,.int (ep:Int) 0] }=H2
 have eI:(s.heap.push (seqObj "list" #[] 0)).objs.size=s.heap.objs.size+1:=by rw [Pj]
 have hk2:∀ b u,s.heap.get? b=some u->H2.get? b=some u:=fun b u q=>by rw [<- hH];exact Mz _ (Mz _ q)
 have S2:eH w H2 a ps o es ep t Z:=⟨hk2 a o S.ho,S.ex,S.hd,S.tab,S.plain,S.led,S.big,S.perm⟩
 have hL2:H2.get? s.heap.objs.size=some (seqObj "list" #[] 0):=by rw [<- hH];exact Mz _ (MC _ rfl)
 have hI2:H2.get? (s.heap.objs.size+1)=some { cls:=.type "set_iterator",data:=.fields #[.int ((0:Nat):Int) 0,.int ((0:Nat):Int) 0,.ref a,.int (Z.length:Int) 0,.int (ep:Int) 0] }:=by
  rw [<- hH,<- eI];exact MC _ rfl
 rw [eI]
 refine Mq (Mr (ye (s:={ s with heap:=H2 }) S2 ?_))
 rw [LU (by rfl)]
 refine Mq (NX ?_)
 refine Mq ?_
 unfold Builtin.List.listTouch
 refine Mq (Pg (s:={ s with heap:=H2 }) hL2 rfl ?_ (NZ _) (by decide))
 have hL3:=Ph hL2 (·.push Value.none)
 refine Pg (s:={ s with heap:=H2.update s.heap.objs.size (Obj.mapSeq (·.push Value.none)) }) hL3 rfl ?_ (by decide) (by decide)
 have hL4:=Ph hL3 (·.pop)
 have sb3:=N6 H2 s.heap.objs.size (Obj.mapSeq (·.push Value.none))
 have sb4:=(sb3.trans (N6 (H2.update s.heap.objs.size (Obj.mapSeq (·.push Value.none))) s.heap.objs.size (Obj.mapSeq (·.pop))))
 generalize hH4:(H2.update s.heap.objs.size (Obj.mapSeq (·.push Value.none))).update s.heap.objs.size (Obj.mapSeq (·.pop))=H4 at hL4 sb4
 have neL:a≠s.heap.objs.size:=L0 hal
 have neI:s.heap.objs.size+1≠s.heap.objs.size:=Nat.succ_ne_self _
 refine Mw ⟨O2 _ (by decide +kernel),?_⟩
 refine yf (by simpa using hh) (Mv (NS hal)) neI (Md neL) hz (Z.length - 0) 0 _ { s with heap:=H4 } (by omega) (NZ _)
  ⟨(sb4.2 a neL).trans S2.ho,S.ex,S.hd,S.tab,S.plain,S.led,S.big,S.perm⟩ ?_ (by rw [List.take_zero];exact hL4) fun h' m kk hm=>?_
 ·unfold d5
  have e0:dM w Z 0=0:=by unfold dM;split <;> simp
  rw [e0]
  exact (sb4.2 _ neI).trans hI2
 ·dsimp only
  refine Mq (Mx hm ?_)
  refine Mw ?_
  have hp:(eB w a ep es).Perm ps:=lL.trans (by rw [S.tab.ents];exact S.perm)
  have fin:=h (eB w a ep es) hp h' fun b u q=>by
   have hb:b<s.heap.objs.size:=LX q
   exact kk b u (L0 (NS hb)) (L0 hb) ((sb4.2 b (L0 hb)).trans (hk2 b u q))
  exact fin (L7 (LX hm))
theorem yg {a:Addr}{ps:List KP}{Q:List Value->Shared->Prop} (hh:A.handled=none) (S:fF w s.heap a ps)
  (h:∀ qs:List KP,qs.Perm ps->∀ h',(∀ b u,s.heap.get? b=some u->h'.get? b=some u)->s.heap.objs.size<=h'.objs.size->Q (bf qs) { s with heap:=h' }):wpAny (model prog w) A (collect (.ref a)) Q E s:=by
 obtain ⟨o,es,ep,t,Z,S,hk,hn⟩:=S
 have h15:=mi hk hn
 refine pX hh S (by rw [S.len,Nd];omega) fun qs hq h' k1 k2=>?_
 obtain ⟨rs,q1,q2⟩:=oz hq ps rfl
 have q3:qs.map (·.2)=bf rs:=by rw [q2,Oc];rfl
 rw [q3]
 exact h rs q1 h' k1 k2
theorem AB {x:Value}{ps:List KP}{Q:Value->Shared->Prop} (hk:∀ p∈ps,p.1∈prs) (hn:(ps.map (·.1)).Nodup) (hT:∀ p∈ps,Tk prog w s.heap p.1 p.2)
  (hcol:∀ Q':List Value->Shared->Prop,(∀ qs:List KP,qs.Perm ps->∀ h',(∀ b u,s.heap.get? b=some u->h'.get? b=some u)->s.heap.objs.size<=h'.objs.size->Q' (bf qs) { s with heap:=h' })->wpAny (model prog w) A.in1 (collect x) Q' E s)
  (h:∀ out:List KP,out.Perm ps->jj out->∀ h' D,s.heap.objs.size<=D->(∀ b u,s.heap.get? b=some u->h'.get? b=some u)->(∃ n,h'.get? D=some (seqObj "list" (bf out).toArray n))->Q (.ref D) { s with heap:=h' }) :
  wpAny (model prog w) A (call (.builtin "sorted") [x]) Q E s:=by
 refine Pu kind_sorted plain_sorted entry_sorted (args_sorted1 _) ?_
 unfold Builtin.«sorted»
 refine Mq (m:=checkCount "sorted" 1 1 _) (Mw ?_)
 refine Mq (hcol _ fun qs hqs h1 k1 hsz=>?_)
 have hkq:∀ p∈qs,p.1∈prs:=fun p hp=>hk p (hqs.mem_iff.mp hp)
 have hnq:(qs.map (·.1)).Nodup:=(hqs.map _).nodup_iff.mpr hn
 have hlen:=mi hkq hnq
 have hvl:(bf qs).length<=15:=by unfold bf;rw [Nd];exact hlen
 refine Mq (Pi ?_ (L5 hvl (by decide)))
 have hoL:(h1.push (seqObj "list" (bf qs).toArray 0)).get? h1.objs.size=some (seqObj "list" (bf qs).toArray 0):=MC _ rfl
 have hnn:∀ b u,h1.get? b=some u->b≠h1.objs.size:=fun b u q=>L0 (LX q)
 refine Mq (Mr (Nu slot_list_sort (s:={ s with heap:=h1.push (seqObj "list" (bf qs).toArray 0) }) ⟨_,hoL,rfl⟩ Pv ?body (args_list_sort _)))
 case body=>
  refine yP (s:={ s with heap:=h1.push (seqObj "list" (bf qs).toArray 0) }) hoL hkq hnq (fun p hp=>?_) fun out h2 h3=>?_
  ·obtain ⟨o, its, n, ho, rest⟩ := hT p (hqs.mem_iff.mp hp)
   exact ⟨o,its,n,Mz _ (k1 _ _ ho),rest⟩
  ·refine ⟨_, rfl, Mw ⟨_, rfl, h out (h2.trans hqs) h3 _ h1.objs.size hsz (fun b u q => ?_) ?_⟩⟩
   ·have hb := hnn b u (k1 b u q)
    unfold sortedHeap
    rw [Pl _ _ _ _ hb]
    refine Mz _ (Mz _ ?_)
    rw [Pl _ _ _ _ hb]
    exact Mz _ (k1 b u q)
   ·unfold sortedHeap
    have g1:=Ph hoL (fun _=>#[])
    have g2:=Mz (seqObj "list" #[] 0) (Mz (seqObj "tuple" (bf qs).toArray 0) g1)
    exact ⟨_,Ph g2 (fun _=>(bf out).toArray)⟩
theorem yO {a:Addr}{ps:List KP}{Q:Value->Shared->Prop} (hh:A.handled=none) (S:fF w s.heap a ps) (hT:∀ p∈ps,Tk prog w s.heap p.1 p.2)
  (h:∀ out:List KP,out.Perm ps->jj out->∀ h' D,s.heap.objs.size<=D->(∀ b u,s.heap.get? b=some u->h'.get? b=some u)->(∃ n,h'.get? D=some (seqObj "list" (bf out).toArray n))->Q (.ref D) { s with heap:=h' }) :
  wpAny (model prog w) A (call (.builtin "sorted") [.ref a]) Q E s:=by
 obtain ⟨o,es,ep,t,Z,S0,hk,hn⟩:=id S
 exact AB hk hn hT (fun Q' hq=>yg (by simpa using hh) S hq) h
end
end RS
namespace RS
open PySem PySem.W PyProof.Rows
theorem tT.free {t:SetTable}{es:Array (Int × Value)}{Z:List (Nat × Int × Value)} (T:tT t es Z) {h:Int} (cov:∀ j,j<=t.mask->j∈cX t.mask h) (hz:Z.length<=t.mask) (hA:Nat->Int) (hne:∀ i,hA i≠h) :
  ∃ j pre post,t.probe hA h (t.probeStart h)=some (.empty j none)/\j<=t.mask/\j ∉ Z.map (·.1)/\cX t.mask h=pre++j::post/\∀ k∈pre,k∈Z.map (·.1):=by
 obtain ⟨j0,hj0,hn0⟩:=uy (m:=t.mask) (l:=Z.map (·.1)) (by rw [Nd];exact hz)
 obtain ⟨pre,j,post,e,hs,hp⟩:=kK (fun j=>j ∉ Z.map (·.1)) (cX t.mask h) ⟨j0,cov j0 hj0,hn0⟩
 have el:(Aj t.mask (SetTable.turns t.mask) (SetTable.bits h % (t.mask+1)) (SetTable.bits h)).length=pre.length+1+post.length:=by
  show (cX t.mask h).length=_
  rw [e,Nb,NQ];omega
 have hw:je t (pre.length+1+post.length) (t.probeStart h)=pre++j::post:=by
  have q:=rD t (SetTable.turns t.mask) (SetTable.bits h % (t.mask+1)) (SetTable.bits h) none
  rw [el] at q
  exact q.trans e
 have hlen:pre.length<10 * SetTable.turns t.mask:=by
  have q:=u7 t.mask (SetTable.turns t.mask) (SetTable.bits h % (t.mask+1)) (SetTable.bits h)
  omega
 have occ:∀ k∈pre,k∈Z.map (·.1):=fun k hk=>Om fun q=>hp k hk q
 have hpre:∀ k∈pre,∃ i,t.slot k=.live i/\hA i≠h:=fun k hk=>by
  obtain ⟨z,hzm,ez⟩:=Ol.mp (occ k hk)
  obtain ⟨i,hi⟩:=Oo hzm
  exact ⟨i,ez ▸ T.slot_live hi,hne i⟩
 obtain ⟨g1,g2⟩:=vp t hA h pre j post (10 * SetTable.turns t.mask) (t.probeStart h) hw hlen rfl hpre
 exact ⟨j,pre,post,g1 (T.slot_empty hs),kf (h:=h) (by rw [e];simp),hs,e,occ⟩
abbrev KI:=Int × Tok
def BG (p:KI):Int × Value:=(hashInt p.1,Value.int p.1 p.2)
def ins:List Int:=[0,1,2,3,4,5]
theorem FF {i:Int}:i∈ins↔0<=i/\i<6:=by
 unfold ins
 simp only [Mc,N8,N9]
 omega
def GE (mask:Nat):Bool:=ins.all fun k=>(List.range (mask+1)).all fun j=>(cX mask (hashInt k)).contains j
theorem Kk:GE 7=true:=by decide +kernel
theorem Co:GE 31=true:=by decide +kernel
theorem vv {mask:Nat} (h:GE mask=true) {k:Int} (hk:k∈ins):∀ j,j<=mask->j∈cX mask (hashInt k):=fun j hj=>by
 have a:=OK.mp h k hk
 have b:=OK.mp a j (L4.mpr (by omega))
 simpa using b
theorem uu {a b:Int} (ha:a∈ins) (hb:b∈ins) (e:hashInt a=hashInt b):a=b:=by
 have key:∀ x∈ins,∀ y∈ins,hashInt x=hashInt y->x=y:=by decide +kernel
 exact key a ha b hb e
def dw (w:World) (h:Heap) (a:Addr) (ps:List KI):Prop:=∃ o es ep t Z,eH w h a (ps.map BG) o es ep t Z/\(∀ p∈ps,p.1∈ins)/\(ps.map (·.1)).Nodup
theorem lM {ps:List KI} (hk:∀ p∈ps,p.1∈ins) (hn:(ps.map (·.1)).Nodup):ps.length<=6:=by
 have:=kb hn (l2:=ins) (fun x hx=>by obtain ⟨p,hp,e⟩:=Ol.mp hx;rw [<- e];exact hk p hp)
 rw [Nd] at this
 exact this
theorem dw.keeps {w:World}{h h':Heap}{a:Addr}{ps:List KI} (S:dw w h a ps) (k:∀ o,h.get? a=some o->h'.get? a=some o):dw w h' a ps:=by
 obtain ⟨o,es,ep,t,Z,S,hk,hn⟩:=S
 exact ⟨o,es,ep,t,Z,⟨k o S.ho,S.ex,S.hd,S.tab,S.plain,S.led,S.big,S.perm⟩,hk,hn⟩
theorem Lh {w:World}{h:Heap}{a:Addr}{ps:List (Int × Value)}{o es ep t Z} (S:eH w h a ps o es ep t Z) {k:Int} (hk:k∈ins):∀ j,j<=t.mask->j∈cX t.mask (hashInt k):=by
 rcases S.big with ⟨h1,h2⟩ | ⟨h1,h2⟩ <;> rw [h1]
 ·exact vv Kk hk
 ·exact vv Co hk
def we (ps:List KI) (k:Int) (t:Tok):List KI:=if k∈ps.map (·.1) then ps else ps++[(k,t)]
section
variable {prog:Program}{w:World}{A:Around}{E:Value->Shared->Prop}{s:Shared}
theorem ua {a:Addr}{k:Int}{tk:Tok}{ps0:List (Int × Value)}{o es ep t Z} (S:eH w s.heap a ps0 o es ep t Z) {Q:ScanMet->Shared->Prop} :
  ∀ (l:List (Int × Value)) (n:Nat),(∀ e∈l,∃ p:KI,e=BG p/\p.1∈ins)->k∈ins->((∃ e∈l,e.1=hashInt k)->∀ i,Q (.found i) s)->((∀ e∈l,e.1≠hashInt k)->Q .absent s)->wpAny (model prog w) A (setScanFrom a (.int k tk) (hashInt k) true l n) Q E s
 | [],n,_,_,h1,h2=>by
  unfold setScanFrom
  exact Mw (h2 fun e he=>by simp at he)
 | e::l,n,hl,hk,h1,h2=>by
  obtain ⟨p,rfl,hp⟩:=hl e Ma
  show wpAny _ _ (setScanFrom a _ _ true ((hashInt p.1,Value.int p.1 p.2)::l) n) _ _ _
  unfold setScanFrom
  by_cases he:hashInt p.1=hashInt k
  ·rw [LU (by simpa using he)]
   have ek:=uu hp hk he
   refine Mq (m:=setEpoch a) (wpAny_setEpoch_of S.ho S.hd S.fits ?_)
   refine Mq (LS ?_)
   rw [ek]
   simp only [NO,OP,Nn]
   exact Mw (h1 ⟨_,Ma,he⟩ _)
  ·rw [LV (by simpa using he)]
   refine ua S l (n+1) (fun x hx=>hl x (Mb _ hx)) hk (fun ⟨x,hx,ex⟩=>h1 ⟨x,Mb _ hx,ex⟩) fun hx=>h2 fun x hxm=>?_
   rcases Mc.mp hxm with z | z
   ·rw [z];exact he
   ·exact hx x z
theorem FY {a:Addr}{k:Int}{tk:Tok}{ps:List KI}{Q:Bool->Shared->Prop} (S:dw w s.heap a ps) (hk:k∈ins)
  (h:∀ b h',Heap.SameBut a s.heap h'->dw w h' a (we ps k tk)->Q b { s with heap:=h' }):wpAny (model prog w) A (setAddHashed a (.int k tk) (hashInt k)) Q E s:=by
 obtain ⟨o,es,ep,t,Z,S,hk0,hn0⟩:=S
 have hent:∀ e∈es.toList,∃ p∈ps,e=BG p:=fun e he=>by
  rw [S.tab.ents] at he
  obtain ⟨p,hp,q⟩:=Ol.mp (S.perm.mem_iff.mp he)
  exact ⟨p,hp,q.symm⟩
 have hto:∀ p∈ps,BG p∈es.toList:=fun p hp=>by
  rw [S.tab.ents]
  exact S.perm.mem_iff.mpr (Oq hp)
 have hlen6:=lM hk0 hn0
 have hZl:Z.length=ps.length:=by rw [S.len,Nd]
 have hesz0:es.size=ps.length:=by rw [S.tab.size.2,hZl]
 have hz:Z.length<=t.mask:=by rcases S.big with ⟨q,q2⟩ | ⟨q,q2⟩ <;> omega
 unfold setAddHashed setAddHashedIn
 refine Mr (Mq (OO S.ho S.hd S.fits ?_))
 dsimp only
 have hsc:byScan (Value.int k tk) es=true:=by
  unfold byScan
  have h1:decide (es.size<scanBound)=true:=NM (by rw [hesz0];unfold scanBound;omega)
  have h2:es.all (fun x=>x.2.scannable)=true:=by
   rw [<- Array.all_toList,OK]
   intro e he
   obtain ⟨p,_,rfl⟩:=hent e he
   rfl
  rw [h1,h2];rfl
 rw [hsc]
 simp only [Nn]
 refine Mq ?_
 unfold setAddByScan
 refine Mq (NX ?_)
 refine Mq ?_
 show wpAny _ _ (setScanFrom a (.int k tk) (hashInt k) true es.toList 0) _ _ _
 refine ua S es.toList 0 (fun e he=>by obtain ⟨p,hp,e'⟩:=hent e he;exact ⟨p,e',hk0 p hp⟩) hk (fun hex i=>?_) fun hno=>?_
 ·obtain ⟨e, he, q⟩ := hex
  obtain ⟨p,hp,rfl⟩:=hent e he
  have ek:p.1=k:=uu (hk0 p hp) hk q
  refine Mw (Mw ?_)
  have q:=h false s.heap (Heap.SameBut.refl a s.heap) (by
   unfold we;rw [LU (by rw [<- ek];exact Oq hp)];exact ⟨o,es,ep,t,Z,S,hk0,hn0⟩)
  cases s;exact q
 ·have hin:k ∉ ps.map (·.1):=fun hx=>by
   obtain ⟨p,hp,e⟩:=Ol.mp hx
   exact hno _ (hto p hp) (by rw [<- e];rfl)
  dsimp only
  obtain ⟨j,pre,post,epr,hj,hn,e,hp⟩:=S.tab.free (Lh S hk) hz (fun _=>hashInt k+1) (fun _=>by omega)
  obtain ⟨Z',T',hperm,et⟩:=S.tab.put (x:=Value.int k tk) hj hn e hp
  have hfree:t.freeSlot (hashInt k)=some (j,false):=by
   unfold SetTable.freeSlot;rw [epr];rfl
  have hpl:(t.put j).1.plain=true:=by rw [et];exact S.plain
  have hled:(t.put j).1.led=t.led:=by rw [et]
  have hmask:(t.put j).1.mask=t.mask:=by rw [et]
  have hperm':(Z'.map (·.2)).Perm ((ps++[(k,tk)]).map BG):=by
   refine (hperm.map (·.2)).trans ?_
   rw [Nz,Ou]
   refine List.Perm.trans (List.Perm.cons _ S.perm) ?_
   exact (List.perm_append_singleton _ _).symm
  have hkeys:∀ p∈ps++[(k,tk)],p.1∈ins:=fun p hp'=>by
   rcases Me.mp hp' with q | q
   ·exact hk0 p q
   ·rw [N1] at q;rw [q];exact hk
  have hnd:((ps++[(k,tk)]).map (·.1)).Nodup:=by
   rw [Ou]
   refine OR.mpr ⟨hn0,by simp,fun x hx y hy=>?_⟩
   simp at hy
   rw [hy];rintro rfl;exact hin hx
  have hlen:=lM hkeys hnd
  have hZ':Z'.length=ps.length+1:=by rw [hperm.length_eq,NQ,hZl]
  have hesz:(SetTable.insertAt es (t.put j).2 (hashInt k,Value.int k tk)).size=Z'.length:=T'.size.2
  have hadd:we ps k tk=ps++[(k,tk)]:=by unfold we;rw [LV hin]
  rw [hadd] at h
  rw [Nb,NJ] at hlen
  have hfit:(t.put j).1.fits (SetTable.insertAt es (t.put j).2 (hashInt k,Value.int k tk)).size=true:=by
   unfold SetTable.fits
   rw [T'.fill,T'.size.1,hesz,hmask]
   rcases S.big with ⟨q,q2⟩ | ⟨q,q2⟩ <;> simp [q] <;> omega
  have hlay:layNew t es (hashInt k) (.int k tk)=(SetTable.insertAt es (t.put j).2 (hashInt k,Value.int k tk),(t.put j).1,false,false):=by
   unfold layNew
   rw [hfree]
   dsimp only
   unfold SetTable.orStandIn
   rw [hfit];rfl
  rw [hlay]
  dsimp only
  generalize ht1:(t.put j).1=t1 at *
  generalize hes1:SetTable.insertAt es (t.put j).2 (hashInt k,Value.int k tk)=es1 at *
  have hline:es1.size<=sizeLine:=by rw [hesz,hZ'];exact L5 hlen (by decide)
  refine Mq (Mw ?_)
  refine Mq (Mw ?_)
  rw [hpl]
  simp only [Nn]
  refine Mq (m:=hashByValue 8 (.int k tk)) (Mw ?_)
  simp only [Nn]
  refine Mq (OS S.ho S.hd ?_ hline)
  have hg:(s.heap.update a (Obj.putSet es1 t1)).get? a=some { o with data:=.set es1 (ep+1) t1 }:=by
   have:=NA (Obj.putSet es1 t1) S.ho (by rw [OT es1 t1 S.hd];rfl)
   rw [OT es1 t1 S.hd] at this;exact this
  have hsb1:=N6 s.heap a (Obj.putSet es1 t1)
  have hfill:t1.fill=ps.length+1:=by rw [T'.fill,hZ']
  by_cases hfull:t1.tooFull=true
  ·simp only [hfull, OU, OP, Nn]
   have hm7:t.mask=7/\ps.length=4:=by
    unfold SetTable.tooFull at hfull
    rw [hfill,hmask] at hfull
    have hf:(ps.length+1) * 5 ≥ t.mask * 3:=by simpa using hfull
    rcases S.big with ⟨q,q2⟩ | ⟨q,q2⟩
    ·rw [q] at hf;exact ⟨q,by omega⟩
    ·rw [q] at hf;omega
   have hsz1:es1.size=5:=by rw [hesz,hZ',hm7.2]
   have hgr:SetTable.grown es1.size=20:=by rw [hsz1];rfl
   rw [hgr]
   obtain ⟨t2,order,Z2,er,T2,hp2,hm2,hl2,hpl2,hord⟩:=r9 (t:=t1) (es:=es1) (wanted:=20) (mask:=31) (by rfl) (by rw [hsz1];decide) (fun e' he'=>by
    rw [T'.ents] at he'
    obtain ⟨p,hp',q⟩:=Ol.mp (hperm'.mem_iff.mp he')
    rw [<- q]
    exact vv Co (hkeys p hp'))
   have hZ2:Z2.length=5:=by
    have:=hp2.length_eq
    simp at this
    omega
   have hes2:(order.filterMap (es1[·]?)).size=5:=by rw [T2.size.2,hZ2]
   have hrel:relayAll t1 es1 20=(order.filterMap (es1[·]?),t2,false):=by
    unfold relayAll
    rw [er]
    dsimp only
    have c1:coversAll order es1.size=true:=by
     unfold coversAll
     exact List.isPerm_iff.mpr hord
    have c2:t2.fits (order.filterMap (es1[·]?)).size=true:=by
     unfold SetTable.fits
     rw [T2.fill,T2.size.1,hes2,hm2,hZ2];rfl
    rw [c1,c2];rfl
   rw [hrel]
   dsimp only
   refine Mq (Mq (Mw (Mw ?_)))
   refine Mq (OS hg rfl ?_ (by rw [hes2];decide))
   have hg2:((s.heap.update a (Obj.putSet es1 t1)).update a (Obj.putSet (order.filterMap (es1[·]?)) t2)).get? a=some { o with data:=.set (order.filterMap (es1[·]?)) (ep+1+1) t2 }:=by
    have:=NA (Obj.putSet (order.filterMap (es1[·]?)) t2) hg (by rw [OT _ t2 rfl];rfl)
    rw [OT _ t2 rfl] at this;exact this
   refine Mw (Mw ?_)
   refine h true _ (hsb1.trans (N6 _ a _)) ⟨_,_,_,t2,Z2,⟨hg2,S.ex,rfl,T2,by rw [hpl2];exact hpl,by rw [hl2,hled];exact S.led,.inr ⟨hm2,by omega⟩,?_⟩,hkeys,hnd⟩
   refine hp2.trans ?_
   rw [T'.ents];exact hperm'
  ·have hf : t1.tooFull = false := by simpa using hfull
   simp only [hf,OV,NP,Nl]
   refine Mw (Mw ?_)
   refine h true _ hsb1 ⟨_,_,_,t1,Z',⟨hg,S.ex,rfl,T',hpl,by rw [hled];exact S.led,?_,hperm'⟩,hkeys,hnd⟩
   unfold SetTable.tooFull at hf
   rw [hfill,hmask] at hf
   have hf':¬ ((ps.length+1) * 5 ≥ t.mask * 3):=by simpa using hf
   rw [hmask,hZ']
   rcases S.big with ⟨q,q2⟩ | ⟨q,q2⟩
   ·rw [q] at hf' ⊢;exact .inl ⟨rfl,by omega⟩
   ·rw [q] at hf' ⊢;exact .inr ⟨rfl,by omega⟩
end
end RS
namespace L2
open PySem PySem.Spec PyProof.Rows RS
inductive D where
 | non | bl (b:Bool) | int (i:Int) | str (x:Str) | tup (xs:List D) | frz (xs:List D) | obj (n:Nat)
inductive O where
 | lst (xs:List D) | set (ks:List (List Int)) | iset (ks:List Int) | dic
abbrev aG:=List O
abbrev Ro:=List (Option D)
def F9 (K:W.Frag) (H:Hp) (a:Addr) (xs:List V):Prop:=
 (∃ o, H a = some (.frz o (.lst xs))) \/
  ∃ (o:Obj) (its:Array Value) (n:Nat),K.lookup a=some o/\o.cls=.type "list" /\ o.dict=none/\o.data=.seq its n/\its.size<=sizeLine/\bx xs its.toList
theorem F9.sq {K:W.Frag}{H:Hp}{a:Addr}{xs:List V} (h:F9 K H a xs):ia K H a xs:=by
 rcases h with ⟨o,h⟩ | h
 ·exact .inl (.inr ⟨o,h⟩)
 ·exact .inr h
section
variable (K:W.Frag) (H:Hp) (α:List Addr)
mutual
def aX:D->V->Prop
 | .non,v=>v=.non
 | .bl b,v=>v=.bl b
 | .int i,v=>v=.int i
 | .str x,v=>v=.str x
 | .tup xs,v=>∃ a vs,v=.ref a/\ip K H a vs/\Reps xs vs
 | .frz xs,v=>∃ a vs,v=.ref a/\F9 K H a vs/\Reps xs vs
 | .obj n,v=>∃ a,v=.ref a/\α[n]?=some a
def Reps:List D->List V->Prop
 | [],vs=>vs=[]
 | x::xs,vs=>∃ v r,vs=v::r/\aX x v/\Reps xs r
end
end
structure mN (K:W.Frag) (H H':Hp) (α α':List Addr):Prop where
 tup:∀ a xs,ip K H a xs->ip K H' a xs
 frz:∀ a xs,F9 K H a xs->F9 K H' a xs
 pre:∀ (n:Nat) a,α[n]?=some a->α'[n]?=some a
section
variable {K:W.Frag}{H H' H1 H2:Hp}{α α' α1 α2:List Addr}
theorem mN.refl:mN K H H α α:=⟨fun _ _ h=>h,fun _ _ h=>h,fun _ _ h=>h⟩
theorem mN.trans (a:mN K H H1 α α1) (b:mN K H1 H2 α1 α2):mN K H H2 α α2:=
 ⟨fun c xs h=>b.tup c xs (a.tup c xs h),fun c xs h=>b.frz c xs (a.frz c xs h),fun n c h=>b.pre n c (a.pre n c h)⟩
mutual
theorem aX.mono (e:mN K H H' α α'):∀ {d:D}{v:V},aX K H α d v->aX K H' α' d v
 | .non,_,h=>by simp only [aX] at h ⊢;exact h
 | .bl _,_,h=>by simp only [aX] at h ⊢;exact h
 | .int _,_,h=>by simp only [aX] at h ⊢;exact h
 | .str _,_,h=>by simp only [aX] at h ⊢;exact h
 | .tup xs,_,h=>by
  simp only [aX] at h ⊢
  obtain ⟨a,vs,rfl,h1,h2⟩:=h
  exact ⟨a,vs,rfl,e.tup a vs h1,Reps.mono e h2⟩
 | .frz xs,_,h=>by
  simp only [aX] at h ⊢
  obtain ⟨a,vs,rfl,h1,h2⟩:=h
  exact ⟨a,vs,rfl,e.frz a vs h1,Reps.mono e h2⟩
 | .obj n,_,h=>by
  simp only [aX] at h ⊢
  obtain ⟨a,rfl,h1⟩:=h
  exact ⟨a,rfl,e.pre n a h1⟩
theorem Reps.mono (e:mN K H H' α α'):∀ {ds:List D}{vs:List V},Reps K H α ds vs->Reps K H' α' ds vs
 | [],_,h=>by simp only [Reps] at h ⊢;exact h
 | d::ds,_,h=>by
  simp only [Reps] at h ⊢
  obtain ⟨v,r,rfl,h1,h2⟩:=h
  exact ⟨v,r,rfl,aX.mono e h1,Reps.mono e h2⟩
end
theorem Reps.nil:Reps K H α [] []:=by simp only [Reps]
theorem Reps.cons {d:D}{ds:List D}{v:V}{vs:List V} (h1:aX K H α d v) (h2:Reps K H α ds vs):Reps K H α (d::ds) (v::vs):=by
 simp only [Reps];exact ⟨v,vs,rfl,h1,h2⟩
theorem Reps.length:∀ {ds:List D}{vs:List V},Reps K H α ds vs->vs.length=ds.length
 | [],vs,h=>by simp only [Reps] at h;rw [h];rfl
 | d::ds,vs,h=>by
  simp only [Reps] at h
  obtain ⟨v,r,rfl,h1,h2⟩:=h
  simp [Reps.length h2]
theorem Reps.get:∀ {ds:List D}{vs:List V}{i:Nat}{d:D},Reps K H α ds vs->ds[i]?=some d->∃ v,vs[i]?=some v/\aX K H α d v
 | [],_,_,_,_,e=>by simp at e
 | d::ds,vs,i,x,h,e=>by
  simp only [Reps] at h
  obtain ⟨v,r,rfl,h1,h2⟩:=h
  cases i with
  | zero=>simp at e;subst e;exact ⟨v,rfl,h1⟩
  | succ i=>exact Reps.get (i:=i) h2 (by simpa using e)
theorem Reps.append:∀ {ds es:List D}{vs ws:List V},Reps K H α ds vs->Reps K H α es ws->Reps K H α (ds++es) (vs++ws)
 | [],_,vs,_,h,g=>by simp only [Reps] at h;subst h;exact g
 | d::ds,_,vs,_,h,g=>by
  simp only [Reps] at h
  obtain ⟨v,r,rfl,h1,h2⟩:=h
  exact Reps.cons h1 (Reps.append h2 g)
theorem Reps.take:∀ {ds:List D}{vs:List V} (n:Nat),Reps K H α ds vs->Reps K H α (ds.take n) (vs.take n)
 | [],vs,n,h=>by simp only [Reps] at h;subst h;simpa using Reps.nil
 | d::ds,vs,n,h=>by
  simp only [Reps] at h
  obtain ⟨v,r,rfl,h1,h2⟩:=h
  cases n with
  | zero=>exact Reps.nil
  | succ n=>exact Reps.cons h1 (Reps.take n h2)
theorem Reps.drop:∀ {ds:List D}{vs:List V} (n:Nat),Reps K H α ds vs->Reps K H α (ds.drop n) (vs.drop n)
 | [],vs,n,h=>by simp only [Reps] at h;subst h;simpa using Reps.nil
 | d::ds,vs,n,h=>by
  cases n with
  | zero=>exact h
  | succ n=>
   simp only [Reps] at h
   obtain ⟨v,r,rfl,h1,h2⟩:=h
   exact Reps.drop n h2
theorem Reps.set {d:D}{v:V} (q:aX K H α d v):∀ {ds:List D}{vs:List V} (n:Nat),Reps K H α ds vs->Reps K H α (ds.set n d) (vs.set n v)
 | [],vs,n,h=>by simp only [Reps] at h;subst h;simpa using Reps.nil
 | e::ds,vs,n,h=>by
  simp only [Reps] at h
  obtain ⟨v',r,rfl,h1,h2⟩:=h
  cases n with
  | zero=>exact Reps.cons q h2
  | succ n=>exact Reps.cons h1 (Reps.set q n h2)
theorem Reps.eraseIdx:∀ {ds:List D}{vs:List V} (n:Nat),Reps K H α ds vs->Reps K H α (ds.eraseIdx n) (vs.eraseIdx n)
 | [],vs,n,h=>by simp only [Reps] at h;subst h;simpa using Reps.nil
 | e::ds,vs,n,h=>by
  simp only [Reps] at h
  obtain ⟨v',r,rfl,h1,h2⟩:=h
  cases n with
  | zero=>exact h2
  | succ n=>exact Reps.cons h1 (Reps.eraseIdx n h2)
theorem Reps.one {d:D}{vs:List V} (h:Reps K H α [d] vs):∃ v,vs=[v]/\aX K H α d v:=by
 simp only [Reps] at h
 obtain ⟨v,r,rfl,h1,rfl⟩:=h
 exact ⟨v,rfl,h1⟩
theorem Reps.two {d e:D}{vs:List V} (h:Reps K H α [d,e] vs):∃ v u,vs=[v,u]/\aX K H α d v/\aX K H α e u:=by
 simp only [Reps] at h
 obtain ⟨v,r,rfl,h1,u,r',rfl,h2,rfl⟩:=h
 exact ⟨v,u,rfl,h1,h2⟩
theorem Reps.snoc {d:D}{ds:List D}{v:V}{vs:List V} (h:Reps K H α ds vs) (q:aX K H α d v):Reps K H α (ds++[d]) (vs++[v]):=h.append (Reps.cons q Reps.nil)
theorem Reps.ints:∀ {ns:List Int}{vs:List V},Reps K H α (ns.map D.int) vs->vs=ns.map V.int
 | [],vs,h=>by simp only [Ny,Reps] at h;exact h
 | n::ns,vs,h=>by
  simp only [Nz,Reps] at h
  obtain ⟨v,r,rfl,h1,h2⟩:=h
  simp only [aX] at h1
  rw [h1,Reps.ints h2];rfl
theorem jQ:∀ (ns:List Int),Reps K H α (ns.map D.int) (ns.map V.int)
 | []=>Reps.nil
 | n::ns=>Reps.cons (by simp only [aX]) (jQ ns)
theorem aO {xs:List D}{v:V}:aX K H α (.tup xs) v↔∃ a vs,v=.ref a/\ip K H a vs/\Reps K H α xs vs:=by simp only [aX]
theorem bM {xs:List D}{v:V}:aX K H α (.frz xs) v↔∃ a vs,v=.ref a/\F9 K H a vs/\Reps K H α xs vs:=by simp only [aX]
theorem ba {n:Nat}{v:V}:aX K H α (.obj n) v↔∃ a,v=.ref a/\α[n]?=some a:=by simp only [aX]
theorem ax {n:Int}{v:V}:aX K H α (.int n) v↔v=.int n:=by simp only [aX]
theorem bw {n:Bool}{v:V}:aX K H α (.bl n) v↔v=.bl n:=by simp only [aX]
theorem de {n:Str}{v:V}:aX K H α (.str n) v↔v=.str n:=by simp only [aX]
theorem cI {v:V}:aX K H α .non v↔v=.non:=by simp only [aX]
end
def wj (K:W.Frag) (w:World) (H:Hp) (α:List Addr):O->Addr->Prop
 | .lst xs,a=>∃ vs,H a=some (.lst vs)/\Reps K H α xs vs
 | .set ks,a=>∃ ps:List KP,ps.map (·.1)=ks/\H a=some (.ext fun h=>fF w h a ps)/\(∀ p∈ps,p.1∈prs)/\(ps.map (·.1)).Nodup/\∀ p∈ps,ip K H p.2 (p.1.map V.int)
 | .iset ks,a=>∃ ps:List KI,ps.map (·.1)=ks/\H a=some (.ext fun h=>dw w h a ps)/\ks.length<=6
 | .dic,a=>H a=some (.dK [])
structure jA (K:W.Frag) (w:World) (H:Hp) (α:List Addr) (μ:aG):Prop where
 len:α.length=μ.length
 nd:α.Nodup
 ob:∀ (n:Nat) o a,μ[n]?=some o->α[n]?=some a->wj K w H α o a
section
variable {K:W.Frag}{w:World}{H H':Hp}{α α':List Addr}{μ:aG}
theorem wj.live {o:O}{a:Addr} (h:wj K w H α o a):H a≠none:=by
 cases o with
 | lst xs=>obtain ⟨vs,e,_⟩:=h;rw [e];exact fun z=>by cases z
 | set ks=>obtain ⟨ps,_,e,_⟩:=h;rw [e];exact fun z=>by cases z
 | iset ks=>obtain ⟨ps,_,e,_⟩:=h;rw [e];exact fun z=>by cases z
 | dic=>have e:H a=some (.dK []):=h;rw [e];exact fun z=>by cases z
theorem wj.mono {o:O}{a:Addr} (h:wj K w H α o a) (e:mN K H H' α α') (ha:H' a=H a):wj K w H' α' o a:=by
 cases o with
 | lst xs=>obtain ⟨vs,q,r⟩:=h;exact ⟨vs,ha.trans q,r.mono e⟩
 | set ks=>obtain ⟨ps,h1,q,h2,h3,h4⟩:=h;exact ⟨ps,h1,ha.trans q,h2,h3,fun p hp=>e.tup _ _ (h4 p hp)⟩
 | iset ks=>obtain ⟨ps,h1,q,h2⟩:=h;exact ⟨ps,h1,ha.trans q,h2⟩
 | dic=>exact ha.trans h
theorem jA.at (S:jA K w H α μ) {n:Nat}{o:O} (e:μ[n]?=some o):∃ a,α[n]?=some a/\wj K w H α o a:=by
 have hn:n<μ.length:=(Mg.mp e).1
 have hn':n<α.length:=by rw [S.len];exact hn
 exact ⟨α[n],Pp hn',S.ob n o _ e (Pp hn')⟩
theorem jA.live (S:jA K w H α μ) {a:Addr} (h:a∈α):H a≠none:=by
 obtain ⟨n,hn,e⟩:=Pw h
 have hm:n<μ.length:=by rw [<- S.len];exact hn
 exact (S.ob n _ a (Pp hm) (by rw [<- e];exact Pp hn)).live
theorem jA.fresh (S:jA K w H α μ) {p:Addr} (h:H p=none):p ∉ α:=fun z=>S.live z h
theorem jA.same (S:jA K w H α μ) (e:mN K H H' α α) (h:∀ a,H a≠none->H' a=H a):jA K w H' α μ:=
 ⟨S.len,S.nd,fun n o a h1 h2=>(S.ob n o a h1 h2).mono e (h a (S.ob n o a h1 h2).live)⟩
theorem cF {p:Addr}{o:HO} (h:H p=none):mN K H (dk H p o) α α:=by
 refine ⟨fun a xs q=>?_,fun a xs q=>?_,fun _ _ z=>z⟩
 ·rcases q with (q | ⟨x, q⟩) | q
  ·exact .inl (.inl (by rw [cu (eK q h)];exact q))
  ·exact .inl (.inr ⟨x,by rw [cu (eK q h)];exact q⟩)
  ·exact .inr q
 ·rcases q with ⟨x, q⟩ | q
  ·exact .inl ⟨x,by rw [cu (eK q h)];exact q⟩
  ·exact .inr q
theorem iV {p:Addr}{vs:List V}{o:HO} (h:H p=some (.lst vs)):mN K H (dk H p o) α α:=by
 refine ⟨fun a xs q=>?_,fun a xs q=>?_,fun _ _ z=>z⟩
 ·rcases q with (q | ⟨x, q⟩) | q
  ·exact .inl (.inl (by rw [cu (BW q h (by intro z;cases z))];exact q))
  ·exact .inl (.inr ⟨x,by rw [cu (BW q h (by intro z;cases z))];exact q⟩)
  ·exact .inr q
 ·rcases q with ⟨x, q⟩ | q
  ·exact .inl ⟨x,by rw [cu (BW q h (by intro z;cases z))];exact q⟩
  ·exact .inr q
theorem og (β:List Addr):mN K H H α (α++β):=⟨fun _ _ h=>h,fun _ _ h=>h,fun n a h=>by rw [MY (Mg.mp h).1];exact h⟩
theorem jA.tuple (S:jA K w H α μ) {p:Addr}{vs:List V} (h:H p=none):jA K w (dk H p (.tup vs)) α μ:=
 S.same (cF h) fun a ha=>cu fun z=>ha (by rw [z];exact h)
theorem jA.more (S:jA K w H α μ) {p:Addr}{o:O}{ho:HO} (h:H p=none) (q:wj K w (dk H p ho) (α++[p]) o p):jA K w (dk H p ho) (α++[p]) (μ++[o]):=by
 refine ⟨by simp [S.len],?_,fun n o' a h1 h2=>?_⟩
 ·rw [OR]
  exact ⟨S.nd,by simp,fun x hx y hy z=>by simp at hy;subst hy;subst z;exact S.fresh h hx⟩
 ·by_cases hn : n < μ.length
  ·rw [MY hn] at h1
   rw [MY (by rw [S.len];exact hn)] at h2
   exact (S.ob n o' a h1 h2).mono ((cF h).trans (og [p])) (cu fun z=>(S.ob n o' a h1 h2).live (by rw [z];exact h))
  ·have hn':n=μ.length:=by
    have:=(Mg.mp h1).1
    simp at this;omega
   subst hn'
   rw [MX (MD _)] at h1
   rw [MX (by rw [S.len];exact MD _),S.len] at h2
   simp at h1 h2
   subst h1;subst h2
   exact q
theorem jA.put (S:jA K w H α μ) {n:Nat}{a:Addr}{xs ys:List D}{us vs:List V} (h1:μ[n]?=some (.lst xs)) (h2:α[n]?=some a) (h3:H a=some (.lst us)) (q:Reps K H α ys vs):jA K w (dk H a (.lst vs)) α (μ.set n (.lst ys)):=by
 have e:=iV (K:=K) (α:=α) (o:=.lst vs) h3
 refine ⟨by simp [S.len],S.nd,fun m o b g1 g2=>?_⟩
 have hn:n<μ.length:=(Mg.mp h1).1
 by_cases hm:m=n
 ·subst hm
  rw [Mi hn] at g1
  cases g1
  rw [h2] at g2;cases g2
  exact ⟨vs,dy,q.mono e⟩
 ·rw [Mj (fun z => hm z.symm)] at g1
  refine (S.ob m o b g1 g2).mono e (cu fun z=>hm ?_)
  subst z
  have i1:=(Mg.mp g2)
  have i2:=(Mg.mp h2)
  obtain ⟨l1,e1⟩:=i1
  obtain ⟨l2,e2⟩:=i2
  exact (Mh S.nd).mp (e1.trans e2.symm)
end
structure du (K:W.Frag) (H:Hp) (α:List Addr) (ρ:Ro) (σ:St):Prop where
 len:ρ.length=σ.length
 at':∀ (i:Nat) d,ρ[i]?=some (some d)->∃ v,σ[i]?=some (some v)/\aX K H α d v
theorem du.mono {K:W.Frag}{H H':Hp}{α α':List Addr}{ρ:Ro}{σ:St} (e:mN K H H' α α') (R:du K H α ρ σ):du K H' α' ρ σ:=
 ⟨R.len,fun i d h=>let ⟨v,h1,h2⟩:=R.at' i d h;⟨v,h1,h2.mono e⟩⟩
theorem du.set {K:W.Frag}{H:Hp}{α:List Addr}{ρ:Ro}{σ:St}{d:D}{v:V} (R:du K H α ρ σ) (i:Nat) (q:aX K H α d v):du K H α (ρ.set i (some d)) (σ.set i (some v)):=by
 refine ⟨by simp [R.len],fun j d' h=>?_⟩
 by_cases hj:j=i
 ·subst hj
  have hl:j<ρ.length:=by have:=(Mg.mp h).1;simpa using this
  rw [Mi hl] at h
  cases h
  exact ⟨v,by rw [Mi (by rw [<- R.len];exact hl)],q⟩
 ·rw [Mj (fun z => hj z.symm)] at h ⊢
  exact R.at' j d' h
structure DX where
 cls:Str
 args:List D
inductive ak (β:Type) where
 | ok (a:β) (μ:aG) | exc (x:DX) (μ:aG) | bad
def ak.bind {β γ:Type} (o:ak β) (g:β->aG->ak γ):ak γ:=match o with
 | .ok a μ=>g a μ
 | .exc x μ=>.exc x μ
 | .bad=>.bad
@[simp] theorem aa {β γ:Type}{a:β}{μ:aG}{g:β->aG->ak γ}:(ak.ok a μ).bind g=g a μ:=Px (Py _)
inductive SO where
 | next (ρ:Ro) (μ:aG) | ret (d:D) (μ:aG) | brk (ρ:Ro) (μ:aG) | cnt (ρ:Ro) (μ:aG) | exc (x:DX) (μ:aG) | bad
def ak.bindS {β:Type} (o:ak β) (g:β->aG->SO):SO:=match o with
 | .ok a μ=>g a μ
 | .exc x μ=>.exc x μ
 | .bad=>.bad
@[simp] theorem ae {β:Type}{a:β}{μ:aG}{g:β->aG->SO}:(ak.ok a μ).bindS g=g a μ:=Px (Py _)
def SO.bind (o:SO) (g:Ro->aG->SO):SO:=match o with
 | .next ρ μ=>g ρ μ
 | o=>o
structure Pa where
 K:W.Frag
 w:World
 xw:DX->aG->Prop
abbrev Pa.S (p:Pa):=jA p.K p.w
abbrev Pa.X (p:Pa):=mN p.K
abbrev Pa.R (p:Pa):=aX p.K
abbrev Pa.Rs (p:Pa):=Reps p.K
def aK {β:Type} (p:Pa) (H:Hp) (α:List Addr) (o:ak β) (R:β->aG->Hp->List Addr->Prop):Prop:=match o with
 | .ok a μ'=>∀ H' α',p.X H H' α α'->p.S H' α' μ'->R a μ' H' α'
 | .exc x μ'=>p.xw x μ'
 | .bad=>False
def gn (p:Pa) (H:Hp) (α:List Addr) (o:SO) (D:qS):Prop:=match o with
 | .next ρ' μ'=>∀ H' α' σ',p.X H H' α α'->p.S H' α' μ'->du p.K H' α' ρ' σ'->D.nx σ' H'
 | .brk ρ' μ'=>∀ H' α' σ',p.X H H' α α'->p.S H' α' μ'->du p.K H' α' ρ' σ'->D.bk σ' H'
 | .cnt ρ' μ'=>∀ H' α' σ',p.X H H' α α'->p.S H' α' μ'->du p.K H' α' ρ' σ'->D.ct σ' H'
 | .ret d μ'=>∀ H' α' v,p.X H H' α α'->p.S H' α' μ'->p.R H' α' d v->D.rt v H'
 | .exc x μ'=>p.xw x μ'
 | .bad=>False
section
variable {p:Pa}{H H1:Hp}{α α1:List Addr}{β γ:Type}
theorem aK.imp {o:ak β}{R R':β->aG->Hp->List Addr->Prop} (h:aK p H α o R) (k:∀ a μ' H' α',p.X H H' α α'->p.S H' α' μ'->R a μ' H' α'->R' a μ' H' α'):aK p H α o R':=by
 cases o with
 | ok a μ=>exact fun H' α' e s=>k a μ H' α' e s (h H' α' e s)
 | exc x μ=>exact h
 | bad=>exact h
theorem aK.from {o:ak β}{R:β->aG->Hp->List Addr->Prop} (e:p.X H H1 α α1) (h:aK p H α o R):aK p H1 α1 o R:=by
 cases o with
 | ok a μ=>exact fun H' α' e' s=>h H' α' (e.trans e') s
 | exc x μ=>exact h
 | bad=>exact h
theorem aK.bind {o:ak β}{g:β->aG->ak γ}{R:γ->aG->Hp->List Addr->Prop} (h:aK p H α (o.bind g) R):aK p H α o (fun a μ1 H1 α1=>aK p H1 α1 (g a μ1) R):=by
 cases o with
 | ok a μ=>exact fun H' α' e s=>aK.from e h
 | exc x μ=>exact h
 | bad=>exact h
theorem aK.now {a:β}{μ:aG}{R:β->aG->Hp->List Addr->Prop} (h:aK p H α (.ok a μ) R) (s:p.S H α μ):R a μ H α:=h H α mN.refl s
theorem gn.from {o:SO}{D:qS} (e:p.X H H1 α α1) (h:gn p H α o D):gn p H1 α1 o D:=by
 cases o with
 | next ρ μ=>exact fun H' α' σ' e' s r=>h H' α' σ' (e.trans e') s r
 | brk ρ μ=>exact fun H' α' σ' e' s r=>h H' α' σ' (e.trans e') s r
 | cnt ρ μ=>exact fun H' α' σ' e' s r=>h H' α' σ' (e.trans e') s r
 | ret d μ=>exact fun H' α' v e' s r=>h H' α' v (e.trans e') s r
 | exc x μ=>exact h
 | bad=>exact h
theorem aK.bindS {o:ak β}{g:β->aG->SO}{D:qS} (h:gn p H α (o.bindS g) D):aK p H α o (fun a μ1 H1 α1=>gn p H1 α1 (g a μ1) D):=by
 cases o with
 | ok a μ=>exact fun H' α' e s=>gn.from e h
 | exc x μ=>exact h
 | bad=>exact h
end
abbrev ME:=Ro->aG->ak D
abbrev MT:=Ro->aG->ak Bool
abbrev MA:=Ro->aG->ak (List D)
abbrev MS:=Ro->aG->SO
abbrev MG:=D->Ro->aG->ak Ro
abbrev RV (p:Pa) (Q:VK):D->aG->Hp->List Addr->Prop:=fun d _ H' α'=>∀ v,p.R H' α' d v->Q v H'
def tD (p:Pa) (f:ME):TE:=fun σ H Q=>∃ α ρ μ,p.S H α μ/\du p.K H α ρ σ/\aK p H α (f ρ μ) (RV p Q)
def i9 (p:Pa) (f:MT):TT:=fun σ H Q=>∃ α ρ μ,p.S H α μ/\du p.K H α ρ σ/\aK p H α (f ρ μ) (fun b _ H' _=>Q b H')
def pK (p:Pa) (f:MA):TA:=fun σ H Q=>∃ α ρ μ,p.S H α μ/\du p.K H α ρ σ/\aK p H α (f ρ μ) (fun ds _ H' α'=>∀ vs,p.Rs H' α' ds vs->Q vs H')
def ja (p:Pa) (f:MS):TS:=fun D σ H=>∃ α ρ μ,p.S H α μ/\du p.K H α ρ σ/\gn p H α (f ρ μ) D
def pJ (p:Pa) (g:MG):TG:=fun v σ H Q=>∃ α ρ μ d,p.S H α μ/\du p.K H α ρ σ/\p.R H α d v/\aK p H α (g d ρ μ) (fun ρ' _ H' α'=>∀ σ',du p.K H' α' ρ' σ'->Q σ' H')
theorem PE.weak {X:Cx}{e:Expr}{t t':TE} (h:PE X e t) (k:∀ σ H Q,t' σ H Q->t σ H Q):PE X e t':=fun pins s σ H Q I q=>h pins s σ H Q I (k σ H Q q)
theorem PT.weak {X:Cx}{e:Expr}{t t':TT} (h:PT X e t) (k:∀ σ H Q,t' σ H Q->t σ H Q):PT X e t':=fun pins s σ H Q I q=>h pins s σ H Q I (k σ H Q q)
theorem PW.weak {X:Cx}{e:Expr}{t t':TT} (h:PW X e t) (k:∀ σ H Q,t' σ H Q->t σ H Q):PW X e t':=fun wh pins s σ H Q I q=>h wh pins s σ H Q I (k σ H Q q)
theorem PA.weak {X:Cx}{e:List Expr}{t t':TA} (h:PA X e t) (k:∀ σ H Q,t' σ H Q->t σ H Q):PA X e t':=fun pos pins s σ H Q I q=>h pos pins s σ H Q I (k σ H Q q)
theorem PS.weak {X:Cx}{e:Stmt}{t t':TS} (h:PS X e t) (k:∀ D σ H,t' D σ H->t D σ H):PS X e t':=fun pins s σ H Q I q=>h pins s σ H Q I (k Q σ H q)
theorem lp.weak {X:Cx}{e:List Stmt}{t t':TS} (h:lp X e t) (k:∀ D σ H,t' D σ H->t D σ H):lp X e t':=fun pins s σ H Q I q=>h pins s σ H Q I (k Q σ H q)
def ag (i:Nat):ME:=fun ρ μ=>match ρ[i]? with
 | some (some d)=>.ok d μ
 | _=>.bad
def cC (d:D):ME:=fun _ μ=>.ok d μ
def au (op:D->D->aG->ak D) (fa fb:ME):ME:=fun ρ μ=>(fa ρ μ).bind fun a μ1=>(fb ρ μ1).bind fun b μ2=>op a b μ2
def sW (op:D->aG->ak D) (fa:ME):ME:=fun ρ μ=>(fa ρ μ).bind fun a μ1=>op a μ1
def av:MA:=fun _ μ=>.ok [] μ
def af (fa:ME) (fr:MA):MA:=fun ρ μ=>(fa ρ μ).bind fun a μ1=>(fr ρ μ1).bind fun r μ2=>.ok (a::r) μ2
def aA (f:List D->aG->ak D) (fa:MA):ME:=fun ρ μ=>(fa ρ μ).bind f
def bN (fa:MA):ME:=aA (fun ds μ=>if ds.length<=sizeLine then .ok (.tup ds) μ else .bad) fa
def eF (fa:MA):ME:=aA (fun ds μ=>if ds.length<=sizeLine then .ok (.obj μ.length) (μ++[.lst ds]) else .bad) fa
def Bp:D->aG->ak Bool
 | .bl b,μ=>.ok b μ
 | _,_=>.bad
def gA (f:ME):MT:=fun ρ μ=>(f ρ μ).bind Bp
def jG (f g:MT):MT:=fun ρ μ=>(f ρ μ).bind fun b μ1=>if b=true then g ρ μ1 else .ok false μ1
def oO (f g:MT):MT:=fun ρ μ=>(f ρ μ).bind fun b μ1=>if b=true then .ok true μ1 else g ρ μ1
def jh (f:MT):MT:=fun ρ μ=>(f ρ μ).bind fun b μ1=>.ok (!b) μ1
def fE (f g:ME):ME:=fun ρ μ=>(f ρ μ).bind fun a μ1=>(Bp a μ1).bind fun b μ2=>if b=true then g ρ μ2 else .ok (.bl false) μ2
def D1 (f g:ME):ME:=fun ρ μ=>(f ρ μ).bind fun a μ1=>(Bp a μ1).bind fun b μ2=>if b=true then .ok (.bl true) μ2 else g ρ μ2
def wC (f:ME):ME:=fun ρ μ=>(f ρ μ).bind fun a μ1=>(Bp a μ1).bind fun b μ2=>.ok (.bl (!b)) μ2
def tV (p:Pa) (op:D->D->aG->ak D) (r:R2):Prop:=∀ a b v y H α μ Q,p.S H α μ->p.R H α a v->p.R H α b y->aK p H α (op a b μ) (RV p Q)->r v y H Q
def Lx (p:Pa) (op:D->aG->ak D) (r:V->Hp->VK->Prop):Prop:=∀ a v H α μ Q,p.S H α μ->p.R H α a v->aK p H α (op a μ) (RV p Q)->r v H Q
def yt (p:Pa) (f:List D->aG->ak D) (r:List V->Hp->VK->Prop):Prop:=∀ ds vs H α μ Q,p.S H α μ->p.Rs H α ds vs->aK p H α (f ds μ) (RV p Q)->r vs H Q
section
variable {p:Pa}
theorem rC {d:D}{μ:aG}{H:Hp}{α:List Addr}{R:Bool->aG->Hp->List Addr->Prop}{v:V} (h:aK p H α (Bp d μ) R) (r:p.R H α d v) (s:p.S H α μ):∃ b,d=.bl b/\v=.bl b/\R b μ H α:=by
 cases d with
 | bl b=>exact ⟨b,rfl,bw.mp r,h.now s⟩
 | non=>exact h.elim
 | int i=>exact h.elim
 | str x=>exact h.elim
 | tup xs=>exact h.elim
 | frz xs=>exact h.elim
 | obj n=>exact h.elim
variable {X:Cx}{a b c:Expr}{es:List Expr}{fa fb fc:ME}{pos:Pos}
theorem He {i:Nat}{x:Str} (h:PE X (.Name x pos) (Jh i)):PE X (.Name x pos) (tD p (ag i)):=h.weak fun σ H Q ⟨α,ρ,μ,S,R,P⟩=>by
 unfold ag at P
 cases e:ρ[i]? with
 | none=>rw [e] at P;exact P.elim
 | some o=>
  rw [e] at P
  cases o with
  | none=>exact P.elim
  | some d=>
   obtain ⟨v,h1,h2⟩:=R.at' i d e
   exact ⟨v,h1,P.now S v h2⟩
theorem BA {e:Expr}{v:V}{d:D} (h:PE X e (tC v)) (r:∀ H α,p.R H α d v):PE X e (tD p (cC d)):=h.weak fun σ H Q ⟨α,ρ,μ,S,R,P⟩=>P.now S v (r H α)
theorem oQ {op:Operator}{o:D->D->aG->ak D}{r:R2} (ho:lg X (binaryOp op) r) (hd:tV p o r) (ha:PE X a (tD p fa)) (hb:PE X b (tD p fb)):PE X (.BinOp a op b pos) (tD p (au o fa fb)):=
 (J5 ho ha hb).weak fun σ H Q ⟨α,ρ,μ,S,R,P⟩=>⟨α,ρ,μ,S,R,P.bind.imp fun x μ1 H1 α1 X1 S1 P1 v rv=>⟨α1,ρ,μ1,S1,R.mono X1,P1.bind.imp fun y μ2 H2 α2 X2 S2 P2 u ru=>hd x y v u H2 α2 μ2 Q S2 (rv.mono X2) ru P2⟩⟩
theorem Hj {op:CmpOp}{o:D->D->aG->ak D}{r:R2} (ho:lg X (compareOp op) r) (hd:tV p o r) (ha:PE X a (tD p fa)) (hb:PE X b (tD p fb)) (hm:behindInMarks op b=false):PE X (.Compare a [op] [b] pos) (tD p (au o fa fb)):=
 (E2 ho ha hb hm).weak fun σ H Q ⟨α,ρ,μ,S,R,P⟩=>⟨α,ρ,μ,S,R,P.bind.imp fun x μ1 H1 α1 X1 S1 P1 v rv=>⟨α1,ρ,μ1,S1,R.mono X1,P1.bind.imp fun y μ2 H2 α2 X2 S2 P2 u ru=>hd x y v u H2 α2 μ2 Q S2 (rv.mono X2) ru P2⟩⟩
theorem GX {op:CmpOp}{o:D->D->aG->ak D}{r:R2} (ho:lg X (compareOp op) r) (hd:tV p o r) (ha:PE X a (tD p fa)) (hb:PE X b (tD p fb)) (hm:behindInMarks op b=false):PT X (.Compare a [op] [b] pos) (i9 p (gA (au o fa fb))):=
 (EN ho ha hb hm).weak fun σ H Q ⟨α, ρ, μ, S, R, P⟩ => ⟨α, ρ, μ, S, R, P.bind.bind.imp fun x μ1 H1 α1 X1 S1 P1 v rv => ⟨α1, ρ, μ1, S1, R.mono X1, P1.bind.imp fun y μ2 H2 α2 X2 S2 P2 u ru =>
  hd x y v u H2 α2 μ2 _ S2 (rv.mono X2) ru (P2.imp fun d μ3 H3 α3 X3 S3 P3 z rz=>by
   obtain ⟨k,_,e,q⟩:=rC P3 rz S3
   exact ⟨k,e,q⟩)⟩⟩
theorem JU {op:UnaryOp}{o:D->aG->ak D}{r:V->Hp->VK->Prop} (ho:Kw X (unaryOp op) r) (hd:Lx p o r) (ha:PE X a (tD p fa)):PE X (.UnaryOp op a pos) (tD p (sW o fa)):=
 (J3 ho ha).weak fun σ H Q ⟨α,ρ,μ,S,R,P⟩=>⟨α,ρ,μ,S,R,P.bind.imp fun x μ1 H1 α1 X1 S1 P1 v rv=>hd x v H1 α1 μ1 Q S1 rv P1⟩
theorem Hl:PA X [] (pK p av):=yz.weak fun σ H Q ⟨α,ρ,μ,S,R,P⟩=>P.now S [] Reps.nil
theorem EE {fr:MA} (ha:PE X a (tD p fa)) (hr:PA X es (pK p fr)) (hs:starEach (a::es) X.env=(false,eval a X.env)::starEach es X.env):PA X (a::es) (pK p (af fa fr)):=
 (qA ha hr hs).weak fun σ H Q ⟨α,ρ,μ,S,R,P⟩=>⟨α,ρ,μ,S,R,P.bind.imp fun x μ1 H1 α1 X1 S1 P1 v rv=>⟨α1,ρ,μ1,S1,R.mono X1,P1.bind.imp fun y μ2 H2 α2 X2 S2 P2 us ru=>P2.now S2 _ (Reps.cons (rv.mono X2) ru)⟩⟩
theorem Hf {k:Nat}{fr:MA} (h:PA X es (pK p fr)):PE X (.Tuple es k pos) (tD p (bN fr)):=
 (HE h).weak fun σ H Q ⟨α, ρ, μ, S, R, P⟩ => ⟨α, ρ, μ, S, R, P.bind.imp fun ds μ1 H1 α1 X1 S1 P1 vs rv => by
  by_cases hl:ds.length<=sizeLine
  ·rw [LU hl] at P1
   refine ⟨by rw [rv.length];exact hl,fun q hq=>?_⟩
   exact P1 _ _ (cF hq) (S1.tuple hq) _ (aO.mpr ⟨q,vs,rfl,ip.of dy,rv.mono (cF hq)⟩)
  ·rw [LV hl] at P1
   exact P1.elim⟩
theorem dz {H:Hp}{α:List Addr}{μ:aG}{ds:List D}{vs:List V}{q:Addr} (S:p.S H α μ) (hq:H q=none) (rv:p.Rs H α ds vs) :
  p.X H (dk H q (.lst vs)) α (α++[q])/\p.S (dk H q (.lst vs)) (α++[q]) (μ++[.lst ds])/\p.R (dk H q (.lst vs)) (α++[q]) (.obj μ.length) (.ref q):=by
 have X1:p.X H (dk H q (.lst vs)) α (α++[q]):=(cF hq).trans (og [q])
 exact ⟨X1,S.more hq ⟨vs,dy,rv.mono X1⟩,ba.mpr ⟨q,rfl,by rw [<- S.len];simp⟩⟩
theorem Hh {fr:MA} (h:PA X es (pK p fr)):PE X (.List es pos) (tD p (eF fr)):=
 (HJ h).weak fun σ H Q ⟨α, ρ, μ, S, R, P⟩ => ⟨α, ρ, μ, S, R, P.bind.imp fun ds μ1 H1 α1 X1 S1 P1 vs rv => by
  by_cases hl:ds.length<=sizeLine
  ·rw [LU hl] at P1
   refine ⟨by rw [rv.length];exact hl,fun q hq=>?_⟩
   obtain ⟨x1,x2,x3⟩:=dz S1 hq rv
   exact P1 _ _ x1 x2 _ x3
  ·rw [LV hl] at P1
   exact P1.elim⟩
variable {ft gt:MT}{rest:List Expr}
theorem GV (ha:PT X a (i9 p ft)) (hb:PW X (.BoolOp .And (b::rest) pos) (i9 p gt)):PW X (.BoolOp .And (a::b::rest) pos) (i9 p (jG ft gt)):=
 (Hr ha hb).weak fun σ H Q ⟨α, ρ, μ, S, R, P⟩ => ⟨α, ρ, μ, S, R, P.bind.imp fun k μ1 H1 α1 X1 S1 P1 => by
  cases k with
  | true=>rw [LU rfl] at P1 ⊢;exact ⟨α1,ρ,μ1,S1,R.mono X1,P1⟩
  | false=>rw [LV Mu] at P1 ⊢;exact P1.now S1⟩
theorem JP (ha:PT X a (i9 p ft)) (hb:PW X (.BoolOp .Or (b::rest) pos) (i9 p gt)):PW X (.BoolOp .Or (a::b::rest) pos) (i9 p (oO ft gt)):=
 (J1 ha hb).weak fun σ H Q ⟨α, ρ, μ, S, R, P⟩ => ⟨α, ρ, μ, S, R, P.bind.imp fun k μ1 H1 α1 X1 S1 P1 => by
  cases k with
  | true=>rw [LU rfl] at P1 ⊢;exact P1.now S1
  | false=>rw [LV Mu] at P1 ⊢;exact ⟨α1,ρ,μ1,S1,R.mono X1,P1⟩⟩
theorem GW (ha:PT X a (i9 p ft)):PT X (.UnaryOp .Not a pos) (i9 p (jh ft)):=
 (Hs ha).weak fun σ H Q ⟨α,ρ,μ,S,R,P⟩=>⟨α,ρ,μ,S,R,P.bind.imp fun k μ1 H1 α1 X1 S1 P1=>P1.now S1⟩
theorem Hk (ha:PE X a (tD p fa)) (hb:PE X (.BoolOp .And (b::rest) pos) (tD p fb)):PE X (.BoolOp .And (a::b::rest) pos) (tD p (fE fa fb)):=
 (HL ha hb).weak fun σ H Q ⟨α, ρ, μ, S, R, P⟩ => ⟨α, ρ, μ, S, R, P.bind.imp fun d μ1 H1 α1 X1 S1 P1 v rv => by
  obtain ⟨k,_,e,q⟩:=rC P1.bind rv S1
  refine ⟨k,e,?_⟩
  cases k with
  | true=>rw [LU rfl] at q ⊢;exact ⟨α1,ρ,μ1,S1,R.mono X1,q⟩
  | false=>rw [LV Mu] at q ⊢;exact q.now S1 _ (bw.mpr rfl)⟩
theorem JV (ha:PE X a (tD p fa)) (hb:PE X (.BoolOp .Or (b::rest) pos) (tD p fb)):PE X (.BoolOp .Or (a::b::rest) pos) (tD p (D1 fa fb)):=
 (J4 ha hb).weak fun σ H Q ⟨α, ρ, μ, S, R, P⟩ => ⟨α, ρ, μ, S, R, P.bind.imp fun d μ1 H1 α1 X1 S1 P1 v rv => by
  obtain ⟨k,_,e,q⟩:=rC P1.bind rv S1
  refine ⟨k,e,?_⟩
  cases k with
  | true=>rw [LU rfl] at q ⊢;exact q.now S1 _ (bw.mpr rfl)
  | false=>rw [LV Mu] at q ⊢;exact ⟨α1,ρ,μ1,S1,R.mono X1,q⟩⟩
theorem Hg (ha:PE X a (tD p fa)):PE X (.UnaryOp .Not a pos) (tD p (wC fa)):=
 (HH ha).weak fun σ H Q ⟨α, ρ, μ, S, R, P⟩ => ⟨α, ρ, μ, S, R, P.bind.imp fun d μ1 H1 α1 X1 S1 P1 v rv => by
  obtain ⟨k,_,e,q⟩:=rC P1.bind rv S1
  exact ⟨k,e,q.now S1 _ (bw.mpr rfl)⟩⟩
theorem CZ {id:String}{x:Str}{px:Pos}{f:List D->aG->ak D}{fr:MA}{r:List V->Hp->VK->Prop} (hc:dv X (.builtin id) r) (hd:yt p f r) (hg:Gl X x) (hm:X.mg x=none) (hv:bootBuiltins x=some (.builtin id)) (ha:PA X (a::es) (pK p fr))
  (hn:x ≠ "__name__") (hdb:(x == ("__debug__" : Str))=false) (he:starEach (a::es) X.env=(false,eval a X.env)::starEach es X.env) (hpl:(backTo pos (starEach es X.env)).any (·.1)=false):PE X (.Call (.Name x px) (a::es) [] pos) (tD p (aA f fr)):=
 (xa hc hg hm hv ha hn hdb he hpl).weak fun σ H Q ⟨α,ρ,μ,S,R,P⟩=>⟨α,ρ,μ,S,R,P.bind.imp fun ds μ1 H1 α1 X1 S1 P1 vs rv=>hd ds vs H1 α1 μ1 Q S1 rv P1⟩
theorem AF {T:String}{x:Str}{px:Pos}{f:List D->aG->ak D}{fr:MA}{r:List V->Hp->VK->Prop} (hc:dv X (.type T) r) (hd:yt p f r) (hg:Gl X x) (hm:X.mg x=none) (hv:bootBuiltins x=some (.type T)) (ha:PA X (a::es) (pK p fr))
  (hn:x ≠ "__name__") (hdb:(x == ("__debug__" : Str))=false) (he:starEach (a::es) X.env=(false,eval a X.env)::starEach es X.env) (hpl:(backTo pos (starEach es X.env)).any (·.1)=false):PE X (.Call (.Name x px) (a::es) [] pos) (tD p (aA f fr)):=
 (uf hc hg hm hv ha hn hdb he hpl).weak fun σ H Q ⟨α,ρ,μ,S,R,P⟩=>⟨α,ρ,μ,S,R,P.bind.imp fun ds μ1 H1 α1 X1 S1 P1 vs rv=>hd ds vs H1 α1 μ1 Q S1 rv P1⟩
end
def bX (f:ME):MS:=fun ρ μ=>(f ρ μ).bindS fun d μ'=>.ret d μ'
def cS:MS:=fun ρ μ=>.next ρ μ
def GB:MS:=fun _ _=>.bad
def aZ (f g:MS):MS:=fun ρ μ=>(f ρ μ).bind g
def kx (c:MT) (f g:MS):MS:=fun ρ μ=>(c ρ μ).bindS fun b μ1=>if b=true then f ρ μ1 else g ρ μ1
def bp (f:ME) (g:MG):MS:=fun ρ μ=>(f ρ μ).bindS fun d μ1=>(g d ρ μ1).bindS fun ρ' μ2=>.next ρ' μ2
def nI (f:ME):MS:=fun ρ μ=>(f ρ μ).bindS fun _ μ1=>.next ρ μ1
def BB (i:Nat) (op:D->D->aG->ak D) (f:ME):MS:=fun ρ μ=>(ag i ρ μ).bindS fun a μ0=>(f ρ μ0).bindS fun b μ1=>(op a b μ1).bindS fun c μ2=>.next (ρ.set i (some c)) μ2
def ai (i:Nat):MG:=fun d ρ μ=>.ok (ρ.set i (some d)) μ
abbrev DU:=List D->Ro->aG->ak Ro
def fD:DU:=fun ds ρ μ=>match ds with
 | []=>.ok ρ μ
 | _::_=>.bad
def bB (g:MG) (u:DU):DU:=fun ds ρ μ=>match ds with
 | []=>.bad
 | d::r=>(g d ρ μ).bind fun ρ' μ'=>u r ρ' μ'
def fC (n:Nat) (u:DU):MG:=fun d ρ μ=>match d with
 | .tup xs=>if xs.length=n then u xs ρ μ else .bad
 | _=>.bad
def yu (o i v:D) (μ:aG):ak Unit:=match o,i with
 | .obj n,.int k=>match μ[n]? with
  | some (.lst xs)=>match yo xs.length k with
   | some j=>.ok () (μ.set n (.lst (xs.set j v)))
   | none=>.bad
  | _=>.bad
 | _,_=>.bad
def mR (fo fi:ME):MG:=fun d ρ μ=>(fo ρ μ).bind fun o μ1=>(fi ρ μ1).bind fun i μ2=>(yu o i d μ2).bind fun _ μ3=>.ok ρ μ3
def v7 (p:Pa) (g:DU):DR:=fun vs σ H Q=>∃ α ρ μ ds,p.S H α μ/\du p.K H α ρ σ/\p.Rs H α ds vs/\aK p H α (g ds ρ μ) (fun ρ' _ H' α'=>∀ σ',du p.K H' α' ρ' σ'->Q σ' H')
theorem PG.weak {X:Cx}{e:Expr}{t t':TG} (h:PG X e t) (k:∀ v σ H Q,t' v σ H Q->t v σ H Q):PG X e t':=fun pins s σ H v u Q I r q=>h pins s σ H v u Q I r (k v σ H Q q)
theorem yq.weak {X:Cx}{e:List Expr}{t t':DR} (h:yq X e t) (k:∀ v σ H Q,t' v σ H Q->t v σ H Q):yq X e t':=fun pins s σ H v u Q I r q=>h pins s σ H v u Q I r (k v σ H Q q)
theorem PI.weak {X:Cx}{tg e:Expr}{t t':TI} (h:PI X tg e t) (k:∀ σ H R,t' σ H R->t σ H R):PI X tg e t':=fun pins s σ H Q I q=>h pins s σ H Q I (k σ H Q q)
section
variable {p:Pa}{X:Cx}{a b c e tg:Expr}{es:List Expr}{f:ME}{g:MG}{u:DU}{pos:Pos}{st:Stmt}{sts:List Stmt}{fs gs:MS}{ft:MT}
theorem G1:lp X [] (ja p cS):=ER.weak fun D σ H ⟨α,ρ,μ,S,R,P⟩=>P H α σ mN.refl S R
theorem CU {t u:TS}{D:qS}{σ:St}{H:Hp}{α:List Addr}{o:SO}{k:MS} (h:gn p H α (o.bind k) D)
  (hk:∀ D σ H,ja p k D σ H->u D σ H):gn p H α o { D with nx:=u D }:=by
 cases o with
 | next ρ μ=>exact fun H' α' σ' e s r=>hk _ _ _ ⟨α',ρ,μ,s,r,gn.from e h⟩
 | brk ρ μ=>exact h
 | cnt ρ μ=>exact h
 | ret d μ=>exact h
 | exc x μ=>exact h
 | bad=>exact h
theorem Eh (h1:PS X st (ja p fs)) (h2:lp X sts (ja p gs)):lp X (st::sts) (ja p (aZ fs gs)):=
 (C7 h1 h2).weak fun D σ H ⟨α,ρ,μ,S,R,P⟩=>⟨α,ρ,μ,S,R,CU (t:=ja p fs) (σ:=σ) P fun _ _ _ z=>z⟩
theorem G0 (h1:PS X st (ja p fs)):lp X [st] (ja p fs):=EO h1
theorem GZ (h:PE X e (tD p f)):PS X (.Return (some e) pos) (ja p (bX f)):=
 (Hu h).weak fun D σ H ⟨α,ρ,μ,S,R,P⟩=>⟨α,ρ,μ,S,R,(aK.bindS P).imp fun d μ1 H1 α1 X1 S1 P1 v rv=>P1 H1 α1 v mN.refl S1 rv⟩
theorem CB:PS X st (ja p GB):=C9.weak fun D σ H ⟨α,ρ,μ,S,R,P⟩=>P
theorem JQ {A B:List Stmt} (hc:PT X c (i9 p ft)) (ha:lp X A (ja p fs)) (hb:lp X B (ja p gs)):PS X (.If c A B pos) (ja p (kx ft fs gs)):=
 (J2 hc ha hb).weak fun D σ H ⟨α, ρ, μ, S, R, P⟩ => ⟨α, ρ, μ, S, R, (aK.bindS P).imp fun k μ1 H1 α1 X1 S1 P1 => by
  cases k with
  | true=>rw [LU rfl] at P1 ⊢;exact ⟨α1,ρ,μ1,S1,R.mono X1,P1⟩
  | false=>rw [LV Mu] at P1 ⊢;exact ⟨α1,ρ,μ1,S1,R.mono X1,P1⟩⟩
theorem xK {D:qS}{σ:St}{H:Hp} (h:ja p (bp f g) D σ H):Bz (tD p f) (pJ p g) D σ H:=by
 obtain ⟨α,ρ,μ,S,R,P⟩:=h
 exact ⟨α,ρ,μ,S,R,(aK.bindS P).imp fun d μ1 H1 α1 X1 S1 P1 v rv=>⟨α1,ρ,μ1,d,S1,R.mono X1,rv,(aK.bindS P1).imp fun ρ' μ2 H2 α2 X2 S2 P2 σ' r'=>P2 H2 α2 σ' mN.refl S2 r'⟩⟩
theorem G4 (he:PE X e (tD p f)) (hg:PG X tg (pJ p g)) (hs:swapsWithSole [tg] e pos.line X.env=pure false) (hw:swappedStores [tg] e X.env=pure none)
  (h1:(assignEach [tg] X.env).map (·.2)=[assign tg X.env]):PS X (.Assign [tg] e pos) (ja p (bp f g)):=(Hy he hg hs hw h1).weak fun D σ H h=>xK h
theorem si {i:Nat}{v:V}{σ:St}{H:Hp}{Q:St->Hp->Prop} (h:pJ p (ai i) v σ H Q):wy i v σ H Q:=by
 obtain ⟨α,ρ,μ,d,S,R,r,P⟩:=h
 exact P.now S _ (R.set i r)
theorem Ex {i:Nat}{x:Str} (hN:X.N.Nodup) (hi:X.N[i]?=some x) (hx:Bv X.env.scope x) (hf:X.fn x=true\/X.env.scope.names.lookup x=some .local):PG X (.Name x pos) (pJ p (ai i)):=
 (EY hN hi hx hf).weak fun v σ H Q h=>si h
theorem GY {i:Nat}{x:Str}{pos':Pos} (hN:X.N.Nodup) (hi:X.N[i]?=some x) (hx:Bv X.env.scope x) (he:PE X e (tD p f)) (hs:swapsWith e (some (.Name x pos')) pos.line X.env=pure false) (hf:X.fn x=true\/X.env.scope.names.lookup x=some .local) :
  PS X (.Assign [.Name x pos'] e pos) (ja p (bp f (ai i))):=(Ht hN hi hx he hs hf).weak fun D σ H h=>by
 obtain ⟨α,ρ,μ,S,R,P⟩:=xK h
 exact ⟨α,ρ,μ,S,R,P.imp fun d μ1 H1 α1 X1 S1 P1 v rv=>si (P1 v rv)⟩
theorem Eg (he:PE X e (tD p f)) (hs:swapsWith e none pos.line X.env=pure false):PS X (.Expr e pos) (ja p (nI f)):=
 (ET he hs).weak fun D σ H ⟨α,ρ,μ,S,R,P⟩=>⟨α,ρ,μ,S,R,(aK.bindS P).imp fun d μ1 H1 α1 X1 S1 P1 v rv=>P1 H1 α1 σ mN.refl S1 (R.mono X1)⟩
theorem Ew:yq X [] (v7 p fD):=EX.weak fun vs σ H Q ⟨α,ρ,μ,ds,S,R,r,P⟩=>by
 cases ds with
 | nil=>simp only [Reps] at r;exact ⟨r,P.now S σ R⟩
 | cons d ds=>exact P.elim
theorem CP (h1:PG X e (pJ p g)) (h2:yq X es (v7 p u)) (hs:(assignEach (e::es) X.env).map (·.2)=assign e X.env::(assignEach es X.env).map (·.2)):yq X (e::es) (v7 p (bB g u)):=
 (Dc h1 h2 hs).weak fun vs σ H Q ⟨α, ρ, μ, ds, S, R, r, P⟩ => by
  cases ds with
  | nil=>exact P.elim
  | cons d ds=>
   simp only [Reps] at r
   obtain ⟨v,vr,rfl,r1,r2⟩:=r
   refine ⟨v,vr,rfl,α,ρ,μ,d,S,R,r1,?_⟩
   exact (aK.bind (o:=g d ρ μ) P).imp fun ρ' μ1 H1 α1 X1 S1 P1 σ' r'=>⟨α1,ρ',μ1,ds,S1,r',r2.mono X1,P1⟩
theorem Hb {k n:Nat} (hK:X.K=p.K) (hc:X.calm=true) (h:yq X es (v7 p u)) (hn:(assignEach es X.env).length=n) (hst:(assignEach es X.env).findIdx? (·.1)=none):PG X (.Tuple es k pos) (pJ p (fC n u)):=
 (HB hc h hn hst).weak fun v σ H Q ⟨α, ρ, μ, d, S, R, r, P⟩ => by
  cases d with
  | tup xs=>
   obtain ⟨a,vs,rfl,h1,h2⟩:=aO.mp r
   have P':aK p H α (if xs.length=n then u xs ρ μ else .bad) _:=P
   by_cases hl:xs.length=n
   ·rw [LU hl] at P'
    exact ⟨a,vs,rfl,by rw [hK];exact h1,by rw [h2.length];exact hl,α,ρ,μ,xs,S,R,h2,P'⟩
   ·rw [LV hl] at P';exact P'.elim
  | non=>exact P.elim
  | bl b=>exact P.elim
  | int i=>exact P.elim
  | str x=>exact P.elim
  | frz xs=>exact P.elim
  | obj n=>exact P.elim
theorem Ez {o i d:D}{μ:aG}{H:Hp}{α:List Addr}{R:Unit->aG->Hp->List Addr->Prop}{vo vi v:V} (S:p.S H α μ) (ro:p.R H α o vo) (ri:p.R H α i vi) (rv:p.R H α d v) (P:aK p H α (yu o i d μ) R) :
  Ge vo vi v H fun H'=>∃ μ',p.X H H' α α/\p.S H' α μ'/\R () μ' H' α:=by
 unfold yu at P
 split at P
 ·rename_i n k
  split at P
  ·rename_i xs hx
   split at P
   ·rename_i j hj
    obtain ⟨a,ea,us,hH,rr⟩:=S.at hx
    obtain ⟨a',rfl,ea'⟩:=ba.mp ro
    rw [ea] at ea';cases ea'
    rw [ax.mp ri]
    have q:=rr.set rv j
    refine ⟨a,us,k,j,rfl,rfl,hH,by rw [rr.length];exact hj,_,iV hH,S.put hx ea hH q,?_⟩
    exact P _ _ (iV hH) (S.put hx ea hH q)
   ·exact P.elim
  ·exact P.elim
 ·exact P.elim
theorem Hc {o i:Expr}{fo fi:ME} (ho:PE X o (tD p fo)) (hi:PE X i (tD p fi))
  (ha : ∀ v, assign (.Subscript o i pos) X.env v = (do
   let ov <- holding [v] (eval o X.env)
   let iv <- holding [v,ov] (eval i X.env)
   standAt pos
   holding [v,ov,iv] (setItem ov iv v)
   release [v,ov,iv] [])):PG X (.Subscript o i pos) (pJ p (mR fo fi)):=
 (HC ho hi CQ ha).weak fun v σ H Q ⟨α, ρ, μ, d, S, R, r, P⟩ => ⟨α, ρ, μ, S, R, (aK.bind P).imp fun od μ1 H1 α1 X1 S1 P1 vo ro => ⟨α1, ρ, μ1, S1, R.mono X1, (aK.bind P1).imp fun id μ2 H2 α2 X2 S2 P2 vi ri => by
  obtain ⟨pp,xs,k,j,e1,e2,e3,e4,μ3,x3,s3,q⟩:=Ez S2 (ro.mono X2) ri ((r.mono X1).mono X2) (aK.bind P2)
  exact ⟨pp,xs,k,j,e1,e2,e3,e4,q.now s3 σ (((R.mono X1).mono X2).mono x3)⟩⟩⟩
theorem G3 {i:Nat}{x:Str}{op:Operator}{o:D->D->aG->ak D}{r:R2}{pos':Pos} (hN:X.N.Nodup) (hi:X.N[i]?=some x) (hx:Bv X.env.scope x) (he:PE X e (tD p f)) (ho:Kx X op r) (hd:tV p o r) (hf:X.fn x=true\/X.env.scope.names.lookup x=some .local) :
  PS X (.AugAssign (.Name x pos') op e pos) (ja p (BB i o f)):=(Hx hN hi hx he ho hf).weak fun D σ H ⟨α,ρ,μ,S,R,P⟩=>by
 unfold BB ag at P
 cases er:ρ[i]? with
 | none=>rw [er] at P;exact P.elim
 | some oo=>
  rw [er] at P
  cases oo with
  | none=>exact P.elim
  | some d=>
   obtain ⟨v,h1,h2⟩:=R.at' i d er
   have P':gn p H α ((f ρ μ).bindS fun b μ1=>(o d b μ1).bindS fun c μ2=>.next (ρ.set i (some c)) μ2) D:=P
   refine ⟨v,h1,α,ρ,μ,S,R,(aK.bindS P').imp fun y μ1 H1 α1 X1 S1 P1 u ru=>?_⟩
   exact hd d y v u H1 α1 μ1 _ S1 (h2.mono X1) ru ((aK.bindS P1).imp fun z μ2 H2 α2 X2 S2 P2 t rt=>P2 H2 α2 _ mN.refl S2 (((R.mono X1).mono X2).set i rt))
end
inductive nA where
 | fix (xs:List D) | own (n:Nat) (xs:List D) | eno (n:Nat) (xs:List D)
def iF:Nat->List D->List D
 | _,[]=>[]
 | i,x::r=>.tup [.int i,x]::iF (i+1) r
theorem pq:∀ {xs:List D}{k i:Nat},(iF k xs)[i]?=(xs[i]?).map fun x=>D.tup [.int ((k+i:Nat):Int),x]
 | [],_,_=>by simp [iF]
 | x::r,k,0=>by simp [iF]
 | x::r,k,i+1=>by
  simp only [iF,Pz]
  rw [pq (xs:=r) (k:=k+1) (i:=i)]
  congr 1
  funext y
  congr 4
  omega
theorem uC:∀ {xs:List D}{k:Nat},(iF k xs).length=xs.length
 | [],_=>rfl
 | x::r,k=>by simp [iF,uC (xs:=r)]
def nA.items:nA->List D
 | .fix xs=>xs
 | .own _ xs=>xs
 | .eno _ xs=>iF 0 xs
def cY:nA->aG->Prop
 | .fix _,_=>True
 | .own n xs,μ=>μ[n]?=some (.lst xs)
 | .eno n xs,μ=>μ[n]?=some (.lst xs)
def yw (p:Pa) (J:It) (src:nA) (H0:Hp) (α0:List Addr):Prop:=
 ∀ H2 α2 μ2,p.X H0 H2 α0 α2->p.S H2 α2 μ2->cY src μ2 ->
  (∀ (i:Nat) d,src.items[i]?=some d->J.go i H2/\∀ x H3,J.yld i H2 x H3->p.X H2 H3 α2 α2/\p.S H3 α2 μ2/\p.R H3 α2 d x)/\J.stop src.items.length H2
abbrev MI:=Ro->aG->ak nA
def sX (p:Pa) (f:MI):TI:=fun σ H R=>∃ α ρ μ,p.S H α μ/\du p.K H α ρ σ/\aK p H α (f ρ μ) (fun src μ' H' α'=>∀ J,cY src μ'->yw p J src H' α'->R J H')
def SO.loop (o:SO) (k:Ro->aG->SO):SO:=match o with
 | .next ρ μ=>k ρ μ
 | .cnt ρ μ=>k ρ μ
 | .brk ρ μ=>.next ρ μ
 | .ret d μ=>.ret d μ
 | .exc x μ=>.exc x μ
 | .bad=>.bad
open Classical in
noncomputable def d9 (src:nA) (g:MG) (fb:MS):List D->Ro->aG->SO
 | [],ρ,μ=>if cY src μ then .next ρ μ else .bad
 | d::r,ρ,μ=>if cY src μ then (g d ρ μ).bindS fun ρ' μ'=>(fb ρ' μ').loop (d9 src g fb r) else .bad
noncomputable def iU (fi:MI) (g:MG) (fb:MS):MS:=fun ρ μ=>(fi ρ μ).bindS fun src μ1=>d9 src g fb src.items ρ μ1
def m8 (c:MT) (fb:MS):Nat->Ro->aG->SO
 | 0,_,_=>.bad
 | n+1,ρ,μ=>(c ρ μ).bindS fun b μ1=>if b=true then (fb ρ μ1).loop (m8 c fb n) else .next ρ μ1
def uY (n:Nat) (c:MT) (fb:MS):MS:=m8 c fb n
section
variable {p:Pa}{X:Cx}{tg iter c:Expr}{fi:MI}{g:MG}{fb:MS}{ft:MT}{body:List Stmt}{pos:Pos}
theorem um {H:Hp}{α:List Addr}{o:SO}{k:Ro->aG->SO}{D:qS}{N:St->Hp->Prop} (h:gn p H α (o.loop k) D)
  (hN:∀ ρ μ H' α' σ',p.X H H' α α'->p.S H' α' μ->du p.K H' α' ρ σ'->gn p H' α' (k ρ μ) D->N σ' H'):gn p H α o { D with nx:=N,ct:=N,bk:=D.nx }:=by
 cases o with
 | next ρ μ=>exact fun H' α' σ' e s r=>hN ρ μ H' α' σ' e s r (gn.from e h)
 | cnt ρ μ=>exact fun H' α' σ' e s r=>hN ρ μ H' α' σ' e s r (gn.from e h)
 | brk ρ μ=>exact h
 | ret d μ=>exact h
 | exc x μ=>exact h
 | bad=>exact h
theorem G2 (hp:PassesOwn (model X.prog X.w) X.A X.env X.xe) (hc:X.calm=true) (hi:PI X tg iter (sX p fi)) (hg:PG X tg (pJ p g)) (hb:lp X body (ja p fb)) (hs:∀ x,foldedSetIterable iter X.env x=pure x) :
  PS X (.For tg iter body [] pos) (ja p (iU fi g fb)):=(Hv hp hc hi hg hb hs).weak fun D σ H ⟨α,ρ,μ,S,R,P⟩=>by
 refine ⟨α,ρ,μ,S,R,(aK.bindS P).imp fun src μ1 H1 α1 X1 S1 P1 J hok hJ=>?_⟩
 refine ⟨fun i m σ2 H2=>m=src.items.length - i/\i<=src.items.length/\∃ α2 ρ2 μ2,p.X H1 H2 α1 α2/\p.S H2 α2 μ2/\du p.K H2 α2 ρ2 σ2/\gn p H2 α2 (d9 src g fb (src.items.drop i) ρ2 μ2) D,
  ⟨_,rfl,NZ _,α1,ρ,μ1,mN.refl,S1,R.mono X1,by simpa using P1⟩,?_⟩
 rintro i m σ2 H2 ⟨rfl,hi,α2,ρ2,μ2,X2,S2,R2,P2⟩
 by_cases hlt:i<src.items.length
 ·rw [PB hlt] at P2
  unfold d9 at P2
  by_cases ho:cY src μ2
  ·rw [LU ho] at P2
   obtain ⟨hgo,hy⟩:=(hJ H2 α2 μ2 X2 S2 ho).1 i _ (Pp hlt)
   refine .inr ⟨hgo,fun σ' H'=>i+1<=src.items.length/\∃ α2 ρ2 μ2,p.X H1 H' α1 α2/\p.S H' α2 μ2/\du p.K H' α2 ρ2 σ'/\gn p H' α2 (d9 src g fb (src.items.drop (i+1)) ρ2 μ2) D,
    fun σ' H' ⟨h1,h2⟩=>⟨_,by omega,rfl,h1,h2⟩,fun x H3 yx=>?_⟩
   obtain ⟨X3,S3,R3⟩:=hy x H3 yx
   refine ⟨α2,ρ2,μ2,_,S3,R2.mono X3,R3,(aK.from X3 (aK.bindS P2)).imp fun ρ4 μ4 H4 α4 X4 S4 P4 σ4 R4=>⟨α4,ρ4,μ4,S4,R4,um P4 fun ρ5 μ5 H5 α5 σ5 X5 S5 R5 P5=>⟨hlt,α5,ρ5,μ5,((X2.trans X3).trans X4).trans X5,S5,R5,P5⟩⟩⟩
  ·rw [LV ho] at P2;exact P2.elim
 ·have e : i = src.items.length := by omega
  subst e
  rw [PD] at P2
  unfold d9 at P2
  by_cases ho:cY src μ2
  ·rw [LU ho] at P2
   exact .inl ⟨(hJ H2 α2 μ2 X2 S2 ho).2,P2 H2 α2 σ2 mN.refl S2 R2⟩
  ·rw [LV ho] at P2;exact P2.elim
theorem Cz {n:Nat} (hp:PassesOwn (model X.prog X.w) X.A X.env X.xe) (hc:PT X c (i9 p ft)) (hb:lp X body (ja p fb)):PS X (.While c body [] pos) (ja p (uY n ft fb)):=
 (C8 hp hc hb).weak fun D σ H ⟨α, ρ, μ, S, R, P⟩ => by
  refine ⟨fun m σ2 H2=>∃ α2 ρ2 μ2,p.S H2 α2 μ2/\du p.K H2 α2 ρ2 σ2/\gn p H2 α2 (m8 ft fb m ρ2 μ2) D,⟨n,α,ρ,μ,S,R,P⟩,?_⟩
  rintro m σ2 H2 ⟨α2,ρ2,μ2,S2,R2,P2⟩
  cases m with
  | zero=>exact P2.elim
  | succ m=>
   unfold m8 at P2
   refine ⟨α2,ρ2,μ2,S2,R2,(aK.bindS P2).imp fun k μ3 H3 α3 X3 S3 P3=>?_⟩
   cases k with
   | true=>
    rw [LU rfl] at P3 ⊢
    exact ⟨fun σ' H'=>∃ α2 ρ2 μ2,p.S H' α2 μ2/\du p.K H' α2 ρ2 σ'/\gn p H' α2 (m8 ft fb m ρ2 μ2) D,fun σ' H' h=>⟨m,NR _,h⟩,
     α3,ρ2,μ3,S3,R2.mono X3,um P3 fun ρ5 μ5 H5 α5 σ5 X5 S5 R5 P5=>⟨α5,ρ5,μ5,S5,R5,P5⟩⟩
   | false=>
    rw [LV Mu] at P3 ⊢
    exact P3 H3 α3 σ2 mN.refl S3 (R2.mono X3)
end
section
variable {p:Pa}{X:Cx}{tg iter:Expr}
theorem AY {H:Hp}{α:List Addr}{μ:aG}{n:Nat}{xs:List D}{a:Addr} (S:p.S H α μ) (hn:μ[n]?=some (.lst xs)) (ha:α[n]?=some a):yw p (KA p.K a) (.own n xs) H α:=by
 intro H2 α2 μ2 X2 S2 ho
 obtain ⟨a',ea,vs,hH,rr⟩:=S2.at ho
 rw [X2.pre n a ha] at ea;cases ea
 refine ⟨fun i d hd=>?_,vs,ia.of hH,by rw [rr.length];exact MD _⟩
 obtain ⟨v,hv,rv⟩:=rr.get hd
 refine ⟨⟨vs,v,ia.of hH,hv⟩,fun x H3 ⟨e,hx⟩=>?_⟩
 subst e
 have:=hx vs (ia.of hH)
 rw [hv] at this;cases this
 exact ⟨mN.refl,S2,rv⟩
theorem Du {H:Hp}{α:List Addr}{xs:List D}{vs:List V}{a:Addr} (h:F9 p.K H a vs) (r:p.Rs H α xs vs):yw p (KA p.K a) (.fix xs) H α:=by
 intro H2 α2 μ2 X2 S2 ho
 have h2:=(X2.frz a vs h).sq
 have rr:=r.mono X2
 refine ⟨fun i d hd=>?_,vs,h2,by rw [rr.length];exact MD _⟩
 obtain ⟨v,hv,rv⟩:=rr.get hd
 refine ⟨⟨vs,v,h2,hv⟩,fun x H3 ⟨e,hx⟩=>?_⟩
 subst e
 have:=hx vs h2
 rw [hv] at this;cases this
 exact ⟨mN.refl,S2,rv⟩
theorem Dt {H:Hp}{α:List Addr}{xs:List D}{vs:List V}{a:Addr} (h:ip p.K H a vs) (r:p.Rs H α xs vs):yw p (KH p.K a) (.fix xs) H α:=by
 intro H2 α2 μ2 X2 S2 ho
 have h2:=X2.tup a vs h
 have rr:=r.mono X2
 refine ⟨fun i d hd=>?_,vs,h2,by rw [rr.length];exact MD _⟩
 obtain ⟨v,hv,rv⟩:=rr.get hd
 refine ⟨⟨vs,v,h2,hv⟩,fun x H3 ⟨e,hx⟩=>?_⟩
 subst e
 have:=hx vs h2
 rw [hv] at this;cases this
 exact ⟨mN.refl,S2,rv⟩
def bJ (lo:Int) (n:Nat):List D:=(List.range n).map fun (i:Nat)=>D.int (lo+(i:Int))
theorem xo {H:Hp}{α:List Addr} (lo:Int) (n:Nat):yw p (Jc lo n) (.fix (bJ lo n)) H α:=by
 intro H2 α2 μ2 X2 S2 ho
 refine ⟨fun i d hd=>?_,by simp [nA.items,bJ,Jc]⟩
 have hd':(bJ lo n)[i]?=some d:=hd
 unfold bJ at hd'
 rw [MZ] at hd'
 by_cases hi:i<n
 ·rw [Pd hi] at hd'
  cases hd'
  refine ⟨hi,fun x H3 ⟨e,hx⟩=>?_⟩
  subst e;subst hx
  exact ⟨mN.refl,S2,ax.mpr rfl⟩
 ·rw [Pe (by simpa using hi)] at hd'
  cases hd'
def An (d:D) (μ:aG):ak nA:=match d with
 | .tup xs=>.ok (.fix xs) μ
 | .frz xs=>.ok (.fix xs) μ
 | .obj n=>match μ[n]? with
  | some (.lst xs)=>.ok (.own n xs) μ
  | _=>.bad
 | _=>.bad
def fw (f:ME):MI:=fun ρ μ=>(f ρ μ).bind An
def K8 (K:W.Frag) (tl:TE):TI:=fun σ H R=>tl σ H fun x H1=>∃ a,x=.ref a/\(((∃ xs,ia K H1 a xs)/\R (KA K a) H1)\/((∃ xs,ip K H1 a xs)/\R (KH K a) H1))
theorem HA {l:Expr}{tl:TE} (hl:PE X l tl):PI X tg l (K8 X.K tl):=by
 intro pins s σ H R I h
 refine eV (hl pins s σ H _ I h) fun v s1 ⟨x,H1,I1,r1,q1⟩=>?_
 obtain ⟨a,e,q⟩:=q1
 subst e
 cases r1
 rcases q with ⟨⟨xs,hq⟩,q⟩ | ⟨⟨xs,hq⟩,q⟩
 ·obtain ⟨its, rv, p, hz⟩ := I1.list hq
  refine O3 p.isList ?_
  refine ⟨s1.heap.objs.size,[s1.heap.objs.size],_,_,H1,rfl,I1.kept (t':=s1.toks) fun b o e=>Mz _ e,Au a _,⟨_,MC _ rfl,rfl,rfl⟩,fun b hb=>?_,q⟩
  have e:b=s1.heap.objs.size:=by simpa using hb
  subst e
  exact I1.fpOk (MD _) (I1.hok.fresh (MD _))
 ·obtain ⟨its, rv, p, hz⟩ := I1.tuple hq
  refine N7 (show s1.heap.IsTuple a its.toArray from p) ?_
  refine ⟨s1.heap.objs.size,[s1.heap.objs.size],_,_,H1,rfl,I1.kept (t':=s1.toks) fun b o e=>Mz _ e,yJ a _,⟨_,MC _ rfl,rfl,rfl⟩,fun b hb=>?_,q⟩
  have e:b=s1.heap.objs.size:=by simpa using hb
  subst e
  exact I1.fpOk (MD _) (I1.hok.fresh (MD _))
theorem G9 {l:Expr}{f:ME} (hK:X.K=p.K) (hl:PE X l (tD p f)):PI X tg l (sX p (fw f)):=(HA hl).weak fun σ H R ⟨α,ρ,μ,S,Rr,P⟩=>by
 refine ⟨α,ρ,μ,S,Rr,(aK.bind P).imp fun d μ1 H1 α1 X1 S1 P1 v rv=>?_⟩
 rw [hK]
 cases d with
 | tup xs=>
  obtain ⟨a,vs,rfl,h1,h2⟩:=aO.mp rv
  exact ⟨a,rfl,.inr ⟨⟨vs,h1⟩,P1.now S1 _ trivial (Dt h1 h2)⟩⟩
 | frz xs=>
  obtain ⟨a,vs,rfl,h1,h2⟩:=bM.mp rv
  exact ⟨a,rfl,.inl ⟨⟨vs,h1.sq⟩,P1.now S1 _ trivial (Du h1 h2)⟩⟩
 | obj n=>
  obtain ⟨a,rfl,ha⟩:=ba.mp rv
  unfold An at P1
  dsimp only at P1
  split at P1
  ·rename_i xs hx
   obtain ⟨a',ea,vs,hH,rr⟩:=S1.at hx
   rw [ha] at ea;cases ea
   exact ⟨a,rfl,.inl ⟨⟨vs,ia.of hH⟩,P1.now S1 _ hx (AY S1 hx ha)⟩⟩
  ·exact P1.elim
 | non=>exact P1.elim
 | bl b=>exact P1.elim
 | int i=>exact P1.elim
 | str x=>exact P1.elim
def eX (ds:List D) (μ:aG):ak nA:=match ds with
 | [.int j]=>if -(2 ^ 62)<=j/\j<2 ^ 62 then .ok (.fix (bJ 0 j.toNat)) μ else .bad
 | _=>.bad
def nC (ds:List D) (μ:aG):ak nA:=match ds with
 | [.int i,.int j]=>if -(2 ^ 62)<=i/\i<2 ^ 62/\-(2 ^ 62)<=j/\j<2 ^ 62 then .ok (.fix (bJ i (j - i).toNat)) μ else .bad
 | _=>.bad
def eD (f:List D->aG->ak nA) (fa:MA):MI:=fun ρ μ=>(fa ρ μ).bind f
theorem AE {a:Expr}{fa:MA}{px pos:Pos} (hg:Gl X "range") (hm:X.mg "range" = none) (ha:PA X [a] (pK p fa)) (hs:starEach [a] X.env=[(false,eval a X.env)]):PI X tg (.Call (.Name "range" px) [a] [] pos) (sX p (eD eX fa)):=
 (AK hg hm ha hs).weak fun σ H R ⟨α, ρ, μ, S, Rr, P⟩ => ⟨α, ρ, μ, S, Rr, (aK.bind P).imp fun ds μ1 H1 α1 X1 S1 P1 vs rv => by
  unfold eX at P1
  split at P1
  ·rename_i j
   obtain ⟨v,rfl,r1⟩:=rv.one
   rw [ax.mp r1]
   split at P1
   ·rename_i hj
    exact ⟨j,rfl,hj.1,hj.2,P1.now S1 _ trivial (xo 0 _)⟩
   ·exact P1.elim
  ·exact P1.elim⟩
theorem AD {a b:Expr}{fa:MA}{px pos:Pos} (hg:Gl X "range") (hm:X.mg "range" = none) (ha:PA X [a,b] (pK p fa)) (hs:starEach [a,b] X.env=[(false,eval a X.env),(false,eval b X.env)]) (hs2:starEach [b] X.env=[(false,eval b X.env)]):PI X tg (.Call (.Name "range" px) [a,b] [] pos) (sX p (eD nC fa)):=
 (AJ hg hm ha hs hs2).weak fun σ H R ⟨α, ρ, μ, S, Rr, P⟩ => ⟨α, ρ, μ, S, Rr, (aK.bind P).imp fun ds μ1 H1 α1 X1 S1 P1 vs rv => by
  unfold nC at P1
  split at P1
  ·rename_i i j
   obtain ⟨v,u,rfl,r1,r2⟩:=rv.two
   rw [ax.mp r1,ax.mp r2]
   split at P1
   ·rename_i hj
    exact ⟨i,j,rfl,hj,P1.now S1 _ trivial (xo i _)⟩
   ·exact P1.elim
  ·exact P1.elim⟩
theorem uq {b:Bool}{src:nA}{xs:List D}{H:Hp}{α:List Addr}{a:Addr} (hi:src.items=iF 0 xs)
  (hs:∀ H2 α2 μ2,p.X H H2 α α2->p.S H2 α2 μ2->cY src μ2->∃ vs,Sq b p.K H2 a vs/\p.Rs H2 α2 xs vs ):yw p (KJ b p.K a) src H α:=by
 intro H2 α2 μ2 X2 S2 ho
 obtain ⟨vs,h2,rr⟩:=hs H2 α2 μ2 X2 S2 ho
 rw [hi]
 refine ⟨fun i d hd=>?_,vs,h2,by rw [rr.length,uC]⟩
 rw [pq] at hd
 cases e:xs[i]? with
 | none=>rw [e] at hd;cases hd
 | some y=>
  rw [e] at hd
  cases hd
  obtain ⟨v,hv,rv⟩:=rr.get e
  refine ⟨⟨vs,v,h2,hv⟩,fun x H3 ⟨q,w,e1,hq,e2,hx⟩=>?_⟩
  subst e1 e2
  have:=hx vs h2
  rw [hv] at this;cases this
  refine ⟨cF hq,S2.tuple hq,aO.mpr ⟨q,_,rfl,ip.of dy,?_⟩⟩
  rw [OG]
  exact Reps.cons (ax.mpr rfl) (Reps.cons (rv.mono (cF hq)) Reps.nil)
def pQ (ds:List D) (μ:aG):ak nA:=match ds with
 | [.tup xs]=>.ok (.fix (iF 0 xs)) μ
 | [.obj n]=>match μ[n]? with
  | some (.lst xs)=>.ok (.eno n xs) μ
  | _=>.bad
 | _=>.bad
theorem Eu {a:Expr}{fa:MA}{px pos tpos:Pos}{elts:List Expr}{k1:Nat} (hK:X.K=p.K) (hg:Gl X "enumerate") (hm:X.mg "enumerate" = none) (ha:PA X [a] (pK p fa)) (hs:starEach [a] X.env=[(false,eval a X.env)]) :
  PI X (.Tuple elts k1 tpos) (.Call (.Name "enumerate" px) [a] [] pos) (sX p (eD pQ fa)):=
 (EW hg hm ha hs).weak fun σ H R ⟨α, ρ, μ, S, Rr, P⟩ => ⟨α, ρ, μ, S, Rr, (aK.bind P).imp fun ds μ1 H1 α1 X1 S1 P1 vs rv => by
  rw [hK]
  unfold pQ at P1
  split at P1
  ·rename_i xs
   obtain ⟨v,rfl,r1⟩:=rv.one
   obtain ⟨a,us,rfl,h1,h2⟩:=aO.mp r1
   exact ⟨a,false,rfl,⟨us,h1⟩,P1.now S1 _ trivial (uq (b:=false) rfl fun H2 α2 μ2 X2 S2 _=>⟨us,X2.tup a us h1,h2.mono X2⟩)⟩
  ·rename_i n
   split at P1
   ·rename_i xs hx
    obtain ⟨v,rfl,r1⟩:=rv.one
    obtain ⟨a,rfl,ha⟩:=ba.mp r1
    obtain ⟨a',ea,us,hH,rr⟩:=S1.at hx
    rw [ha] at ea;cases ea
    refine ⟨a,true,rfl,⟨us,ia.of hH⟩,P1.now S1 _ hx (uq (b:=true) rfl fun H2 α2 μ2 X2 S2 ho=>?_)⟩
    obtain ⟨a2,ea2,us2,hH2,rr2⟩:=S2.at (show μ2[n]?=some (.lst xs) from ho)
    rw [X2.pre n a ha] at ea2;cases ea2
    exact ⟨us2,ia.of hH2,rr2⟩
   ·exact P1.elim
  ·exact P1.elim⟩
end
def ak.nox {β:Type} (o:ak β):ak β:=match o with
 | .exc _ _=>.bad
 | o=>o
@[simp] theorem bZ {β:Type}{a:β}{μ:aG}:(ak.ok a μ).nox=.ok a μ:=Px (Py _)
abbrev Pa.nx (p:Pa):Pa:=⟨p.K,p.w,fun _ _=>False⟩
theorem eM {β γ:Type}{p:Pa}{H:Hp}{α:List Addr}{o:ak β}{k:β->aG->ak γ}{R:γ->aG->Hp->List Addr->Prop} (h:aK p H α (o.nox.bind k) R):aK p.nx H α o (fun a μ1 H1 α1=>aK p H1 α1 (k a μ1) R):=by
 cases o with
 | ok a μ=>exact fun H' α' e s=>aK.from e h
 | exc x μ=>exact h
 | bad=>exact h
def eE (cap:List (Option Nat)) (ρ:Ro):Ro:=cap.map fun o=>o.bind fun j=>(ρ[j]?).join
theorem du.cap {K:W.Frag}{H:Hp}{α:List Addr}{ρ:Ro}{σ:St} (R:du K H α ρ σ) (cap:List (Option Nat)):du K H α (eE cap ρ) (qY cap σ):=by
 refine ⟨by simp [eE,qY],fun i d h=>?_⟩
 unfold eE at h
 unfold qY
 rw [MZ] at h ⊢
 cases e:cap[i]? with
 | none=>rw [e] at h;cases h
 | some o=>
  rw [e] at h
  cases o with
  | none=>simp at h
  | some j=>
   simp at h ⊢
   obtain ⟨v,h1,h2⟩:=R.at' j d (by
    cases e2:ρ[j]? with
    | none=>rw [e2] at h;simp at h
    | some x=>rw [e2] at h;simp at h;rw [h])
   exact ⟨v,by rw [h1];rfl,h2⟩
def tY (n:Nat) (y:D) (μ:aG):ak Unit:=match μ[n]? with
 | some (.lst ys)=>if ys.length<sizeLine then .ok () (μ.set n (.lst (ys++[y]))) else .bad
 | _=>.bad
open Classical in
noncomputable def compLoop (src:nA) (n:Nat) (g:MG) (t:MT) (e:ME):List D->Ro->aG->ak D
 | [],_,μ=>if cY src μ then .ok (.obj n) μ else .bad
 | d::r,ρ,μ=>if cY src μ then (g d ρ μ).nox.bind fun ρ1 μ1=>(t ρ1 μ1).nox.bind fun b μ2=>if b=true then (e ρ1 μ2).nox.bind fun y μ3=>(tY n y μ3).bind fun _ μ4=>compLoop src n g t e r ρ1 μ4 else compLoop src n g t e r ρ1 μ2 else .bad
noncomputable def bV (fi:MI) (cap:List (Option Nat)) (g:MG) (t:MT) (e:ME):ME:=fun ρ μ=>(fi ρ μ).bind fun src μ1=>compLoop src μ1.length g t e src.items (eE cap ρ) (μ1++[.lst []])
def bI:MT:=fun _ μ=>.ok true μ
theorem w8 {p:Pa}{n:Nat}{y:D}{μ:aG}{H:Hp}{α:List Addr}{R:Unit->aG->Hp->List Addr->Prop}{v:V}{acc:Addr} (S:p.S H α μ) (ha:α[n]?=some acc) (rv:p.R H α y v) (P:aK p H α (tY n y μ) R) :
  ∃ ys,H acc=some (.lst ys)/\ys.length<sizeLine/\∃ μ',p.X H (dk H acc (.lst (ys++[v]))) α α/\p.S (dk H acc (.lst (ys++[v]))) α μ'/\R () μ' (dk H acc (.lst (ys++[v]))) α:=by
 unfold tY at P
 split at P
 ·rename_i xs hx
  obtain ⟨a,ea,us,hH,rr⟩:=S.at hx
  rw [ha] at ea;cases ea
  split at P
  ·rename_i hl
   have q:=rr.snoc rv
   exact ⟨us,hH,by rw [rr.length];exact hl,_,iV hH,S.put hx ha hH q,P _ _ (iV hH) (S.put hx ha hH q)⟩
  ·exact P.elim
 ·exact P.elim
section
variable {p:Pa}{X:Cx}{tg iter elt:Expr}{ifs:List Expr}{scope:Scope}{Nc:List Str}{cap:List (Option Nat)}{fi:MI}{g:MG}{t:MT}{e:ME}{pos pos':Pos}
theorem uE {σ:St}{H:Hp}{Q:VK} (h:tD p (bV fi cap g t e) σ H Q):BO (sX p fi) cap (pJ p.nx g) (i9 p.nx t) (tD p.nx e) σ H Q:=by
 obtain ⟨α,ρ,μ,S,R,P⟩:=h
 refine ⟨α,ρ,μ,S,R,(aK.bind P).imp fun src μ1 H1 α1 X1 S1 P1 J hok hJ acc hacc=>?_⟩
 obtain ⟨x1,s1,_⟩:=dz (ds:=[]) (vs:=[]) S1 hacc Reps.nil
 have hn:(α1++[acc])[μ1.length]?=some acc:=by rw [<- S1.len];simp
 refine ⟨fun i m σ2 H2=>m=src.items.length - i/\i<=src.items.length/\∃ α2 ρ2 μ2,p.X H1 H2 α1 α2/\p.S H2 α2 μ2/\du p.K H2 α2 ρ2 σ2/\α2[μ1.length]?=some acc/\aK p H2 α2 (compLoop src μ1.length g t e (src.items.drop i) ρ2 μ2) (RV p Q),
  ⟨_,rfl,NZ _,α1++[acc],eE cap ρ,μ1++[.lst []],x1,s1,((R.mono X1).cap cap).mono x1,hn,by simpa using aK.from x1 P1⟩,?_⟩
 rintro i m σ2 H2 ⟨rfl,hi,α2,ρ2,μ2,X2,S2,R2,a2,P2⟩
 by_cases hlt:i<src.items.length
 ·rw [PB hlt] at P2
  unfold compLoop at P2
  by_cases ho:cY src μ2
  ·rw [LU ho] at P2
   obtain ⟨hgo,hy⟩:=(hJ H2 α2 μ2 X2 S2 ho).1 i _ (Pp hlt)
   refine .inr ⟨hgo,fun σ' H'=>i+1<=src.items.length/\∃ α2 ρ2 μ2,p.X H1 H' α1 α2/\p.S H' α2 μ2/\du p.K H' α2 ρ2 σ'/\α2[μ1.length]?=some acc/\aK p H' α2 (compLoop src μ1.length g t e (src.items.drop (i+1)) ρ2 μ2) (RV p Q),
    fun σ' H' ⟨h1,h2⟩=>⟨_,by omega,rfl,h1,h2⟩,fun x H3 yx=>?_⟩
   obtain ⟨X3,S3,R3⟩:=hy x H3 yx
   refine ⟨α2,ρ2,μ2,_,S3,R2.mono X3,R3,(aK.from (p:=p.nx) X3 (eM P2)).imp fun ρ4 μ4 H4 α4 X4 S4 P4 σ4 R4=>?_⟩
   refine ⟨α4,ρ4,μ4,S4,R4,(eM P4).imp fun b μ5 H5 α5 X5 S5 P5=>?_⟩
   have xx:p.X H1 H5 α1 α5:=((X2.trans X3).trans X4).trans X5
   have a5:α5[μ1.length]?=some acc:=X5.pre _ _ (X4.pre _ _ (X3.pre _ _ a2))
   cases b with
   | false=>
    rw [LV Mu] at P5
    refine Jy ?_
    exact ⟨hlt,α5,ρ4,μ5,xx,S5,R4.mono X5,a5,P5⟩
   | true=>
    rw [LU rfl] at P5
    refine Jx ?_
    refine ⟨α5,ρ4,μ5,S5,R4.mono X5,(eM P5).imp fun y μ6 H6 α6 X6 S6 P6 v rv=>?_⟩
    obtain ⟨ys,e1,e2,μ7,x7,s7,q7⟩:=w8 (p:=p) S6 (X6.pre _ _ a5) rv (aK.bind P6)
    exact ⟨ys,e1,e2,hlt,α6,ρ4,μ7,(xx.trans X6).trans x7,s7,((R4.mono X5).mono X6).mono x7,X6.pre _ _ a5,q7⟩
  ·rw [LV ho] at P2;exact P2.elim
 ·have e : i = src.items.length := by omega
  subst e
  rw [PD] at P2
  unfold compLoop at P2
  by_cases ho:cY src μ2
  ·rw [LU ho] at P2
   exact .inl ⟨(hJ H2 α2 μ2 X2 S2 ho).2,P2 H2 α2 mN.refl S2 _ (ba.mpr ⟨acc,rfl,a2⟩)⟩
  ·rw [LV ho] at P2;exact P2.elim
theorem Ed {X:Cx}:sZ X [] (i9 p bI):=fun pins s σ H Q I h=>by
 obtain ⟨α,ρ,μ,S,R,P⟩:=h
 exact EM pins s σ H Q I (P.now S)
theorem Ec {X:Cx}{c:Expr}{t:MT} (h:PT X c (i9 p t)):sZ X [c] (i9 p t):=EL h
theorem EA (hc:X.calm=true) (S:cA X.N X.env scope Nc cap) (hi:PI X tg iter (sX p fi))
  (hg:∀ cl C s H fp,PG (j8 X Nc scope cl C s H fp) tg (pJ p.nx g)) (ht:∀ cl C s H fp,sZ (j8 X Nc scope cl C s H fp) ifs (i9 p.nx t)) (he:∀ cl C s H fp,PE (j8 X Nc scope cl C s H fp) elt (tD p.nx e))
  (hs:∀ x,foldedSetIterable iter X.env x=pure x):PE X (.ListComp elt [⟨tg,iter,ifs,0⟩] scope pos) (tD p (bV fi cap g t e)):=
 (E1 hc S hi hg ht he hs).weak fun σ H Q h=>uE h
theorem Ef {i:Nat}{x:Str}{pos1:Pos}{pos2:Pos} (hc:X.calm=true) (hN:X.N.Nodup) (hix:X.N[i]?=some x) (hx:X.env.scope.names.lookup x=some .local) (S:cA X.N X.env scope Nc cap) (hi:PI X tg iter (sX p fi))
  (hg:∀ cl C s H fp,PG (j8 X Nc scope cl C s H fp) tg (pJ p.nx g)) (ht:∀ cl C s H fp,sZ (j8 X Nc scope cl C s H fp) ifs (i9 p.nx t)) (he:∀ cl C s H fp,PE (j8 X Nc scope cl C s H fp) elt (tD p.nx e))
  (hsw:swapsWith (.ListComp elt [⟨tg,iter,ifs,0⟩] scope pos) (some (.Name x pos1)) pos2.line X.env=pure true) (hs:∀ x,foldedSetIterable iter X.env x=pure x) :
  PS X (.Assign [.Name x pos1] (.ListComp elt [⟨tg,iter,ifs,0⟩] scope pos) pos2) (ja p (bp (bV fi cap g t e) (ai i))):=
 (ES hc hN hix hx S hi hg ht he hsw hs).weak fun D σ H h => by
  obtain ⟨α,ρ,μ,S,R,P⟩:=h
  refine uE ⟨α,ρ,μ,S,R,(aK.bindS P).imp fun d μ1 H1 α1 X1 S1 P1 v rv=>?_⟩
  exact P1 H1 α1 _ mN.refl S1 ((R.mono X1).set i rv)
end
abbrev MB:=Nat->Ro->aG->ak Ro
def qX (e:ME):MB:=fun n ρ μ=>(e ρ μ).nox.bind fun y μ1=>(tY n y μ1).bind fun _ μ2=>.ok ρ μ2
open Classical in
noncomputable def kW (src:nA) (n:Nat) (g:MG) (t:MT) (fb:MB):List D->Ro->aG->ak Ro
 | [],ρ,μ=>if cY src μ then .ok ρ μ else .bad
 | d::r,ρ,μ=>if cY src μ then (g d ρ μ).nox.bind fun ρ1 μ1=>(t ρ1 μ1).nox.bind fun b μ2=>if b=true then (fb n ρ1 μ2).nox.bind fun ρ2 μ3=>kW src n g t fb r ρ2 μ3 else kW src n g t fb r ρ1 μ2 else .bad
noncomputable def rm (fi:MI) (g:MG) (t:MT) (fb:MB):MB:=fun n ρ μ=>(fi ρ μ).nox.bind fun src μ1=>kW src n g t fb src.items ρ μ1
noncomputable def oW (fi:MI) (cap:List (Option Nat)) (g:MG) (t:MT) (fb:MB):ME:=fun ρ μ=>(fi ρ μ).bind fun src μ1=>(kW src μ1.length g t fb src.items (eE cap ρ) (μ1++[.lst []])).bind fun _ μ2=>.ok (.obj μ1.length) μ2
section
variable {p:Pa}
def Ai (p:Pa) (fb:MB) (acc:Addr):DS:=fun σ H N=>∃ α ρ μ n,p.S H α μ/\du p.K H α ρ σ/\α[n]?=some acc/\aK p H α (fb n ρ μ) (fun ρ' _ H' α'=>∀ σ',du p.K H' α' ρ' σ'->N σ' H')
theorem A6 {e:ME}{acc:Addr}{σ:St}{H:Hp}{N:St->Hp->Prop} (h:Ai p (qX e) acc σ H N):BN (tD p.nx e) acc σ H N:=by
 obtain ⟨α,ρ,μ,n,S,R,a,P⟩:=h
 refine ⟨α,ρ,μ,S,R,(eM P).imp fun y μ6 H6 α6 X6 S6 P6 v rv=>?_⟩
 obtain ⟨ys,e1,e2,μ7,x7,s7,q7⟩:=w8 (p:=p) S6 (X6.pre _ _ a) rv (aK.bind P6)
 exact ⟨ys,e1,e2,q7.now s7 σ ((R.mono X6).mono x7)⟩
theorem se {src:nA}{n:Nat}{g:MG}{t:MT}{fb:MB}{acc:Addr}{J:It}{H1 H0:Hp}{α1 α0:List Addr}{ρ:Ro}{μ1:aG}{σ:St}{N:St->Hp->Prop} (X0:p.X H0 H1 α0 α1) (S1:p.S H1 α1 μ1) (R:du p.K H1 α1 ρ σ) (hn:α1[n]?=some acc) (hJ:yw p J src H0 α0)
  (P1:aK p H1 α1 (kW src n g t fb src.items ρ μ1) (fun ρ' _ H' α'=>∀ σ',du p.K H' α' ρ' σ'->N σ' H')):Kq J (pJ p.nx g) (i9 p.nx t) (Ai p.nx fb acc) N σ H1:=by
 refine ⟨fun i m σ2 H2=>m=src.items.length - i/\i<=src.items.length/\∃ α2 ρ2 μ2,p.X H0 H2 α0 α2/\p.S H2 α2 μ2/\du p.K H2 α2 ρ2 σ2/\α2[n]?=some acc/\aK p H2 α2 (kW src n g t fb (src.items.drop i) ρ2 μ2) (fun ρ' _ H' α'=>∀ σ',du p.K H' α' ρ' σ'->N σ' H'),
  ⟨_,rfl,NZ _,α1,ρ,μ1,X0,S1,R,hn,by simpa using P1⟩,?_⟩
 rintro i m σ2 H2 ⟨rfl,hi,α2,ρ2,μ2,X2,S2,R2,a2,P2⟩
 by_cases hlt:i<src.items.length
 ·rw [PB hlt] at P2
  unfold kW at P2
  by_cases ho:cY src μ2
  ·rw [LU ho] at P2
   obtain ⟨hgo,hy⟩:=(hJ H2 α2 μ2 X2 S2 ho).1 i _ (Pp hlt)
   refine .inr ⟨hgo,fun σ' H'=>i+1<=src.items.length/\∃ α2 ρ2 μ2,p.X H0 H' α0 α2/\p.S H' α2 μ2/\du p.K H' α2 ρ2 σ'/\α2[n]?=some acc/\aK p H' α2 (kW src n g t fb (src.items.drop (i+1)) ρ2 μ2) (fun ρ' _ H' α'=>∀ σ',du p.K H' α' ρ' σ'->N σ' H'),
    fun σ' H' ⟨h1,h2⟩=>⟨_,by omega,rfl,h1,h2⟩,fun x H3 yx=>?_⟩
   obtain ⟨X3,S3,R3⟩:=hy x H3 yx
   refine ⟨α2,ρ2,μ2,_,S3,R2.mono X3,R3,(aK.from (p:=p.nx) X3 (eM P2)).imp fun ρ4 μ4 H4 α4 X4 S4 P4 σ4 R4=>?_⟩
   refine ⟨α4,ρ4,μ4,S4,R4,(eM P4).imp fun b μ5 H5 α5 X5 S5 P5=>?_⟩
   have xx:p.X H0 H5 α0 α5:=((X2.trans X3).trans X4).trans X5
   have a5:α5[n]?=some acc:=X5.pre _ _ (X4.pre _ _ (X3.pre _ _ a2))
   cases b with
   | false=>
    rw [LV Mu] at P5
    refine Jy ?_
    exact ⟨hlt,α5,ρ4,μ5,xx,S5,R4.mono X5,a5,P5⟩
   | true=>
    rw [LU rfl] at P5
    refine Jx ?_
    refine ⟨α5,ρ4,μ5,n,S5,R4.mono X5,a5,(eM P5).imp fun ρ6 μ6 H6 α6 X6 S6 P6 σ' r'=>?_⟩
    exact ⟨hlt,α6,ρ6,μ6,xx.trans X6,S6,r',X6.pre _ _ a5,P6⟩
  ·rw [LV ho] at P2;exact P2.elim
 ·have e : i = src.items.length := by omega
  subst e
  rw [PD] at P2
  unfold kW at P2
  by_cases ho:cY src μ2
  ·rw [LU ho] at P2
   exact .inl ⟨(hJ H2 α2 μ2 X2 S2 ho).2,P2.now S2 _ R2⟩
  ·rw [LV ho] at P2;exact P2.elim
theorem zb {fi:MI}{g:MG}{t:MT}{fb:MB}{acc:Addr}{σ:St}{H:Hp}{N:St->Hp->Prop} (h:Ai p.nx (rm fi g t fb) acc σ H N):B6 (sX p.nx fi) (pJ p.nx g) (i9 p.nx t) (Ai p.nx fb acc) σ H N:=by
 obtain ⟨α,ρ,μ,n,S,R,a,P⟩:=h
 refine ⟨α,ρ,μ,S,R,(eM P).imp fun src μ1 H1 α1 X1 S1 P1 J hok hJ=>?_⟩
 exact se (p:=p.nx) mN.refl S1 (R.mono X1) (X1.pre _ _ a) hJ P1
theorem zf {fi:MI}{cap:List (Option Nat)}{g:MG}{t:MT}{fb:MB}{σ:St}{H:Hp}{Q:VK} (h:tD p (oW fi cap g t fb) σ H Q):rf (fun _=>.lst []) (sX p fi) cap (pJ p.nx g) (i9 p.nx t) (fun acc=>Ai p.nx fb acc) σ H Q:=by
 obtain ⟨α,ρ,μ,S,R,P⟩:=h
 refine ⟨α,ρ,μ,S,R,(aK.bind P).imp fun src μ1 H1 α1 X1 S1 P1 J hok hJ acc hacc=>?_⟩
 obtain ⟨x1,s1,_⟩:=dz (ds:=[]) (vs:=[]) S1 hacc Reps.nil
 have hn:(α1++[acc])[μ1.length]?=some acc:=by rw [<- S1.len];simp
 refine se (p:=p) x1 s1 (((R.mono X1).cap cap).mono x1) hn hJ ((aK.from x1 (aK.bind P1)).imp fun ρ' μ' H' α' X' S' P' σ' r'=>?_)
 exact P'.now S' _ (ba.mpr ⟨acc,rfl,X'.pre _ _ hn⟩)
variable {X:Cx}{elt:Expr}{cl0 cl:Comprehension}{rest:List Comprehension}{scope:Scope}{Nc:List Str}{cap:List (Option Nat)}{fi:MI}{g:MG}{t:MT}{fb:MB}{pos:Pos}{e:Expr}{d:Nat}{acc:Addr}
theorem ED {f:ME}{gens:List Comprehension} (hg:gens[d]?=none) (hxe:X.xe=v3) (hel:PE X elt (tD p.nx f)):yr X (.ListComp elt gens scope pos) d acc (Ai p.nx (qX f) acc):=fun pins s σ H N I h=>rM hg hxe hel pins s σ H N I (A6 (p:=p.nx) h)
theorem C0 (he:nc e=true) (hz:∀ g∈clausesOf e,g.is_async=0) (hg:(clausesOf e)[d]?=some cl) (hxe:X.xe=v3) (hc:X.calm=true) (hi:PI X cl.target cl.iter (sX p.nx fi)) (hgc:PG X cl.target (pJ p.nx g)) (htc:sZ X cl.ifs (i9 p.nx t)) (hb:yr X e (d+1) acc (Ai p.nx fb acc))
  (hs:∀ x,foldedSetIterable cl.iter X.env x=pure x):yr X e d acc (Ai p.nx (rm fi g t fb) acc):=fun pins s σ H N I h=>AM he hz hg hxe hc hi hgc htc hb hs pins s σ H N I (zb h)
theorem CA {i:Nat}{x:Str}{pos1:Pos}{pos2:Pos} (hc:X.calm=true) (hz:∀ g∈cl0::rest,g.is_async=0) (hN:X.N.Nodup) (hix:X.N[i]?=some x) (hx:X.env.scope.names.lookup x=some .local) (S:cA X.N X.env scope Nc cap) (hi:PI X cl0.target cl0.iter (sX p fi))
  (hg:∀ cl C s H fp,PG (j8 X Nc scope cl C s H fp) cl0.target (pJ p.nx g)) (ht:∀ cl C s H fp,sZ (j8 X Nc scope cl C s H fp) cl0.ifs (i9 p.nx t)) (hb:∀ cl C s H fp acc,yr (j8 X Nc scope cl C s H fp) (.ListComp elt (cl0::rest) scope pos) 1 acc (Ai p.nx fb acc))
  (hsw:swapsWith (.ListComp elt (cl0::rest) scope pos) (some (.Name x pos1)) pos2.line X.env=pure true) (hs:∀ x,foldedSetIterable cl0.iter X.env x=pure x) :
  PS X (.Assign [.Name x pos1] (.ListComp elt (cl0::rest) scope pos) pos2) (ja p (bp (oW fi cap g t fb) (ai i))):=
 (w9 hc hz hN hix hx S hi hg ht hb hsw hs).weak fun D σ H h => by
  obtain ⟨α,ρ,μ,S,R,P⟩:=h
  refine zf ⟨α,ρ,μ,S,R,(aK.bindS P).imp fun d μ1 H1 α1 X1 S1 P1 v rv=>?_⟩
  exact P1 H1 α1 _ mN.refl S1 ((R.mono X1).set i rv)
end
mutual
def D.low (n:Nat):D->Prop
 | .tup xs=>D.lows n xs
 | .frz xs=>D.lows n xs
 | .obj m=>m<n
 | _=>True
def D.lows (n:Nat):List D->Prop
 | []=>True
 | x::xs=>x.low n/\D.lows n xs
end
def O.low (n:Nat):O->Prop
 | .lst xs=>D.lows n xs
 | _=>True
section
variable {K:W.Frag}{H:Hp}{α α':List Addr}
mutual
theorem aX.low:∀ {d:D}{v:V},aX K H α d v->d.low α.length
 | .non,_,_=>trivial
 | .bl _,_,_=>trivial
 | .int _,_,_=>trivial
 | .str _,_,_=>trivial
 | .tup xs,_,h=>by
  obtain ⟨a,vs,rfl,h1,h2⟩:=aO.mp h
  simp only [D.low]
  exact Reps.low h2
 | .frz xs,_,h=>by
  obtain ⟨a,vs,rfl,h1,h2⟩:=bM.mp h
  simp only [D.low]
  exact Reps.low h2
 | .obj n,_,h=>by
  obtain ⟨a,rfl,h1⟩:=ba.mp h
  simp only [D.low]
  exact (Mg.mp h1).1
theorem Reps.low:∀ {ds:List D}{vs:List V},Reps K H α ds vs->D.lows α.length ds
 | [],_,_=>trivial
 | d::ds,_,h=>by
  simp only [Reps] at h
  obtain ⟨v,r,rfl,h1,h2⟩:=h
  simp only [D.lows]
  exact ⟨aX.low h1,Reps.low h2⟩
end
mutual
theorem aX.cut {n:Nat} (e:∀ m,m<n->α'[m]?=α[m]?):∀ {d:D}{v:V},aX K H α' d v->d.low n->aX K H α d v
 | .non,_,h,_=>by simp only [aX] at h ⊢;exact h
 | .bl _,_,h,_=>by simp only [aX] at h ⊢;exact h
 | .int _,_,h,_=>by simp only [aX] at h ⊢;exact h
 | .str _,_,h,_=>by simp only [aX] at h ⊢;exact h
 | .tup xs,_,h,b=>by
  obtain ⟨a,vs,rfl,h1,h2⟩:=aO.mp h
  simp only [D.low] at b
  exact aO.mpr ⟨a,vs,rfl,h1,Reps.cut e h2 b⟩
 | .frz xs,_,h,b=>by
  obtain ⟨a,vs,rfl,h1,h2⟩:=bM.mp h
  simp only [D.low] at b
  exact bM.mpr ⟨a,vs,rfl,h1,Reps.cut e h2 b⟩
 | .obj m,_,h,b=>by
  obtain ⟨a,rfl,h1⟩:=ba.mp h
  simp only [D.low] at b
  exact ba.mpr ⟨a,rfl,by rw [<- e m b];exact h1⟩
theorem Reps.cut {n:Nat} (e:∀ m,m<n->α'[m]?=α[m]?):∀ {ds:List D}{vs:List V},Reps K H α' ds vs->D.lows n ds->Reps K H α ds vs
 | [],_,h,_=>by simp only [Reps] at h ⊢;exact h
 | d::ds,_,h,b=>by
  simp only [Reps] at h ⊢
  obtain ⟨v,r,rfl,h1,h2⟩:=h
  simp only [D.lows] at b
  exact ⟨v,r,rfl,aX.cut e h1 b.1,Reps.cut e h2 b.2⟩
end
end
def GC (μ μ':aG) (d:D):Prop:=d.low μ.length/\μ.length<=μ'.length/\∀ (i:Nat) o,i<μ.length->μ'[i]?=some o->μ[i]?=some o\/o.low μ.length
open Classical in
noncomputable def qw (μ:aG) (o:ak D):ak D:=match o with
 | .ok d μ'=>if GC μ μ' d then .ok d (μ'.take μ.length) else .ok d μ'
 | o=>o
theorem zZ {p:Pa}{H:Hp}{α:List Addr}{μ:aG}{o:ak D}{Q:VK} (S:p.S H α μ) (P:aK p H α (qw μ o) (RV p Q)):aK p H α o (RV p Q):=by
 cases o with
 | exc x μ'=>exact P
 | bad=>exact P
 | ok d μ'=>
  unfold qw at P
  dsimp only at P
  by_cases hg:GC μ μ' d
  ·rw [LU hg] at P
   obtain ⟨g1,g2,g3⟩:=hg
   intro H' α' e s v rv
   have al:∀ m,m<μ.length->α'[m]?=α[m]?:=fun m hm=>by
    have hm':m<α.length:=by rw [S.len];exact hm
    rw [Pp hm']
    exact e.pre m _ (Pp hm')
   refine P H' α ⟨e.tup,e.frz,fun _ _ z=>z⟩ ⟨by rw [MV,S.len];omega,S.nd,fun n o a h1 h2=>?_⟩ v (aX.cut al rv g1)
   have hn:n<μ.length:=by rw [<- S.len];exact (Mg.mp h2).1
   rw [List.getElem?_take_of_lt hn] at h1
   have q:=s.ob n o a h1 (e.pre n a h2)
   have ob:o.low μ.length:=by
    rcases g3 n o hn h1 with z | z
    ·have q0 := S.ob n o a z h2
     cases o with
     | lst xs=>obtain ⟨vs,_,r⟩:=q0;have:=r.low;rw [S.len] at this;exact this
     | set ks=>trivial
     | iset ks=>trivial
     | dic=>trivial
    ·exact z
   cases o with
   | lst xs=>obtain ⟨vs,h3,r⟩:=q;exact ⟨vs,h3,Reps.cut al r ob⟩
   | set ks=>exact q
   | iset ks=>exact q
   | dic=>exact q
  ·rw [LV hg] at P
   exact P
def SO.out (o:SO):ak D:=match o with
 | .ret d μ=>.ok d μ
 | .next _ μ=>.ok .non μ
 | .exc x μ=>.exc x μ
 | _=>.bad
noncomputable def jC (n N:Nat) (fb:MS):List D->aG->ak D:=fun ds μ=>if ds.length=n then qw μ (fb (ds.map some++List.replicate (N - n) none) μ).out else .bad
def Gw (p:Pa) (n:Nat) (F:List D->aG->ak D):Sp:=fun vs H Q _=>vs.length=n/\∃ α ds μ,p.S H α μ/\p.Rs H α ds vs/\aK p H α (F ds μ) (RV p Q)
structure dj (P:Program) (w:World) (K:W.Frag) (mg:Str->Option Value) (base:Heap) (p:Pa) (k:Nat) (x:Str) (n:Nat) (F:List D->aG->ak D):Prop where
 len:∀ ds μ,ds.length≠n->F ds μ=.bad
 fn:∃ f fd ps,mg x=some (.ref f)/\W.keepIn K (.ref f)=true/\lC K fd ps []/\tp P w K mg base By k f fd ps (Gw p n F)
section
variable {p:Pa}{X:Cx}{k n:Nat}{x:Str}{F:List D->aG->ak D}{a:Expr}{es:List Expr}{fr:MA}{pos px:Pos}
theorem EB (h:dj X.prog X.w X.K X.mg X.base p k x n F) (hr:jB k X.A) (hg:Gl X x) (ha:PA X (a::es) (pK p fr)) (hdb:(x == ("__debug__" : Str))=false) (he:starEach (a::es) X.env=(false,eval a X.env)::starEach es X.env) (hpl:(backTo pos (starEach es X.env)).any (·.1)=false) :
  PE X (.Call (.Name x px) (a::es) [] pos) (tD p (aA F fr)):=by
 obtain ⟨f,fd,ps,h1,h2,h3,h4⟩:=h.fn
 refine (E3 (dvs:=[]) (E:=E0) h4 hr hg h1 h2 h3 .nil J9 ha hdb he hpl).weak fun σ H Q ⟨α,ρ,μ,S,R,P⟩=>⟨α,ρ,μ,S,R,(aK.bind P).imp fun ds μ1 H1 α1 X1 S1 P1 vs rv=>?_⟩
 show Gw p n F (vs++[]) H1 Q E0
 rw [MM]
 refine ⟨?_,α1,ds,μ1,S1,rv,P1⟩
 by_cases hl:ds.length=n
 ·rw [rv.length];exact hl
 ·rw [h.len ds μ1 hl] at P1;exact P1.elim
end
theorem sA {K:W.Frag}{H:Hp}{α:List Addr}{ds:List D}{vs:List V} (r:Reps K H α ds vs) (m:Nat):du K H α (ds.map some++List.replicate m none) (vs.map some++List.replicate m none):=by
 refine ⟨by simp [r.length],fun i d h=>?_⟩
 by_cases hi:i<ds.length
 ·rw [MY (by simpa using hi), MZ] at h
  cases e:ds[i]? with
  | none=>rw [e] at h;cases h
  | some x=>
   rw [e] at h;cases h
   obtain ⟨v,hv,rv⟩:=r.get e
   refine ⟨v,?_,rv⟩
   rw [MY (by simp [r.length,hi]),MZ,hv];rfl
 ·rw [MX (by simpa using hi), List.getElem?_replicate] at h
  split at h <;> cases h
theorem IY {P:Program}{w:World}{K:W.Frag}{mg:Str->Option Value}{base:Heap}{p:Pa}{k n:Nat}{x qual:Str}{st:Stmt}{f:Addr}{fd:FuncData}{N ps:List Str}{fb:MS}
  (F:iS K x qual st f fd) (S:aY N ps (aw st)) (hn:ps.length=n) (hm:mg x=some (.ref f)) (hb:lC K fd ps [])
  (body : ∀ (cdv : Value) (A : Around) (outer : List Env) (s : Shared) (H : Hp) (E : XK), jB k (A.deeper (envOfC qual (aw st) s.heap.objs.size f cdv)) ->
   lp (uU By P w K mg base N qual (aw st) f cdv A outer s H E).nox (c8 st) (ja p fb)):dj P w K mg base p (k+1) x n (jC n N.length fb):=by
 refine ⟨fun ds μ h=>by unfold jC;rw [LV h],f,fd,ps,hm,F.kp,hb,?_⟩
 refine F.ok S (fun vs H Q E h=>h.1.trans hn.symm) fun cdv A outer s H vs Q E hr h=>?_
 refine ⟨_,body cdv A outer s H E hr,?_⟩
 obtain ⟨hl,α,ds,μ,S1,R1,P1⟩:=h
 unfold jC at P1
 have hd:ds.length=n:=by rw [<- R1.length];exact hl
 rw [LU hd] at P1
 have P2:=zZ S1 P1
 unfold start
 rw [hl]
 refine ⟨α,_,μ,S1,sA R1 _,?_⟩
 cases e:fb (ds.map some++List.replicate (N.length - n) none) μ with
 | ret d μ'=>rw [e] at P2;exact fun H' α' v x s r=>P2 H' α' x s v r
 | next ρ μ'=>rw [e] at P2;exact fun H' α' σ' x s r=>P2 H' α' x s .non (cI.mpr rfl)
 | exc x μ'=>rw [e] at P2;exact P2
 | brk ρ μ'=>rw [e] at P2;exact P2.elim
 | cnt ρ μ'=>rw [e] at P2;exact P2.elim
 | bad=>rw [e] at P2;exact P2.elim
end L2
namespace L2
open PySem PySem.Spec PyProof.Rows RS
section
variable (K:W.Frag) (H:Hp)
mutual
def oJ:PyData->V->Prop
 | .none,v=>v=.non
 | .bool b,v=>v=.bl b
 | .int i,v=>v=.int i
 | .str x,v=>v=.str x
 | .tuple xs,v=>∃ a vs,v=.ref a/\ip K H a vs/\RdPs xs vs
 | .list xs,v=>∃ a vs,v=.ref a/\ia K H a vs/\RdPs xs vs
 | .dict _,_=>False
def RdPs:List PyData->List V->Prop
 | [],vs=>vs=[]
 | x::xs,vs=>∃ v r,vs=v::r/\oJ x v/\RdPs xs r
end
end
section
variable {X:Cx}{pins:List (Addr × Obj)}{σ:St}{H:Hp}{s:Shared}
mutual
theorem eJ (I:bc X pins σ H s):∀ (d:PyData) (x:V) (v:Value),oJ X.K H d x->cM x v->∃ as,Reads s.heap v d as
 | .none,_,_,h,r=>by simp only [oJ] at h;subst h;cases r;exact ⟨_,.none⟩
 | .bool b,_,_,h,r=>by simp only [oJ] at h;subst h;cases r;exact ⟨_,.bool b⟩
 | .int b,_,_,h,r=>by simp only [oJ] at h;subst h;obtain ⟨t,rfl⟩:=r;exact ⟨_,.int b t⟩
 | .str b,_,_,h,r=>by simp only [oJ] at h;subst h;obtain ⟨t,rfl⟩:=r;exact ⟨_,.str b t⟩
 | .tuple xs,_,_,h,r=>by
  simp only [oJ] at h
  obtain ⟨a,vs,rfl,h1,h2⟩:=h
  cases r
  obtain ⟨its,rv,⟨o,e1,e2,n,e3⟩,_⟩:=I.tuple h1
  obtain ⟨as,q⟩:=readsAll_of I xs vs its h2 rv
  exact ⟨_,.tuple e1 e2 e3 (by simpa using q)⟩
 | .list xs,_,_,h,r=>by
  simp only [oJ] at h
  obtain ⟨a,vs,rfl,h1,h2⟩:=h
  cases r
  obtain ⟨its,rv,⟨o,n,e1,e2,_,e3⟩,_⟩:=I.list h1
  obtain ⟨as,q⟩:=readsAll_of I xs vs its h2 rv
  exact ⟨_,.list e1 e2 e3 (by simpa using q)⟩
 | .dict _,_,_,h,_=>by simp only [oJ] at h
theorem readsAll_of (I:bc X pins σ H s):∀ (ds:List PyData) (xs:List V) (vs:List Value),RdPs X.K H ds xs->bx xs vs->∃ as,ReadsAll s.heap vs ds as
 | [],_,_,h,r=>by simp only [RdPs] at h;subst h;cases r;exact ⟨_,.nil⟩
 | d::ds,_,_,h,r=>by
  simp only [RdPs] at h
  obtain ⟨v,q,rfl,h1,h2⟩:=h
  cases r with
  | cons r rr=>
   obtain ⟨as,g1⟩:=eJ I d _ _ h1 r
   obtain ⟨bs,g2⟩:=readsAll_of I ds _ _ h2 rr
   exact ⟨_,.cons g1 g2⟩
end
def dJ (d:PyData):Bool:=d.canLay0 && decide (d.depth<=60)
def BD (K:W.Frag) (neg:Bool):R2:=fun x y H Q=>∃ a b,oJ K H a x/\oJ K H b y/\dJ a=true/\dJ b=true/\Q (.bl (if neg then !PyData.eqv a b else PyData.eqv a b)) H
theorem pk {a b:PyData}{A:Around} (ha:dJ a=true) (hu:A.units+64<cLine):A.units+min a.depth b.depth<cLine:=by
 unfold dJ at ha
 simp only [Nw,PF] at ha
 have:=Nat.min_le_left a.depth b.depth
 omega
theorem cQ {a:PyData} (ha:dJ a=true):a.canLay0=true:=by
 unfold dJ at ha
 simp only [Nw,PF] at ha
 exact ha.1
theorem sk {a:PyData} (ha:dJ a=true):a.depth<=60:=by
 unfold dJ at ha
 simp only [Nw,PF] at ha
 exact ha.2
theorem HX (hu:X.A.units+64<cLine):lg X (compareOp .Eq) (BD X.K false):=by
 intro pins s σ H x y v u Q I rx ry h
 obtain ⟨a,b,h1,h2,h3,h4,q⟩:=h
 obtain ⟨as,r1⟩:=eJ I a x v h1 rx
 obtain ⟨bs,r2⟩:=eJ I b y u h2 ry
 exact SeqAt.compareEq_reads r1 r2 (cQ h3) (cQ h4) (pk h3 hu) ⟨.bl _,H,I,rfl,q⟩
theorem HR (hu:X.A.units+64<cLine):lg X (compareOp .NotEq) (BD X.K true):=by
 intro pins s σ H x y v u Q I rx ry h
 obtain ⟨a,b,h1,h2,h3,h4,q⟩:=h
 obtain ⟨as,r1⟩:=eJ I a x v h1 rx
 obtain ⟨bs,r2⟩:=eJ I b y u h2 ry
 exact SeqAt.compareNe_reads r1 r2 (cQ h3) (cQ h4) (pk h3 hu) ⟨.bl _,H,I,rfl,q⟩
def BC (K:W.Frag) (neg:Bool):R2:=fun x y H Q=>∃ a b xs,oJ K H a x/\oJ K H b y/\(b=.list xs\/b=.tuple xs)/\dJ a=true/\dJ b=true/\Q (.bl (if neg then !(xs.any fun y=>PyData.eqv y a) else xs.any fun y=>PyData.eqv y a)) H
theorem HW (hu:X.A.units+64<cLine):lg X (compareOp .In) (BC X.K false):=by
 intro pins s σ H x y v u Q I rx ry h
 obtain ⟨a,b,xs,h1,h2,hb,h3,h4,q⟩:=h
 obtain ⟨as,r1⟩:=eJ I a x v h1 rx
 obtain ⟨bs,r2⟩:=eJ I b y u h2 ry
 have hd:=sk h3
 rcases hb with rfl|rfl
 ·refine SeqAt.in_list_reads r2 r1 (by simpa [PyData.canLay0] using cQ h4) (cQ h3) ?_ ⟨.bl _, H, I, rfl, q⟩
  have:=Nk (PyData.depthAll xs) a.depth
  omega
 ·refine SeqAt.in_tuple_reads r2 r1 (by simpa [PyData.canLay0] using cQ h4) (cQ h3) ?_ ⟨.bl _, H, I, rfl, q⟩
  have:=Nk (PyData.depthAll xs) a.depth
  omega
theorem AO (hu:X.A.units+64<cLine):lg X (compareOp .NotIn) (BC X.K true):=by
 intro pins s σ H x y v u Q I rx ry h
 obtain ⟨a,b,xs,h1,h2,hb,h3,h4,q⟩:=h
 obtain ⟨as,r1⟩:=eJ I a x v h1 rx
 obtain ⟨bs,r2⟩:=eJ I b y u h2 ry
 have hd:=sk h3
 rcases hb with rfl|rfl
 ·refine SeqAt.notIn_list_reads r2 r1 (by simpa [PyData.canLay0] using cQ h4) (cQ h3) ?_ ⟨.bl _, H, I, rfl, q⟩
  have:=Nk (PyData.depthAll xs) a.depth
  omega
 ·refine SeqAt.notIn_tuple_reads r2 r1 (by simpa [PyData.canLay0] using cQ h4) (cQ h3) ?_ ⟨.bl _, H, I, rfl, q⟩
  have:=Nk (PyData.depthAll xs) a.depth
  omega
end
mutual
def yp (μ:aG):D->Option PyData
 | .non=>some .none
 | .bl b=>some (.bool b)
 | .int i=>some (.int i)
 | .str x=>some (.str x)
 | .tup xs=>(toPs μ xs).map .tuple
 | .frz xs=>(toPs μ xs).map .list
 | .obj _=>none
def toPs (μ:aG):List D->Option (List PyData)
 | []=>some []
 | x::xs=>(yp μ x).bind fun a=>(toPs μ xs).map fun r=>a::r
end
def Am (μ:aG) (d:D):Option PyData:=match d with
 | .obj n=>match μ[n]? with
  | some (.lst xs)=>(toPs μ xs).map .list
  | _=>none
 | d=>yp μ d
def ij (μ:aG):List D->Option (List PyData)
 | []=>some []
 | x::xs=>(Am μ x).bind fun a=>(ij μ xs).map fun r=>a::r
def kT (μ:aG) (d:D):Option PyData:=match d with
 | .obj n=>match μ[n]? with
  | some (.lst xs)=>(ij μ xs).map .list
  | _=>none
 | .tup xs=>(ij μ xs).map .tuple
 | d=>yp μ d
section
variable {K:W.Frag}{w:World}{H:Hp}{α:List Addr}{μ:aG}
mutual
theorem iM:∀ {d:D}{q:PyData}{v:V},yp μ d=some q->aX K H α d v->oJ K H q v
 | .non,_,_,h,r=>by simp only [yp] at h;cases h;simp only [oJ];exact cI.mp r
 | .bl b,_,_,h,r=>by simp only [yp] at h;cases h;simp only [oJ];exact bw.mp r
 | .int b,_,_,h,r=>by simp only [yp] at h;cases h;simp only [oJ];exact ax.mp r
 | .str b,_,_,h,r=>by simp only [yp] at h;cases h;simp only [oJ];exact de.mp r
 | .tup xs,_,_,h,r=>by
  simp only [yp] at h
  cases e:toPs μ xs with
  | none=>rw [e] at h;cases h
  | some ys=>
   rw [e] at h;cases h
   obtain ⟨a,vs,rfl,h1,h2⟩:=aO.mp r
   simp only [oJ]
   exact ⟨a,vs,rfl,h1,toPs_ok e h2⟩
 | .frz xs,_,_,h,r=>by
  simp only [yp] at h
  cases e:toPs μ xs with
  | none=>rw [e] at h;cases h
  | some ys=>
   rw [e] at h;cases h
   obtain ⟨a,vs,rfl,h1,h2⟩:=bM.mp r
   simp only [oJ]
   exact ⟨a,vs,rfl,h1.sq,toPs_ok e h2⟩
 | .obj n,_,_,h,r=>by simp only [yp] at h;cases h
theorem toPs_ok:∀ {ds:List D}{qs:List PyData}{vs:List V},toPs μ ds=some qs->Reps K H α ds vs->RdPs K H qs vs
 | [],_,_,h,r=>by simp only [toPs] at h;cases h;simp only [RdPs];simp only [Reps] at r;exact r
 | x::xs,_,_,h,r=>by
  simp only [toPs] at h
  cases e1:yp μ x with
  | none=>rw [e1] at h;cases h
  | some a=>
   cases e2:toPs μ xs with
   | none=>rw [e1,e2] at h;cases h
   | some ys=>
    rw [e1,e2] at h;cases h
    simp only [Reps] at r
    obtain ⟨v,vr,rfl,r1,r2⟩:=r
    simp only [RdPs]
    exact ⟨v,vr,rfl,iM e1 r1,toPs_ok e2 r2⟩
end
theorem Ea {d:D}{q:PyData}{v:V} (S:jA K w H α μ) (h:Am μ d=some q) (r:aX K H α d v):oJ K H q v:=by
 cases d with
 | obj n=>
  unfold Am at h
  dsimp only at h
  split at h
  ·rename_i xs hx
   obtain ⟨a,ea,us,hH,rr⟩:=S.at hx
   obtain ⟨a',rfl,ea'⟩:=ba.mp r
   rw [ea] at ea';cases ea'
   cases e:toPs μ xs with
   | none=>rw [e] at h;cases h
   | some ys=>
    rw [e] at h;cases h
    simp only [oJ]
    exact ⟨a,us,rfl,ia.of hH,toPs_ok e rr⟩
  ·cases h
 | non=>exact iM h r
 | bl b=>exact iM h r
 | int i=>exact iM h r
 | str x=>exact iM h r
 | tup xs=>exact iM h r
 | frz xs=>exact iM h r
theorem rE (S:jA K w H α μ):∀ {ds:List D}{qs:List PyData}{vs:List V},ij μ ds=some qs->Reps K H α ds vs->RdPs K H qs vs
 | [],_,_,h,r=>by simp only [ij] at h;cases h;simp only [RdPs];simp only [Reps] at r;exact r
 | x::xs,_,_,h,r=>by
  simp only [ij] at h
  cases e1:Am μ x with
  | none=>rw [e1] at h;cases h
  | some a=>
   cases e2:ij μ xs with
   | none=>rw [e1,e2] at h;cases h
   | some ys=>
    rw [e1,e2] at h;cases h
    simp only [Reps] at r
    obtain ⟨v,vr,rfl,r1,r2⟩:=r
    simp only [RdPs]
    exact ⟨v,vr,rfl,Ea S e1 r1,rE S e2 r2⟩
theorem oP {d:D}{q:PyData}{v:V} (S:jA K w H α μ) (h:kT μ d=some q) (r:aX K H α d v):oJ K H q v:=by
 cases d with
 | obj n=>
  unfold kT at h
  dsimp only at h
  split at h
  ·rename_i xs hx
   obtain ⟨a,ea,us,hH,rr⟩:=S.at hx
   obtain ⟨a',rfl,ea'⟩:=ba.mp r
   rw [ea] at ea';cases ea'
   cases e:ij μ xs with
   | none=>rw [e] at h;cases h
   | some ys=>
    rw [e] at h;cases h
    simp only [oJ]
    exact ⟨a,us,rfl,ia.of hH,rE S e rr⟩
  ·cases h
 | tup xs=>
  unfold kT at h
  dsimp only at h
  cases e:ij μ xs with
  | none=>rw [e] at h;cases h
  | some ys=>
   rw [e] at h;cases h
   obtain ⟨a,vs,rfl,h1,h2⟩:=aO.mp r
   simp only [oJ]
   exact ⟨a,vs,rfl,h1,rE S e h2⟩
 | non=>exact iM h r
 | bl b=>exact iM h r
 | int i=>exact iM h r
 | str x=>exact iM h r
 | frz xs=>exact iM h r
end
def fv (neg:Bool) (a b:D) (μ:aG):ak D:=match kT μ a,kT μ b with
 | some p,some q=>if dJ p=true/\dJ q=true then .ok (.bl (if neg then !PyData.eqv p q else PyData.eqv p q)) μ else .bad
 | _,_=>.bad
def rl:PyData->Option (List PyData)
 | .list xs=>some xs
 | .tuple xs=>some xs
 | _=>none
def qh (neg:Bool) (a b:D) (μ:aG):ak D:=match kT μ a,kT μ b with
 | some p,some q=>match rl q with
  | some xs=>if dJ p=true/\dJ q=true then .ok (.bl (if neg then !(xs.any fun y=>PyData.eqv y p) else xs.any fun y=>PyData.eqv y p)) μ else .bad
  | none=>.bad
 | _,_=>.bad
theorem Gp {p:Pa}{neg:Bool}:tV p (fv neg) (BD p.K neg):=by
 intro a b v y H α μ Q S ra rb P
 unfold fv at P
 split at P
 ·rename_i x z hx hz
  split at P
  ·rename_i hf
   exact ⟨x,z,oP S hx ra,oP S hz rb,hf.1,hf.2,P.now S _ (bw.mpr rfl)⟩
  ·exact P.elim
 ·exact P.elim
theorem Gn {p:Pa}{neg:Bool}:tV p (qh neg) (BC p.K neg):=by
 intro a b v y H α μ Q S ra rb P
 unfold qh at P
 split at P
 ·rename_i x z hx hz
  split at P
  ·rename_i xs hxs
   split at P
   ·rename_i hf
    refine ⟨x,z,xs,oP S hx ra,oP S hz rb,?_,hf.1,hf.2,P.now S _ (bw.mpr rfl)⟩
    cases z <;> first | (cases hxs;exact .inl rfl) | (cases hxs;exact .inr rfl) | (cases hxs)
   ·exact P.elim
  ·exact P.elim
 ·exact P.elim
def D.isNon:D->Bool
 | .non=>true
 | _=>false
def m7 (neg:Bool) (a b:D) (μ:aG):ak D:=match b with
 | .non=>.ok (.bl (if neg then !a.isNon else a.isNon)) μ
 | _=>.bad
theorem zV {K:W.Frag}{H:Hp}{α:List Addr}{a:D}{v:V} (r:aX K H α a v):decide (v=.non)=a.isNon:=by
 cases a with
 | non=>rw [cI.mp r];rfl
 | bl b=>rw [bw.mp r];rfl
 | int b=>rw [ax.mp r];rfl
 | str b=>rw [de.mp r];rfl
 | tup xs=>obtain ⟨a,vs,rfl,_⟩:=aO.mp r;rfl
 | frz xs=>obtain ⟨a,vs,rfl,_⟩:=bM.mp r;rfl
 | obj xs=>obtain ⟨a,rfl,_⟩:=ba.mp r;rfl
theorem Ik {p:Pa}:tV p (m7 false) (fun x y H Q=>y=.non/\Q (.bl (decide (x=.non))) H):=by
 intro a b v y H α μ Q S ra rb P
 cases b with
 | non=>exact ⟨cI.mp rb,P.now S _ (bw.mpr (by rw [zV ra];rfl))⟩
 | bl b=>exact P.elim
 | int b=>exact P.elim
 | str b=>exact P.elim
 | tup xs=>exact P.elim
 | frz xs=>exact P.elim
 | obj xs=>exact P.elim
theorem Fk {p:Pa}:tV p (m7 true) (fun x y H Q=>y=.non/\Q (.bl (!decide (x=.non))) H):=by
 intro a b v y H α μ Q S ra rb P
 cases b with
 | non=>exact ⟨cI.mp rb,P.now S _ (bw.mpr (by rw [zV ra];cases a <;> rfl))⟩
 | bl b=>exact P.elim
 | int b=>exact P.elim
 | str b=>exact P.elim
 | tup xs=>exact P.elim
 | frz xs=>exact P.elim
 | obj xs=>exact P.elim
end L2
namespace L2
open PySem PySem.Spec PyProof.Rows RS
open PySem.SeqAt
open PySem.AutoSeq1 (wpAny_loadPart')
open PySem.MeetsSeq PySem.MeetsSeq2 PySem.MeetsSeq3
def D2 (op:CmpOp) (A:Around) (s:Shared) (y x:Value) (k:Bool):Prop:=∀ (prog:Program) (w:World) (E:Value->Shared->Prop) (Q:Value->Shared->Prop),Q (.bool k) s->wpAny (model prog w) A (richCompare op y x) Q E s
def qO (t:Bool):List (Bool × Bool)->Bool
 | []=>t
 | (e,k)::r=>if e=true then qO t r else k
def qk (op:CmpOp) (A:Around) (s:Shared):List Value->List Value->List (Bool × Bool)->Prop
 | [],_,[]=>True
 | _,[],[]=>True
 | y::ys,x::xs,(e,k)::r=>EqAt A s y x e/\(e=false->D2 op A s y x k)/\(e=true->qk op A s ys xs r)
 | _,_,_=>False
theorem vD (l b:Addr) (items items2:Array Value) (n n2:Nat) (dd dd2:Option Addr) (sl sl2:Array (Option Value)) (eks:List (Bool × Bool)) :
  Meets (Builtin.«tuple.__lt__» ⟨[.ref l,.ref b],[]⟩)
   (fun A R s => s.heap.get? l = some { cls := .type "tuple", dict := dd, data := .seq items n, slots := sl } /\ s.heap.get? b = some { cls := .type "tuple", dict := dd2, data := .seq items2 n2, slots := sl2 } /\
    qk .Lt A.in1 s items.toList items2.toList eks/\R (.ok (.ret (.bool (qO (decide (items.size<items2.size)) eks)))) s):=
 .of_wp fun prog w A R s h=>by
  obtain ⟨hp,g,d,tk,os⟩:=s;obtain ⟨hl,hb,hc,h⟩:=h
  have f2:=AutoSeq1.sub_tuple_tuple
  wp_walk using wpAny_loadPart' hl,wpAny_loadPart' hb,ON _ (fun rest b s'=>b.1=none/\s'=⟨hp,g,d,tk,os⟩/\∃ (vs ws:List Value) (eks':List (Bool × Bool)),rest=vs.zip ws /\
   qk .Lt A.in1 ⟨hp,g,d,tk,os⟩ vs ws eks'/\R (.ok (.ret (.bool (qO (decide (items.size<items2.size)) eks')))) ⟨hp,g,d,tk,os⟩) _
  case turn=>
   rintro ⟨y,x⟩ rest b s' ⟨hb',rfl,vs,ws,eks',hz,hci,hR⟩
   cases vs with
   | nil=>rw [List.zip_nil_left] at hz;cases hz
   | cons a vs=>
    cases ws with
    | nil=>rw [List.zip_nil_right] at hz;cases hz
    | cons c ws=>
     rw [List.zip_cons_cons] at hz
     injection hz with hyx hrest
     injection hyx with hy hx
     subst hy hx
     cases eks' with
     | nil=>simp only [qk] at hci
     | cons ek eks'=>
      obtain ⟨e,k⟩:=ek
      simp only [qk] at hci
      obtain ⟨he,hk,hci⟩:=hci
      refine Mq (he prog w _ _ ?_)
      cases e with
      | true=>
       have hR':R (.ok (.ret (.bool (qO (decide (items.size<items2.size)) eks')))) ⟨hp,g,d,tk,os⟩:=hR
       wp_walk
       exact ⟨rfl,rfl,_,_,_,hrest,hci rfl,hR'⟩
      | false=>
       have hR':R (.ok (.ret (.bool k))) ⟨hp,g,d,tk,os⟩:=hR
       have hri:=hk rfl prog w
       wp_walk using hri
       exact ⟨_,rfl,by simpa using hR'⟩
  case fin=>
   rintro ⟨b1,b2⟩ s' ⟨hb',rfl,vs,ws,eks',hz,hci,hR⟩
   simp only at hb'
   subst hb'
   have hv:eks'=[]:=by
    cases vs with
    | nil=>cases eks' with
     | nil=>rfl
     | cons _ _=>simp only [qk] at hci
    | cons a vs=>cases ws with
     | nil=>cases eks' with
      | nil=>rfl
      | cons _ _=>simp only [qk] at hci
     | cons c ws=>rw [List.zip_cons_cons] at hz;cases hz
   subst hv
   have hR':R (.ok (.ret (.bool (decide (items.size<items2.size))))) ⟨hp,g,d,tk,os⟩:=hR
   wp_walk
   exact ⟨_,rfl,by simpa [Builtin.Tuple.tupleCompareSizes] using hR'⟩
  case h=>
   exact ⟨rfl,rfl,items.toList,items2.toList,eks,rfl,hc,h⟩
theorem Ir {prog:Program}{w:World}{A:Around}{E:Value->Shared->Prop}{s:Shared}{l b:Addr}{items items2:Array Value}{eks:List (Bool × Bool)}{Q:Value->Shared->Prop} (hl:IsTup s.heap l items) (hb:IsTup s.heap b items2) (hc:qk .Lt A.in1 s items.toList items2.toList eks)
  (hu:A.units<cLine) (h:Q (.bool (qO (decide (items.size<items2.size)) eks)) s):wpAny (model prog w) A (richCompare .Lt (.ref l) (.ref b)) Q E s:=by
 obtain ⟨⟨cls,dd,data,sl⟩,ho,hc',n,hd⟩:=id hl
 obtain ⟨⟨cls2,dd2,data2,sl2⟩,ho2,hc2,n2,hd2⟩:=id hb
 simp only at hc' hd hc2 hd2
 subst hc' hd hc2 hd2
 exact richCompare_meets_room (op:=.Lt) ⟨_,ho,rfl⟩ ⟨_,ho2,rfl⟩ PySem.F.slot_tuple_lt PySem.F.entry_tuple_lt (PySem.F.args_tuple_lt_2 _ _) (vD l b items items2 n n2 dd dd2 sl sl2 eks)
  ⟨ho,ho2,hc,show Value.bool (qO (decide (items.size<items2.size)) eks)≠Value.notImplemented/\Q (.bool (qO (decide (items.size<items2.size)) eks)) s from ⟨(fun x=>nomatch x),h⟩⟩ hu
end L2
namespace L2
open PySem PySem.Spec PyProof.Rows RS
def cW:CmpOp->Int->Int->Bool
 | .Lt,i,j=>decide (i<j)
 | .LtE,i,j=>decide (i<=j)
 | .Gt,i,j=>decide (i > j)
 | .GtE,i,j=>decide (i ≥ j)
 | _,_,_=>false
def DZ:CmpOp->Bool
 | .Lt=>true
 | _=>false
mutual
def jd (op:CmpOp):PyData->PyData->Option Bool
 | .int i,.int j=>some (cW op i j)
 | .tuple xs,.tuple ys=>if DZ op=true then cmpPs op xs ys else none
 | _,_=>none
def cmpPs (op:CmpOp):List PyData->List PyData->Option Bool
 | [],ys=>some (cW op 0 ys.length)
 | _::xs,[]=>some (cW op (xs.length+1) 0)
 | x::xs,y::ys=>if PyData.eqv x y=true then cmpPs op xs ys else jd op x y
end
def wx:CmpOp->Bool
 | .Lt | .LtE | .Gt | .GtE=>true
 | _=>false
theorem JZ:∀ {op:CmpOp} (ho:wx op=true) {A:Around}{s:Shared} (a:Int) (t:Tok) (c:Int) (u:Tok),D2 op A s (.int a t) (.int c u) (cW op a c)
 | .Lt,_,A,s,a,t,c,u=>fun prog w E Q h=>(PyProof.Rows.lt_int h:wpAny (model prog w) A (compareOp .Lt (.int a t) (.int c u)) Q E s)
 | .LtE,_,A,s,a,t,c,u=>fun prog w E Q h=>(PyProof.Rows.le_int h:wpAny (model prog w) A (compareOp .LtE (.int a t) (.int c u)) Q E s)
 | .Gt,_,A,s,a,t,c,u=>fun prog w E Q h=>(PyProof.Rows.gt_int h:wpAny (model prog w) A (compareOp .Gt (.int a t) (.int c u)) Q E s)
 | .GtE,_,A,s,a,t,c,u=>fun prog w E Q h=>(PyProof.Rows.ge_int h:wpAny (model prog w) A (compareOp .GtE (.int a t) (.int c u)) Q E s)
theorem zg {op:CmpOp} (i j:Nat):cW op ((i+1:Nat):Int) ((j+1:Nat):Int)=cW op (i:Int) (j:Int):=by
 cases op <;> first | rfl | (unfold cW;simp)
theorem JY:∀ {op:CmpOp} (ho:DZ op=true) {A:Around}{s:Shared}{l b:Addr}{items items2:Array Value}{eks:List (Bool × Bool)} (hl:IsTup s.heap l items) (hb:IsTup s.heap b items2) (hc:qk op A.in1 s items.toList items2.toList eks)
  (hu:A.units<cLine),D2 op A s (.ref l) (.ref b) (qO (cW op items.size items2.size) eks)
 | .Lt,_,A,s,l,b,items,items2,eks,hl,hb,hc,hu=>fun prog w E Q h=>Ir hl hb hc hu (by
   have e:decide (items.size<items2.size)=cW .Lt items.size items2.size:=by (unfold cW;simp)
   rw [e];exact h)
mutual
theorem wY {op:CmpOp} (ho:wx op=true):∀ (da db:PyData) (A:Around) (s:Shared) (a b:Value) (as bs:List Addr) (k:Bool),Reads s.heap a da as->Reads s.heap b db bs->da.canLay0=true->db.canLay0=true ->
  A.units+min da.depth db.depth<cLine->jd op da db=some k->D2 op A s a b k
 | .int i,.int j,A,s,_,_,_,_,k,ra,rb,_,_,hu,hk=>by
  cases ra;cases rb
  simp only [jd] at hk
  cases hk
  exact JZ ho _ _ _ _
 | .tuple xs,.tuple ys,A,s,_,_,_,_,k,ra,rb,ha,hb,hu,hk=>by
  simp only [jd] at hk
  have hlt:DZ op=true:=by
   cases z:DZ op with
   | true=>rfl
   | false=>rw [z,LV Mu] at hk;cases hk
  rw [LU hlt] at hk
  cases ra with
  | @tuple l o vs n _ as₁ h1 h2 h3 h4=>
   cases rb with
   | @tuple l' o' vs' n' _ bs₁ k1 k2 k3 k4=>
    have n1:vs.size=xs.length:=by simpa using SeqAt.ReadsAll.length _ _ _ h4
    have n2:vs'.size=ys.length:=by simpa using SeqAt.ReadsAll.length _ _ _ k4
    obtain ⟨eks,e1,e2⟩:=rc_readsAll ho xs ys A.in1 s vs.toList vs'.toList _ _ k h4 k4 (by simpa [PyData.canLay0] using ha) (by simpa [PyData.canLay0] using hb) (SeqAt.room_in hu) hk
    have:=JY hlt (A:=A) (s:=s) (l:=l) (b:=l') (items:=vs) (items2:=vs') (eks:=eks) ⟨_,h1,h2,_,h3⟩ ⟨_,k1,k2,_,k3⟩ e1 (SeqAt.room_here hu)
    rw [n1,n2,e2] at this
    exact this
 | .none,_,_,_,_,_,_,_,_,_,_,_,_,_,hk=>by simp only [jd] at hk;cases hk
 | .bool _,_,_,_,_,_,_,_,_,_,_,_,_,_,hk=>by simp only [jd] at hk;cases hk
 | .str _,_,_,_,_,_,_,_,_,_,_,_,_,_,hk=>by simp only [jd] at hk;cases hk
 | .list _,_,_,_,_,_,_,_,_,_,_,_,_,_,hk=>by simp only [jd] at hk;cases hk
 | .dict _,_,_,_,_,_,_,_,_,_,_,_,_,_,hk=>by simp only [jd] at hk;cases hk
 | .int _,.none,_,_,_,_,_,_,_,_,_,_,_,_,hk=>by simp only [jd] at hk;cases hk
 | .int _,.bool _,_,_,_,_,_,_,_,_,_,_,_,_,hk=>by simp only [jd] at hk;cases hk
 | .int _,.str _,_,_,_,_,_,_,_,_,_,_,_,_,hk=>by simp only [jd] at hk;cases hk
 | .int _,.list _,_,_,_,_,_,_,_,_,_,_,_,_,hk=>by simp only [jd] at hk;cases hk
 | .int _,.tuple _,_,_,_,_,_,_,_,_,_,_,_,_,hk=>by simp only [jd] at hk;cases hk
 | .int _,.dict _,_,_,_,_,_,_,_,_,_,_,_,_,hk=>by simp only [jd] at hk;cases hk
 | .tuple _,.none,_,_,_,_,_,_,_,_,_,_,_,_,hk=>by simp only [jd] at hk;cases hk
 | .tuple _,.bool _,_,_,_,_,_,_,_,_,_,_,_,_,hk=>by simp only [jd] at hk;cases hk
 | .tuple _,.int _,_,_,_,_,_,_,_,_,_,_,_,_,hk=>by simp only [jd] at hk;cases hk
 | .tuple _,.str _,_,_,_,_,_,_,_,_,_,_,_,_,hk=>by simp only [jd] at hk;cases hk
 | .tuple _,.list _,_,_,_,_,_,_,_,_,_,_,_,_,hk=>by simp only [jd] at hk;cases hk
 | .tuple _,.dict _,_,_,_,_,_,_,_,_,_,_,_,_,hk=>by simp only [jd] at hk;cases hk
theorem rc_readsAll {op:CmpOp} (ho:wx op=true):∀ (xs ys:List PyData) (A:Around) (s:Shared) (vs ws:List Value) (as bs:List Addr) (k:Bool),ReadsAll s.heap vs xs as->ReadsAll s.heap ws ys bs->PyData.canLayAll0 xs=true->PyData.canLayAll0 ys=true ->
  A.units+min (PyData.depthAll xs) (PyData.depthAll ys)<cLine->cmpPs op xs ys=some k->∃ eks,qk op A s vs ws eks/\qO (cW op (xs.length:Nat) (ys.length:Nat)) eks=k
 | [],ys,A,s,_,_,_,_,k,ra,rb,_,_,_,hk=>by
  cases ra
  simp only [cmpPs] at hk
  cases hk
  exact ⟨[],by unfold qk;trivial,rfl⟩
 | x::xs,[],A,s,_,_,_,_,k,ra,rb,_,_,_,hk=>by
  cases rb
  simp only [cmpPs] at hk
  cases hk
  cases ra
  refine ⟨[],by unfold qk;trivial,?_⟩
  simp [qO]
 | x::xs,y::ys,A,s,_,_,_,_,k,ra,rb,ha,hb,hu,hk=>by
  have ha':x.canLay0=true/\PyData.canLayAll0 xs=true:=by simpa [PyData.canLayAll0] using ha
  have hb':y.canLay0=true/\PyData.canLayAll0 ys=true:=by simpa [PyData.canLayAll0] using hb
  cases ra with
  | cons r rs=>
   cases rb with
   | cons r' rs'=>
    have he:=SeqAt.eqAt_reads x y A s _ _ _ _ r r' ha'.1 hb'.1 (SeqAt.room_head hu)
    simp only [cmpPs] at hk
    cases e:PyData.eqv x y with
    | true=>
     rw [LU e] at hk
     rw [e] at he
     obtain ⟨eks,e1,e2⟩:=rc_readsAll ho xs ys A s _ _ _ _ k rs rs' ha'.2 hb'.2 (SeqAt.room_tail hu) hk
     refine ⟨(true,false)::eks,⟨he,fun z=>(by cases z),fun _=>e1⟩,?_⟩
     show qO (cW op ((xs.length+1:Nat):Int) ((ys.length+1:Nat):Int)) eks=k
     rw [zg];exact e2
    | false=>
     rw [LV (by rw [e];exact Mu)] at hk
     rw [e] at he
     refine ⟨[(false,k)],⟨he,fun _=>wY ho x y A s _ _ _ _ k r r' ha'.1 hb'.1 (SeqAt.room_head hu) hk,fun z=>(by cases z)⟩,rfl⟩
end
def BS (K:W.Frag) (op:CmpOp):R2:=fun x y H Q=>∃ a b k,oJ K H a x/\oJ K H b y/\dJ a=true/\dJ b=true/\jd op a b=some k/\Q (.bl k) H
theorem Fb {X:Cx} (hu:X.A.units+64<cLine):∀ {op:CmpOp},wx op=true->lg X (compareOp op) (BS X.K op):=by
 intro op ho pins s σ H x y v u Q I rx ry h
 obtain ⟨a,b,k,h1,h2,h3,h4,h5,q⟩:=h
 obtain ⟨as,r1⟩:=eJ I a x v h1 rx
 obtain ⟨bs,r2⟩:=eJ I b y u h2 ry
 have:=wY ho a b X.A s v u as bs k r1 r2 (cQ h3) (cQ h4) (pk h3 hu) h5 X.prog X.w X.xe (EP X pins σ Q) ⟨.bl k,H,I,rfl,q⟩
 cases op <;> first
  | exact absurd ho (by decide)
  | exact this
def ig (op:CmpOp) (a b:D) (μ:aG):ak D:=match kT μ a,kT μ b with
 | some p,some q=>if dJ p=true/\dJ q=true then (match jd op p q with | some k=>.ok (.bl k) μ | none=>.bad) else .bad
 | _,_=>.bad
theorem Il {p:Pa}{op:CmpOp}:tV p (ig op) (BS p.K op):=by
 intro a b v y H α μ Q S ra rb P
 unfold ig at P
 split at P
 ·rename_i x z hx hz
  split at P
  ·rename_i hf
   split at P
   ·rename_i k hk
    exact ⟨x,z,k,oP S hx ra,oP S hz rb,hf.1,hf.2,hk,P.now S _ (bw.mpr rfl)⟩
   ·exact P.elim
  ·exact P.elim
 ·exact P.elim
def dI (g:Int->Int->D) (a b:D) (μ:aG):ak D:=match a,b with
 | .int i,.int j=>.ok (g i j) μ
 | _,_=>.bad
open Classical in
noncomputable def Gx (C:Int->Int->Prop) (g:Int->Int->D) (a b:D) (μ:aG):ak D:=match a,b with
 | .int i,.int j=>if C i j then .ok (g i j) μ else .bad
 | _,_=>.bad
section
variable {p:Pa}
theorem K4 {g:Int->Int->V}{gd:Int->Int->D} (h:∀ i j H α,p.R H α (gd i j) (g i j)):tV p (dI gd) (Je g):=by
 intro a b v y H α μ Q S ra rb P
 unfold dI at P
 split at P
 ·rename_i i j
  exact ⟨i,j,ax.mp ra,ax.mp rb,P.now S _ (h i j H α)⟩
 ·exact P.elim
theorem BV {C:Int->Int->Prop}{g:Int->Int->V}{gd:Int->Int->D} (h:∀ i j H α,p.R H α (gd i j) (g i j)):tV p (Gx C gd) (rI C g):=by
 intro a b v y H α μ Q S ra rb P
 unfold Gx at P
 split at P
 ·rename_i i j
  split at P
  ·rename_i hc
   exact ⟨i,j,ax.mp ra,ax.mp rb,hc,P.now S _ (h i j H α)⟩
  ·exact P.elim
 ·exact P.elim
def tf (a:D) (μ:aG):ak D:=match a with
 | .int i=>.ok (.int (-i)) μ
 | _=>.bad
theorem Io:Lx p tf (rU fun i=>.int (-i)):=by
 intro a v H α μ Q S ra P
 unfold tf at P
 split at P
 ·rename_i i
  exact ⟨i,ax.mp ra,P.now S _ (ax.mpr rfl)⟩
 ·exact P.elim
def Gm (K:W.Frag):R2:=fun x y H Q=>∃ a b xs ys,x=.ref a/\y=.ref b/\ip K H a xs/\ip K H b ys/\xs.length+ys.length<=sizeLine /\
 (xs=[]->Q (.ref b) H)/\(xs≠[]->ys=[]->Q (.ref a) H)/\(xs≠[]->ys≠[]->∀ p,H p=none->Q (.ref p) (dk H p (.tup (xs++ys))))
theorem DG {prog:Program}{w:World}{A:Around}{E:Value->Shared->Prop}{s:Shared}{t b:Addr}{ws:List Value}{Q:Value->Shared->Prop} (ht:IsTup s.heap t #[]) (hb:IsTup s.heap b ws.toArray) (h0:Q (.ref b) s):wpAny (model prog w) A (binaryOp .Add (.ref t) (.ref b)) Q E s:=by
 obtain ⟨⟨cls,dd,data,sl⟩,ho,hc,n,hd⟩:=id ht
 obtain ⟨⟨cls2,dd2,data2,sl2⟩,ho2,hc2,n2,hd2⟩:=id hb
 simp only at hc hd hc2 hd2
 subst hc hd hc2 hd2
 exact concat_meets ⟨_,ho,rfl⟩ ⟨_,ho2,rfl⟩ Nf seq_tuple_add Ng Nh (Ni _ _)
  (tuple_addW0 t b #[] ws.toArray n n2 dd dd2 sl sl2 (by simp)) ⟨ho,ho2,h0⟩
theorem Fe {X:Cx}:lg X (binaryOp .Add) (Gm X.K):=by
 intro pins s σ H x y v u Q I rx ry h
 obtain ⟨a,b,xs,ys,rfl,rfl,ha,hb,hz,q0,q1,q2⟩:=h
 by_cases hx:xs=[]
 ·cases rx
  cases ry
  obtain ⟨its,r1,p1,_⟩:=I.tuple ha
  obtain ⟨its2,r2,p2,_⟩:=I.tuple hb
  subst hx
  cases r1
  exact DG p1 p2 ⟨.ref b,H,I,rfl,q0 rfl⟩
 ·exact Fc pins s σ H (.ref a) (.ref b) v u Q I rx ry ⟨a,b,xs,ys,rfl,rfl,ha,hb,hx,hz,q1 hx,q2 hx⟩
def BU (K:W.Frag):R2:=fun x y H Q=>Je (fun i j=>.int (i+j)) x y H Q\/Gm K x y H Q\/Jr x y H Q\/(∃ i j,x=.str i/\y=.str j/\i.length+j.length<=sizeLine/\Q (.str (i++j)) H)
theorem Ff {X:Cx}:lg X (binaryOp .Add) (BU X.K):=HZ.or (Fe.or (HY.or yX))
def bq (a b:D) (μ:aG):ak D:=match a,b with
 | .int i,.int j=>.ok (.int (i+j)) μ
 | .str x,.str y=>if x.length+y.length<=sizeLine then .ok (.str (x++y)) μ else .bad
 | .tup xs,.tup ys=>if xs.length+ys.length<=sizeLine then .ok (.tup (xs++ys)) μ else .bad
 | .obj m,.obj n=>match μ[m]?,μ[n]? with
  | some (.lst xs),some (.lst ys)=>if xs.length+ys.length<=sizeLine then .ok (.obj μ.length) (μ++[.lst (xs++ys)]) else .bad
  | _,_=>.bad
 | _,_=>.bad
theorem dN {H:Hp}{α:List Addr}{μ:aG}{n:Nat}{v:V}{xs:List D} (S:p.S H α μ) (r:p.R H α (.obj n) v) (hx:μ[n]?=some (.lst xs)):∃ a us,v=.ref a/\α[n]?=some a/\H a=some (.lst us)/\p.Rs H α xs us:=by
 obtain ⟨a,ea,us,hH,rr⟩:=S.at hx
 obtain ⟨a',rfl,ea'⟩:=ba.mp r
 rw [ea] at ea';cases ea'
 exact ⟨a,us,rfl,ea,hH,rr⟩
theorem Reps.nil_iff' {K:W.Frag}{H:Hp}{α:List Addr}{xs:List D}{vs:List V} (r:Reps K H α xs vs):vs=[]↔xs=[]:=by
 have:=r.length
 constructor
 ·intro h;subst h;simp at this;exact PH this.symm
 ·intro h;subst h;simp at this;exact this
theorem Im:tV p bq (BU p.K):=by
 intro a b v y H α μ Q S ra rb P
 unfold bq at P
 split at P
 ·rename_i i j
  exact .inl ⟨i,j,ax.mp ra,ax.mp rb,P.now S _ (ax.mpr rfl)⟩
 ·rename_i i j
  split at P
  ·rename_i hl
   exact .inr (.inr (.inr ⟨i,j,de.mp ra,de.mp rb,hl,P.now S _ (de.mpr rfl)⟩))
  ·exact P.elim
 ·rename_i xs ys
  split at P
  ·rename_i hl
   obtain ⟨a,us,rfl,h1,r1⟩:=aO.mp ra
   obtain ⟨b,ws,rfl,h2,r2⟩:=aO.mp rb
   refine .inr (.inl ⟨a,b,us,ws,rfl,rfl,h1,h2,by rw [r1.length,r2.length];exact hl,fun e=>?_,fun _ e=>?_,fun _ _ q hq=>?_⟩)
   ·have ex := r1.nil_iff'.mp e
    subst ex
    exact P.now S _ (by simpa using rb)
   ·have ey := r2.nil_iff'.mp e
    subst ey
    exact P.now S _ (by simpa using ra)
   ·exact P _ _ (cF hq) (S.tuple hq) _ (aO.mpr ⟨q,_,rfl,ip.of dy,(r1.append r2).mono (cF hq)⟩)
  ·exact P.elim
 ·rename_i m n
  split at P
  ·rename_i xs ys hx hy
   split at P
   ·rename_i hl
    obtain ⟨a,us,rfl,a1,h1,r1⟩:=dN S ra hx
    obtain ⟨b,ws,rfl,b1,h2,r2⟩:=dN S rb hy
    refine .inr (.inr (.inl ⟨a,b,us,ws,rfl,rfl,h1,h2,by rw [r1.length,r2.length];exact hl,fun q hq=>?_⟩))
    obtain ⟨x1,x2,x3⟩:=dz S hq (r1.append r2)
    exact P _ _ x1 x2 _ x3
   ·exact P.elim
  ·exact P.elim
 ·exact P.elim
def Gf:R2:=fun x y H Q=>rI wk (fun i j=>.int (i * j)) x y H Q\/Jm x y H Q
theorem E8 {X:Cx}:lg X (binaryOp .Mult) Gf:=HS.or HP
open Classical in
noncomputable def mE (a b:D) (μ:aG):ak D:=match a,b with
 | .int i,.int j=>if wk i j then .ok (.int (i * j)) μ else .bad
 | .obj m,.int k=>match μ[m]? with
  | some (.lst xs)=>if -(2 ^ 63)<=k/\k<2 ^ 63/\xs.length * k.toNat<=sizeLine then .ok (.obj μ.length) (μ++[.lst (List.replicate k.toNat xs).flatten]) else .bad
  | _=>.bad
 | _,_=>.bad
theorem Reps.rep {K:W.Frag}{H:Hp}{α:List Addr}{xs:List D}{vs:List V} (h:Reps K H α xs vs):∀ k:Nat,Reps K H α (List.replicate k xs).flatten (List.replicate k vs).flatten
 | 0=>by simpa using Reps.nil
 | k+1=>by
  rw [NC,NC,ND,ND]
  exact h.append (Reps.rep h k)
theorem Ij:tV p mE Gf:=by
 intro a b v y H α μ Q S ra rb P
 unfold mE at P
 split at P
 ·rename_i i j
  split at P
  ·rename_i hc
   exact .inl ⟨i,j,ax.mp ra,ax.mp rb,hc,P.now S _ (ax.mpr rfl)⟩
  ·exact P.elim
 ·rename_i m k
  split at P
  ·rename_i xs hx
   split at P
   ·rename_i hl
    obtain ⟨a,us,rfl,a1,h1,r1⟩:=dN S ra hx
    refine .inr ⟨a,k,us,rfl,ax.mp rb,h1,hl.1,hl.2.1,by rw [r1.length];exact hl.2.2,fun q hq=>?_⟩
    obtain ⟨x1,x2,x3⟩:=dz S hq (r1.rep k.toNat)
    exact P _ _ x1 x2 _ x3
   ·exact P.elim
  ·exact P.elim
 ·exact P.elim
def bQ (a b:D) (μ:aG):ak D:=match a,b with
 | .tup xs,.int i=>match atI xs i with
  | some d=>.ok d μ
  | none=>.bad
 | .frz xs,.int i=>match atI xs i with
  | some d=>.ok d μ
  | none=>.bad
 | .obj n,.int i=>match μ[n]? with
  | some (.lst xs)=>match atI xs i with
   | some d=>.ok d μ
   | none=>.bad
  | _=>.bad
 | _,_=>.bad
theorem Reps.atI {K:W.Frag}{H:Hp}{α:List Addr}{xs:List D}{vs:List V}{i:Int}{d:D} (r:Reps K H α xs vs) (h:L2.atI xs i=some d):∃ v,L2.atI vs i=some v/\aX K H α d v:=by
 unfold L2.atI at h ⊢
 rw [r.length]
 cases e:yo xs.length i with
 | none=>rw [e] at h;cases h
 | some j=>rw [e] at h;exact r.get h
theorem Ka:tV p bQ (Lr p.K):=by
 intro a b v y H α μ Q S ra rb P
 unfold bQ at P
 split at P
 ·rename_i xs i
  split at P
  ·rename_i d hd
   obtain ⟨a,us,rfl,h1,r1⟩:=aO.mp ra
   obtain ⟨v,hv,rv⟩:=r1.atI hd
   exact .inr (.inl ⟨a,us,i,v,rfl,ax.mp rb,h1,hv,P.now S _ rv⟩)
  ·exact P.elim
 ·rename_i xs i
  split at P
  ·rename_i d hd
   obtain ⟨a,us,rfl,h1,r1⟩:=bM.mp ra
   obtain ⟨v,hv,rv⟩:=r1.atI hd
   exact .inl ⟨a,us,i,v,rfl,ax.mp rb,h1.sq,hv,P.now S _ rv⟩
  ·exact P.elim
 ·rename_i n i
  split at P
  ·rename_i xs hx
   split at P
   ·rename_i d hd
    obtain ⟨a,us,rfl,a1,h1,r1⟩:=dN S ra hx
    obtain ⟨v,hv,rv⟩:=r1.atI hd
    exact .inl ⟨a,us,i,v,rfl,ax.mp rb,ia.of h1,hv,P.now S _ rv⟩
   ·exact P.elim
  ·exact P.elim
 ·exact P.elim
theorem JW {X:Cx}{a b:Expr}{fa fb:ME}{pos:Pos} (hK:X.K=p.K) (ha:PE X a (tD p fa)) (hb:PE X b (tD p fb)) (hs:vC b):PE X (.Subscript a b pos) (tD p (au bQ fa fb)):=
 (J6 IF ha hb hs).weak fun σ H Q ⟨α, ρ, μ, S, R, P⟩ => ⟨α, ρ, μ, S, R, (aK.bind P).imp fun x μ1 H1 α1 X1 S1 P1 v rv => ⟨α1, ρ, μ1, S1, R.mono X1, (aK.bind P1).imp fun y μ2 H2 α2 X2 S2 P2 u ru => by
  rw [hK];exact Ka x y v u H2 α2 μ2 Q S2 (rv.mono X2) ru P2⟩⟩
theorem mM {prog:Program}{w:World}{A:Around}{E:Value->Shared->Prop}{s:Shared}{t sl:Addr}{items:Array Value}{vl vu:Value}{lo hi:Option Int}{Q:Value->Shared->Prop} (ht:IsTup s.heap t items) (hs:s.heap.IsSliceOf sl vl vu .none) (pl:IsPart vl lo) (pu:IsPart vu hi)
  (hw:HT.sIx items.size 0 lo=0/\HT.sIx items.size items.size hi=items.size) (h:Q (.ref t) s):wpAny (model prog w) A (getItem (.ref t) (.ref sl)) Q E s:=by
 obtain ⟨os,hos,hcs,hds⟩:=id hs
 have hTs:s.TypeIs (.ref sl) "slice" := ⟨os,hos,hcs⟩
 unfold getItem
 try with_reducible refine Mr ?_
 first | refine Mq (Mw ?_) | skip
 refine Mq (wpAny_sequenceKey ht.typeIs (by decide) ?_)
 refine Mq (Nr (name:=Str.ofString "__getitem__") ht.typeIs Nt
  (Nu Nt ht.typeIs entry_tuple_getitem ?_ (args_tuple_getitem _ _)))
 show wpAny _ _ (Builtin.Tuple.tupleItemsOf (.ref t) >>= _) _ _ s
 refine Mq (tupleItemsOf_ ht ?_)
 refine Mq (Nv hTs ?_)
 rw [LU (by decide)]
 refine Mq (HT.sliceApplied_gen hs pl pu ?_)
 have hno:(((HT.sIx items.size 0 lo:Nat):Int) == 0 && (1:Int) == 1 && (HT.sIx items.size items.size hi - HT.sIx items.size 0 lo) == items.size)=true:=by
  rw [hw.1,hw.2];simp
 show wpAny _ _ (if (((HT.sIx items.size 0 lo:Nat):Int) == 0 && (1:Int) == 1 && (HT.sIx items.size items.size hi - HT.sIx items.size 0 lo) == items.size)=true then _ else _) _ _ s
 rw [LU hno]
 refine Mq (m:=Builtin.Tuple.tupleIsExact (.ref t)) (Mq (Nv ht.typeIs (Mw ?_)))
 rw [LU (by decide)]
 exact Mq (NX (Mw ⟨_,rfl,Mw h⟩))
def fV {β:Type} (xs:List β) (lo hi:Option Int):List β:=(xs.drop (HT.sIx xs.length 0 lo)).take (HT.sIx xs.length xs.length hi - HT.sIx xs.length 0 lo)
theorem zd {β:Type} (xs:List β) (lo hi:Option Int) (h:HT.sIx xs.length 0 lo=0/\HT.sIx xs.length xs.length hi=xs.length):fV xs lo hi=xs:=by
 unfold fV
 rw [h.1,h.2];simp
def Gd (K:W.Frag):V->Option Int->Option Int->Hp->VK->Prop:=fun x lo hi H Q=>∃ a xs,x=.ref a/\ip K H a xs /\
 (HT.sIx xs.length 0 lo=0/\HT.sIx xs.length xs.length hi=xs.length)/\Q (.ref a) H
theorem Es {X:Cx}:DT X (Gd X.K):=by
 intro pins s σ H x v vl vu lo hi sl Q I rx hs pl pu h
 obtain ⟨a,xs,rfl,hx,hw,q⟩:=h
 cases rx
 obtain ⟨its,r,ht,hz⟩:=I.tuple hx
 have hlen:its.toArray.size=xs.length:=by rw [ML];exact r.length.symm
 refine ⟨"tuple",_,Nt.lookup,ht.typeIs,?_⟩
 exact mM ht hs pl pu (by rw [hlen];exact hw) ⟨.ref a,H,I,rfl,q⟩
def Jl (K:W.Frag):V->Option Int->Option Int->Hp->VK->Prop:=fun x lo hi H Q=>Jj K x lo hi H Q\/Gd K x lo hi H Q\/Jk K x lo hi H Q
theorem K2 {X:Cx}:DT X (Jl X.K):=G8.or (Es.or Et)
abbrev MO:=Ro->aG->ak (Option Int)
def qM:MO:=fun _ μ=>.ok none μ
def Ku (d:D) (μ:aG):ak (Option Int):=match d with
 | .int i=>.ok (some i) μ
 | _=>.bad
def dZ (f:ME):MO:=fun ρ μ=>(f ρ μ).bind Ku
def F6 (p:Pa) (f:MO):TO:=fun σ H Q=>∃ α ρ μ,p.S H α μ/\du p.K H α ρ σ/\aK p H α (f ρ μ) (fun o _ H' _=>Q o H')
theorem PO.weak {X:Cx}{e:Option Expr}{t t':TO} (h:PO X e t) (k:∀ σ H Q,t' σ H Q->t σ H Q):PO X e t':=fun pins s σ H Q I q=>h pins s σ H Q I (k σ H Q q)
theorem Er {X:Cx}:PO X none (F6 p qM):=EV.weak fun σ H Q ⟨α,ρ,μ,S,R,P⟩=>P.now S
theorem Ep {X:Cx}{e:Expr}{f:ME} (h:PE X e (tD p f)):PO X (some e) (F6 p (dZ f)):=(EU h).weak fun σ H Q ⟨α,ρ,μ,S,R,P⟩=>⟨α,ρ,μ,S,R,(aK.bind P).imp fun d μ1 H1 α1 X1 S1 P1 v rv=>by
 unfold Ku at P1
 split at P1
 ·rename_i i
  exact ⟨i,ax.mp rv,P1.now S1⟩
 ·exact P1.elim⟩
def qg (a:D) (lo hi:Option Int) (μ:aG):ak D:=match a with
 | .tup xs=>.ok (.tup (fV xs lo hi)) μ
 | .frz xs=>.ok (.obj μ.length) (μ++[.lst (fV xs lo hi)])
 | .obj n=>match μ[n]? with
  | some (.lst xs)=>.ok (.obj μ.length) (μ++[.lst (fV xs lo hi)])
  | _=>.bad
 | _=>.bad
def qx (fa:ME) (fl fh:MO):ME:=fun ρ μ=>(fa ρ μ).bind fun a μ1=>(fl ρ μ1).bind fun lo μ2=>(fh ρ μ2).bind fun hi μ3=>qg a lo hi μ3
theorem Reps.cut' {K:W.Frag}{H:Hp}{α:List Addr}{xs:List D}{vs:List V} (r:Reps K H α xs vs) (lo hi:Option Int):Reps K H α (fV xs lo hi) (wd vs lo hi):=by
 unfold fV wd
 rw [r.length]
 exact (r.drop _).take _
theorem JS {a:D}{v:V}{lo hi:Option Int}{H:Hp}{α:List Addr}{μ:aG}{Q:VK} (S:p.S H α μ) (ra:p.R H α a v) (P:aK p H α (qg a lo hi μ) (RV p Q)):Jl p.K v lo hi H Q:=by
 unfold qg at P
 split at P
 ·rename_i xs
  obtain ⟨a,us,rfl,h1,r1⟩:=aO.mp ra
  by_cases hw:HT.sIx us.length 0 lo=0/\HT.sIx us.length us.length hi=us.length
  ·refine .inr (.inl ⟨a, us, rfl, h1, hw, ?_⟩)
   rw [r1.length] at hw
   rw [zd xs lo hi hw] at P
   exact P.now S _ ra
  ·exact .inl ⟨a,us,rfl,h1,hw,fun q hq=>P _ _ (cF hq) (S.tuple hq) _ (aO.mpr ⟨q,_,rfl,ip.of dy,(r1.cut' lo hi).mono (cF hq)⟩)⟩
 ·rename_i xs
  obtain ⟨a,us,rfl,h1,r1⟩:=bM.mp ra
  refine .inr (.inr ⟨a,us,rfl,h1.sq,fun q hq=>?_⟩)
  obtain ⟨x1,x2,x3⟩:=dz S hq (r1.cut' lo hi)
  exact P _ _ x1 x2 _ x3
 ·rename_i n
  split at P
  ·rename_i xs hx
   obtain ⟨a,us,rfl,a1,h1,r1⟩:=dN S ra hx
   refine .inr (.inr ⟨a,us,rfl,ia.of h1,fun q hq=>?_⟩)
   obtain ⟨x1,x2,x3⟩:=dz S hq (r1.cut' lo hi)
   exact P _ _ x1 x2 _ x3
  ·exact P.elim
 ·exact P.elim
theorem CV {X:Cx}{e:Expr}{lo hi:Option Expr}{fa:ME}{fl fh:MO}{pos p2:Pos} (hK:X.K=p.K) (he:PE X e (tD p fa)) (hl:PO X lo (F6 p fl)) (hu:PO X hi (F6 p fh)):PE X (.Subscript e (.Slice lo hi none p2) pos) (tD p (qx fa fl fh)):=
 (Dd K2 he hl hu).weak fun σ H Q ⟨α, ρ, μ, S, R, P⟩ => ⟨α, ρ, μ, S, R, (aK.bind P).imp fun a μ1 H1 α1 X1 S1 P1 v rv => ⟨α1, ρ, μ1, S1, R.mono X1, (aK.bind P1).imp fun l μ2 H2 α2 X2 S2 P2 => ⟨α2, ρ, μ2, S2, (R.mono X1).mono X2, (aK.bind P2).imp fun h μ3 H3 α3 X3 S3 P3 => by
  rw [hK];exact JS S3 ((rv.mono X2).mono X3) P3⟩⟩⟩
end
inductive Bq (K:W.Frag) (H:Hp):V->String->Prop where
 | non:Bq K H .non "NoneType"
 | bl (x:Bool):Bq K H (.bl x) "bool"
 | int (i:Int):Bq K H (.int i) "int"
 | str (x:Str):Bq K H (.str x) "str"
 | lst {a:Addr}{xs:List V} (e:ia K H a xs):Bq K H (.ref a) "list"
 | tup {a:Addr}{xs:List V} (e:ip K H a xs):Bq K H (.ref a) "tuple"
 | dic {a:Addr}{kvs:List (uR × V)} (e:H a=some (.dK kvs)):Bq K H (.ref a) "dict"
def Jz (tn T:String):Bool:=tn == T || (tn == "bool" && T == "int")
def u5:List String:=["NoneType", "bool", "int", "str", "list", "tuple", "dict"]
theorem Iw {K:W.Frag}:∀ tn∈u5,∀ T∈["int", "bool", "tuple", "list", "str", "dict"],W.kitOne K (.type tn) (.type T)=some (Jz tn T):=by
 intro tn h1 T h2
 simp only [u5,Mc,N8,N9] at h1 h2
 rcases h1 with rfl|rfl|rfl|rfl|rfl|rfl|rfl <;> rcases h2 with rfl|rfl|rfl|rfl|rfl|rfl <;> rfl
theorem Bq.mem {K:W.Frag}{H:Hp}{x:V}{tn:String} (h:Bq K H x tn):tn∈u5:=by
 cases h <;> decide
section
variable {X:Cx}
theorem IG {pins:List (Addr × Obj)}{σ:St}{H:Hp}{s:Shared}{A:Around}{E:Value->Shared->Prop}{Q:Value->Shared->Prop}{c:Value}{b:Bool}{x:V}{u:Value}{tn:String} (I:bc X pins σ H s) (rx:cM x u) (ty:Bq X.K H x tn) (e:W.kitOne X.K (.type tn) c=some b) (h:∀ tk,Q (.bool b) { s with toks:=tk }) :
  wpAny (model X.prog X.w) A (call (.builtin "isinstance") [u,c]) Q E s:=by
 cases ty with
 | non=>cases (show u=Value.none from rx);exact W.kia_one W.kitx_none I.kIn True.intro e (fun z=>nomatch z) h
 | bl y=>cases (show u=Value.bool y from rx);exact W.kia_one W.kitx_bool I.kIn True.intro e (fun z=>nomatch z) h
 | int i=>obtain ⟨t,q⟩:=(show ∃ t,u=Value.int i t from rx);cases q;exact W.kia_one W.kitx_int I.kIn True.intro e (fun z=>nomatch z) h
 | str y=>obtain ⟨t,q⟩:=(show ∃ t,u=Value.str y t from rx);cases q;exact W.kia_one W.kitx_str I.kIn True.intro e (fun z=>nomatch z) h
 | @lst a xs ea=>
  cases (show u=Value.ref a from rx)
  obtain ⟨its,_,⟨o,n,h1,h2,_⟩,_⟩:=I.list ea
  exact W.kia_one W.kitx_list I.kIn ⟨o,h1,h2⟩ e (fun z=>nomatch z) h
 | @tup a xs ea=>
  cases (show u=Value.ref a from rx)
  obtain ⟨its,_,⟨o,h1,h2,_⟩,_⟩:=I.tuple ea
  exact W.kia_one W.kitx_tuple I.kIn ⟨o,h1,h2⟩ e (fun z=>nomatch z) h
 | @dic a kvs ea=>
  cases (show u=Value.ref a from rx)
  obtain ⟨_,_,vs,_,p⟩:=(show gq X.prog X.w H s.heap a (.dK kvs) from I.hok a _ ea)
  obtain ⟨o,es,ep,h1,h2,_⟩:=p
  exact W.kia_one W.kitx_dict I.kIn ⟨o,h1,h2.1⟩ e (fun z=>nomatch z) h
def Jq (K:W.Frag):List V->Hp->VK->Prop:=fun xs H Q=>∃ x T tn b,xs=[x,.ty T]/\Bq K H x tn/\W.kitOne K (.type tn) (.type T)=some b/\Q (.bl b) H
theorem DI:dv X (.builtin "isinstance") (Jq X.K):=by
 intro pins s σ H xs us Q I r h
 obtain ⟨x,T,tn,b,rfl,ty,e,q⟩:=h
 obtain ⟨u,u2,rfl,ru,ru2⟩:=BL r
 cases ru2
 exact IG I ru ty e fun tk=>⟨.bl b,H,I.tok _,rfl,q⟩
end
def DM (μ:aG):D->Option String
 | .non=>some "NoneType"
 | .bl _=>some "bool"
 | .int _=>some "int"
 | .str _=>some "str"
 | .tup _=>some "tuple"
 | .frz _=>some "list"
 | .obj n=>match μ[n]? with
  | some (.lst _)=>some "list"
  | some .dic=>some "dict"
  | _=>none
theorem GR {p:Pa}{H:Hp}{α:List Addr}{μ:aG}{d:D}{v:V}{tn:String} (S:p.S H α μ) (r:p.R H α d v) (h:DM μ d=some tn):Bq p.K H v tn:=by
 cases d with
 | non=>cases h;rw [cI.mp r];exact .non
 | bl b=>cases h;rw [bw.mp r];exact .bl b
 | int b=>cases h;rw [ax.mp r];exact .int b
 | str b=>cases h;rw [de.mp r];exact .str b
 | tup xs=>cases h;obtain ⟨a,vs,rfl,h1,_⟩:=aO.mp r;exact .tup h1
 | frz xs=>cases h;obtain ⟨a,vs,rfl,h1,_⟩:=bM.mp r;exact .lst h1.sq
 | obj n=>
  unfold DM at h
  dsimp only at h
  split at h
  ·rename_i xs hx
   cases h
   obtain ⟨a,us,rfl,a1,h1,_⟩:=dN S r hx
   exact .lst (ia.of h1)
  ·rename_i hx
   cases h
   obtain ⟨a,ea,q⟩:=S.at hx
   obtain ⟨a',rfl,ea'⟩:=ba.mp r
   rw [ea] at ea';cases ea'
   exact .dic q
  ·cases h
def jy (T:String) (d:D) (μ:aG):ak D:=match DM μ d with
 | some tn=>.ok (.bl (Jz tn T)) μ
 | none=>.bad
theorem Hi {p:Pa}{X:Cx}{a:Expr}{fa:ME}{T:String}{xT:Str}{px pt pos:Pos} (hK:X.K=p.K) (hT:T∈["int", "bool", "tuple", "list", "str", "dict"]) (hg:Gl X "isinstance") (hm:X.mg "isinstance" = none) (hgT:Gl X xT) (hmT:X.mg xT=none) (hbT:bootBuiltins xT=some (.type T)) (ha:PE X a (tD p fa))
  (hnT:xT ≠ "__name__") (hdT:(xT == ("__debug__" : Str))=false) (hs1:starEach [a,.Name xT pt] X.env=(false,eval a X.env)::starEach [.Name xT pt] X.env) :
  PE X (.Call (.Name "isinstance" px) [a,.Name xT pt] [] pos) (tD p (sW (jy T) fa)):=by
 have hb:PE X (.Name xT pt) (tC (.ty T)):=E4 hgT hmT hbT rfl hnT hdT
 refine (xa DI hg hm boot_isinstance (qA ha (qA hb yz rfl) hs1) (by decide) (by decide) hs1 rfl).weak fun σ H Q ⟨α,ρ,μ,S,R,P⟩=>⟨α,ρ,μ,S,R,(aK.bind P).imp fun d μ1 H1 α1 X1 S1 P1 v rv=>?_⟩
 show Jq X.K [v,.ty T] H1 Q
 unfold jy at P1
 split at P1
 ·rename_i tn htn
  have ty:=GR S1 rv htn
  rw [hK]
  exact ⟨v,T,tn,_,rfl,ty,Iw tn ty.mem T hT,P1.now S1 _ (bw.mpr rfl)⟩
 ·exact P1.elim
def ng:List D->Option (List Bool)
 | []=>some []
 | .bl b::r=>(ng r).map (b::·)
 | _::_=>none
theorem sv:∀ {ds:List D}{bs:List Bool},ng ds=some bs->ds=bs.map D.bl
 | [],bs,h=>by cases h;rfl
 | .bl b::r,bs,h=>by
  unfold ng at h
  cases e:ng r with
  | none=>rw [e] at h;cases h
  | some cs=>rw [e] at h;cases h;rw [sv e];rfl
 | .non::r,bs,h=>by cases h
 | .int _::r,bs,h=>by cases h
 | .str _::r,bs,h=>by cases h
 | .tup _::r,bs,h=>by cases h
 | .frz _::r,bs,h=>by cases h
 | .obj _::r,bs,h=>by cases h
theorem Bk (bs:List Bool):ng (bs.map D.bl)=some bs:=by
 induction bs with
 | nil=>rfl
 | cons b r ih=>simp only [Nz,ng,ih];rfl
theorem Reps.bools {K:W.Frag}{H:Hp}{α:List Addr}:∀ {bs:List Bool}{vs:List V},Reps K H α (bs.map D.bl) vs->vs=bs.map V.bl
 | [],vs,h=>by simp only [Ny,Reps] at h;exact h
 | n::ns,vs,h=>by
  simp only [Nz,Reps] at h
  obtain ⟨v,r,rfl,h1,h2⟩:=h
  rw [bw.mp h1,Reps.bools h2];rfl
theorem yI {bs:List Bool}{us:List Value} (h:bx (bs.map V.bl) us):us=bs.map Value.bool:=by
 induction bs generalizing us with
 | nil=>cases h;rfl
 | cons b r ih=>
  cases h with
  | cons h1 h2=>cases h1;rw [ih h2];rfl
theorem Bn {bs:List Bool}:(List.range bs.length).all (fun i=>bs.getD i false)=bs.all id:=by
 induction bs with
 | nil=>rfl
 | cons b r ih=>
  rw [NQ,Ob,PJ,PL,PJ]
  congr 1
section
variable {X:Cx}
def Js (K:W.Frag):List V->Hp->VK->Prop:=fun xs H Q=>∃ (a:Addr) (bs:List Bool),xs=[.ref a]/\ia K H a (bs.map V.bl)/\Q (.bl (bs.all id)) H
theorem bc.fresh_it {pins:List (Addr × Obj)}{σ:St}{H:Hp}{s:Shared} (I:bc X pins σ H s) {o:Obj}{h':Heap}{tk:Nat} (hk:∀ b ob,b ∉ [s.heap.objs.size]->(s.heap.push o).get? b=some ob->h'.get? b=some ob):bc X pins σ H { s with heap:=h',toks:=tk }:=
 I.kept fun b ob e=>hk b ob (fun hm=>by
  have:b=s.heap.objs.size:=by simpa using hm
  subst this
  exact absurd (LX e) (LZ _)) (Mz _ e)
theorem Bj (hc:X.calm=true):dv X (.builtin "all") (Js X.K):=by
 intro pins s σ H xs us Q I r h
 obtain ⟨a,bs,rfl,ha,q⟩:=h
 obtain ⟨u,rfl,ru⟩:=iD r
 cases ru
 obtain ⟨its,rv,pl,hz⟩:=I.list ha
 have hi:its=bs.map Value.bool:=yI rv
 have hne:a≠s.heap.objs.size:=by
  obtain ⟨o,n,e,_⟩:=pl
  exact L0 (LX e)
 refine call_all_walk (O3 pl.isList ?_)
 refine ⟨s.heap.objs.size,[s.heap.objs.size,a],[s.heap.objs.size],_,_,_,fun i=>bs.getD i false,rfl,Walks.list (A:=X.A.in1) (show X.A.in1.handled=none from I.ok.hd hc) _ a hne its.toArray,⟨⟨_,MC _ rfl,rfl,rfl⟩,pl.isList.at fun o e=>Mz _ e⟩,?_,?_⟩
 ·intro i v s' Q' E' hP hQ
  subst hi
  have hv:(bs.map Value.bool)[i]?=some v:=by simpa using hP
  rw [MZ] at hv
  cases e:bs[i]? with
  | none=>rw [e] at hv;cases hv
  | some b=>
   rw [e] at hv;cases hv
   have:bs.getD i false=b:=by rw [Pb,e];rfl
   dsimp only at hQ
   rw [this] at hQ
   exact Mm hQ
 ·intro h' tk hk
  have e2:its.toArray.size=bs.length:=by subst hi;simp
  rw [e2,Bn]
  exact ⟨.bl _,H,I.fresh_it hk,rfl,q⟩
end
def tm (ds:List D) (μ:aG):ak D:=match ds with
 | [.obj n]=>match μ[n]? with
  | some (.lst xs)=>match ng xs with
   | some bs=>.ok (.bl (bs.all id)) μ
   | none=>.bad
  | _=>.bad
 | _=>.bad
theorem Ii {p:Pa}:yt p tm (Js p.K):=by
 intro ds vs H α μ Q S r P
 unfold tm at P
 split at P
 ·rename_i n
  split at P
  ·rename_i xs hx
   split at P
   ·rename_i bs hb
    obtain ⟨v,rfl,r1⟩:=r.one
    obtain ⟨a,us,rfl,a1,h1,rr⟩:=dN S r1 hx
    rw [sv hb] at rr
    exact ⟨a,bs,rfl,by rw [<- rr.bools];exact ia.of h1,P.now S _ (bw.mpr rfl)⟩
   ·exact P.elim
  ·exact P.elim
 ·exact P.elim
def wz (ds:List D) (μ:aG):ak D:=match ds with
 | [.tup xs]=>.ok (.int xs.length) μ
 | [.frz xs]=>.ok (.int xs.length) μ
 | [.str x]=>if x.length<=sizeLine then .ok (.int x.length) μ else .bad
 | [.obj n]=>match μ[n]? with
  | some (.lst xs)=>.ok (.int xs.length) μ
  | _=>.bad
 | _=>.bad
theorem zR {p:Pa}:yt p wz (fun xs H Q=>∃ x n,xs=[x]/\GJ p.K x H n/\Q (.int n) H):=by
 intro ds vs H α μ Q S r P
 unfold wz at P
 split at P
 ·rename_i xs
  obtain ⟨v,rfl,r1⟩:=r.one
  obtain ⟨a,us,rfl,h1,rr⟩:=aO.mp r1
  exact ⟨_,xs.length,rfl,.inr ⟨us,h1,rr.length.symm⟩,P.now S _ (ax.mpr rfl)⟩
 ·rename_i xs
  obtain ⟨v,rfl,r1⟩:=r.one
  obtain ⟨a,us,rfl,h1,rr⟩:=bM.mp r1
  exact ⟨_,xs.length,rfl,.inl ⟨us,h1.sq,rr.length.symm⟩,P.now S _ (ax.mpr rfl)⟩
 ·rename_i x
  obtain ⟨v,rfl,r1⟩:=r.one
  split at P
  ·rename_i hl
   exact ⟨v,x.length,rfl,by rw [de.mp r1];exact ⟨hl,rfl⟩,P.now S _ (ax.mpr rfl)⟩
  ·exact P.elim
 ·rename_i n
  split at P
  ·rename_i xs hx
   obtain ⟨v,rfl,r1⟩:=r.one
   obtain ⟨a,us,rfl,a1,h1,rr⟩:=dN S r1 hx
   exact ⟨_,xs.length,rfl,.inl ⟨us,ia.of h1,rr.length.symm⟩,P.now S _ (ax.mpr rfl)⟩
  ·exact P.elim
 ·exact P.elim
def ir (ds:List D) (μ:aG):ak D:=match ds with
 | [.tup xs]=>.ok (.tup xs) μ
 | [.frz xs]=>.ok (.tup xs) μ
 | [.obj n]=>match μ[n]? with
  | some (.lst xs)=>.ok (.tup xs) μ
  | _=>.bad
 | _=>.bad
theorem Dk {p:Pa}:yt p ir (fun xs H Q=>∃ q ys,xs=[.ref q]/\((ia p.K H q ys/\∀ l,H l=none->Q (.ref l) (dk H l (.tup ys)))\/(ip p.K H q ys/\Q (.ref q) H))):=by
 intro ds vs H α μ Q S r P
 unfold ir at P
 split at P
 ·rename_i xs
  obtain ⟨v,rfl,r1⟩:=r.one
  obtain ⟨a,us,rfl,h1,rr⟩:=aO.mp r1
  exact ⟨a,us,rfl,.inr ⟨h1,P.now S _ r1⟩⟩
 ·rename_i xs
  obtain ⟨v,rfl,r1⟩:=r.one
  obtain ⟨a,us,rfl,h1,rr⟩:=bM.mp r1
  exact ⟨a,us,rfl,.inl ⟨h1.sq,fun q hq=>P _ _ (cF hq) (S.tuple hq) _ (aO.mpr ⟨q,us,rfl,ip.of dy,rr.mono (cF hq)⟩)⟩⟩
 ·rename_i n
  split at P
  ·rename_i xs hx
   obtain ⟨v,rfl,r1⟩:=r.one
   obtain ⟨a,us,rfl,a1,h1,rr⟩:=dN S r1 hx
   exact ⟨a,us,rfl,.inl ⟨ia.of h1,fun q hq=>P _ _ (cF hq) (S.tuple hq) _ (aO.mpr ⟨q,us,rfl,ip.of dy,rr.mono (cF hq)⟩)⟩⟩
  ·exact P.elim
 ·exact P.elim
def nN (ds:List D) (μ:aG):ak D:=match ds with
 | [.tup xs]=>.ok (.obj μ.length) (μ++[.lst xs])
 | [.frz xs]=>.ok (.obj μ.length) (μ++[.lst xs])
 | [.obj n]=>match μ[n]? with
  | some (.lst xs)=>.ok (.obj μ.length) (μ++[.lst xs])
  | _=>.bad
 | _=>.bad
theorem Fi {p:Pa}:yt p nN (fun xs H Q=>∃ q ys,xs=[.ref q]/\(ia p.K H q ys\/ip p.K H q ys)/\∀ l,H l=none->Q (.ref l) (dk H l (.lst ys))):=by
 intro ds vs H α μ Q S r P
 unfold nN at P
 split at P
 ·rename_i xs
  obtain ⟨v,rfl,r1⟩:=r.one
  obtain ⟨a,us,rfl,h1,rr⟩:=aO.mp r1
  refine ⟨a,us,rfl,.inr h1,fun q hq=>?_⟩
  obtain ⟨x1,x2,x3⟩:=dz S hq rr
  exact P _ _ x1 x2 _ x3
 ·rename_i xs
  obtain ⟨v,rfl,r1⟩:=r.one
  obtain ⟨a,us,rfl,h1,rr⟩:=bM.mp r1
  refine ⟨a,us,rfl,.inl h1.sq,fun q hq=>?_⟩
  obtain ⟨x1,x2,x3⟩:=dz S hq rr
  exact P _ _ x1 x2 _ x3
 ·rename_i n
  split at P
  ·rename_i xs hx
   obtain ⟨v,rfl,r1⟩:=r.one
   obtain ⟨a,us,rfl,a1,h1,rr⟩:=dN S r1 hx
   refine ⟨a,us,rfl,.inl (ia.of h1),fun q hq=>?_⟩
   obtain ⟨x1,x2,x3⟩:=dz S hq rr
   exact P _ _ x1 x2 _ x3
  ·exact P.elim
 ·exact P.elim
def pR (ds:List D) (μ:aG):ak D:=match ds with
 | [.int i]=>.ok (.int i) μ
 | [.bl k]=>.ok (.int (if k then 1 else 0)) μ
 | _=>.bad
theorem Ih {p:Pa}:yt p pR (fun xs H Q=>(∃ i,xs=[.int i]/\Q (.int i) H)\/∃ k,xs=[.bl k]/\Q (.int (if k then 1 else 0)) H):=by
 intro ds vs H α μ Q S r P
 unfold pR at P
 split at P
 ·rename_i i
  obtain ⟨v,rfl,r1⟩:=r.one
  exact .inl ⟨i,by rw [ax.mp r1],P.now S _ (ax.mpr rfl)⟩
 ·rename_i i
  obtain ⟨v,rfl,r1⟩:=r.one
  exact .inr ⟨i,by rw [bw.mp r1],P.now S _ (ax.mpr rfl)⟩
 ·exact P.elim
def B2 (ds:List D) (μ:aG):ak D:=match ds with
 | [.int i,.int j]=>.ok (.int (if j > i then j else i)) μ
 | _=>.bad
def B1 (ds:List D) (μ:aG):ak D:=match ds with
 | [.int i,.int j]=>.ok (.int (if j<i then j else i)) μ
 | _=>.bad
theorem Fh {p:Pa}:yt p B2 (fun xs H Q=>∃ i j,xs=[.int i,.int j]/\Q (.int (if j > i then j else i)) H):=by
 intro ds vs H α μ Q S r P
 unfold B2 at P
 split at P
 ·rename_i i j
  obtain ⟨v,u,rfl,r1,r2⟩:=r.two
  exact ⟨i,j,by rw [ax.mp r1,ax.mp r2],P.now S _ (ax.mpr rfl)⟩
 ·exact P.elim
theorem Fg {p:Pa}:yt p B1 (fun xs H Q=>∃ i j,xs=[.int i,.int j]/\Q (.int (if j<i then j else i)) H):=by
 intro ds vs H α μ Q S r P
 unfold B1 at P
 split at P
 ·rename_i i j
  obtain ⟨v,u,rfl,r1,r2⟩:=r.two
  exact ⟨i,j,by rw [ax.mp r1,ax.mp r2],P.now S _ (ax.mpr rfl)⟩
 ·exact P.elim
end L2
namespace L2
open PySem PySem.Spec PyProof.Rows RS
section
variable {prog:Program}{w:World}{A:Around}{E:Value->Shared->Prop}{s:Shared}
theorem yh {T:String} (hT:T = "list" \/ T = "tuple") {l:Addr}{vs:List Value}{Q:List Value->Shared->Prop}{o:Obj}{n:Nat} (ho:s.heap.get? l=some o) (hc:o.cls=.type T) (hd:o.data=.seq vs.toArray n)
  (h:Q vs { s with heap:=(s.heap.push (seqObj "list" #[] 0)).update s.heap.objs.size (Obj.mapSeq (·++vs.toArray)) }) (hsz:vs.length<=sizeLine) :
  wpAny (model prog w) A (collect (.ref l)) Q E s:=by
 unfold collect
 refine Mq (O4 (OX entry_proto_collect' ?_))
 show wpAny _ _ (do again (.builtin "list.__iadd__" ⟨[<- newList [],.ref l],[]⟩)) _ _ s
 refine Mq (Pi (Mw ⟨O2 _ (by decide +kernel),OX entry_list_iadd' ?_⟩))
 show wpAny _ _ (Builtin.List.listExtendWith (.ref s.heap.objs.size) (.ref l) (.ref s.heap.objs.size)) _ _ { s with heap:=s.heap.push (seqObj "list" #[] 0) }
 unfold Builtin.List.listExtendWith
 have ho':(s.heap.push (seqObj "list" #[] 0)).get? l=some o:=Mz _ ho
 refine Mq (Nv (T:=T) ⟨o,ho',hc⟩ ?_)
 have h1:(Value.type "list" == Value.type "list")=true:=by rfl
 have h2:(Value.type "tuple" == Value.type "tuple")=true:=by rfl
 rw [LU (by rcases hT with rfl|rfl <;> simp [h1,h2])]
 refine Mq (listItems_at ho' hd ?_)
 refine Mq (listItems_at (xs:=#[]) (n:=0) (MC _ rfl) rfl ?_)
 rw [LV (by simp)]
 refine Mq (Pg (xs:=#[]) (n:=0) (MC _ rfl) rfl ?_ (NZ _) (by show (#[]++vs.toArray).size<=sizeLine+1;simp only [Array.size_append,ML,Of];omega))
 refine Mw ?_
 show wpAny (model prog w) A (do
   let o <- load s.heap.objs.size
   match o.data with
   | .seq xs _=>pure xs.toList
   | _=>unsupported "internal:collect") Q E { s with heap:=(s.heap.push (seqObj "list" #[] 0)).update s.heap.objs.size (Obj.mapSeq (·++vs.toArray)) }
 refine Mq (Mx (Ph (MC _ rfl) _) ?_)
 show wpAny _ _ (pure ((#[]:Array Value)++vs.toArray).toList) Q E _
 rw [show ((#[]:Array Value)++vs.toArray).toList=vs by simp]
 exact Mw h
theorem vE {T:String} (hT:T = "list" \/ T = "tuple") {l:Addr}{vs:List Value}{ns:List Int}{Q:Value->Shared->Prop}{o:Obj}{n:Nat} (ho:s.heap.get? l=some o) (hc:o.cls=.type T) (hd:o.data=.seq vs.toArray n) (hI:IntsAre vs ns) (h64:vs.length<64)
  (h:∀ (out:Array Value) (ns':List Int),IntsAre out.toList ns'->ns'.Perm ns->ns'.Pairwise (·<=·)->Q (.ref (s.heap.objs.size+1)) { s with heap:=sortedAll s.heap vs out }) :
  wpAny (model prog w) A (call (.builtin "sorted") [.ref l]) Q E s:=by
 have hsz0:vs.length<=sizeLine:=L5 (L7 h64) (by decide)
 refine Pu kind_sorted plain_sorted entry_sorted (args_sorted1 _) ?_
 unfold Builtin.«sorted»
 refine Mq (m:=checkCount "sorted" 1 1 _) (Mw ?_)
 refine Mq (yh hT ho hc hd ?_ hsz0)
 refine Mq (Pi ?_ hsz0)
 have hsz:((s.heap.push (seqObj "list" #[] 0)).update s.heap.objs.size (Obj.mapSeq (·++vs.toArray))).objs.size=s.heap.objs.size+1:=by
  rw [Pk,Pj]
 have hoL:(((s.heap.push (seqObj "list" #[] 0)).update s.heap.objs.size (Obj.mapSeq (·++vs.toArray))).push (seqObj "list" vs.toArray 0)).get? (s.heap.objs.size+1)=some (seqObj "list" vs.toArray 0):=by
  rw [<- hsz];exact MC _ rfl
 show wpAny _ _ _ _ _ { s with heap:=((s.heap.push (seqObj "list" #[] 0)).update s.heap.objs.size (Obj.mapSeq (·++vs.toArray))).push (seqObj "list" vs.toArray 0) }
 rw [hsz]
 refine Mq (Mr (Nu slot_list_sort ⟨_,hoL,rfl⟩ Pv (list_sort_tree hoL hI h64 fun out ns' a1 a2 a3=>⟨_,rfl,?_⟩) (args_list_sort _)))
 exact Mw ⟨_,rfl,h out ns' a1 a2 a3⟩
end
theorem tu {h:Heap}{vs:List Value}{out:Array Value}{b:Addr}{u:Obj} (e:h.get? b=some u):(sortedAll h vs out).get? b=some u:=by
 have hb:=LX e
 have n1:b≠h.objs.size:=L0 hb
 have n2:b≠h.objs.size+1:=L0 (NS hb)
 unfold sortedAll sortedHeap
 rw [Pl _ _ _ _ n2]
 refine Mz _ (Mz _ ?_)
 rw [Pl _ _ _ _ n2]
 refine Mz _ ?_
 rw [Pl _ _ _ _ n1]
 exact Mz _ e
theorem tx {h:Heap}{vs:List Value}{out:Array Value}:∃ n,(sortedAll h vs out).get? (h.objs.size+1)=some (seqObj "list" out n):=by
 unfold sortedAll sortedHeap
 have hsz:((h.push (seqObj "list" #[] 0)).update h.objs.size (Obj.mapSeq (·++vs.toArray))).objs.size=h.objs.size+1:=by
  rw [Pk,Pj]
 have hoL:(((h.push (seqObj "list" #[] 0)).update h.objs.size (Obj.mapSeq (·++vs.toArray))).push (seqObj "list" vs.toArray 0)).get? (h.objs.size+1)=some (seqObj "list" vs.toArray 0):=by
  rw [<- hsz];exact MC _ rfl
 have g1:=Ph hoL (fun _=>#[])
 have g2:=Mz (seqObj "list" #[] 0) (Mz (seqObj "tuple" vs.toArray 0) g1)
 exact ⟨_,Ph g2 (fun _=>out)⟩
theorem om {us:List Value}{ns:List Int} (h:IntsAre us ns):bx (ns.map V.int) us:=by
 induction h with
 | nil=>exact .nil
 | cons n t _ ih=>exact .cons ⟨t,rfl⟩ ih
section
variable {X:Cx}
def Ce (K:W.Frag):List V->Hp->VK->Prop:=fun xs H Q=>∃ (a:Addr) (ns:List Int),xs=[.ref a]/\(ia K H a (ns.map V.int)\/ip K H a (ns.map V.int))/\ns.length<64 /\
 ∀ ns':List Int,ns'.Perm ns->ns'.Pairwise (·<=·)->∀ l,H l=none->Q (.ref l) (dk H l (.lst (ns'.map V.int)))
theorem zm:dv X (.builtin "sorted") (Ce X.K):=by
 intro pins s σ H xs us Q I r h
 obtain ⟨a,ns,rfl,ha,hl,q⟩:=h
 obtain ⟨u,rfl,ru⟩:=iD r
 cases ru
 have core:∀ (T:String),T = "list" \/ T = "tuple" -> ∀ (its:List Value) (o:Obj) (n:Nat),s.heap.get? a=some o->o.cls=.type T->o.data=.seq its.toArray n->bx (ns.map V.int) its->wpAny (model X.prog X.w) X.A (call (.builtin "sorted") [.ref a]) (EP X pins σ Q) X.xe s:=by
  intro T hT its o n e1 e2 e3 rv
  have hI:IntsAre its ns:=f6 rv
  refine vE hT e1 e2 e3 hI (by rw [hI.length];exact hl) fun out ns' h1 h2 h3=>?_
  refine ⟨.ref (s.heap.objs.size+1),dk H (s.heap.objs.size+1) (.lst (ns'.map V.int)),I.laid (t':=s.toks) (fun b ob e=>tu e) (NF _) ?_,rfl,q ns' h2 h3 _ (I.hok.fresh (NF _))⟩
  obtain ⟨m,e⟩:=tx (h:=s.heap) (vs:=its) (out:=out)
  refine ⟨?_,out.toList,m,om h1,by simpa using e⟩
  rw [Nd,h2.length_eq]
  exact L5 (L7 hl) (by decide)
 rcases ha with ha | ha
 ·obtain ⟨its, rv, ⟨o, n, e1, e2, _, e3⟩, hz⟩ := I.list ha
  exact core "list" (.inl rfl) its o n e1 e2 e3 rv
 ·obtain ⟨its, rv, ⟨o, e1, e2, n, e3⟩, hz⟩ := I.tuple ha
  exact core "tuple" (.inr rfl) its o n e1 e2 e3 rv
theorem BM {pins:List (Addr × Obj)}{σ:St}{H:Hp}{s:Shared}{r:Addr}{k:List Int} (I:bc X pins σ H s) (h:ip X.K H r (k.map V.int)):Tk X.prog X.w s.heap k r:=by
 obtain ⟨its,rv,⟨o,e1,e2,n,e3⟩,_⟩:=I.tuple h
 refine ⟨o,its.toArray,n,e1,e2,e3,?_⟩
 have core:∀ (k:List Int) (its:List Value),bx (k.map V.int) its->PySem.ItemsAre (intKind X.prog X.w) k its:=by
  intro k
  induction k with
  | nil=>intro its h;cases h;exact .nil
  | cons i r ih=>
   intro its h
   cases h with
   | cons h1 h2=>
    obtain ⟨t,rfl⟩:=h1
    exact .cons (by simp [intKind,Value.isInt]) (ih _ h2)
 simpa using core k its rv
def lz (qs:List KP):List V:=qs.map fun p=>V.ref p.2
theorem oX:∀ {qs:List KP}{its:List Value},bx (lz qs) its->its=qs.map fun p=>Value.ref p.2
 | [],its,h=>by cases h;rfl
 | q::qs,its,h=>by
  cases h with
  | cons h1 h2=>cases h1;rw [oX h2];rfl
theorem pS:∀ (qs:List KP),bx (lz qs) (bf qs)
 | []=>.nil
 | q::qs=>.cons rfl (pS qs)
def BQ (K:W.Frag) (w:World):List V->Hp->VK->Prop:=fun xs H Q=>∃ (a:Addr) (qs:List KP),xs=[.ref a]/\(ia K H a (lz qs)\/ip K H a (lz qs))/\(∀ p∈qs,p.1∈prs/\ip K H p.2 (p.1.map V.int)) /\
 ∀ l,H l=none->Q (.ref l) (dk H l (.ext fun h=>fF w h l (fY qs)))
theorem Ba (hc:X.calm=true) (hu:X.A.units+64<cLine):dv X (.type "set") (BQ X.K X.w):=by
 intro pins s σ H xs us Q I r h
 obtain ⟨a,qs,rfl,ha,hq,q⟩:=h
 obtain ⟨u,rfl,ru⟩:=iD r
 cases ru
 have fin:∀ (h':Heap) (tk:Nat),fF X.w h' s.heap.objs.size (fY qs)->(∀ b o,b<s.heap.objs.size->s.heap.get? b=some o->h'.get? b=some o)->EP X pins σ Q (.ref s.heap.objs.size) { s with heap:=h',toks:=tk }:=by
  intro h' tk hS hk
  refine ⟨.ref s.heap.objs.size,dk H s.heap.objs.size (.ext fun h=>fF X.w h s.heap.objs.size (fY qs)),I.laid (t':=tk) (fun b ob e=>hk b ob (LX e) e) (MD _) ?_,rfl,q _ (I.hok.fresh (MD _))⟩
  refine ⟨hS,?_,fun h1 h2 g k=>g.keeps k⟩
  obtain ⟨o,es,ep,t,Z,S0,_⟩:=hS
  exact ⟨o,S0.ho⟩
 rcases ha with ha | ha
 ·obtain ⟨its, rv, pl, hz⟩ := I.list ha
  exact xS (I.ok.hd hc) pl.isList (by simpa using oX rv) (fun p hp=>(hq p hp).1) (fun p hp=>BM I (hq p hp).2) (by omega) fin
 ·obtain ⟨its, rv, pl, hz⟩ := I.tuple ha
  exact vG (I.ok.hd hc) pl (by simpa using oX rv) (fun p hp=>(hq p hp).1) (fun p hp=>BM I (hq p hp).2) (by omega) fin
def Cd (K:W.Frag) (w:World):List V->Hp->VK->Prop:=fun xs H Q=>∃ (a:Addr) (ps:List KP),xs=[.ref a]/\H a=some (.ext fun h=>fF w h a ps)/\(∀ p∈ps,ip K H p.2 (p.1.map V.int)) /\
 ∀ out:List KP,out.Perm ps->jj out->∀ l,H l=none->Q (.ref l) (dk H l (.lst (lz out)))
theorem zl (hc:X.calm=true):dv X (.builtin "sorted") (Cd X.K X.w):=by
 intro pins s σ H xs us Q I r h
 obtain ⟨a,ps,rfl,ha,hT,q⟩:=h
 obtain ⟨u,rfl,ru⟩:=iD r
 cases ru
 obtain ⟨hS,_⟩:=(show gq X.prog X.w H s.heap a (.ext fun h=>fF X.w h a ps) from I.hok a _ ha)
 refine yO (I.ok.hd hc) hS (fun p hp=>BM I (hT p hp)) fun out hp hr h' D hD hk hn=>?_
 refine ⟨.ref D,dk H D (.lst (lz out)),I.laid (t':=s.toks) (fun b ob e=>hk b ob e) hD ?_,rfl,q out hp hr _ (I.hok.fresh hD)⟩
 obtain ⟨n,e⟩:=hn
 refine ⟨?_,bf out,n,pS out,e⟩
 have hl:out.length<=15:=by
  rw [hp.length_eq]
  obtain ⟨o,es,ep,t,Z,S0,hk,hn⟩:=hS
  exact mi hk hn
 unfold lz
 rw [Nd]
 exact L5 hl (by decide)
end
end L2
namespace L2
open PySem PySem.Spec PyProof.Rows RS
def iW (qs:List KI):List KI:=qs.foldl (fun ps p=>we ps p.1 p.2) []
theorem vY (qs:List KI) (p:KI):iW (qs++[p])=we (iW qs) p.1 p.2:=by unfold iW;rw [OW];rfl
def cP (ns:List Int):List Int:=ns.foldl (fun acc k=>if k∈acc then acc else acc++[k]) []
theorem oD:∀ (qs ps:List KI),(qs.foldl (fun ps p=>we ps p.1 p.2) ps).map (·.1)=(qs.map (·.1)).foldl (fun acc k=>if k∈acc then acc else acc++[k]) (ps.map (·.1))
 | [],ps=>rfl
 | q::qs,ps=>by
  rw [NH,oD qs,Nz,NH]
  congr 1
  unfold we
  split
  ·rfl
  ·rw [Ou];rfl
theorem ym (qs:List KI):(iW qs).map (·.1)=cP (qs.map (·.1)):=oD qs []
theorem ot {w:World}{h:Heap}{a:Addr} (e:h.get? a=some { cls:=.type "set",dict:=none,data:=.set #[] 0 (.fresh 0 0 (nK w)) }):dw w h a []:=
 ⟨_,_,_,_,[],⟨e,⟨rfl,rfl,rfl⟩,rfl,⟨rfl,rfl,List.Pairwise.nil,fun z hz=>by simp at hz,rfl,fun z hz=>by simp at hz⟩,rfl,rfl,.inl ⟨rfl,by decide⟩,List.Perm.nil⟩,fun p hp=>by simp at hp,OE⟩
def oM (p:KI):Value:=Value.int p.1 p.2
section
variable {prog:Program}{w:World}{A:Around}{E:Value->Shared->Prop}{s:Shared}
theorem uM {qs:List KI}{S:Addr}{u:Nat} (hk:∀ p∈qs,p.1∈ins):BI prog w u S (qs.map oM) (fun i h=>dw w h S (iW (qs.take i))):=by
 refine ⟨fun i h h' hk' j1=>j1.keeps fun o e=>hk' S o (MD _) e,fun A i v s E Q hA hv j1 hQ=>?_⟩
 rw [MZ] at hv
 cases e:qs[i]? with
 | none=>rw [e] at hv;cases hv
 | some p=>
  rw [e] at hv
  cases hv
  have hpm:p∈qs:=Na e
  unfold setAdd oM
  refine Mr ?_
  refine Mq (wpAny_pyHash_int ?_)
  refine FY (s:={ s with toks:=s.toks+1 }) j1 (hk p hpm) fun b h' hsb hS2=>?_
  have etk:qs.take (i+1)=qs.take i++[p]:=by rw [O5,e];rfl
  refine hQ b h' _ (O6 _ _) hsb (by rw [etk,vY];exact hS2)
theorem ur:∀ (qs:List KI),IntsAre (qs.map oM) (qs.map (·.1))
 | []=>.nil
 | p::qs=>.cons p.1 p.2 (ur qs)
theorem xq {vs:List Value}{ns:List Int} (h:IntsAre vs ns):∃ qs:List KI,vs=qs.map oM/\qs.map (·.1)=ns:=by
 induction h with
 | nil=>exact ⟨[],rfl,rfl⟩
 | cons n t _ ih=>
  obtain ⟨qs,e1,e2⟩:=ih
  exact ⟨(n,t)::qs,by rw [e1];rfl,by rw [<- e2];rfl⟩
theorem xR {a:Addr}{ps:List KI}{Q:Value->Shared->Prop} (hh:A.handled=none) (S:dw w s.heap a ps)
  (h:∀ (out:List Value) (ns':List Int),IntsAre out ns'->ns'.Perm (ps.map (·.1))->ns'.Pairwise (·<=·)->∀ h' D,s.heap.objs.size<=D->(∀ b u,s.heap.get? b=some u->h'.get? b=some u)->(∃ n,h'.get? D=some (seqObj "list" out.toArray n))->Q (.ref D) { s with heap:=h' }) :
  wpAny (model prog w) A (call (.builtin "sorted") [.ref a]) Q E s:=by
 obtain ⟨o,es,ep,t,Z,S,hk,hn⟩:=S
 have h6:=lM hk hn
 refine Pu kind_sorted plain_sorted entry_sorted (args_sorted1 _) ?_
 unfold Builtin.«sorted»
 refine Mq (m:=checkCount "sorted" 1 1 _) (Mw ?_)
 refine Mq (pX (by simpa using hh) S (by rw [S.len,Nd];omega) fun qs hqs h1 k1 hsz=>?_)
 obtain ⟨rs,q1,q2⟩:=oz hqs ps rfl
 have q3:qs.map (·.2)=rs.map oM:=by rw [q2,Oc];rfl
 rw [q3]
 have hvl:(rs.map oM).length<=6:=by rw [Nd,q1.length_eq];exact h6
 refine Mq (Pi ?_ (L5 hvl (by decide)))
 have hoL:(h1.push (seqObj "list" (rs.map oM).toArray 0)).get? h1.objs.size=some (seqObj "list" (rs.map oM).toArray 0):=MC _ rfl
 have hnn:∀ b u,h1.get? b=some u->b≠h1.objs.size:=fun b u q=>L0 (LX q)
 refine Mq (Mr (Nu slot_list_sort (s:={ s with heap:=h1.push (seqObj "list" (rs.map oM).toArray 0) }) ⟨_,hoL,rfl⟩ Pv ?body (args_list_sort _)))
 case body=>
  refine list_sort_tree (s:={ s with heap:=h1.push (seqObj "list" (rs.map oM).toArray 0) }) hoL (ur rs) (by omega) fun out ns' a1 a2 a3=>⟨_,rfl,?_⟩
  refine Mw ⟨_,rfl,h out.toList ns' a1 (a2.trans (q1.map _)) a3 _ h1.objs.size hsz (fun b u q=>?_) ?_⟩
  ·have hb := hnn b u (k1 b u q)
   unfold sortedHeap
   rw [Pl _ _ _ _ hb]
   refine Mz _ (Mz _ ?_)
   rw [Pl _ _ _ _ hb]
   exact Mz _ (k1 b u q)
  ·unfold sortedHeap
   have g1:=Ph hoL (fun _=>#[])
   have g2:=Mz (seqObj "list" #[] 0) (Mz (seqObj "tuple" (rs.map oM).toArray 0) g1)
   exact ⟨_,Ph g2 (fun _=>out)⟩
end
section
variable {X:Cx}
def BR (K:W.Frag) (w:World):List V->Hp->VK->Prop:=fun xs H Q=>∃ (a:Addr) (ns:List Int),xs=[.ref a]/\(ia K H a (ns.map V.int)\/ip K H a (ns.map V.int))/\(∀ n∈ns,n∈ins) /\
 ∀ l,H l=none->∀ ps:List KI,ps.map (·.1)=cP ns->(∀ p∈ps,p.1∈ins)->(ps.map (·.1)).Nodup->Q (.ref l) (dk H l (.ext fun h=>dw w h l ps))
theorem Bb (hc:X.calm=true) (hu:X.A.units+64<cLine):dv X (.type "set") (BR X.K X.w):=by
 intro pins s σ H xs us Q I r h
 obtain ⟨a,ns,rfl,ha,hq,q⟩:=h
 obtain ⟨u,rfl,ru⟩:=iD r
 cases ru
 have fin:∀ (qs:List KI),qs.map (·.1)=ns->∀ (h':Heap) (tk:Nat),dw X.w h' s.heap.objs.size (iW qs)->(∀ b o,b<s.heap.objs.size->s.heap.get? b=some o->h'.get? b=some o)->EP X pins σ Q (.ref s.heap.objs.size) { s with heap:=h',toks:=tk }:=by
  intro qs eq h' tk hS hk
  obtain ⟨o,es,ep,t,Z,S0,k1,k2⟩:=id hS
  refine ⟨.ref s.heap.objs.size,dk H s.heap.objs.size (.ext fun h=>dw X.w h s.heap.objs.size (iW qs)),I.laid (t':=tk) (fun b ob e=>hk b ob (LX e) e) (MD _) ?_,rfl,q _ (I.hok.fresh (MD _)) _ (by rw [ym,eq]) k1 k2⟩
  exact ⟨hS,⟨o,S0.ho⟩,fun h1 h2 g k=>g.keeps k⟩
 rcases ha with ha | ha
 ·obtain ⟨its, rv, pl, hz⟩ := I.list ha
  obtain ⟨qs,e1,e2⟩:=xq (f6 rv)
  subst e1
  have hsz:(qs.map oM).toArray.size=qs.length:=by rw [ML,Nd]
  refine oq (I.ok.hd hc) pl.isList (J:=fun i h=>dw X.w h s.heap.objs.size (iW (qs.take i))) ?_ (fun h' k e=>ot e) fun h' tk j1=>fin qs e2 h' tk ?_
  ·exact uM fun p hp=>hq _ (by rw [<- e2];exact Oq hp)
  ·rw [hsz,O7] at j1;exact j1
 ·obtain ⟨its, rv, pl, hz⟩ := I.tuple ha
  obtain ⟨qs,e1,e2⟩:=xq (f6 rv)
  subst e1
  have hsz:(qs.map oM).toArray.size=qs.length:=by rw [ML,Nd]
  refine mS (I.ok.hd hc) pl (J:=fun i h=>dw X.w h s.heap.objs.size (iW (qs.take i))) ?_ (fun h' k e=>ot e) fun h' tk j1=>fin qs e2 h' tk ?_
  ·exact uM fun p hp=>hq _ (by rw [<- e2];exact Oq hp)
  ·rw [hsz,O7] at j1;exact j1
def Cc (w:World):List V->Hp->VK->Prop:=fun xs H Q=>∃ (a:Addr) (ps:List KI),xs=[.ref a]/\H a=some (.ext fun h=>dw w h a ps) /\
 ∀ ns':List Int,ns'.Perm (ps.map (·.1))->ns'.Pairwise (·<=·)->∀ l,H l=none->Q (.ref l) (dk H l (.lst (ns'.map V.int)))
theorem zk (hc:X.calm=true):dv X (.builtin "sorted") (Cc X.w):=by
 intro pins s σ H xs us Q I r h
 obtain ⟨a,ps,rfl,ha,q⟩:=h
 obtain ⟨u,rfl,ru⟩:=iD r
 cases ru
 obtain ⟨hS,_⟩:=(show gq X.prog X.w H s.heap a (.ext fun h=>dw X.w h a ps) from I.hok a _ ha)
 obtain ⟨o,es,ep,t,Z,S0,k1,k2⟩:=id hS
 have h6:=lM k1 k2
 refine xR (I.ok.hd hc) hS fun out ns' a1 a2 a3 h' D hD hk hn=>?_
 refine ⟨.ref D,dk H D (.lst (ns'.map V.int)),I.laid (t':=s.toks) (fun b ob e=>hk b ob e) hD ?_,rfl,q ns' a2 a3 _ (I.hok.fresh hD)⟩
 obtain ⟨n,e⟩:=hn
 refine ⟨?_,out,n,om a1,e⟩
 rw [Nd,a2.length_eq,Nd]
 exact L5 h6 (by decide)
def Gi (w:World):List V->Hp->VK->Prop:=fun xs H Q=>∃ (a:Addr) (ps:List KI),xs=[.ref a]/\H a=some (.ext fun h=>dw w h a ps)/\Q (.int ps.length) H
theorem Bg:dv X (.builtin "len") (Gi X.w):=by
 intro pins s σ H xs us Q I r h
 obtain ⟨a,ps,rfl,ha,q⟩:=h
 obtain ⟨u,rfl,ru⟩:=iD r
 cases ru
 obtain ⟨hS,_⟩:=(show gq X.prog X.w H s.heap a (.ext fun h=>dw X.w h a ps) from I.hok a _ ha)
 obtain ⟨o,es,ep,t,Z,S0,k1,k2⟩:=id hS
 have h6:=lM k1 k2
 have hsz:es.size=ps.length:=by rw [S0.tab.size.2,S0.len,Nd]
 refine PySem.call_len_set S0.ho S0.ex S0.hd S0.fits (by rw [hsz];omega) ⟨.int ps.length,H,?_,⟨_,by rw [hsz]⟩,q⟩
 exact I.tok _
def Gj (w:World):List V->Hp->VK->Prop:=fun xs H Q=>∃ (a:Addr) (ps:List KP),xs=[.ref a]/\H a=some (.ext fun h=>fF w h a ps)/\Q (.int ps.length) H
theorem Bh:dv X (.builtin "len") (Gj X.w):=by
 intro pins s σ H xs us Q I r h
 obtain ⟨a,ps,rfl,ha,q⟩:=h
 obtain ⟨u,rfl,ru⟩:=iD r
 cases ru
 obtain ⟨hS,_⟩:=(show gq X.prog X.w H s.heap a (.ext fun h=>fF X.w h a ps) from I.hok a _ ha)
 obtain ⟨o,es,ep,t,Z,S0,k1,k2⟩:=id hS
 have h6:=mi k1 k2
 have hsz:es.size=ps.length:=by rw [S0.tab.size.2,S0.len,Nd]
 refine PySem.call_len_set S0.ho S0.ex S0.hd S0.fits (by rw [hsz];omega) ⟨.int ps.length,H,?_,⟨_,by rw [hsz]⟩,q⟩
 exact I.tok _
end
end L2
namespace L2
open PySem PySem.Spec PyProof.Rows RS
def ao (k:List Int):D:=.tup (k.map D.int)
def Ap:D->Option (List Int)
 | .tup [.int a,.int b]=>if 0<=a/\a<b/\b<6 then some [a,b] else none
 | _=>none
def lA:List D->Option (List (List Int))
 | []=>some []
 | d::r=>match Ap d,lA r with
  | some k,some ks=>some (k::ks)
  | _,_=>none
theorem FC {d:D}{k:List Int} (h:Ap d=some k):d=ao k/\k∈prs:=by
 unfold Ap at h
 split at h
 ·split at h
  ·rename_i hc
   cases h
   exact ⟨rfl,zP hc.1 hc.2.1 hc.2.2⟩
  ·cases h
 ·cases h
theorem AX {a b:Int} (h:0<=a/\a<b/\b<6):Ap (.tup [.int a,.int b])=some [a,b]:=by
 simp only [Ap,LU h]
theorem xn:∀ {ds:List D}{ks:List (List Int)},lA ds=some ks->ds=ks.map ao/\∀ k∈ks,k∈prs
 | [],ks,h=>by cases h;exact ⟨rfl,fun k hk=>by simp at hk⟩
 | d::r,ks,h=>by
  unfold lA at h
  split at h
  ·rename_i k ks' h1 h2
   cases h
   obtain ⟨e1,e2⟩:=FC h1
   obtain ⟨f1,f2⟩:=xn h2
   refine ⟨by rw [e1,f1];rfl,fun k' hk=>?_⟩
   rcases Mc.mp hk with z | z
   ·rw [z];exact e2
   ·exact f2 k' z
  ·cases h
theorem rO:∀ {ks:List (List Int)},(∀ k∈ks,k∈prs)->lA (ks.map ao)=some ks
 | [],_=>rfl
 | k::ks,h=>by
  obtain ⟨a,b,rfl,h1,h2,h3⟩:=jc (h k Ma)
  simp only [Nz,lA,rO fun k' hk=>h k' (Mb _ hk)]
  have:Ap (ao [a,b])=some [a,b]:=AX ⟨h1,h2,h3⟩
  rw [this]
def BH (ks:List (List Int)) (k:List Int):List (List Int):=if k∈ks then ks else ks++[k]
def fX (ks:List (List Int)):List (List Int):=ks.foldl BH []
def kU (ks:List (List Int)):List (List Int):=prs.filter fun k=>decide (k∈ks)
theorem sy:∀ (qs ps:List KP),(qs.foldl (fun ps p=>nD ps p.1 p.2) ps).map (·.1)=(qs.map (·.1)).foldl BH (ps.map (·.1))
 | [],ps=>rfl
 | q::qs,ps=>by
  rw [NH,Nz,NH,sy qs]
  congr 1
  unfold nD BH
  split <;> simp
theorem A8 (qs:List KP):(fY qs).map (·.1)=fX (qs.map (·.1)):=sy qs []
theorem A7 {ks:List (List Int)}{k:List Int}:k∈fX ks↔k∈ks:=by
 have core:∀ (ks acc:List (List Int)),k∈ks.foldl BH acc↔k∈acc\/k∈ks:=by
  intro ks
  induction ks with
  | nil=>intro acc;simp
  | cons x r ih=>
   intro acc
   rw [NH,ih]
   unfold BH
   split
   ·rename_i hx
    constructor
    ·rintro (h | h)
     ·exact .inl h
     ·exact .inr (Mb _ h)
    ·rintro (h | h)
     ·exact .inl h
     ·rcases Mc.mp h with z | z
      ·exact .inl (by rw [z];exact hx)
      ·exact .inr z
   ·simp [or_assoc]
 unfold fX
 rw [core]
 simp
theorem sd:prs.Pairwise fun a b=>tS a<tS b:=by decide +kernel
theorem DB {l m:List (List Int)} (hl:l.Pairwise fun a b=>tS a<tS b) (hm:m.Pairwise fun a b=>tS a<tS b) (h:∀ k,k∈l↔k∈m):l=m:=by
 have nl:l.Nodup:=hl.imp fun h e=>by subst e;omega
 have nm:m.Nodup:=hm.imp fun h e=>by subst e;omega
 have hp:l.Perm m:=(OI nl nm).mpr h
 refine hp.eq_of_pairwise (le:=fun a b=>tS a<tS b) (fun a b _ _ h1 h2=>by omega) hl hm
theorem CN {out:List KP}{ps:List KP} (hk:∀ p∈ps,p.1∈prs) (hp:out.Perm ps) (hr:jj out):out.map (·.1)=kU (ps.map (·.1)):=by
 refine DB ?_ (sd.filter _) fun k=>?_
 ·unfold jj at hr
  rw [Pf]
  exact hr
 ·have h1 : k ∈ out.map (·.1) ↔ k ∈ ps.map (·.1) := (hp.map _).mem_iff
  rw [h1]
  unfold kU
  rw [L1,PF]
  constructor
  ·intro h
   refine ⟨?_,h⟩
   obtain ⟨p,hp',rfl⟩:=Ol.mp h
   exact hk p hp'
  ·exact fun h=>h.2
theorem pU (ks:List (List Int)):kU (fX ks)=kU ks:=by
 unfold kU
 apply PM
 intro k _
 simp only [A7]
theorem Reps.keys {K:W.Frag}{H:Hp}{α:List Addr}:∀ {ks:List (List Int)}{vs:List V},Reps K H α (ks.map ao) vs->∃ qs:List KP,qs.map (·.1)=ks/\vs=lz qs/\∀ p∈qs,ip K H p.2 (p.1.map V.int)
 | [],vs,h=>by simp only [Ny,Reps] at h;exact ⟨[],rfl,h,fun p hp=>by simp at hp⟩
 | k::ks,vs,h=>by
  simp only [Nz,Reps] at h
  obtain ⟨v,r,rfl,h1,h2⟩:=h
  obtain ⟨a,us,rfl,h3,h4⟩:=aO.mp h1
  obtain ⟨qs,e1,e2,e3⟩:=Reps.keys h2
  refine ⟨(k,a)::qs,by rw [Nz,e1],by rw [e2];rfl,fun p hp=>?_⟩
  rcases Mc.mp hp with z | z
  ·subst z
   rw [<- h4.ints];exact h3
  ·exact e3 p z
theorem p3 {K:W.Frag}{H:Hp}{α:List Addr}:∀ {qs:List KP},(∀ p∈qs,ip K H p.2 (p.1.map V.int))->Reps K H α ((qs.map (·.1)).map ao) (lz qs)
 | [],_=>Reps.nil
 | q::qs,h=>by
  refine Reps.cons (aO.mpr ⟨q.2,_,rfl,h q Ma,jQ _⟩) (p3 fun p hp=>h p (Mb _ hp))
def jf:List D->Option (List Int)
 | []=>some []
 | .int i::r=>(jf r).map (i::·)
 | _::_=>none
theorem gr:∀ {ds:List D}{ns:List Int},jf ds=some ns->ds=ns.map D.int
 | [],bs,h=>by cases h;rfl
 | .int b::r,bs,h=>by
  unfold jf at h
  cases e:jf r with
  | none=>rw [e] at h;cases h
  | some cs=>rw [e] at h;cases h;rw [gr e];rfl
 | .non::r,bs,h=>by cases h
 | .bl _::r,bs,h=>by cases h
 | .str _::r,bs,h=>by cases h
 | .tup _::r,bs,h=>by cases h
 | .frz _::r,bs,h=>by cases h
 | .obj _::r,bs,h=>by cases h
theorem zc {ns:List Int} (h:∀ n∈ns,n∈ins):(cP ns).length<=6:=by
 have core:∀ (l acc:List Int),(∀ n∈l,n∈ins)->(∀ n∈acc,n∈ins)->acc.Nodup->(l.foldl (fun acc k=>if k∈acc then acc else acc++[k]) acc).length<=6:=by
  intro l
  induction l with
  | nil=>
   intro acc _ h2 h3
   have:=kb h3 (l2:=ins) h2
   exact this
  | cons x l ih=>
   intro acc h1 h2 h3
   rw [NH]
   have hx:=h1 x Ma
   split
   ·exact ih acc (fun n hn=>h1 n (Mb _ hn)) h2 h3
   ·rename_i hxa
    refine ih (acc++[x]) (fun n hn=>h1 n (Mb _ hn)) (fun n hn=>?_) ?_
    ·rcases Me.mp hn with z | z
     ·exact h2 n z
     ·rw [N1.mp z];exact hx
    ·refine OR.mpr ⟨h3, by simp, fun u hu v hv e => ?_⟩
     rw [N1.mp hv] at e
     exact hxa (e ▸ hu)
 exact core ns [] h (fun n hn=>by simp at hn) OE
def BE (xs:List D):Option (List Int):=match jf xs with
 | some ns=>if ns.all (fun n=>decide (0<=n/\n<6))=true then some ns else none
 | none=>none
theorem FG {xs:List D}{ns:List Int} (h:BE xs=some ns):xs=ns.map D.int/\∀ n∈ns,n∈ins:=by
 unfold BE at h
 split at h
 ·rename_i ms hm
  split at h
  ·rename_i ha
   cases h
   refine ⟨gr hm,fun n hn=>FF.mpr ?_⟩
   simpa using OK.mp ha n hn
  ·cases h
 ·cases h
def nH (xs:List D) (μ:aG):ak D:=match lA xs with
 | some ks=>.ok (.obj μ.length) (μ++[.set (fX ks)])
 | none=>match BE xs with
  | some ns=>.ok (.obj μ.length) (μ++[.iset (cP ns)])
  | none=>.bad
def ky (ds:List D) (μ:aG):ak D:=match ds with
 | [.tup xs]=>nH xs μ
 | [.obj n]=>match μ[n]? with
  | some (.lst xs)=>nH xs μ
  | _=>.bad
 | _=>.bad
section
variable {p:Pa}
theorem Fm {H:Hp}{α:List Addr}{μ:aG}{ks:List (List Int)}{vs:List V}{Q:VK} (S:p.S H α μ) (hk:∀ k∈ks,k∈prs) (r:p.Rs H α (ks.map ao) vs) (P:aK p H α (.ok (.obj μ.length) (μ++[.set (fX ks)])) (RV p Q)) :
  ∃ qs:List KP,vs=lz qs/\(∀ q∈qs,q.1∈prs/\ip p.K H q.2 (q.1.map V.int))/\∀ l,H l=none->Q (.ref l) (dk H l (.ext fun h=>fF p.w h l (fY qs))):=by
 obtain ⟨qs,e1,e2,e3⟩:=r.keys
 refine ⟨qs,e2,fun q hq=>⟨hk _ (by rw [<- e1];exact Oq hq),e3 q hq⟩,fun l hl=>?_⟩
 have x1:p.X H (dk H l (.ext fun h=>fF p.w h l (fY qs))) α (α++[l]):=(cF hl).trans (og [l])
 refine P _ _ x1 (S.more hl ⟨fY qs,by rw [A8,e1],dy,fun q hq=>?_,vX,fun q hq=>?_⟩) _ (ba.mpr ⟨l,rfl,by rw [<- S.len];simp⟩)
 ·exact hk _ (by rw [<- e1];exact Oq (nu hq))
 ·exact x1.tup _ _ (e3 q (nu hq))
theorem Dm {H:Hp}{α:List Addr}{μ:aG}{ns:List Int}{Q:VK} (S:p.S H α μ) (hk:∀ n∈ns,n∈ins) (P:aK p H α (.ok (.obj μ.length) (μ++[.iset (cP ns)])) (RV p Q)) :
  ∀ l,H l=none->∀ ps:List KI,ps.map (·.1)=cP ns->(∀ p∈ps,p.1∈ins)->(ps.map (·.1)).Nodup->Q (.ref l) (dk H l (.ext fun h=>dw p.w h l ps)):=fun l hl ps e _ _=>by
 have x1:p.X H (dk H l (.ext fun h=>dw p.w h l ps)) α (α++[l]):=(cF hl).trans (og [l])
 exact P _ _ x1 (S.more hl ⟨ps,e,dy,zc hk⟩) _ (ba.mpr ⟨l,rfl,by rw [<- S.len];simp⟩)
theorem Ca {H:Hp}{α:List Addr}{μ:aG}{xs:List D}{us:List V}{a:Addr}{Q:VK} (S:p.S H α μ) (h1:ia p.K H a us\/ip p.K H a us) (rr:p.Rs H α xs us) (P:aK p H α (nH xs μ) (RV p Q)):BQ p.K p.w [.ref a] H Q\/BR p.K p.w [.ref a] H Q:=by
 unfold nH at P
 split at P
 ·rename_i ks hks
  obtain ⟨f1,f2⟩:=xn hks
  rw [f1] at rr
  obtain ⟨qs,e1,e2,e3⟩:=Fm S f2 rr P
  exact .inl ⟨a,qs,rfl,by rw [<- e1];exact h1,e2,e3⟩
 ·split at P
  ·rename_i ns hns
   obtain ⟨f1,f2⟩:=FG hns
   rw [f1] at rr
   exact .inr ⟨a,ns,rfl,by rw [<- rr.ints];exact h1,f2,Dm S f2 P⟩
  ·exact P.elim
theorem Ib:yt p ky (fun xs H Q=>BQ p.K p.w xs H Q\/BR p.K p.w xs H Q):=by
 intro ds vs H α μ Q S r P
 unfold ky at P
 split at P
 ·rename_i xs
  obtain ⟨v,rfl,r1⟩:=r.one
  obtain ⟨a,us,rfl,h1,rr⟩:=aO.mp r1
  exact Ca S (.inr h1) rr P
 ·rename_i n
  split at P
  ·rename_i xs hx
   obtain ⟨v,rfl,r1⟩:=r.one
   obtain ⟨a,us,rfl,a1,h1,rr⟩:=dN S r1 hx
   exact Ca S (.inl (ia.of h1)) rr P
  ·exact P.elim
 ·exact P.elim
def nG (ns:List Int):List Int:=ns.mergeSort fun a b=>decide (a<=b)
theorem rH {ns ns':List Int} (hp:ns'.Perm ns) (hs:ns'.Pairwise (·<=·)):ns'=nG ns:=by
 have h1:(nG ns).Perm ns:=List.mergeSort_perm ns _
 have h2:(nG ns).Pairwise (·<=·):=by
  have:=List.pairwise_mergeSort (le:=fun (a b:Int)=>decide (a<=b)) (fun a b c h1 h2=>by simp at *;omega) (fun a b=>by simp;omega) ns
  exact this.imp fun h=>by simpa using h
 exact (hp.trans h1.symm).eq_of_pairwise (fun a b _ _ h1 h2=>PN h1 h2) hs h2
def dR (ds:List D) (μ:aG):ak D:=match ds with
 | [.tup xs]=>match jf xs with
  | some ns=>if ns.length<64 then .ok (.obj μ.length) (μ++[.lst ((nG ns).map D.int)]) else .bad
  | none=>.bad
 | [.obj n]=>match μ[n]? with
  | some (.lst xs)=>match jf xs with
   | some ns=>if ns.length<64 then .ok (.obj μ.length) (μ++[.lst ((nG ns).map D.int)]) else .bad
   | none=>.bad
  | some (.set ks)=>.ok (.obj μ.length) (μ++[.lst ((kU ks).map ao)])
  | some (.iset ks)=>.ok (.obj μ.length) (μ++[.lst ((nG ks).map D.int)])
  | _=>.bad
 | _=>.bad
theorem AQ:yt p dR (fun xs H Q=>(Ce p.K xs H Q\/Cd p.K p.w xs H Q)\/Cc p.w xs H Q):=by
 intro ds vs H α μ Q S r P
 have fin:∀ {ns:List Int},aK p H α (.ok (.obj μ.length) (μ++[.lst ((nG ns).map D.int)])) (RV p Q)->∀ ns':List Int,ns'.Perm ns->ns'.Pairwise (·<=·)->∀ l,H l=none->Q (.ref l) (dk H l (.lst (ns'.map V.int))):=by
  intro ns P ns' h1 h2 l hl
  rw [<- rH h1 h2] at P
  obtain ⟨x1,x2,x3⟩:=dz S hl (jQ ns')
  exact P _ _ x1 x2 _ x3
 unfold dR at P
 split at P
 ·rename_i xs
  split at P
  ·rename_i ns hns
   split at P
   ·rename_i hl
    obtain ⟨v,rfl,r1⟩:=r.one
    obtain ⟨a,us,rfl,h1,rr⟩:=aO.mp r1
    rw [gr hns] at rr
    exact .inl (.inl ⟨a,ns,rfl,.inr (by rw [<- rr.ints];exact h1),hl,fin P⟩)
   ·exact P.elim
  ·exact P.elim
 ·rename_i n
  split at P
  ·rename_i xs hx
   split at P
   ·rename_i ns hns
    split at P
    ·rename_i hl
     obtain ⟨v,rfl,r1⟩:=r.one
     obtain ⟨a,us,rfl,a1,h1,rr⟩:=dN S r1 hx
     rw [gr hns] at rr
     exact .inl (.inl ⟨a,ns,rfl,.inl (by rw [<- rr.ints];exact ia.of h1),hl,fin P⟩)
    ·exact P.elim
   ·exact P.elim
  ·rename_i ks hx
   obtain ⟨v,rfl,r1⟩:=r.one
   obtain ⟨a,ea,ps,e1,e2,e3,e4,e5⟩:=S.at hx
   obtain ⟨a',rfl,ea'⟩:=ba.mp r1
   rw [ea] at ea';cases ea'
   refine .inl (.inr ⟨a,ps,rfl,e2,e5,fun out hp hr l hl=>?_⟩)
   have rr:p.Rs H α ((out.map (·.1)).map ao) (lz out):=p3 fun q hq=>e5 q (hp.mem_iff.mp hq)
   rw [CN e3 hp hr,e1] at rr
   obtain ⟨x1,x2,x3⟩:=dz S hl rr
   exact P _ _ x1 x2 _ x3
  ·rename_i ks hx
   obtain ⟨v,rfl,r1⟩:=r.one
   obtain ⟨a,ea,ps,e1,e2,e3⟩:=S.at hx
   obtain ⟨a',rfl,ea'⟩:=ba.mp r1
   rw [ea] at ea';cases ea'
   exact .inr ⟨a,ps,rfl,e2,by rw [e1];exact fin P⟩
  ·exact P.elim
 ·exact P.elim
def fB (ds:List D) (μ:aG):ak D:=match ds with
 | [.obj n]=>match μ[n]? with
  | some (.iset ks)=>.ok (.int ks.length) μ
  | some (.set ks)=>.ok (.int ks.length) μ
  | _=>wz [.obj n] μ
 | _=>wz ds μ
theorem Ig:yt p fB (fun xs H Q=>((∃ x n,xs=[x]/\GJ p.K x H n/\Q (.int n) H)\/Gi p.w xs H Q)\/Gj p.w xs H Q):=by
 intro ds vs H α μ Q S r P
 unfold fB at P
 split at P
 ·rename_i n
  split at P
  ·rename_i ks hx
   obtain ⟨v,rfl,r1⟩:=r.one
   obtain ⟨a,ea,ps,e1,e2,e3⟩:=S.at hx
   obtain ⟨a',rfl,ea'⟩:=ba.mp r1
   rw [ea] at ea';cases ea'
   refine .inl (.inr ⟨a,ps,rfl,e2,P.now S _ (ax.mpr ?_)⟩)
   rw [<- e1,Nd]
  ·rename_i ks hx
   obtain ⟨v,rfl,r1⟩:=r.one
   obtain ⟨a,ea,ps,e1,e2,e3⟩:=S.at hx
   obtain ⟨a',rfl,ea'⟩:=ba.mp r1
   rw [ea] at ea';cases ea'
   refine .inr ⟨a,ps,rfl,e2,P.now S _ (ax.mpr ?_)⟩
   rw [<- e1,Nd]
  ·exact .inl (.inl (zR _ vs H α μ Q S r P))
 ·exact .inl (.inl (zR _ vs H α μ Q S r P))
end
section
variable {X:Cx}
def Gg (K:W.Frag):List V->Hp->VK->Prop:=fun xs H Q=>∃ (a:Addr) (ns:List Int),xs=[.ref a]/\(ia K H a (ns.map V.int)\/ip K H a (ns.map V.int))/\ns≠[]/\∀ m∈ns,(∀ j∈ns,m<=j)->Q (.int m) H
def Gh (K:W.Frag):List V->Hp->VK->Prop:=fun xs H Q=>∃ (a:Addr) (ns:List Int),xs=[.ref a]/\(ia K H a (ns.map V.int)\/ip K H a (ns.map V.int))/\ns≠[]/\∀ m∈ns,(∀ j∈ns,j<=m)->Q (.int m) H
theorem mj {its:List Value}{ns:List Int} (h:IntsAre its ns) {i:Nat}{v:Value} (e:its.toArray[i]?=some v):∃ t,v=.int (ns.getD i 0) t/\i<ns.length:=by
 have e':its[i]?=some v:=by simpa using e
 obtain ⟨n,t,rfl,hn⟩:=h.at i v e'
 have hi:=(Mg.mp hn).1
 exact ⟨t,by rw [Pb,hn];rfl,hi⟩
theorem xv {ns:List Int}{i:Nat} (h:i<ns.length):ns.getD i 0∈ns:=by
 rw [Pb,Pp h]
 exact Po h
theorem xk {ns:List Int}{j:Int} (h:j∈ns):∃ i,i<ns.length/\ns.getD i 0=j:=by
 obtain ⟨i,hi,e⟩:=Pw h
 exact ⟨i,hi,by rw [Pb,Pp hi];exact e⟩
theorem Bd (hc:X.calm=true):dv X (.builtin "min") (Gg X.K):=by
 intro pins s σ H xs us Q I r h
 obtain ⟨a,ns,rfl,ha,hne,q⟩:=h
 obtain ⟨u,rfl,ru⟩:=iD r
 cases ru
 have hpos:0<ns.length:=PQ.mpr hne
 have core:∀ (its:List Value) (o:Obj),IntsAre its ns->∀ v s',its.toArray[argBest (fun i j=>decide (ns.getD i 0<ns.getD j 0)) (its.toArray.size - 1)]?=some v->Moved [s.heap.objs.size] (fun a b=>b=a) { s with heap:=s.heap.push o } s'->EP X pins σ Q v s':=by
  intro its o hI v s' hv hm
  obtain ⟨t,rfl,hi⟩:=mj hI hv
  have hsz:its.toArray.size - 1=ns.length - 1:=by rw [ML,hI.length]
  rw [hsz] at hi ⊢
  obtain ⟨b1,b2⟩:=argBest_lt (fun i=>ns.getD i 0) (ns.length - 1)
  obtain ⟨hh,g,d,tk,os⟩:=s'
  have e1:g=s.gens:=hm.gens
  have e2:d=s.drawn:=hm.drawn
  have e3:os=s.os:=hm.os
  subst e1 e2 e3
  refine ⟨.int _,H,I.fresh_it (o:=o) (h':=hh) (tk:=tk) fun b ob hb e=>hm.heap b ob hb e,⟨t,rfl⟩,q _ (xv hi) fun j hj=>?_⟩
  obtain ⟨i,hi',rfl⟩:=xk hj
  exact b2 i (by omega)
 have cmp:∀ (its:List Value),IntsAre its ns->CmpOf X.prog X.w X.A.in1 .Lt (fun i v=>its.toArray[i]?=some v) (fun i j=>decide (ns.getD i 0<ns.getD j 0)):=by
  intro its hI i j vi vj s' Q' E' h1 h2 hQ
  obtain ⟨t1,rfl,_⟩:=mj hI h1
  obtain ⟨t2,rfl,_⟩:=mj hI h2
  exact (PyProof.Rows.lt_int hQ:wpAny _ _ (compareOp .Lt _ _) _ _ _)
 rcases ha with ha | ha
 ·obtain ⟨its, rv, pl, hz⟩ := I.list ha
  have hI:IntsAre its ns:=f6 rv
  have hne:a≠s.heap.objs.size:=by
   obtain ⟨o,n,e,_⟩:=pl
   exact L0 (LX e)
  refine call_min_walkS (O3 pl.isList ?_)
  refine ⟨s.heap.objs.size,[s.heap.objs.size,a],[s.heap.objs.size],_,_,_,_,_,rfl,(Walks.list (A:=X.A.in1) (show X.A.in1.handled=none from I.ok.hd hc) _ a hne its.toArray).toS,⟨⟨_,MC _ rfl,rfl,rfl⟩,pl.isList.at fun o e=>Mz _ e⟩,fun b hb=>?_,by simp [hI.length,hpos],cmp its hI,fun v s' hv hm=>core its _ hI v s' hv hm⟩
  obtain ⟨o,n,e,_⟩:=pl
  have:=LX e
  simp only [Mc,N8,N9] at hb
  show b<(s.heap.push _).objs.size
  rw [Pj]
  rcases hb with rfl|rfl
  ·exact NR _
  ·exact NS this
 ·obtain ⟨its, rv, pl, hz⟩ := I.tuple ha
  have hI:IntsAre its ns:=f6 rv
  have hne:a≠s.heap.objs.size:=by
   obtain ⟨o,e,_⟩:=pl
   exact L0 (LX e)
  refine call_min_walkS (N7 (show s.heap.IsTuple a its.toArray from pl) ?_)
  refine ⟨s.heap.objs.size,[s.heap.objs.size,a],[s.heap.objs.size],_,_,_,_,_,rfl,(Walks.tuple (A:=X.A.in1) (show X.A.in1.handled=none from I.ok.hd hc) _ a hne its.toArray).toS,⟨⟨_,MC _ rfl,rfl,rfl⟩,(show s.heap.IsTuple a its.toArray from pl).at fun o e=>Mz _ e⟩,fun b hb=>?_,by simp [hI.length,hpos],cmp its hI,fun v s' hv hm=>core its _ hI v s' hv hm⟩
  obtain ⟨o,e,_⟩:=pl
  have:=LX e
  simp only [Mc,N8,N9] at hb
  show b<(s.heap.push _).objs.size
  rw [Pj]
  rcases hb with rfl|rfl
  ·exact NR _
  ·exact NS this
theorem Bf (hc:X.calm=true):dv X (.builtin "max") (Gh X.K):=by
 intro pins s σ H xs us Q I r h
 obtain ⟨a,ns,rfl,ha,hne,q⟩:=h
 obtain ⟨u,rfl,ru⟩:=iD r
 cases ru
 have hpos:0<ns.length:=PQ.mpr hne
 have core:∀ (its:List Value) (o:Obj),IntsAre its ns->∀ v s',its.toArray[argBest (fun i j=>decide (ns.getD i 0 > ns.getD j 0)) (its.toArray.size - 1)]?=some v->Moved [s.heap.objs.size] (fun a b=>b=a) { s with heap:=s.heap.push o } s'->EP X pins σ Q v s':=by
  intro its o hI v s' hv hm
  obtain ⟨t,rfl,hi⟩:=mj hI hv
  have hsz:its.toArray.size - 1=ns.length - 1:=by rw [ML,hI.length]
  rw [hsz] at hi ⊢
  obtain ⟨b1,b2⟩:=argBest_gt (fun i=>ns.getD i 0) (ns.length - 1)
  obtain ⟨hh,g,d,tk,os⟩:=s'
  have e1:g=s.gens:=hm.gens
  have e2:d=s.drawn:=hm.drawn
  have e3:os=s.os:=hm.os
  subst e1 e2 e3
  refine ⟨.int _,H,I.fresh_it (o:=o) (h':=hh) (tk:=tk) fun b ob hb e=>hm.heap b ob hb e,⟨t,rfl⟩,q _ (xv hi) fun j hj=>?_⟩
  obtain ⟨i,hi',rfl⟩:=xk hj
  exact b2 i (by omega)
 have cmp:∀ (its:List Value),IntsAre its ns->CmpOf X.prog X.w X.A.in1 .Gt (fun i v=>its.toArray[i]?=some v) (fun i j=>decide (ns.getD i 0 > ns.getD j 0)):=by
  intro its hI i j vi vj s' Q' E' h1 h2 hQ
  obtain ⟨t1,rfl,_⟩:=mj hI h1
  obtain ⟨t2,rfl,_⟩:=mj hI h2
  exact (PyProof.Rows.gt_int hQ:wpAny _ _ (compareOp .Gt _ _) _ _ _)
 rcases ha with ha | ha
 ·obtain ⟨its, rv, pl, hz⟩ := I.list ha
  have hI:IntsAre its ns:=f6 rv
  have hne:a≠s.heap.objs.size:=by
   obtain ⟨o,n,e,_⟩:=pl
   exact L0 (LX e)
  refine call_max_walkS (O3 pl.isList ?_)
  refine ⟨s.heap.objs.size,[s.heap.objs.size,a],[s.heap.objs.size],_,_,_,_,_,rfl,(Walks.list (A:=X.A.in1) (show X.A.in1.handled=none from I.ok.hd hc) _ a hne its.toArray).toS,⟨⟨_,MC _ rfl,rfl,rfl⟩,pl.isList.at fun o e=>Mz _ e⟩,fun b hb=>?_,by simp [hI.length,hpos],cmp its hI,fun v s' hv hm=>core its _ hI v s' hv hm⟩
  obtain ⟨o,n,e,_⟩:=pl
  have:=LX e
  simp only [Mc,N8,N9] at hb
  show b<(s.heap.push _).objs.size
  rw [Pj]
  rcases hb with rfl|rfl
  ·exact NR _
  ·exact NS this
 ·obtain ⟨its, rv, pl, hz⟩ := I.tuple ha
  have hI:IntsAre its ns:=f6 rv
  have hne:a≠s.heap.objs.size:=by
   obtain ⟨o,e,_⟩:=pl
   exact L0 (LX e)
  refine call_max_walkS (N7 (show s.heap.IsTuple a its.toArray from pl) ?_)
  refine ⟨s.heap.objs.size,[s.heap.objs.size,a],[s.heap.objs.size],_,_,_,_,_,rfl,(Walks.tuple (A:=X.A.in1) (show X.A.in1.handled=none from I.ok.hd hc) _ a hne its.toArray).toS,⟨⟨_,MC _ rfl,rfl,rfl⟩,(show s.heap.IsTuple a its.toArray from pl).at fun o e=>Mz _ e⟩,fun b hb=>?_,by simp [hI.length,hpos],cmp its hI,fun v s' hv hm=>core its _ hI v s' hv hm⟩
  obtain ⟨o,e,_⟩:=pl
  have:=LX e
  simp only [Mc,N8,N9] at hb
  show b<(s.heap.push _).objs.size
  rw [Pj]
  rcases hb with rfl|rfl
  ·exact NR _
  ·exact NS this
end
def Ju:List Int->Int
 | []=>0
 | x::r=>r.foldl min x
def Jv:List Int->Int
 | []=>0
 | x::r=>r.foldl max x
theorem A3 (r:List Int):∀ x:Int,(r.foldl min x=x\/r.foldl min x∈r)/\r.foldl min x<=x/\∀ j∈r,r.foldl min x<=j:=by
 induction r with
 | nil=>intro x;exact ⟨.inl rfl,PR _,fun j hj=>by simp at hj⟩
 | cons y r ih=>
  intro x
  obtain ⟨h1,h2,h3⟩:=ih (min x y)
  rw [NH]
  have m1:min x y<=x:=Int.min_le_left _ _
  have m2:min x y<=y:=Int.min_le_right _ _
  refine ⟨?_,by omega,fun j hj=>?_⟩
  ·rcases h1 with h | h
   ·rcases (by omega : min x y = x \/ min x y = y) with e | e
    ·exact .inl (by omega)
    ·exact .inr (by rw [h,e];exact Ma)
   ·exact .inr (Mb _ h)
  ·rcases Mc.mp hj with e | e
   ·rw [e];omega
   ·exact h3 j e
theorem A4 (r:List Int):∀ x:Int,(r.foldl max x=x\/r.foldl max x∈r)/\x<=r.foldl max x/\∀ j∈r,j<=r.foldl max x:=by
 induction r with
 | nil=>intro x;exact ⟨.inl rfl,PR _,fun j hj=>by simp at hj⟩
 | cons y r ih=>
  intro x
  obtain ⟨h1,h2,h3⟩:=ih (max x y)
  rw [NH]
  have m1:x<=max x y:=Int.le_max_left _ _
  have m2:y<=max x y:=Int.le_max_right _ _
  refine ⟨?_,by omega,fun j hj=>?_⟩
  ·rcases h1 with h | h
   ·rcases (by omega : max x y = x \/ max x y = y) with e | e
    ·exact .inl (by omega)
    ·exact .inr (by rw [h,e];exact Ma)
   ·exact .inr (Mb _ h)
  ·rcases Mc.mp hj with e | e
   ·rw [e];omega
   ·exact h3 j e
theorem Fq {ns:List Int}{m:Int} (h:m∈ns) (hm:∀ j∈ns,m<=j):m=Ju ns:=by
 cases ns with
 | nil=>simp at h
 | cons x r=>
  obtain ⟨h1,h2,h3⟩:=A3 r x
  have a1:m<=r.foldl min x:=by
   rcases h1 with e | e
   ·rw [e];exact hm x Ma
   ·exact hm _ (Mb _ e)
  have a2:r.foldl min x<=m:=by
   rcases Mc.mp h with e | e
   ·rw [e];exact h2
   ·exact h3 m e
  exact PN a1 a2
theorem Fs {ns:List Int}{m:Int} (h:m∈ns) (hm:∀ j∈ns,j<=m):m=Jv ns:=by
 cases ns with
 | nil=>simp at h
 | cons x r=>
  obtain ⟨h1,h2,h3⟩:=A4 r x
  have a1:r.foldl max x<=m:=by
   rcases h1 with e | e
   ·rw [e];exact hm x Ma
   ·exact hm _ (Mb _ e)
  have a2:m<=r.foldl max x:=by
   rcases Mc.mp h with e | e
   ·rw [e];exact h2
   ·exact h3 m e
  exact PN a2 a1
def DY (d:D) (μ:aG):Option (List Int):=match d with
 | .tup xs=>jf xs
 | .frz xs=>jf xs
 | .obj n=>match μ[n]? with
  | some (.lst xs)=>jf xs
  | _=>none
 | _=>none
theorem zL {p:Pa}{H:Hp}{α:List Addr}{μ:aG}{d:D}{v:V}{ns:List Int} (S:p.S H α μ) (r:p.R H α d v) (h:DY d μ=some ns):∃ a,v=.ref a/\(ia p.K H a (ns.map V.int)\/ip p.K H a (ns.map V.int)):=by
 unfold DY at h
 split at h
 ·obtain ⟨a, us, rfl, h1, rr⟩ := aO.mp r
  rw [gr h] at rr
  exact ⟨a,rfl,.inr (by rw [<- rr.ints];exact h1)⟩
 ·obtain ⟨a, us, rfl, h1, rr⟩ := bM.mp r
  rw [gr h] at rr
  exact ⟨a,rfl,.inl (by rw [<- rr.ints];exact h1.sq)⟩
 ·split at h
  ·rename_i xs hx
   obtain ⟨a,us,rfl,a1,h1,rr⟩:=dN S r hx
   rw [gr h] at rr
   exact ⟨a,rfl,.inl (by rw [<- rr.ints];exact ia.of h1)⟩
  ·cases h
 ·cases h
def uT (ds:List D) (μ:aG):ak D:=match ds with
 | [d]=>match DY d μ with
  | some (n::ns)=>.ok (.int (Ju (n::ns))) μ
  | _=>.bad
 | ds=>B1 ds μ
def qQ (ds:List D) (μ:aG):ak D:=match ds with
 | [d]=>match DY d μ with
  | some (n::ns)=>.ok (.int (Jv (n::ns))) μ
  | _=>.bad
 | ds=>B2 ds μ
theorem Ic {p:Pa}:yt p uT (fun xs H Q=>Gg p.K xs H Q\/∃ i j,xs=[.int i,.int j]/\Q (.int (if j<i then j else i)) H):=by
 intro ds vs H α μ Q S r P
 unfold uT at P
 split at P
 ·rename_i d
  split at P
  ·rename_i n ns hns
   obtain ⟨v,rfl,r1⟩:=r.one
   obtain ⟨a,rfl,h1⟩:=zL S r1 hns
   refine .inl ⟨a,n::ns,rfl,h1,by simp,fun m hm hj=>?_⟩
   rw [Fq hm hj]
   exact P.now S _ (ax.mpr rfl)
  ·exact P.elim
 ·exact .inr (Fg ds vs H α μ Q S r P)
theorem Ie {p:Pa}:yt p qQ (fun xs H Q=>Gh p.K xs H Q\/∃ i j,xs=[.int i,.int j]/\Q (.int (if j > i then j else i)) H):=by
 intro ds vs H α μ Q S r P
 unfold qQ at P
 split at P
 ·rename_i d
  split at P
  ·rename_i n ns hns
   obtain ⟨v,rfl,r1⟩:=r.one
   obtain ⟨a,rfl,h1⟩:=zL S r1 hns
   refine .inl ⟨a,n::ns,rfl,h1,by simp,fun m hm hj=>?_⟩
   rw [Fs hm hj]
   exact P.now S _ (ax.mpr rfl)
  ·exact P.elim
 ·exact .inr (Fh ds vs H α μ Q S r P)
theorem r6:∀ {xs:List V}{us:List Value},xs.length=us.length->(∀ (i:Nat) x u,xs[i]?=some x->us[i]?=some u->cM x u)->bx xs us
 | [],[],_,_=>.nil
 | [],_::_,h,_=>by simp at h
 | _::_,[],h,_=>by simp at h
 | x::xs,u::us,h,k=>.cons (k 0 x u rfl rfl) (r6 (by simpa using h) fun i x' u' h1 h2=>k (i+1) x' u' (by simpa using h1) (by simpa using h2))
section
variable {X:Cx}
def JH (ta:TA):TE:=fun σ H Q=>ta σ H fun vs H1=>∃ j:Int,vs=[.int j]/\∀ r,H1 r=none->Q (.ref r) (dk H1 r (.rng 0 j))
theorem AL {a:Expr}{ta:TA}{p pos:Pos} (hg:Gl X "range") (hm:X.mg "range" = none) (ha:PA X [a] ta) (hs:starEach [a] X.env=[(false,eval a X.env)]):PE X (.Call (.Name "range" p) [a] [] pos) (JH ta):=by
 intro pins s σ H Q I h
 refine Call_ (m9 I hg hm boot_range (MF (eV (ha pos pins s σ H _ I h) fun us s1 ⟨vs,H1,I1,r1,q1⟩=>?_) hs rfl))
 obtain ⟨j,e,q⟩:=q1
 subst e
 cases r1 with
 | cons r rr=>
  cases rr
  obtain ⟨t,rfl⟩:=r
  refine call_range_1 ?_
  refine ⟨.ref s1.heap.objs.size,dk H1 s1.heap.objs.size (.rng 0 j),I1.laid (fun b ob e=>Mz _ e) (MD _) ⟨_,_,_,MC _ rfl⟩,rfl,q _ (I1.hok.fresh (MD _))⟩
def Ho:List V->Hp->VK->Prop:=fun xs H Q=>∃ (r:Addr) (j:Int),xs=[.ref r]/\H r=some (.rng 0 j)/\-(2 ^ 62)<=j/\j<=2 ^ 20/\∀ l,H l=none->Q (.ref l) (dk H l (.lst ((List.range j.toNat).map fun (i:Nat)=>V.int (i:Int))))
theorem zo (hc:X.calm=true):dv X (.type "list") Ho:=by
 intro pins s σ H xs us Q I r h
 obtain ⟨r0,j,rfl,ha,j1,j2,q⟩:=h
 obtain ⟨u,rfl,ru⟩:=iD r
 cases ru
 obtain ⟨t,u,v,hr⟩:=(show gq X.prog X.w H s.heap r0 (.rng 0 j) from I.hok r0 _ ha)
 have hn:Builtin.Range.rangeSize 0 j 1=((j.toNat:Nat):Int):=by rw [rangeSize_one];split <;> omega
 refine call_list_range (n:=j.toNat) (I.ok.hd hc) hr (small_one (by omega) (by omega) (by omega) (by omega)) hn (by omega) fun h' tk acc' c' hk hl hit=>?_
 have hv:bx ((List.range j.toNat).map fun (i:Nat)=>V.int (i:Int)) acc'.toList:=by
  obtain ⟨e1,e2⟩:=hit
  refine r6 (by simp [e1]) fun i x u h1 h2=>?_
  rw [MZ] at h1
  have hi:i<j.toNat:=by
   have:=(Mg.mp h2).1
   simp [e1] at this
   omega
  rw [Pd hi] at h1
  cases h1
  obtain ⟨t,rfl⟩:=e2 i u (by simpa using h2)
  exact ⟨t,by simp⟩
 refine ⟨.ref s.heap.objs.size,dk H s.heap.objs.size (.lst ((List.range j.toNat).map fun (i:Nat)=>V.int (i:Int))),I.laid (fun b ob e=>hk b ob e) (MD _) ⟨?_,acc'.toList,c',hv,by simpa using hl⟩,rfl,q _ (I.hok.fresh (MD _))⟩
 have:(sizeLine:Nat)=16777216:=MK
 simp only [Nd,Oe]
 omega
end
def kD (o1 o2:D->D->aG->ak D) (fa fb fc:ME):ME:=fun ρ μ=>(fa ρ μ).bind fun a μ1=>(fb ρ μ1).bind fun b μ2=>(o1 a b μ2).bind fun z μ3=>(Bp z μ3).bind fun k μ4=>
 if k=true then (fc ρ μ4).bind fun c μ5=>o2 b c μ5 else .ok (.bl false) μ4
section
variable {X:Cx}{p:Pa}{a b c d:Expr}{ta tb tc td:TE}{fa fb fc fd:ME}{pos:Pos}{op op' op'':CmpOp}{r r' r'':R2}{o1 o2 o3:D->D->aG->ak D}
theorem zj (hd1:tV p o1 r) (hd2:tV p o2 r') {σ:St}{H:Hp}{Q:VK} (h:tD p (kD o1 o2 fa fb fc) σ H Q):B7 r r' (tD p fa) (tD p fb) (tD p fc) σ H Q:=by
 obtain ⟨α,ρ,μ,S,R,P⟩:=h
 refine ⟨α,ρ,μ,S,R,(aK.bind P).imp fun x μ1 H1 α1 X1 S1 P1 v rv=>⟨α1,ρ,μ1,S1,R.mono X1,(aK.bind P1).imp fun y μ2 H2 α2 X2 S2 P2 u ru=>?_⟩⟩
 refine hd1 x y v u H2 α2 μ2 _ S2 (rv.mono X2) ru ((aK.bind P2).imp fun z μ3 H3 α3 X3 S3 P3 w rw'=>?_)
 obtain ⟨k,_,e,q⟩:=rC (aK.bind P3) rw' S3
 refine ⟨k,e,?_⟩
 cases k with
 | true=>
  rw [LU rfl] at q ⊢
  exact ⟨α3,ρ,μ3,S3,((R.mono X1).mono X2).mono X3,(aK.bind q).imp fun c μ5 H5 α5 X5 S5 P5 t rt=>hd2 y c u t H5 α5 μ5 Q S5 ((ru.mono X3).mono X5) rt P5⟩
 | false=>rw [LV Mu] at q ⊢;exact q.now S3 _ (bw.mpr rfl)
theorem CY (ho:lg X (compareOp op) r) (ho':lg X (compareOp op') r') (hd1:tV p o1 r) (hd2:tV p o2 r') (ha:PE X a (tD p fa)) (hb:PE X b (tD p fb)) (hc:PE X c (tD p fc))
  (hm:lastMarks [op,op'] [b,c]=false):PE X (.Compare a [op,op'] [b,c] pos) (tD p (kD o1 o2 fa fb fc)):=(Df ho ho' ha hb hc hm).weak fun σ H Q h=>zj hd1 hd2 h
def Al (d:D) (μ:aG):ak Bool:=match d with
 | .non=>.ok false μ
 | .bl b=>.ok b μ
 | .int i=>.ok (i != 0) μ
 | .str x=>if x.length<=sizeLine then .ok ((x.length:Int) != 0) μ else .bad
 | .tup xs=>.ok (!xs.isEmpty) μ
 | .frz xs=>.ok (!xs.isEmpty) μ
 | .obj n=>match μ[n]? with
  | some (.lst xs)=>.ok (!xs.isEmpty) μ
  | _=>.bad
def jz (f:ME):MT:=fun ρ μ=>(f ρ μ).bind Al
theorem Reps.isEmpty {K:W.Frag}{H:Hp}{α:List Addr}{xs:List D}{vs:List V} (r:Reps K H α xs vs):vs.isEmpty=xs.isEmpty:=by
 have:=r.length
 cases xs with
 | nil=>have h:vs=[]:=PH (by simpa using this);rw [h];rfl
 | cons x r=>cases vs with
  | nil=>simp at this
  | cons _ _=>rfl
theorem D9 {d:D}{μ:aG}{H:Hp}{α:List Addr}{v:V}{R:Bool->aG->Hp->List Addr->Prop} (S:p.S H α μ) (r:p.R H α d v) (P:aK p H α (Al d μ) R):∃ k,GH p.K v H k/\R k μ H α:=by
 unfold Al at P
 split at P
 ·rw [cI.mp r];exact ⟨false,rfl,P.now S⟩
 ·rename_i b;rw [bw.mp r];exact ⟨b,rfl,P.now S⟩
 ·rename_i i;rw [ax.mp r];exact ⟨_,rfl,P.now S⟩
 ·rename_i x
  split at P
  ·rename_i hl;rw [de.mp r];exact ⟨_,⟨hl,rfl⟩,P.now S⟩
  ·exact P.elim
 ·obtain ⟨a, vs, rfl, h1, h2⟩ := aO.mp r
  exact ⟨_,.inr (.inl ⟨vs,h1,by rw [h2.isEmpty]⟩),P.now S⟩
 ·obtain ⟨a, vs, rfl, h1, h2⟩ := bM.mp r
  exact ⟨_,.inl ⟨vs,h1.sq,by rw [h2.isEmpty]⟩,P.now S⟩
 ·split at P
  ·rename_i xs hx
   obtain ⟨a,us,rfl,a1,h1,rr⟩:=dN S r hx
   exact ⟨_,.inl ⟨us,ia.of h1,by rw [rr.isEmpty]⟩,P.now S⟩
  ·exact P.elim
theorem Cv {e:Expr}{f:ME} (hK:X.K=p.K) (h:PE X e (tD p f)) (he:∀ whole,isTrue e X.env whole=(do let v <- whole;standAt e.pos;holding [v] (truthy v))):PT X e (i9 p (jz f)):=
 (C6 h he).weak fun σ H Q ⟨α, ρ, μ, S, R, P⟩ => ⟨α, ρ, μ, S, R, (aK.bind P).imp fun d μ1 H1 α1 X1 S1 P1 v rv => by
  rw [hK];exact D9 S1 rv P1⟩
def oV (ds:List D) (μ:aG):ak D:=match ds with
 | [.int j]=>if -(2 ^ 62)<=j/\j<=2 ^ 20 then .ok (.obj μ.length) (μ++[.lst (bJ 0 j.toNat)]) else .bad
 | _=>.bad
theorem C4 {K:W.Frag}{H:Hp}{α:List Addr} (n:Nat):Reps K H α (bJ 0 n) ((List.range n).map fun (i:Nat)=>V.int (i:Int)):=by
 have:bJ 0 n=((List.range n).map fun (i:Nat)=>((i:Nat):Int)).map D.int:=by
  unfold bJ;rw [Oc];apply Od;intro i _;simp
 rw [this]
 have h2:((List.range n).map fun (i:Nat)=>V.int (i:Int))=((List.range n).map fun (i:Nat)=>((i:Nat):Int)).map V.int:=by rw [Oc];rfl
 rw [h2]
 exact jQ _
theorem CW {fr:MA}{pl pr pos p1:Pos} (hc:X.calm=true) (hg:Gl X "range") (hm:X.mg "range" = none) (hgl:Gl X "list") (hml:X.mg "list" = none) (ha:PA X [a] (pK p fr)) (hs:starEach [a] X.env=[(false,eval a X.env)]) :
  PE X (.Call (.Name "list" pl) [.Call (.Name "range" pr) [a] [] p1] [] pos) (tD p (aA oV fr)):=by
 refine (uf (T:="list") (zo hc) hgl hml boot_list (qA (AL hg hm ha hs) yz rfl) (by decide) (by decide) rfl rfl).weak fun σ H Q ⟨α,ρ,μ,S,R,P⟩=>⟨α,ρ,μ,S,R,(aK.bind P).imp fun ds μ1 H1 α1 X1 S1 P1 vs rv=>?_⟩
 unfold oV at P1
 split at P1
 ·rename_i j
  obtain ⟨v,rfl,r1⟩:=rv.one
  split at P1
  ·rename_i hj
   refine ⟨j,by rw [ax.mp r1],fun r0 hr=>?_⟩
   refine ⟨r0,j,rfl,dy,hj.1,hj.2,fun l hl=>?_⟩
   have S2:p.S (dk H1 r0 (.rng 0 j)) α1 μ1:=S1.same (cF hr) fun a ha=>cu fun z=>ha (by rw [z];exact hr)
   obtain ⟨x1,x2,x3⟩:=dz S2 hl (C4 j.toNat)
   exact P1 _ _ ((cF hr).trans x1) x2 _ x3
  ·exact P1.elim
 ·exact P1.elim
def KG (p:Pa) (f:D->List D->aG->ak D) (r:V->List V->Hp->VK->Prop):Prop:=∀ d ds v vs H α μ Q,p.S H α μ->p.R H α d v->p.Rs H α ds vs->aK p H α (f d ds μ) (RV p Q)->r v vs H Q
def Bo (d:D) (μ:aG):Bool:=match d with
 | .obj n=>match μ[n]? with
  | some (.lst _)=>true
  | _=>false
 | _=>false
def F8 (f:D->List D->aG->ak D) (fo:ME) (fr:MA):ME:=fun ρ μ=>(fo ρ μ).bind fun o μ1=>if Bo o μ1=true then (fr ρ μ1).bind fun ds μ2=>f o ds μ2 else .bad
theorem IH {d:D}{μ:aG}{H:Hp}{α:List Addr}{v:V} (S:p.S H α μ) (r:p.R H α d v) (h:Bo d μ=true):KE p.K "list" v H:=by
 unfold Bo at h
 split at h
 ·split at h
  ·rename_i xs hx
   obtain ⟨a,us,rfl,a1,h1,rr⟩:=dN S r hx
   exact .inl ⟨rfl,us,ia.of h1⟩
  ·cases h
 ·cases h
theorem Gc {o e:Expr}{es:List Expr}{fo:ME}{fr:MA}{name:Str}{apos cpos:Pos}{id:String}{rr:V->List V->Hp->VK->Prop}{f:D->List D->aG->ak D} (hK:X.K=p.K) (slot:Slot "list" name id) (hty:typeOf (.builtin id)=pure (.type "method_descriptor")) (hm:Ly X id rr) (hf:KG p f rr)
  (ho:PE X o (tD p fo)) (ha:PA X (e::es) (pK p fr)) (hbase:attributeBase o name X.env (eval o X.env)=eval o X.env)
  (hfew : ((backTo cpos (starEach (e :: es) X.env)).all (fun x => !x.1) && (backToKw cpos (keywordEach [] X.env)).all (fun x => x.1.isSome)
   && decide ((e::es).length+([]:List Keyword).length+(if ([]:List Keyword).isEmpty then 0 else 1)<30))=true)
  (hline:(apos.endLine == cpos.line)=true) (hs:starEach (e::es) X.env=(false,eval e X.env)::starEach es X.env) (hplain:(backTo cpos (starEach es X.env)).any (·.1)=false) :
  PE X (.Call (.Attribute o name apos) (e::es) [] cpos) (tD p (F8 f fo fr)):=
 (J7 PySem.F.plainAttrs_list slot hty hm ho ha hbase hfew hline hs hplain).weak fun σ H Q ⟨α, ρ, μ, S, R, P⟩ => ⟨α, ρ, μ, S, R, (aK.bind P).imp fun d μ1 H1 α1 X1 S1 P1 v rv => by
  by_cases hl:Bo d μ1=true
  ·rw [LU hl] at P1
   rw [hK]
   exact ⟨IH S1 rv hl,α1,ρ,μ1,S1,R.mono X1,(aK.bind P1).imp fun ds μ2 H2 α2 X2 S2 P2 vs rs=>hf d ds v vs H2 α2 μ2 Q S2 (rv.mono X2) rs P2⟩
  ·rw [LV hl] at P1;exact P1.elim⟩
def rq (d:D) (ds:List D) (μ:aG):ak D:=match d,ds with
 | .obj n,[.int i]=>match μ[n]? with
  | some (.lst xs)=>match yo xs.length i with
   | some k=>match xs[k]? with
    | some y=>if -(2 ^ 63)<=i/\i<2 ^ 63 then .ok y (μ.set n (.lst (xs.eraseIdx k))) else .bad
    | none=>.bad
   | none=>.bad
  | _=>.bad
 | _,_=>.bad
theorem Fo:KG p rq Cf:=by
 intro d ds v vs H α μ Q S rd rs P
 unfold rq at P
 split at P
 ·rename_i n i
  split at P
  ·rename_i xs hx
   split at P
   ·rename_i k hk
    split at P
    ·rename_i y hy
     split at P
     ·rename_i hb
      obtain ⟨a,us,rfl,a1,h1,rr⟩:=dN S rd hx
      obtain ⟨w,rfl,rw'⟩:=rs.one
      obtain ⟨z,hz,rz⟩:=rr.get hy
      have hk':=(vg hk).1
      have q:=rr.eraseIdx k
      refine ⟨a,us,i,k,z,rfl,by rw [ax.mp rw'],h1,hb.1,hb.2,by rw [rr.length];exact hk',hz,?_⟩
      exact P _ _ (iV h1) (S.put hx a1 h1 q) _ (rz.mono (iV h1))
     ·exact P.elim
    ·exact P.elim
   ·exact P.elim
  ·exact P.elim
 ·exact P.elim
def fj (d:D) (ds:List D) (μ:aG):ak D:=match d,ds with
 | .obj n,[y]=>match μ[n]? with
  | some (.lst xs)=>if xs.length<sizeLine then .ok .non (μ.set n (.lst (xs++[y]))) else .bad
  | _=>.bad
 | _,_=>.bad
theorem Fp:KG p fj zO:=by
 intro d ds v vs H α μ Q S rd rs P
 unfold fj at P
 split at P
 ·rename_i n y
  split at P
  ·rename_i xs hx
   split at P
   ·rename_i hb
    obtain ⟨a,us,rfl,a1,h1,rr⟩:=dN S rd hx
    obtain ⟨w,rfl,rw'⟩:=rs.one
    have q:=rr.snoc rw'
    exact ⟨a,us,w,rfl,rfl,h1,by rw [rr.length];exact hb,P _ _ (iV h1) (S.put hx a1 h1 q) _ (cI.mpr rfl)⟩
   ·exact P.elim
  ·exact P.elim
 ·exact P.elim
end
abbrev di (K:W.Frag) (w:World):Pa:=⟨K,w,fun _ _=>False⟩
abbrev gC:D->D->aG->ak D:=dI fun i j=>.int (i - j)
noncomputable abbrev wB:D->D->aG->ak D:=Gx D6 fun i j=>.int (i / j)
noncomputable abbrev tj:D->D->aG->ak D:=Gx (fun _ j=>0<j) fun i j=>.int (i % j)
noncomputable abbrev GD:D->D->aG->ak D:=Gx GK fun i j=>.int (i ^ j.toNat)
def yD (N:List Str) (sc scope:Scope) (Nc:List Str) (cap:List (Option Nat)):Bool:=
 (scope.kind == .function) && scope.names.all (fun y=>scope.names.lookup y.1 == some y.2) &&
 scope.names.all (fun y=>y.2 != .free || sc.names.lookup y.1 == some .cell || sc.names.lookup y.1 == some .free) && ik N { scope:=sc,globals:=0,builtins:=0,locals:=0,cells:=[],qual:="",func:=none,code:=.none,frame:=none } scope Nc cap
theorem pD {N:List Str}{e1 e2:Env}{scope:Scope}:∀ {Nc:List Str}{cap:List (Option Nat)},ik N e1 scope Nc cap=ik N e2 scope Nc cap
 | [],[]=>rfl
 | _::_,[]=>rfl
 | [],_::_=>rfl
 | _::Nc,none::cap=>by unfold ik;exact pD
 | x::Nc,some j::cap=>by unfold ik;rw [pD (Nc:=Nc) (cap:=cap) (e1:=e1) (e2:=e2)]
theorem A9 {X:Cx}{N:List Str}{sc scope:Scope}{Nc:List Str}{cap:List (Option Nat)} (hN:X.N=N) (hk:∀ x,(sc.names.lookup x=some .cell\/sc.names.lookup x=some .free)->X.env.kindOf x=some .cell\/X.env.kindOf x=some .free) (h:yD N sc scope Nc cap=true):cA X.N X.env scope Nc cap:=by
 unfold yD at h
 simp only [Nw] at h
 obtain ⟨⟨⟨h1,h3⟩,h4⟩,h5⟩:=h
 refine ⟨eq_of_beq h1,fun y hy=>?_,fun y hy hf=>?_,?_⟩
 ·exact eq_of_beq (OK.mp h3 y hy)
 ·have := OK.mp h4 y hy
  simp only [PU,hf] at this
  refine hk _ ?_
  rcases this with (z | z) | z
  ·exact absurd z (by decide)
  ·exact .inl (eq_of_beq z)
  ·exact .inr (eq_of_beq z)
 ·rw [hN,pD];exact h5
theorem bK {X:Cx}{N:List Str}{sc scope:Scope}{Nc:List Str}{cap:List (Option Nat)} (hN:X.N=N) (hs:X.env.scope=sc) (h:yD N sc scope Nc cap=true):cA X.N X.env scope Nc cap:=
 A9 hN (fun x hx=>by subst hs;exact hx) h
structure Bx (P:Prop):Prop where
 h:P
section
variable {X:Cx}{p:Pa}{a b c d e:Expr}{es:List Expr}{fa fb fc fd f:ME}{fr:MA}{pos:Pos}{ft gt:MT}
theorem aB (i:Nat) {x:Str} (hN:X.N[i]?=some x:=by rfl) (hv:Kv X.env.scope x:=by first | exact Or.inl rfl | exact Or.inr (Or.inl rfl) | exact Or.inr (Or.inr rfl)) (hd:(x == ("__debug__" : Str))=false:=by decide) (hcd:(x == ("__classdict__" : Str))=false:=by decide):Bx (PE X (.Name x pos) (tD p (ag i))):=⟨He (HD hN hv hd hcd)⟩
theorem bb {i j}:Bx (PE X (.Constant (.int i) j pos) (tD p (cC (.int i)))):=⟨BA HK fun _ _=>ax.mpr rfl⟩
theorem Br {i j}:Bx (PE X (.Constant (.bool i) j pos) (tD p (cC (.bl i)))):=⟨BA J8 fun _ _=>bw.mpr rfl⟩
theorem yn {j}:Bx (PE X (.Constant .none j pos) (tD p (cC .non))):=⟨BA HI fun _ _=>cI.mpr rfl⟩
theorem pI {x j}:Bx (PE X (.Constant (.str x) j pos) (tD p (cC (.str x)))):=⟨BA HF fun _ _=>de.mpr rfl⟩
theorem GA {x:Str}{i:Int} (h:∃ t,X.mg x=some (.int i t)) (hg:Gl X x:=by rfl) (hd:(x == ("__debug__" : Str))=false:=by decide):Bx (PE X (.Name x pos) (tD p (cC (.int i)))):=Bx.mk (by
 obtain ⟨t,ht⟩:=h
 exact BA (EZ (v:=.int i) hg ht ⟨t,rfl⟩ hd) fun _ _=>ax.mpr rfl)
theorem bR (ha:Bx (PE X a (tD p fa))) (hb:Bx (PE X b (tD p fb))) (hK:X.K=p.K:=by rfl):Bx (PE X (.BinOp a .Add b pos) (tD p (au bq fa fb))):=⟨oQ (r:=BU p.K) (hK ▸ Ff) Im ha.h hb.h⟩
theorem jE (ha:Bx (PE X a (tD p fa))) (hb:Bx (PE X b (tD p fb))):Bx (PE X (.BinOp a .Sub b pos) (tD p (au gC fa fb))):=⟨oQ HN (K4 fun _ _ _ _=>ax.mpr rfl) ha.h hb.h⟩
theorem wq (ha:Bx (PE X a (tD p fa))) (hb:Bx (PE X b (tD p fb))):Bx (PE X (.BinOp a .Mult b pos) (tD p (au mE fa fb))):=⟨oQ E8 Ij ha.h hb.h⟩
theorem B5 (ha:Bx (PE X a (tD p fa))) (hb:Bx (PE X b (tD p fb))):Bx (PE X (.BinOp a .FloorDiv b pos) (tD p (au wB fa fb))):=⟨oQ E9 (BV fun _ _ _ _=>ax.mpr rfl) ha.h hb.h⟩
theorem tW (ha:Bx (PE X a (tD p fa))) (hb:Bx (PE X b (tD p fb))):Bx (PE X (.BinOp a .Mod b pos) (tD p (au tj fa fb))):=⟨oQ HU (BV fun _ _ _ _=>ax.mpr rfl) ha.h hb.h⟩
theorem JD (ha:Bx (PE X a (tD p fa))) (hb:Bx (PE X b (tD p fb))):Bx (PE X (.BinOp a .Pow b pos) (tD p (au GD fa fb))):=⟨oQ HQ (BV fun _ _ _ _=>ax.mpr rfl) ha.h hb.h⟩
theorem wo (ha:Bx (PE X a (tD p fa))):Bx (PE X (.UnaryOp .USub a pos) (tD p (sW tf fa))):=⟨JU GP Io ha.h⟩
structure qT (X:Cx) (p:Pa) (op:CmpOp) (o:D->D->aG->ak D):Prop where
 ex:∃ r,lg X (compareOp op) r/\tV p o r
theorem jx (hu:X.A.units+64<cLine) (hK:X.K=p.K:=by rfl):qT X p .Eq (fv false):=⟨BD p.K false,hK ▸ HX hu,Gp⟩
theorem v8 (hu:X.A.units+64<cLine) (hK:X.K=p.K:=by rfl):qT X p .NotEq (fv true):=⟨BD p.K true,hK ▸ HR hu,Gp⟩
theorem v9 (hu:X.A.units+64<cLine) (hK:X.K=p.K:=by rfl):qT X p .In (qh false):=⟨BC p.K false,hK ▸ HW hu,Gn⟩
theorem BZ (hu:X.A.units+64<cLine) (hK:X.K=p.K:=by rfl):qT X p .NotIn (qh true):=⟨BC p.K true,hK ▸ AO hu,Gn⟩
theorem wu:qT X p .Is (m7 false):=⟨_,HV,Ik⟩
theorem yA:qT X p .IsNot (m7 true):=⟨_,E7,Fk⟩
theorem iE {op:CmpOp} (hu:X.A.units+64<cLine) (ho:wx op=true:=by rfl) (hK:X.K=p.K:=by rfl):qT X p op (ig op):=⟨BS p.K op,hK ▸ Fb hu ho,Il⟩
variable {op op' op'':CmpOp}{o o' o'':D->D->aG->ak D}
theorem iC (k:qT X p op o) (ha:Bx (PE X a (tD p fa))) (hb:Bx (PE X b (tD p fb))) (hm:behindInMarks op b=false:=by rfl):Bx (PE X (.Compare a [op] [b] pos) (tD p (au o fa fb))):=Bx.mk (let ⟨_,h1,h2⟩:=k.ex;Hj h1 h2 ha.h hb.h hm)
theorem bS (k:qT X p op o) (ha:Bx (PE X a (tD p fa))) (hb:Bx (PE X b (tD p fb))) (hm:behindInMarks op b=false:=by rfl):Bx (PT X (.Compare a [op] [b] pos) (i9 p (gA (au o fa fb)))):=Bx.mk (let ⟨_,h1,h2⟩:=k.ex;GX h1 h2 ha.h hb.h hm)
theorem BJ (k:qT X p op o) (k':qT X p op' o') (ha:Bx (PE X a (tD p fa))) (hb:Bx (PE X b (tD p fb))) (hc:Bx (PE X c (tD p fc))) (hm:lastMarks [op,op'] [b,c]=false:=by rfl):Bx (PE X (.Compare a [op,op'] [b,c] pos) (tD p (kD o o' fa fb fc))):=Bx.mk (let ⟨_,h1,h2⟩:=k.ex;let ⟨_,h3,h4⟩:=k'.ex;CY h1 h3 h2 h4 ha.h hb.h hc.h hm)
theorem Ah (h:Bx (PE X e (tD p f))) (he:∀ whole,isTrue e X.env whole=(do let v <- whole;standAt e.pos;holding [v] (truthy v)):=by intro _;rfl) (hK:X.K=p.K:=by rfl):Bx (PT X e (i9 p (jz f))):=⟨Cv hK h.h he⟩
theorem pM {rest:List Expr} (ha:Bx (PT X a (i9 p ft))) (hb:Bx (PW X (.BoolOp .And (b::rest) pos) (i9 p gt))):Bx (PW X (.BoolOp .And (a::b::rest) pos) (i9 p (jG ft gt))):=⟨GV ha.h hb.h⟩
theorem v5 {rest:List Expr} (ha:Bx (PT X a (i9 p ft))) (hb:Bx (PW X (.BoolOp .Or (b::rest) pos) (i9 p gt))):Bx (PW X (.BoolOp .Or (a::b::rest) pos) (i9 p (oO ft gt))):=⟨JP ha.h hb.h⟩
theorem lF (ha:Bx (PT X a (i9 p ft))):Bx (PW X (.BoolOp .And [a] pos) (i9 p ft)):=⟨EK ha.h⟩
theorem tX (ha:Bx (PT X a (i9 p ft))):Bx (PW X (.BoolOp .Or [a] pos) (i9 p ft)):=⟨Hq ha.h⟩
theorem ka {op} (ha:Bx (PE X a (tD p fa))):Bx (PE X (.BoolOp op [a] pos) (tD p fa)):=⟨HG ha.h⟩
def Cg:Expr->Bool
 | .Starred _ _=>false
 | _=>true
theorem Ax {a:Expr}{es:List Expr}{env:Env} (h:Cg a=true):starEach (a::es) env=(false,eval a env)::starEach es env:=by
 cases a <;> first | rfl | cases h
theorem aE (ha:Bx (PE X a (tD p fa))) (hr:Bx (PA X es (pK p fr))) (hs:Cg a=true:=by rfl):Bx (PA X (a::es) (pK p (af fa fr))):=⟨EE ha.h hr.h (Ax hs)⟩
theorem aS  : Bx (PA X [] (pK p av)):=⟨Hl⟩
theorem aN {k n:Nat}{x:Str}{F:List D->aG->ak D}{px:Pos} (h:dj X.prog X.w X.K X.mg X.base p k x n F) (hr:jB k X.A) (ha:Bx (PA X (a::es) (pK p fr))) (hg:Gl X x:=by rfl) (hdb:(x == ("__debug__" : Str))=false:=by decide) (he:starEach (a::es) X.env=(false,eval a X.env)::starEach es X.env:=by rfl) (hpl:(backTo pos (starEach es X.env)).any (·.1)=false:=by rfl):Bx (PE X (.Call (.Name x px) (a::es) [] pos) (tD p (aA F fr))):=⟨EB h hr hg ha.h hdb he hpl⟩
structure tq (X:Cx) (p:Pa) (x:Str) (F:List D->aG->ak D):Prop where
 ex:∃ (u:Value) (r:List V->Hp->VK->Prop),((∃ id,u=.builtin id)\/∃ T,u=.type T)/\bootBuiltins x=some u/\dv X u r/\yt p F r/\x ≠ "__name__" /\ (x == ("__debug__" : Str))=false
theorem bz {x:Str}{F:List D->aG->ak D}{px:Pos} (k:tq X p x F) (hm:X.mg x=none) (ha:Bx (PA X (a::es) (pK p fr))) (hg:Gl X x:=by rfl) (he:starEach (a::es) X.env=(false,eval a X.env)::starEach es X.env:=by rfl) (hpl:(backTo pos (starEach es X.env)).any (·.1)=false:=by rfl):Bx (PE X (.Call (.Name x px) (a::es) [] pos) (tD p (aA F fr))):=Bx.mk (by
 obtain ⟨u,r,hu,h1,h2,h3,h4,h5⟩:=k.ex
 rcases hu with ⟨id,rfl⟩ | ⟨T,rfl⟩
 ·exact CZ h2 h3 hg hm h1 ha.h h4 h5 he hpl
 ·exact AF h2 h3 hg hm h1 ha.h h4 h5 he hpl)
theorem il (hK:X.K=p.K:=by rfl) (hw:X.w=p.w:=by rfl):tq X p "len" fB:=⟨_,_,.inl ⟨_,rfl⟩,PySem.boot_len,(DH.or Bg).or Bh,by rw [hK,hw];exact Ig,by decide,by decide⟩
theorem zz (hc:X.calm=true:=by rfl) (hK:X.K=p.K:=by rfl):tq X p "all" tm:=⟨_,_,.inl ⟨_,rfl⟩,by decide +kernel,Bj hc,hK ▸ Ii,by decide,by decide⟩
theorem jL (hK:X.K=p.K:=by rfl):tq X p "tuple" ir:=⟨_,_,.inr ⟨_,rfl⟩,by decide +kernel,tR,hK ▸ Dk,by decide,by decide⟩
theorem yE (hK:X.K=p.K:=by rfl):tq X p "list" nN:=⟨_,_,.inr ⟨_,rfl⟩,by decide +kernel,vW,hK ▸ Fi,by decide,by decide⟩
theorem Gs:tq X p "int" pR:=⟨_,_,.inr ⟨_,rfl⟩,by decide +kernel,Bi,Ih,by decide,by decide⟩
theorem zy (hc:X.calm=true:=by rfl) (hK:X.K=p.K:=by rfl):tq X p "min" uT:=⟨_,_,.inl ⟨_,rfl⟩,by decide +kernel,(Bd hc).or (Bc hc),hK ▸ Ic,by decide,by decide⟩
theorem wF (hc:X.calm=true:=by rfl) (hK:X.K=p.K:=by rfl):tq X p "max" qQ:=⟨_,_,.inl ⟨_,rfl⟩,by decide +kernel,(Bf hc).or (Be hc),hK ▸ Ie,by decide,by decide⟩
theorem wD (hu:X.A.units+64<cLine) (hc:X.calm=true:=by rfl) (hK:X.K=p.K:=by rfl) (hw:X.w=p.w:=by rfl):tq X p "set" ky:=⟨_,_,.inr ⟨_,rfl⟩,by decide +kernel,(Ba hc hu).or (Bb hc hu),by rw [hK,hw];exact Ib,by decide,by decide⟩
theorem oj (hc:X.calm=true:=by rfl) (hK:X.K=p.K:=by rfl) (hw:X.w=p.w:=by rfl):tq X p "sorted" dR:=⟨_,_,.inl ⟨_,rfl⟩,by decide +kernel,(zm.or (zl hc)).or (zk hc),by rw [hK,hw];exact AQ,by decide,by decide⟩
theorem mP {T:String}{xT:Str}{px pt:Pos} (hT:T∈["int", "bool", "tuple", "list", "str", "dict"]) (hbT:bootBuiltins xT=some (.type T)) (hnT:xT ≠ "__name__") (hdT:(xT == ("__debug__" : Str))=false) (hm:X.mg "isinstance" = none) (hmT:X.mg xT=none) (ha:Bx (PE X a (tD p fa))) (hg:Gl X "isinstance" := by rfl) (hgT:Gl X xT:=by rfl) (hs1:starEach [a,.Name xT pt] X.env=(false,eval a X.env)::starEach [.Name xT pt] X.env:=by rfl) (hK:X.K=p.K:=by rfl):Bx (PE X (.Call (.Name "isinstance" px) [a,.Name xT pt] [] pos) (tD p (sW (jy T) fa))):=⟨Hi hK hT hg hm hgT hmT hbT ha.h hnT hdT hs1⟩
theorem Cp:bootBuiltins "int" = some (.type "int"):=by decide +kernel
theorem vw:bootBuiltins "bool" = some (.type "bool"):=by decide +kernel
theorem oi:bootBuiltins "tuple" = some (.type "tuple"):=by decide +kernel
theorem I0:bootBuiltins "str" = some (.type "str"):=by decide +kernel
theorem GO {pl pr p1:Pos} (hm:X.mg "range" = none) (hml:X.mg "list" = none) (ha:Bx (PA X [a] (pK p fr))) (hc:X.calm=true:=by rfl) (hg:Gl X "range" := by rfl) (hgl:Gl X "list" := by rfl) (hs:starEach [a] X.env=[(false,eval a X.env)]:=by rfl):Bx (PE X (.Call (.Name "list" pl) [.Call (.Name "range" pr) [a] [] p1] [] pos) (tD p (aA oV fr))):=⟨CW hc hg hm hgl hml ha.h hs⟩
theorem a8 (ha:Bx (PE X a (tD p fa))) (hb:Bx (PE X b (tD p fb))) (hs:vC b:=by exact fun _ _=>rfl) (hK:X.K=p.K:=by rfl):Bx (PE X (.Subscript a b pos) (tD p (au bQ fa fb))):=⟨JW hK ha.h hb.h hs⟩
theorem jR {lo hi:Option Expr}{fl fh:MO}{p2:Pos} (he:Bx (PE X e (tD p fa))) (hl:Bx (PO X lo (F6 p fl))) (hu:Bx (PO X hi (F6 p fh))) (hK:X.K=p.K:=by rfl):Bx (PE X (.Subscript e (.Slice lo hi none p2) pos) (tD p (qx fa fl fh))):=⟨CV hK he.h hl.h hu.h⟩
theorem JE {fo:ME}{ob:Expr}{apos:Pos} (ho:Bx (PE X ob (tD p fo))) (ha:Bx (PA X [e] (pK p fr))) (hbase:attributeBase ob "pop" X.env (eval ob X.env)=eval ob X.env:=by rfl) (hfew:((backTo pos (starEach [e] X.env)).all (fun x=>!x.1) && (backToKw pos (keywordEach [] X.env)).all (fun x=>x.1.isSome)
   && decide ([e].length+([]:List Keyword).length+(if ([]:List Keyword).isEmpty then 0 else 1)<30))=true:=by rfl) (hline:(apos.endLine == pos.line)=true:=by rfl) (hs:starEach [e] X.env=(false,eval e X.env)::starEach [] X.env:=by rfl) (hpl:(backTo pos (starEach [] X.env)).any (·.1)=false:=by rfl) (hK:X.K=p.K:=by rfl):Bx (PE X (.Call (.Attribute ob "pop" apos) [e] [] pos) (tD p (F8 rq fo fr))):=⟨Gc hK PySem.F.slot_list_pop PySem.F.type_list_pop Dp Fo ho.h ha.h hbase hfew hline hs hpl⟩
theorem BK {fo:ME}{ob:Expr}{apos:Pos} (ho:Bx (PE X ob (tD p fo))) (ha:Bx (PA X [e] (pK p fr))) (hbase:attributeBase ob "append" X.env (eval ob X.env)=eval ob X.env:=by rfl) (hfew:((backTo pos (starEach [e] X.env)).all (fun x=>!x.1) && (backToKw pos (keywordEach [] X.env)).all (fun x=>x.1.isSome)
   && decide ([e].length+([]:List Keyword).length+(if ([]:List Keyword).isEmpty then 0 else 1)<30))=true:=by rfl) (hline:(apos.endLine == pos.line)=true:=by rfl) (hs:starEach [e] X.env=(false,eval e X.env)::starEach [] X.env:=by rfl) (hpl:(backTo pos (starEach [] X.env)).any (·.1)=false:=by rfl) (hK:X.K=p.K:=by rfl):Bx (PE X (.Call (.Attribute ob "append" apos) [e] [] pos) (tD p (F8 fj fo fr))):=⟨Gc hK PySem.F.slot_list_append PySem.F.type_list_append uj Fp ho.h ha.h hbase hfew hline hs hpl⟩
variable {tg iter elt:Expr}{fi:MI}{g:MG}{u:DU}
theorem qf (hl:Bx (PE X e (tD p f))) (hK:X.K=p.K:=by rfl):Bx (PI X tg e (sX p (fw f))):=⟨G9 hK hl.h⟩
theorem lu {px:Pos} (hm:X.mg "range" = none) (ha:Bx (PA X [a] (pK p fr))) (hg:Gl X "range" := by rfl) (hs:starEach [a] X.env=[(false,eval a X.env)]:=by rfl):Bx (PI X tg (.Call (.Name "range" px) [a] [] pos) (sX p (eD eX fr))):=⟨AE hg hm ha.h hs⟩
theorem BF {px:Pos} (hm:X.mg "range" = none) (ha:Bx (PA X [a,b] (pK p fr))) (hg:Gl X "range" := by rfl) (hs:starEach [a,b] X.env=[(false,eval a X.env),(false,eval b X.env)]:=by rfl) (hs2:starEach [b] X.env=[(false,eval b X.env)]:=by rfl):Bx (PI X tg (.Call (.Name "range" px) [a,b] [] pos) (sX p (eD nC fr))):=⟨AD hg hm ha.h hs hs2⟩
theorem JA {px tpos:Pos}{elts:List Expr}{k1:Nat} (hm:X.mg "enumerate" = none) (ha:Bx (PA X [a] (pK p fr))) (hg:Gl X "enumerate" := by rfl) (hs:starEach [a] X.env=[(false,eval a X.env)]:=by rfl) (hK:X.K=p.K:=by rfl):Bx (PI X (.Tuple elts k1 tpos) (.Call (.Name "enumerate" px) [a] [] pos) (sX p (eD pQ fr))):=⟨Eu hK hg hm ha.h hs⟩
theorem h9 (i:Nat) {x:Str} (hN:X.N.Nodup) (hi:X.N[i]?=some x:=by rfl) (hx:Bv X.env.scope x:=by first | exact Or.inl rfl | exact Or.inr rfl) (hf:X.fn x=true\/X.env.scope.names.lookup x=some .local:=by first | exact .inl rfl | exact .inr rfl):Bx (PG X (.Name x pos) (pJ p (ai i))):=⟨Ex hN hi hx hf⟩
theorem pP  : Bx (yq X [] (v7 p fD)):=⟨Ew⟩
theorem fA (h1:Bx (PG X e (pJ p g))) (h2:Bx (yq X es (v7 p u))) (hs:(assignEach (e::es) X.env).map (·.2)=assign e X.env::(assignEach es X.env).map (·.2):=by rfl):Bx (yq X (e::es) (v7 p (bB g u))):=⟨CP h1.h h2.h hs⟩
theorem pO {k n:Nat} (h:Bx (yq X es (v7 p u))) (hc:X.calm=true:=by rfl) (hn:(assignEach es X.env).length=n:=by rfl) (hst:(assignEach es X.env).findIdx? (·.1)=none:=by rfl) (hK:X.K=p.K:=by rfl):Bx (PG X (.Tuple es k pos) (pJ p (fC n u))):=⟨Hb hK hc h.h hn hst⟩
theorem tZ {fo fi:ME} (ho:Bx (PE X a (tD p fo))) (hi:Bx (PE X b (tD p fi))) (ha:∀ v,assign (.Subscript a b pos) X.env v=(do
   let ov <- holding [v] (eval a X.env)
   let iv <- holding [v,ov] (eval b X.env)
   standAt pos
   holding [v,ov,iv] (setItem ov iv v)
   release [v,ov,iv] []):=by intro _;rfl):Bx (PG X (.Subscript a b pos) (pJ p (mR fo fi))):=⟨Hc ho.h hi.h ha⟩
variable {ifs:List Expr}{scope:Scope}{Nc:List Str}{cap:List (Option Nat)}{tt:MT}{te:ME}
theorem eA (S:cA X.N X.env scope Nc cap) (hi:Bx (PI X tg iter (sX p fi))) (hg:∀ cl C s H fp,Bx (PG (j8 X Nc scope cl C s H fp) tg (pJ p.nx g))) (ht:∀ cl C s H fp,Bx (sZ (j8 X Nc scope cl C s H fp) ifs (i9 p.nx tt))) (he:∀ cl C s H fp,Bx (PE (j8 X Nc scope cl C s H fp) elt (tD p.nx te))) (hc:X.calm=true:=by rfl) (hs:∀ x,foldedSetIterable iter X.env x=pure x:=by intro _;rfl):Bx (PE X (.ListComp elt [⟨tg,iter,ifs,0⟩] scope pos) (tD p (bV fi cap g tt te))):=⟨EA hc S hi.h (fun cl C s H fp=>(hg cl C s H fp).h) (fun cl C s H fp=>(ht cl C s H fp).h) (fun cl C s H fp=>(he cl C s H fp).h) hs⟩
def vA (gs:List Comprehension):Bool:=gs.all fun g=>g.is_async == 0
theorem zF {gs:List Comprehension} (h:vA gs=true):∀ g∈gs,g.is_async=0:=fun g hg=>eq_of_beq (OK.mp h g hg)
variable {mb:MB}{cl0:Comprehension}{rest:List Comprehension}{d:Nat}{acc:Addr}
theorem Lk {gens:List Comprehension} (hg:gens[d]?=none) (hel:Bx (PE X elt (tD p.nx te))) (hxe:X.xe=v3:=by rfl):Bx (yr X (.ListComp elt gens scope pos) d acc (Ai p.nx (qX te) acc)):=⟨ED hg hxe hel.h⟩
theorem Lj {gens:List Comprehension} (hg:gens[d]?=some ⟨tg,iter,ifs,0⟩) (hi:Bx (PI X tg iter (sX p.nx fi))) (hgc:Bx (PG X tg (pJ p.nx g))) (htc:Bx (sZ X ifs (i9 p.nx tt))) (hb:Bx (yr X (.ListComp elt gens scope pos) (d+1) acc (Ai p.nx mb acc)))
  (hz:vA gens=true:=by rfl) (hxe:X.xe=v3:=by rfl) (hc:X.calm=true:=by rfl) (hs:∀ x,foldedSetIterable iter X.env x=pure x:=by intro _;rfl):Bx (yr X (.ListComp elt gens scope pos) d acc (Ai p.nx (rm fi g tt mb) acc)):=
 ⟨C0 (e:=.ListComp elt gens scope pos) (cl:=⟨tg,iter,ifs,0⟩) rfl (zF hz) hg hxe hc hi.h hgc.h htc.h hb.h hs⟩
theorem EG (i:Nat) {x:Str}{pos1 pos2:Pos} (hN:X.N.Nodup) (S:cA X.N X.env scope Nc cap) (hi:Bx (PI X tg iter (sX p fi))) (hg:∀ cl C s H fp,Bx (PG (j8 X Nc scope cl C s H fp) tg (pJ p.nx g))) (ht:∀ cl C s H fp,Bx (sZ (j8 X Nc scope cl C s H fp) ifs (i9 p.nx tt))) (hb:∀ cl C s H fp acc,Bx (yr (j8 X Nc scope cl C s H fp) (.ListComp elt (⟨tg,iter,ifs,0⟩::rest) scope pos) 1 acc (Ai p.nx mb acc))) (hz:vA (⟨tg,iter,ifs,0⟩::rest)=true:=by rfl) (hix:X.N[i]?=some x:=by rfl) (hx:X.env.scope.names.lookup x=some .local:=by rfl) (hc:X.calm=true:=by rfl) (hsw:swapsWith (.ListComp elt (⟨tg,iter,ifs,0⟩::rest) scope pos) (some (.Name x pos1)) pos2.line X.env=pure true:=by rfl) (hs:∀ x,foldedSetIterable iter X.env x=pure x:=by intro _;rfl):Bx (PS X (.Assign [.Name x pos1] (.ListComp elt (⟨tg,iter,ifs,0⟩::rest) scope pos) pos2) (ja p (bp (oW fi cap g tt mb) (ai i)))):=
 ⟨CA (cl0:=⟨tg,iter,ifs,0⟩) hc (zF hz) hN hix hx S hi.h (fun cl C s H fp=>(hg cl C s H fp).h) (fun cl C s H fp=>(ht cl C s H fp).h) (fun cl C s H fp acc=>(hb cl C s H fp acc).h) hsw hs⟩
variable {fs gs:MS}{st:Stmt}{sts A B body:List Stmt}
theorem bF (i:Nat) {x:Str}{pos':Pos} (hN:X.N.Nodup) (he:Bx (PE X e (tD p f))) (hi:X.N[i]?=some x:=by rfl) (hx:Bv X.env.scope x:=by first | exact Or.inl rfl | exact Or.inr rfl) (hs:swapsWith e (some (.Name x pos')) pos.line X.env=pure false:=by rfl) (hf:X.fn x=true\/X.env.scope.names.lookup x=some .local:=by first | exact .inl rfl | exact .inr rfl):Bx (PS X (.Assign [.Name x pos'] e pos) (ja p (bp f (ai i)))):=⟨GY hN hi hx he.h hs hf⟩
theorem jU (i:Nat) {x:Str}{pos1 pos2:Pos} (hN:X.N.Nodup) (S:cA X.N X.env scope Nc cap) (hi:Bx (PI X tg iter (sX p fi))) (hg:∀ cl C s H fp,Bx (PG (j8 X Nc scope cl C s H fp) tg (pJ p.nx g))) (ht:∀ cl C s H fp,Bx (sZ (j8 X Nc scope cl C s H fp) ifs (i9 p.nx tt))) (he:∀ cl C s H fp,Bx (PE (j8 X Nc scope cl C s H fp) elt (tD p.nx te))) (hix:X.N[i]?=some x:=by rfl) (hx:X.env.scope.names.lookup x=some .local:=by rfl) (hc:X.calm=true:=by rfl) (hsw:swapsWith (.ListComp elt [⟨tg,iter,ifs,0⟩] scope pos) (some (.Name x pos1)) pos2.line X.env=pure true:=by rfl) (hs:∀ x,foldedSetIterable iter X.env x=pure x:=by intro _;rfl):Bx (PS X (.Assign [.Name x pos1] (.ListComp elt [⟨tg,iter,ifs,0⟩] scope pos) pos2) (ja p (bp (bV fi cap g tt te) (ai i)))):=⟨Ef hc hN hix hx S hi.h (fun cl C s H fp=>(hg cl C s H fp).h) (fun cl C s H fp=>(ht cl C s H fp).h) (fun cl C s H fp=>(he cl C s H fp).h) hsw hs⟩
theorem qU (he:Bx (PE X e (tD p f))) (hg:Bx (PG X tg (pJ p g))) (hs:swapsWithSole [tg] e pos.line X.env=pure false:=by rfl) (hw:swappedStores [tg] e X.env=pure none:=by rfl) (h1:(assignEach [tg] X.env).map (·.2)=[assign tg X.env]:=by rfl):Bx (PS X (.Assign [tg] e pos) (ja p (bp f g))):=⟨G4 he.h hg.h hs hw h1⟩
theorem oR (he:Bx (PE X e (tD p f))) (hs:swapsWith e none pos.line X.env=pure false:=by rfl):Bx (PS X (.Expr e pos) (ja p (nI f))):=⟨Eg he.h hs⟩
theorem gE (hp:PassesOwn (model X.prog X.w) X.A X.env X.xe) (hi:Bx (PI X tg iter (sX p fi))) (hg:Bx (PG X tg (pJ p g))) (hb:Bx (lp X body (ja p fs))) (hc:X.calm=true:=by rfl) (hs:∀ x,foldedSetIterable iter X.env x=pure x:=by intro _;rfl):Bx (PS X (.For tg iter body [] pos) (ja p (iU fi g fs))):=⟨G2 hp hc hi.h hg.h hb.h hs⟩
theorem EF (n:Nat) (hp:PassesOwn (model X.prog X.w) X.A X.env X.xe) (hc:Bx (PT X c (i9 p ft))) (hb:Bx (lp X body (ja p fs))):Bx (PS X (.While c body [] pos) (ja p (uY n ft fs))):=⟨Cz hp hc.h hb.h⟩
end
section
variable {X:Cx}{p:Pa}{a b c e:Expr}{es rest:List Expr}{fa fb f:ME}{fr:MA}{ft gt:MT}{pos:Pos}{fs gs:MS}{st:Stmt}{sts A B:List Stmt}
theorem Gb (ha:Bx (PE X a (tD p fa))):Bx (PE X (.UnaryOp .Not a pos) (tD p (wC fa))):=⟨Hg ha.h⟩
theorem jD (ha:Bx (PE X a (tD p fa))) (hb:Bx (PE X (.BoolOp .And (b::rest) pos) (tD p fb))):Bx (PE X (.BoolOp .And (a::b::rest) pos) (tD p (fE fa fb))):=⟨Hk ha.h hb.h⟩
theorem KL (ha:Bx (PE X a (tD p fa))) (hb:Bx (PE X (.BoolOp .Or (b::rest) pos) (tD p fb))):Bx (PE X (.BoolOp .Or (a::b::rest) pos) (tD p (D1 fa fb))):=⟨JV ha.h hb.h⟩
theorem bj {k:Nat} (h:Bx (PA X es (pK p fr))):Bx (PE X (.Tuple es k pos) (tD p (bN fr))):=⟨Hf h.h⟩
theorem dD (h:Bx (PA X es (pK p fr))):Bx (PE X (.List es pos) (tD p (eF fr))):=⟨Hh h.h⟩
theorem cz:Bx (PO X none (F6 p qM)):=⟨Er⟩
theorem cf (h:Bx (PE X e (tD p f))):Bx (PO X (some e) (F6 p (dZ f))):=⟨Ep h.h⟩
theorem nF (ha:Bx (PT X a (i9 p ft))):Bx (PT X (.UnaryOp .Not a pos) (i9 p (jh ft))):=⟨GW ha.h⟩
theorem nB (h:Bx (PW X e (i9 p ft))):Bx (PT X e (i9 p ft)):=⟨h.h.pt⟩
theorem gD:Bx (sZ X [] (i9 p bI)):=⟨Ed⟩
theorem lx (h:Bx (PT X c (i9 p ft))):Bx (sZ X [c] (i9 p ft)):=⟨Ec h.h⟩
theorem eG:Bx (lp X [] (ja p cS)):=⟨G1⟩
theorem aH (h1:Bx (PS X st (ja p fs))) (h2:Bx (lp X sts (ja p gs))):Bx (lp X (st::sts) (ja p (aZ fs gs))):=⟨Eh h1.h h2.h⟩
theorem aP (h1:Bx (PS X st (ja p fs))):Bx (lp X [st] (ja p fs)):=⟨G0 h1.h⟩
theorem bE (h:Bx (PE X e (tD p f))):Bx (PS X (.Return (some e) pos) (ja p (bX f))):=⟨GZ h.h⟩
theorem D7:Bx (PS X st (ja p GB)):=⟨CB⟩
theorem ic (hc:Bx (PT X c (i9 p ft))) (ha:Bx (lp X A (ja p fs))) (hb:Bx (lp X B (ja p gs))):Bx (PS X (.If c A B pos) (ja p (kx ft fs gs))):=⟨JQ hc.h ha.h hb.h⟩
end
theorem cx {P:Program}{w:World}{K:W.Frag}{mg:Str->Option Value}{base:Heap}{p:Pa}{k n:Nat}{x qual:Str}{st:Stmt}{f:Addr}{fd:FuncData}{N ps:List Str}{fb:MS}
  (F:iS K x qual st f fd) (S:aY N ps (aw st)) (hn:ps.length=n) (hm:mg x=some (.ref f)) (hb:lC K fd ps [])
  (body : ∀ (cdv : Value) (A : Around) (outer : List Env) (s : Shared) (H : Hp) (E : XK), jB k (A.deeper (envOfC qual (aw st) s.heap.objs.size f cdv)) ->
   Bx (lp (uU By P w K mg base N qual (aw st) f cdv A outer s H E).nox (c8 st) (ja p fb))):dj P w K mg base p (k+1) x n (jC n N.length fb):=
 IY F S hn hm hb fun cdv A outer s H E hr=>(body cdv A outer s H E hr).h
end L2
namespace L2
open PySem RS
section
variable {ρ:Ro}{μ:aG}{fa fb fc fd f:ME}{fr:MA}{ft gt:MT}{op o1 o2 o3:D->D->aG->ak D}{fs gs:MS}{g:MG}
@[simp] theorem ah {d:D}{r:Ro}:ag 0 (some d::r) μ=.ok d μ:=Px (Py _)
@[simp] theorem aj {i:Nat}{x:Option D}{r:Ro}:ag (i+1) (x::r) μ=ag i r μ:=Px (Py _)
@[simp] theorem aR {d:D}:cC d ρ μ=.ok d μ:=Px (Py _)
@[simp] theorem az:au op fa fb ρ μ=(fa ρ μ).bind fun a μ1=>(fb ρ μ1).bind fun b μ2=>op a b μ2:=Px (Py _)
@[simp] theorem jF {o:D->aG->ak D}:sW o fa ρ μ=(fa ρ μ).bind fun a μ1=>o a μ1:=Px (Py _)
@[simp] theorem ay:av ρ μ=.ok [] μ:=Px (Py _)
@[simp] theorem aq:af fa fr ρ μ=(fa ρ μ).bind fun a μ1=>(fr ρ μ1).bind fun r μ2=>.ok (a::r) μ2:=Px (Py _)
@[simp] theorem aD {F:List D->aG->ak D}:aA F fr ρ μ=(fr ρ μ).bind F:=Px (Py _)
@[simp] theorem bO:bN fr ρ μ=(fr ρ μ).bind fun ds μ=>if ds.length<=sizeLine then .ok (.tup ds) μ else .bad:=Px (Py _)
@[simp] theorem cO:eF fr ρ μ=(fr ρ μ).bind fun ds μ=>if ds.length<=sizeLine then .ok (.obj μ.length) (μ++[.lst ds]) else .bad:=Px (Py _)
@[simp] theorem aQ {b:Bool}:Bp (.bl b) μ=.ok b μ:=Px (Py _)
@[simp] theorem bT:gA f ρ μ=(f ρ μ).bind Bp:=Px (Py _)
@[simp] theorem fQ:jG ft gt ρ μ=(ft ρ μ).bind fun b μ1=>if b=true then gt ρ μ1 else .ok false μ1:=Px (Py _)
@[simp] theorem kB:oO ft gt ρ μ=(ft ρ μ).bind fun b μ1=>if b=true then .ok true μ1 else gt ρ μ1:=Px (Py _)
@[simp] theorem jK:jh ft ρ μ=(ft ρ μ).bind fun b μ1=>.ok (!b) μ1:=Px (Py _)
@[simp] theorem ff:fE fa fb ρ μ=(fa ρ μ).bind fun a μ1=>(Bp a μ1).bind fun b μ2=>if b=true then fb ρ μ2 else .ok (.bl false) μ2:=Px (Py _)
@[simp] theorem IR:D1 fa fb ρ μ=(fa ρ μ).bind fun a μ1=>(Bp a μ1).bind fun b μ2=>if b=true then .ok (.bl true) μ2 else fb ρ μ2:=Px (Py _)
@[simp] theorem z7:wC f ρ μ=(f ρ μ).bind fun a μ1=>(Bp a μ1).bind fun b μ2=>.ok (.bl (!b)) μ2:=Px (Py _)
@[simp] theorem xD:kD o1 o2 fa fb fc ρ μ=(fa ρ μ).bind fun a μ1=>(fb ρ μ1).bind fun b μ2=>(o1 a b μ2).bind fun z μ3=>(Bp z μ3).bind fun k μ4=>
 if k=true then (fc ρ μ4).bind fun c μ5=>o2 b c μ5 else .ok (.bl false) μ4:=Px (Py _)
@[simp] theorem iP:jz f ρ μ=(f ρ μ).bind Al:=Px (Py _)
@[simp] theorem eY {b:Bool}:Al (.bl b) μ=.ok b μ:=Px (Py _)
@[simp] theorem nM {fl fh:MO}:qx fa fl fh ρ μ=(fa ρ μ).bind fun a μ1=>(fl ρ μ1).bind fun lo μ2=>(fh ρ μ2).bind fun hi μ3=>qg a lo hi μ3:=Px (Py _)
@[simp] theorem lH:qM ρ μ=.ok none μ:=Px (Py _)
@[simp] theorem gG:dZ f ρ μ=(f ρ μ).bind Ku:=Px (Py _)
@[simp] theorem kC {i:Int}:Ku (.int i) μ=.ok (some i) μ:=Px (Py _)
@[simp] theorem zw {F:D->List D->aG->ak D}{fo:ME}:F8 F fo fr ρ μ=(fo ρ μ).bind fun o μ1=>if Bo o μ1=true then (fr ρ μ1).bind fun ds μ2=>F o ds μ2 else .bad:=Px (Py _)
@[simp] theorem aT:bX f ρ μ=(f ρ μ).bindS fun d μ'=>.ret d μ':=Px (Py _)
@[simp] theorem bD:cS ρ μ=.next ρ μ:=Px (Py _)
@[simp] theorem aM:aZ fs gs ρ μ=(fs ρ μ).bind gs:=Px (Py _)
@[simp] theorem bC:kx ft fs gs ρ μ=(ft ρ μ).bindS fun b μ1=>if b=true then fs ρ μ1 else gs ρ μ1:=Px (Py _)
@[simp] theorem aV:bp f g ρ μ=(f ρ μ).bindS fun d μ1=>(g d ρ μ1).bindS fun ρ' μ2=>.next ρ' μ2:=Px (Py _)
@[simp] theorem nU:nI f ρ μ=(f ρ μ).bindS fun _ μ1=>.next ρ μ1:=Px (Py _)
@[simp] theorem aF {g:MS}:(SO.next ρ μ).bind g=g ρ μ:=Px (Py _)
@[simp] theorem cB {d:D}{g:MS}:(SO.ret d μ).bind g=.ret d μ:=Px (Py _)
@[simp] theorem ve {g:MS}:(SO.next ρ μ).loop g=g ρ μ:=Px (Py _)
@[simp] theorem aI {d:D}:(SO.ret d μ).out=.ok d μ:=Px (Py _)
@[simp] theorem Di:(SO.next ρ μ).out=.ok .non μ:=Px (Py _)
@[simp] theorem bH {i:Nat}{d:D}:ai i d ρ μ=.ok (ρ.set i (some d)) μ:=Px (Py _)
@[simp] theorem ml {fo fi:ME}{d:D}:mR fo fi d ρ μ=(fo ρ μ).bind fun o μ1=>(fi ρ μ1).bind fun i μ2=>(yu o i d μ2).bind fun _ μ3=>.ok ρ μ3:=Px (Py _)
@[simp] theorem FS {n:Nat}{u:DU}{xs:List D}:fC n u (.tup xs) ρ μ=if xs.length=n then u xs ρ μ else .bad:=Px (Py _)
@[simp] theorem FU:fD [] ρ μ=.ok ρ μ:=Px (Py _)
@[simp] theorem Dy {u:DU}{d:D}{r:List D}:bB g u (d::r) ρ μ=(g d ρ μ).bind fun ρ' μ'=>u r ρ' μ':=Px (Py _)
@[simp] theorem dO {fi:MI}:iU fi g fs ρ μ=(fi ρ μ).bindS fun src μ1=>d9 src g fs src.items ρ μ1:=Px (Py _)
@[simp] theorem bY:fw f ρ μ=(f ρ μ).bind An:=Px (Py _)
@[simp] theorem bW {F:List D->aG->ak nA}:eD F fr ρ μ=(fr ρ μ).bind F:=Px (Py _)
@[simp] theorem jJ {xs:List D}:An (.tup xs) μ=.ok (.fix xs) μ:=Px (Py _)
@[simp] theorem bP {fi:MI}{cap:List (Option Nat)}:bV fi cap g ft f ρ μ=(fi ρ μ).bind fun src μ1=>compLoop src μ1.length g ft f src.items (eE cap ρ) (μ1++[.lst []]):=Px (Py _)
@[simp] theorem aW {xs:List D}:(nA.fix xs).items=xs:=Px (Py _)
@[simp] theorem b8 {n:Nat}{xs:List D}:(nA.own n xs).items=xs:=Px (Py _)
theorem ji {N:Nat}{a:D}:jC 1 N fs [a] μ=qw μ (fs (some a::List.replicate (N - 1) none) μ).out:=LU rfl
theorem cV {N:Nat}{a b:D}:jC 2 N fs [a,b] μ=qw μ (fs (some a::some b::List.replicate (N - 2) none) μ).out:=LU rfl
theorem rp {N:Nat}{a b c:D}:jC 3 N fs [a,b,c] μ=qw μ (fs (some a::some b::some c::List.replicate (N - 3) none) μ).out:=LU rfl
@[simp] theorem dr {op:CmpOp}{i j:Int}:ig op (.int i) (.int j) μ=.ok (.bl (cW op i j)) μ:=Px (Py _)
@[simp] theorem fR {i j:Int}:bq (.int i) (.int j) μ=.ok (.int (i+j)) μ:=Px (Py _)
@[simp] theorem Kj {gg:Int->Int->D}{i j:Int}:dI gg (.int i) (.int j) μ=.ok (gg i j) μ:=Px (Py _)
@[simp] theorem oU {C:Int->Int->Prop}{gg:Int->Int->D}{i j:Int} (h:C i j):Gx C gg (.int i) (.int j) μ=.ok (gg i j) μ:=by unfold Gx;simp [h]
@[simp] theorem KD {i j:Int} (h:wk i j):mE (.int i) (.int j) μ=.ok (.int (i * j)) μ:=by unfold mE;simp [h]
@[simp] theorem uZ {i:Int}:tf (.int i) μ=.ok (.int (-i)) μ:=Px (Py _)
@[simp] theorem cv {neg:Bool}{i j:Int}:fv neg (.int i) (.int j) μ=.ok (.bl (if neg then !(i == j) else i == j)) μ:=Px (Py _)
@[simp] theorem u3 {neg:Bool}{i j:Bool}:fv neg (.bl i) (.bl j) μ=.ok (.bl (if neg then !(i == j) else i == j)) μ:=Px (Py _)
@[simp] theorem lJ {neg:Bool}{a:D}:m7 neg a .non μ=.ok (.bl (if neg then !a.isNon else a.isNon)) μ:=Px (Py _)
@[simp] theorem eZ {xs:List D}:fB [.tup xs] μ=.ok (.int xs.length) μ:=Px (Py _)
@[simp] theorem z9 {xs:List D}:fB [.frz xs] μ=.ok (.int xs.length) μ:=Px (Py _)
theorem vt {n:Nat}{xs:List D} (h:μ[n]?=some (.lst xs)):fB [.obj n] μ=.ok (.int xs.length) μ:=by unfold fB wz;simp [h]
theorem FQ {n:Nat}{ks:List (List Int)} (h:μ[n]?=some (.set ks)):fB [.obj n] μ=.ok (.int ks.length) μ:=by unfold fB;simp [h]
theorem z8 {n:Nat}{ks:List Int} (h:μ[n]?=some (.iset ks)):fB [.obj n] μ=.ok (.int ks.length) μ:=by unfold fB;simp [h]
theorem jI {n:Nat}{xs:List D} (h:μ[n]?=some (.lst xs)):ir [.obj n] μ=.ok (.tup xs) μ:=by unfold ir;simp [h]
theorem qG {n:Nat}{bs:List Bool} (h:μ[n]?=some (.lst (bs.map D.bl))):tm [.obj n] μ=.ok (.bl (bs.all id)) μ:=by unfold tm;simp [h,Bk]
theorem lI {xs:List D}{i:Int}{d:D} (h:atI xs i=some d):bQ (.tup xs) (.int i) μ=.ok d μ:=by unfold bQ;simp [h]
theorem IS {xs:List D}{i:Int}{d:D} (h:atI xs i=some d):bQ (.frz xs) (.int i) μ=.ok d μ:=by unfold bQ;simp [h]
theorem cU {n:Nat}{xs:List D}{i:Int}{d:D} (hm:μ[n]?=some (.lst xs)) (h:atI xs i=some d):bQ (.obj n) (.int i) μ=.ok d μ:=by unfold bQ;simp [hm,h]
theorem nS {n j:Nat}{xs:List D}{i:Int}{d:D} (hm:μ[n]?=some (.lst xs)) (h:yo xs.length i=some j):yu (.obj n) (.int i) d μ=.ok () (μ.set n (.lst (xs.set j d))):=by unfold yu;simp [hm,h]
theorem dm {n:Nat}{xs:List D} (hm:μ[n]?=some (.lst xs)):An (.obj n) μ=.ok (.own n xs) μ:=by unfold An;simp [hm]
theorem dq {j:Int} (h0:0<=j) (h:j<1000):eX [.int j] μ=.ok (.fix (bJ 0 j.toNat)) μ:=by
 unfold eX;dsimp only;rw [LU];omega
theorem nT {i j:Int} (h0:0<=i) (h1:i<1000) (h2:-1000<=j) (h:j<1000):nC [.int i,.int j] μ=.ok (.fix (bJ i (j - i).toNat)) μ:=by
 unfold nC;dsimp only;rw [LU];omega
theorem wG {α:Type}{x:α}{r:List α}:atI (x::r) 0=some x:=by unfold atI yo;simp
theorem zA {α:Type}{x y:α}{r:List α}:atI (x::y::r) 1=some y:=vy (j:=1) rfl
theorem B4 {α:Type}{x y z:α}{r:List α}:atI (x::y::z::r) 2=some z:=vy (j:=2) rfl
@[simp] theorem bG {x:D}{r:List D}:bQ (.tup (x::r)) (.int 0) μ=.ok x μ:=lI wG
@[simp] theorem dQ {x y:D}{r:List D}:bQ (.tup (x::y::r)) (.int 1) μ=.ok y μ:=lI zA
@[simp] theorem FR {x y z:D}{r:List D}:bQ (.tup (x::y::z::r)) (.int 2) μ=.ok z μ:=lI B4
theorem kE {α:Type}{xs:List α}{i:Int}{x:α} (h0:0<=i) (h:xs[i.toNat]?=some x):atI xs i=some x:=by
 have:=vy h
 rwa [show ((i.toNat:Nat):Int)=i by omega] at this
theorem oT {n:Nat}{i:Int} (h0:0<=i) (h:i<n):yo n i=some i.toNat:=by unfold yo;simp [h0,h]
end
section
variable {μ g:aG}{d:D}
@[simp] theorem Fz {n:Nat}{i:Int}:(D.int i).low n=True:=by simp [D.low]
@[simp] theorem Lo {n:Nat}{i:Bool}:(D.bl i).low n=True:=by simp [D.low]
@[simp] theorem KC {n:Nat}:D.non.low n=True:=by simp [D.low]
@[simp] theorem KB {n:Nat}{x:Str}:(D.str x).low n=True:=by simp [D.low]
@[simp] theorem qB {n:Nat}{xs:List D}:(D.tup xs).low n=D.lows n xs:=by simp [D.low]
@[simp] theorem Fy {n m:Nat}:(D.obj m).low n=(m<n):=by simp [D.low]
@[simp] theorem Km {n:Nat}:D.lows n []=True:=by simp [D.lows]
@[simp] theorem Jd {n:Nat}{x:D}{xs:List D}:D.lows n (x::xs)=(x.low n/\D.lows n xs):=by simp [D.lows]
theorem fH {n:Nat}:∀ {xs:List D},D.lows n xs↔∀ x∈xs,x.low n
 | []=>by simp
 | x::xs=>by simp [fH (xs:=xs)]
theorem fW (hd:d.low μ.length):qw μ (.ok d (μ++g))=.ok d μ:=by
 unfold qw
 dsimp only
 rw [LU]
 ·simp
 ·refine ⟨hd, by simp, fun i o hi h => .inl ?_⟩
  rw [MY hi] at h
  exact h
theorem bg (hd:d.low μ.length):qw μ (.ok d μ)=.ok d μ:=by
 have:=fW (μ:=μ) (g:=[]) hd
 simpa using this
theorem yB {i:Nat}{o:O} (hd:d.low μ.length) (ho:o.low μ.length):qw μ (.ok d (μ.set i o++g))=.ok d (μ.set i o):=by
 unfold qw
 dsimp only
 rw [LU]
 ·congr 1
  rw [PV (by simp)]
  exact Oj (by simp)
 ·refine ⟨hd, by simp, fun j o' hj h => ?_⟩
  rw [MY (by simpa using hj)] at h
  by_cases hij:i=j
  ·subst hij
   rw [Mi hj] at h
   cases h
   exact .inr ho
  ·rw [Mj hij] at h
   exact .inl h
theorem z5 {i:Nat}{o:O} (hd:d.low μ.length) (ho:o.low μ.length):qw μ (.ok d (μ.set i o))=.ok d (μ.set i o):=by
 have:=yB (μ:=μ) (g:=[]) (i:=i) hd ho
 simpa using this
theorem qW {μ':aG} (h:¬ d.low μ.length):qw μ (.ok d μ')=.ok d μ':=by
 unfold qw
 dsimp only
 rw [LV fun z=>h z.1]
theorem Ck {μ':aG}:qw μ (.ok d μ')=.ok d μ'\/(qw μ (.ok d μ')=.ok d (μ'.take μ.length)/\d.low μ.length):=by
 unfold qw
 dsimp only
 by_cases h:GC μ μ' d
 ·rw [LU h];exact .inr ⟨rfl,h.1⟩
 ·rw [LV h];exact .inl rfl
end
theorem iH {μ1 g:aG}{a b:O}:(μ1++a::g).set μ1.length b=μ1++b::g:=by
 rw [List.set_append_right _ _ (MD _),OF];rfl
theorem ar {μ1 g:aG}{a:O}:(μ1++a::g)[μ1.length]?=some a:=by
 rw [MX (MD _),OF];rfl
theorem my {μ1 g:aG}{ys:List D}{y:D} (h:ys.length<sizeLine):tY μ1.length y (μ1++.lst ys::g)=.ok () (μ1++.lst (ys++[y])::g):=by
 unfold tY
 rw [ar]
 dsimp only
 rw [LU h,iH]
theorem fk {src:nA}{g:MG}{t:MT}{e:ME}{μ1:aG}{q:D->Bool}{h:D->D} (R:Ro->Prop) (ho:∀ a,cY src (μ1++[.lst a])) :
  ∀ {xs acc:List D}{ρ:Ro},R ρ->acc.length+xs.length<=sizeLine->(∀ x∈xs,∀ a ρ,R ρ->∃ ρ1,R ρ1/\g x ρ (μ1++[.lst a])=.ok ρ1 (μ1++[.lst a])/\t ρ1 (μ1++[.lst a])=.ok (q x) (μ1++[.lst a])/\(q x=true->e ρ1 (μ1++[.lst a])=.ok (h x) (μ1++[.lst a]))) ->
   compLoop src μ1.length g t e xs ρ (μ1++[.lst acc])=.ok (.obj μ1.length) (μ1++[.lst (acc++(xs.filter q).map h)])
 | [],acc,ρ,hr,hl,he=>by
  unfold compLoop
  rw [LU (ho acc)]
  simp
 | x::xs,acc,ρ,hr,hl,he=>by
  obtain ⟨ρ1,r1,e1,e2,e3⟩:=he x Ma acc ρ hr
  unfold compLoop
  rw [LU (ho acc),e1]
  simp only [bZ,aa]
  rw [e2]
  simp only [bZ,aa]
  have he':=fun y hy=>he y (Mb _ hy)
  simp only [NQ] at hl
  cases hq:q x with
  | false=>
   rw [LV Mu,fk R ho r1 (by omega) he',PX,hq]
   rfl
  | true=>
   rw [LU rfl,e3 hq]
   simp only [bZ,aa]
   rw [my (by omega)]
   simp only [aa]
   rw [fk R ho r1 (by simp;omega) he',PX,hq]
   simp
theorem jm {src:nA}{g:MG}{t:MT}{e:ME}{n:Nat} (J:List D->List D->Ro->aG->aG->Prop)
  (fin:∀ ys ρ μ1 s,J [] ys ρ μ1 s->μ1.length=n/\cY src (μ1++.lst ys::s))
  (step : ∀ x r ys ρ μ1 s, J (x :: r) ys ρ μ1 s -> μ1.length = n /\ cY src (μ1 ++ .lst ys :: s) /\ ∃ ρ1 μa sa b μb sb, g x ρ (μ1 ++ .lst ys :: s) = .ok ρ1 (μa ++ .lst ys :: sa) /\ t ρ1 (μa ++ .lst ys :: sa) = .ok b (μb ++ .lst ys :: sb) /\
   (b=true->∃ y μc sc,e ρ1 (μb++.lst ys::sb)=.ok y (μc++.lst ys::sc)/\ys.length<sizeLine/\μc.length=n/\J r (ys++[y]) ρ1 μc sc)/\(b=false->J r ys ρ1 μb sb)) :
  ∀ {xs ys:List D}{ρ:Ro}{μ1 s:aG},J xs ys ρ μ1 s->∃ ys' ρ' μ1' s',J [] ys' ρ' μ1' s'/\compLoop src n g t e xs ρ (μ1++.lst ys::s)=.ok (.obj n) (μ1'++.lst ys'::s')
 | [],ys,ρ,μ1,s,hJ=>by
  refine ⟨ys,ρ,μ1,s,hJ,?_⟩
  unfold compLoop
  rw [LU (fin ys ρ μ1 s hJ).2]
 | x::xs,ys,ρ,μ1,s,hJ=>by
  obtain ⟨hn,ho,ρ1,μa,sa,b,μb,sb,e1,e2,e3,e4⟩:=step x xs ys ρ μ1 s hJ
  unfold compLoop
  rw [LU ho,e1]
  simp only [bZ,aa]
  rw [e2]
  simp only [bZ,aa]
  cases b with
  | false=>
   rw [LV Mu]
   exact jm J fin step (e4 rfl)
  | true=>
   obtain ⟨y,μc,sc,f1,f2,f3,f4⟩:=e3 rfl
   rw [LU rfl,f1]
   simp only [bZ,aa]
   subst f3
   rw [my f2]
   simp only [aa]
   exact jm J fin step f4
theorem dP {src:nA}{g:MG}{fb:MS} (J:List D->Ro->aG->Prop) (fin:∀ ρ μ,J [] ρ μ->cY src μ)
  (step:∀ x r ρ μ,J (x::r) ρ μ->cY src μ/\∃ ρ1 μ1 ρ2 μ2,g x ρ μ=.ok ρ1 μ1/\fb ρ1 μ1=.next ρ2 μ2/\J r ρ2 μ2) :
  ∀ {xs:List D}{ρ:Ro}{μ:aG},J xs ρ μ->∃ ρ' μ',J [] ρ' μ'/\d9 src g fb xs ρ μ=.next ρ' μ'
 | [],ρ,μ,h=>⟨ρ,μ,h,by unfold d9;rw [LU (fin ρ μ h)]⟩
 | x::xs,ρ,μ,h=>by
  obtain ⟨ho,ρ1,μ1,ρ2,μ2,e1,e2,h2⟩:=step x xs ρ μ h
  obtain ⟨ρ',μ',h3,e3⟩:=dP J fin step h2
  refine ⟨ρ',μ',h3,?_⟩
  unfold d9
  rw [LU ho,e1]
  simp only [ae]
  rw [e2]
  exact e3
end L2
namespace L2
open PySem PySem.Spec PyProof.Rows RS
theorem Kh {P:Program}{w:World}{K:W.Frag}{mg:Str->Option Value}{base:Heap}{p:Pa}{k n:Nat}{x qual:Str}{st:Stmt}{f:Addr}{fd:FuncData}{N ps:List Str}{fb:MS}
  (F:iS K x qual st f fd) (S:aY N ps (aw st)) (hn:ps.length=n)
  (body : ∀ (cdv : Value) (A : Around) (outer : List Env) (s : Shared) (H : Hp) (E : XK), jB k (A.deeper (envOfC qual (aw st) s.heap.objs.size f cdv)) ->
   Bx (lp (uU By P w K mg base N qual (aw st) f cdv A outer s H E).nox (c8 st) (ja p fb))):tp P w K mg base By (k+1) f fd ps (Gw p n (jC n N.length fb)):=by
 refine F.ok S (fun vs H Q E h=>h.1.trans hn.symm) fun cdv A outer s H vs Q E hr h=>?_
 refine ⟨_,(body cdv A outer s H E hr).h,?_⟩
 obtain ⟨hl,α,ds,μ,S1,R1,P1⟩:=h
 unfold jC at P1
 have hd:ds.length=n:=by rw [<- R1.length];exact hl
 rw [LU hd] at P1
 have P2:=zZ S1 P1
 unfold start
 rw [hl]
 refine ⟨α,_,μ,S1,sA R1 _,?_⟩
 cases e:fb (ds.map some++List.replicate (N.length - n) none) μ with
 | ret d μ'=>rw [e] at P2;exact fun H' α' v x s r=>P2 H' α' x s v r
 | next ρ μ'=>rw [e] at P2;exact fun H' α' σ' x s r=>P2 H' α' x s .non (cI.mpr rfl)
 | exc x μ'=>rw [e] at P2;exact P2
 | brk ρ μ'=>rw [e] at P2;exact P2.elim
 | cnt ρ μ'=>rw [e] at P2;exact P2.elim
 | bad=>rw [e] at P2;exact P2.elim
theorem ud {K:W.Frag}{H:Hp}{α:List Addr}:∀ ns:List Int,Reps K H α (ns.map D.int) (ns.map V.int)
 | []=>by simp only [Ny,Reps]
 | n::ns=>by
  simp only [Nz,Reps]
  exact ⟨_,_,rfl,ax.mpr rfl,ud ns⟩
theorem Dr {K:W.Frag}{w:World}{F:List D->aG->ak D}{H:Hp}{a:Addr}{ns:List Int}{E:XK} (hF:∃ μ',F [.frz (ns.map D.int)] []=.ok (.bl true) μ') (hO:D3 H) (hS:ia K H a (ns.map V.int)) :
  Gw (di K w) 1 F [.ref a] H (fun v _=>v=.bl true) E:=by
 obtain ⟨μ',e⟩:=hF
 have fz:F9 K H a (ns.map V.int):=by
  rcases hS with (h | h) | h
  ·rcases hO a with z | ⟨o, xs, z⟩
   ·rw [h] at z;cases z
   ·rw [h] at z;cases z
  ·exact .inl h
  ·exact .inr h
 refine ⟨rfl,[],[.frz (ns.map D.int)],[],⟨rfl,OE,fun n o a h=>by simp at h⟩,?_,?_⟩
 ·simp only [Reps]
  exact ⟨_,_,rfl,bM.mpr ⟨a,_,rfl,fz,ud ns⟩,rfl⟩
 ·rw [e]
  exact fun H' α' x s v r=>bw.mp r
end L2
namespace L2
open PySem PySem.Spec PyProof.Rows RS
section
variable {X:Cx}{p:Pa}
theorem tF:seqSlot? (.type "list") (dunderI "add")=pure (some (.builtin "list.__iadd__")):=PySem.seqSlot_of PY.lookup (by decide +kernel)
theorem nv {M:Model}{A:Around}{E:Value->Shared->Prop}{s:Shared}{a b:Value}{Q:Value->Shared->Prop} (ha:s.TypeIs a "list") (hb:s.TypeIs b "list")
  (hc:wpAny M A (call (.builtin "list.__iadd__") [a,b]) Q E s):wpAny M A (inplaceOp .Add a b) Q E s:=by
 unfold inplaceOp
 refine Mr ?_
 have hfi:fillsInplaceSlot (.type "list") "add" (Operator.Add == .Add)=pure false:=by
  unfold fillsInplaceSlot
  show (typeLookup (.type "list") (dunderI "add") >>= fun fi=>pure (fi.isSome && !isSeqSlot fi))=pure false
  rw [PY.lookup]
  rfl
 refine Mq (Nv ha (Mq (NY hfi ?_)))
 show wpAny M A (if false=true then _ else _) Q E s
 rw [LV Mu]
 refine Mq (wpAny_binaryOp1_none (nm:="add") ha hb noFill_list_add ?_)
 refine Mq (NY tF ?_)
 exact Mq (NX hc)
def Gk:Jf:=fun x y H Q=>(∃ i j,x=.int i/\y=.int j/\Q (.int (i+j)) H) \/
 ∃ l b xs zs,x=.ref l/\y=.ref b/\H l=some (.lst xs)/\H b=some (.lst zs)/\xs.length+zs.length<=sizeLine/\Q (.ref l) (dk H l (.lst (xs++zs)))
theorem FE:Kx X .Add Gk:=by
 intro pins s σ H x y v u Q I r1 r2 h
 rcases h with h | h
 ·exact II pins s σ H x y v u Q I r1 r2 h
 ·obtain ⟨l, b, xs, zs, rfl, rfl, hH, hB, hz, q⟩ := h
  cases r1
  cases r2
  obtain ⟨z,its,n,r,hl,e⟩:=I.lstM hH
  obtain ⟨z2,its2,n2,r2,hl2,e2⟩:=I.lstM hB
  have hsz:its.toArray.size+its2.toArray.size<=sizeLine:=by rw [ML,ML];omega
  have hlong:¬ (!its.toArray.isEmpty && Builtin.List.listTooLong (its.toArray.size+its2.toArray.size))=true:=by
   rw [xg hsz,OV]
   exact Mu
  refine nv ⟨_,e,rfl⟩ ⟨_,e2,rfl⟩ ?_
  refine NI PY ⟨_,e,rfl⟩ F.entry_list_iadd (F.args_list_iadd_2 _ _)
   (AutoSeq1.list___iadd___list_list_0 l its.toArray n b its2.toArray n2 hlong (by rw [ML];omega) (by omega)) ⟨e,e2,?_⟩
  refine ⟨.ref l,_,I.lset (its':=its++its2) hH e (by simp) (r.append r2) ?_,rfl,q⟩
  rw [Nb]
  omega
def wA (a b:D) (μ:aG):ak D:=match a,b with
 | .int i,.int j=>.ok (.int (i+j)) μ
 | .obj m,.obj n=>match μ[m]?,μ[n]? with
  | some (.lst xs),some (.lst ys)=>if xs.length+ys.length<=sizeLine then .ok (.obj m) (μ.set m (.lst (xs++ys))) else .bad
  | _,_=>.bad
 | _,_=>.bad
theorem Fl:tV p wA Gk:=by
 intro a b v y H α μ Q S ra rb P
 unfold wA at P
 split at P
 ·rename_i i j
  obtain rfl:=ax.mp ra
  obtain rfl:=ax.mp rb
  exact .inl ⟨i,j,rfl,rfl,P.now S _ (ax.mpr rfl)⟩
 ·rename_i m n
  split at P
  ·rename_i xs ys hx hy
   split at P
   ·rename_i hb
    obtain ⟨a,us,rfl,a1,h1,rr⟩:=dN S ra hx
    obtain ⟨a',us',rfl,a1',h1',rr'⟩:=dN S rb hy
    have q:=rr.append rr'
    exact .inr ⟨a,a',us,us',rfl,rfl,h1,h1',by rw [rr.length,rr'.length];exact hb,P _ _ (iV h1) (S.put hx a1 h1 q) _ (ba.mpr ⟨a,rfl,a1⟩)⟩
   ·exact P.elim
  ·exact P.elim
 ·exact P.elim
theorem JX {e:Expr}{f:ME}{pos pos':Pos} (i:Nat) {x:Str} (hN:X.N.Nodup) (he:Bx (PE X e (tD p f))) (hi:X.N[i]?=some x:=by rfl) (hx:Bv X.env.scope x:=by first | exact Or.inl rfl | exact Or.inr rfl) (hf:X.fn x=true\/X.env.scope.names.lookup x=some .local:=by first | exact .inl rfl | exact .inr rfl) :
  Bx (PS X (.AugAssign (.Name x pos') .Add e pos) (ja p (BB i wA f))):=⟨G3 hN hi hx he.h FE Fl hf⟩
end
end L2
namespace L2
open PySem PySem.W PyProof.Rows RS
section
variable {prog:Program}{w:World}{A:Around}{E:Value->Shared->Prop}
end
section
variable {X:Cx}
end
theorem LD {α:Type}{P:List α->Prop} (h:∀ a,P [a]):∀ us:List α,us.length=1->P us
 | [a],_=>h a
theorem us2 {α:Type}{P:List α->Prop} (h:∀ a b,P [a,b]):∀ us:List α,us.length=2->P us
 | [a,b],_=>h a b
theorem LC {α:Type}{P:List α->Prop} (h:∀ a b c,P [a,b,c]):∀ us:List α,us.length=3->P us
 | [a,b,c],_=>h a b c
theorem iS.b1 {K:W.Frag}{x qual:Str}{st:Stmt}{f:Addr}{fd:FuncData}{ps:List Str} (F:iS K x qual st f fd) (hl:ps.length=1) (h:∀ (kV doc pm:Value) (an:Option Addr) (cdv ct a:Value),bindArgs (W.fnOf x qual (fg st) (c8 st) (aw st) .none kV doc pm an cdv ct) ⟨[a],[]⟩=pure (ps.zip [a])):lC K fd ps []:=
 F.binds fun kV doc pm an cdv ct us e=>LD (P:=fun us=>bindArgs (W.fnOf x qual (fg st) (c8 st) (aw st) .none kV doc pm an cdv ct) ⟨us,[]⟩=pure (ps.zip us)) (fun a=>h kV doc pm an cdv ct a) us (e.trans hl)
theorem iS.b2 {K:W.Frag}{x qual:Str}{st:Stmt}{f:Addr}{fd:FuncData}{ps:List Str} (F:iS K x qual st f fd) (hl:ps.length=2) (h:∀ (kV doc pm:Value) (an:Option Addr) (cdv ct a b:Value),bindArgs (W.fnOf x qual (fg st) (c8 st) (aw st) .none kV doc pm an cdv ct) ⟨[a,b],[]⟩=pure (ps.zip [a,b])):lC K fd ps []:=
 F.binds fun kV doc pm an cdv ct us e=>us2 (P:=fun us=>bindArgs (W.fnOf x qual (fg st) (c8 st) (aw st) .none kV doc pm an cdv ct) ⟨us,[]⟩=pure (ps.zip us)) (fun a b=>h kV doc pm an cdv ct a b) us (e.trans hl)
theorem iS.b3 {K:W.Frag}{x qual:Str}{st:Stmt}{f:Addr}{fd:FuncData}{ps:List Str} (F:iS K x qual st f fd) (hl:ps.length=3) (h:∀ (kV doc pm:Value) (an:Option Addr) (cdv ct a b c:Value),bindArgs (W.fnOf x qual (fg st) (c8 st) (aw st) .none kV doc pm an cdv ct) ⟨[a,b,c],[]⟩=pure (ps.zip [a,b,c])):lC K fd ps []:=
 F.binds fun kV doc pm an cdv ct us e=>LC (P:=fun us=>bindArgs (W.fnOf x qual (fg st) (c8 st) (aw st) .none kV doc pm an cdv ct) ⟨us,[]⟩=pure (ps.zip us)) (fun a b c=>h kV doc pm an cdv ct a b c) us (e.trans hl)
end L2
namespace Lw
open PySem L2
section
variable {P:Program}{w:World}{K:W.Frag}{mg:Str->Option Value}{base:Heap}
structure Nm (mg:Str->Option Value):Prop where
 all:mg "all" = none
 bool:mg "bool" = none
 enumerate:mg "enumerate" = none
 int:mg "int" = none
 isinstance:mg "isinstance" = none
 len:mg "len" = none
 list:mg "list" = none
 max:mg "max" = none
 min:mg "min" = none
 range:mg "range" = none
 set:mg "set" = none
 sorted:mg "sorted" = none
 str:mg "str" = none
 tuple:mg "tuple" = none
theorem xU:aY ["thing"] ["thing"] (aw jM):=⟨rfl,rfl,rfl,by decide +kernel,rfl,by decide +kernel,by decide +kernel⟩
noncomputable def sE:MS:=bX (fE (sW (jy "int") (ag 0)) (wC (sW (jy "bool") (ag 0))))
noncomputable def jr:List D->aG->ak D:=jC 1 1 sE
theorem pE:aY ["thing", "least", "most"] ["thing", "least", "most"] (aw fq):=⟨rfl,rfl,rfl,by decide +kernel,rfl,by decide +kernel,by decide +kernel⟩
noncomputable def la:MS:=bX (fE (aA jr (af (ag 0) (av))) (kD (ig .LtE) (ig .LtE) (ag 1) (ag 0) (ag 2)))
noncomputable def d4:List D->aG->ak D:=jC 3 3 la
theorem xV:aY ["many", "thing"] ["many", "thing"] (aw jN):=⟨rfl,rfl,rfl,by decide +kernel,rfl,by decide +kernel,by decide +kernel⟩
noncomputable def sF:MS:=bX (aA d4 (af (ag 1) (af (cC (.int 0)) (af (au gC (ag 0) (cC (.int 1))) (av)))))
noncomputable def f7:List D->aG->ak D:=jC 2 2 sF
theorem vI:aY ["many", "thing"] ["many", "thing"] (aw gJ):=⟨rfl,rfl,rfl,by decide +kernel,rfl,by decide +kernel,by decide +kernel⟩
theorem sS:(["place", "many"]:List Str).Nodup:=by decide +kernel
noncomputable def j4:ME:=aA f7 (af (ag 1) (af (ag 0) (av)))
noncomputable def lZ:MS:=bX (fE (sW (jy "tuple") (ag 1)) (aA tm (af (bV (fw (ag 1)) [none,some 0] (ai 0) (bI) (j4)) (av))))
noncomputable def cw:List D->aG->ak D:=jC 2 2 lZ
theorem vJ:aY ["thing", "word", "size"] ["thing", "word", "size"] (aw iX):=⟨rfl,rfl,rfl,by decide +kernel,rfl,by decide +kernel,by decide +kernel⟩
noncomputable def p6:MS:=bX (fE (sW (jy "tuple") (ag 0)) (fE (au (fv false) (aA fB (af (ag 0) (av))) (ag 2)) (au (fv false) (au bQ (ag 0) (cC (.int 0))) (ag 1))))
noncomputable def gx:List D->aG->ak D:=jC 3 3 p6
theorem sM:aY ["web", "thing"] ["web", "thing"] (aw gS):=⟨rfl,rfl,rfl,by decide +kernel,rfl,by decide +kernel,by decide +kernel⟩
noncomputable def mZ:MS:=kx (jh (jz (aA f7 (af (au bQ (ag 0) (cC (.int 0))) (af (ag 1) (av)))))) (GB) (cS)
noncomputable def cL:List D->aG->ak D:=jC 2 2 mZ
theorem yR:aY ["web", "one", "other"] ["web", "one", "other"] (aw kI):=⟨rfl,rfl,rfl,by decide +kernel,rfl,by decide +kernel,by decide +kernel⟩
noncomputable def uO:MS:=bX (au (qh false) (bN (af (aA uT (af (ag 1) (af (ag 2) (av)))) (af (aA qQ (af (ag 1) (af (ag 2) (av)))) (av)))) (au bQ (ag 0) (cC (.int 1))))
noncomputable def kn:List D->aG->ak D:=jC 3 3 uO
theorem sJ:aY ["ties", "front"] ["ties", "front"] (aw dB):=⟨rfl,rfl,rfl,by decide +kernel,rfl,by decide +kernel,by decide +kernel⟩
theorem ku:(["a", "b", "front"]:List Str).Nodup:=by decide +kernel
theorem kr:(["a", "b", "front"]:List Str).Nodup:=by decide +kernel
noncomputable def k9:ME:=ag 1
noncomputable def iR:MT:=gA (au (qh false) (ag 0) (ag 2))
noncomputable def kZ:ME:=ag 0
noncomputable def iQ:MT:=gA (au (qh false) (ag 1) (ag 2))
noncomputable def mY:MS:=bX (au bq (bV (fw (ag 0)) [none,none,some 1] (fC 2 (bB (ai 0) (bB (ai 1) (fD)))) (iR) (k9)) (bV (fw (ag 0)) [none,none,some 1] (fC 2 (bB (ai 0) (bB (ai 1) (fD)))) (iQ) (kZ)))
noncomputable def dh:List D->aG->ak D:=jC 2 2 mY
theorem cG:aY ["web", "start", "many", "ties", "fars", "far", "front", "place"] ["web", "start"] (aw gK):=⟨rfl,rfl,rfl,by decide +kernel,rfl,by decide +kernel,by decide +kernel⟩
theorem sT:(["place", "fars"]:List Str).Nodup:=by decide +kernel
noncomputable def mW:ME:=ag 0
noncomputable def jY:MT:=gA (au (m7 false) (au bQ (ag 1) (ag 0)) (cC .non))
noncomputable def fL:MS:=bp (ag 5) (mR (ag 4) (ag 7))
noncomputable def fK:MS:=aZ (BB 5 wA (cC (.int 1)))
 (aZ (bp (bV (fw (aA dh (af (ag 3) (af (ag 6) (av))))) [none,some 4] (ai 0) (jY) (mW)) (ai 6))
 (iU (fw (ag 6)) (ai 7) fL))
noncomputable def p7:MS:=aZ (bp (ag 0) (fC 2 (bB (ai 2) (bB (ai 3) (fD)))))
 (aZ (bp (au mE (eF (af (cC .non) (av))) (ag 2)) (ai 4))
 (aZ (bp (cC (.int 0)) (mR (ag 4) (ag 1)))
 (aZ (bp (cC (.int 0)) (ai 5))
 (aZ (bp (eF (af (ag 1) (av))) (ai 6))
 (aZ (uY 100 (jz (ag 6)) fK)
 (bX (ag 4)))))))
noncomputable def eQ:List D->aG->ak D:=jC 2 8 p7
theorem AH:aY ["web", "one", "other"] ["web", "one", "other"] (aw mv):=⟨rfl,rfl,rfl,by decide +kernel,rfl,by decide +kernel,by decide +kernel⟩
noncomputable def xN:MS:=aZ (nI (aA cL (af (ag 0) (af (ag 1) (av)))))
 (aZ (nI (aA cL (af (ag 0) (af (ag 2) (av)))))
 (bX (au bQ (aA eQ (af (ag 0) (af (ag 1) (av)))) (ag 2))))
noncomputable def lS:List D->aG->ak D:=jC 3 3 xN
theorem yQ:aY ["web", "place"] ["web", "place"] (aw kH):=⟨rfl,rfl,rfl,by decide +kernel,rfl,by decide +kernel,by decide +kernel⟩
noncomputable def uN:MS:=aZ (nI (aA cL (af (ag 0) (af (ag 1) (av)))))
 (bX (aA ir (af (aA dR (af (aA ky (af (au bq (eF (af (ag 1) (av))) (aA dh (af (au bQ (ag 0) (cC (.int 1))) (af (eF (af (ag 1) (av))) (av))))) (av))) (av))) (av))))
noncomputable def km:List D->aG->ak D:=jC 2 2 uN
theorem gM:aY ["web", "pieces", "start", "fars", "piece"] ["web"] (aw gI):=⟨rfl,rfl,rfl,by decide +kernel,rfl,by decide +kernel,by decide +kernel⟩
theorem mh:(["place", "far"]:List Str).Nodup:=by decide +kernel
noncomputable def j3:ME:=ag 0
noncomputable def jX:MT:=gA (au (m7 true) (ag 1) (cC .non))
noncomputable def iA:MS:=aZ (bp (aA eQ (af (ag 0) (af (ag 2) (av)))) (ai 3))
 (aZ (bp (aA ir (af (bV (eD pQ (af (ag 3) (av))) [none,none] (fC 2 (bB (ai 0) (bB (ai 1) (fD)))) (jX) (j3)) (av))) (ai 4))
 (kx (gA (au (fv false) (au bQ (ag 4) (cC (.int 0))) (ag 2))) (nI (F8 fj (ag 1) (af (ag 4) (av)))) (cS)))
noncomputable def p5:MS:=aZ (bp (eF (av)) (ai 1))
 (aZ (iU (eD eX (af (au bQ (ag 0) (cC (.int 0))) (av))) (ai 2) iA)
 (bX (ag 1)))
noncomputable def iJ:List D->aG->ak D:=jC 1 5 p5
theorem vH:aY ["web", "thing"] ["web", "thing"] (aw gH):=⟨rfl,rfl,rfl,by decide +kernel,rfl,by decide +kernel,by decide +kernel⟩
theorem mf:(["at", "place", "web", "thing"]:List Str).Nodup:=by decide +kernel
noncomputable def jZ:ME:=aA kn (af (ag 2) (af (au bQ (ag 3) (au gC (ag 0) (cC (.int 1)))) (af (ag 1) (av))))
noncomputable def lY:MS:=aZ (kx (oO (jh (jz (aA cw (af (au bQ (ag 0) (cC (.int 0))) (af (ag 1) (av)))))) (oO (gA (au (ig .Lt) (aA fB (af (ag 1) (av))) (cC (.int 3)))) (gA (au (fv true) (aA fB (af (aA ky (af (ag 1) (av))) (av))) (aA fB (af (ag 1) (av))))))) (bX (cC (.bl false))) (cS))
 (bX (aA tm (af (bV (eD pQ (af (ag 1) (av))) [none,none,some 0,some 1] (fC 2 (bB (ai 0) (bB (ai 1) (fD)))) (bI) (jZ)) (av))))
noncomputable def dF:List D->aG->ak D:=jC 2 2 lY
theorem gv:aY ["web", "size", "many", "stars", "ways", "step"] ["web", "size"] (aw dE):=⟨rfl,rfl,rfl,by decide +kernel,rfl,by decide +kernel,by decide +kernel⟩
theorem tO:(["place", "web"]:List Str).Nodup:=by decide +kernel
theorem tN:(["place"]:List Str).Nodup:=by decide +kernel
theorem mU:(["way", "place", "stars"]:List Str).Nodup:=by decide +kernel
theorem tM:(["way", "stars"]:List Str).Nodup:=by decide +kernel
noncomputable def kS:ME:=aA km (af (ag 1) (af (ag 0) (av)))
noncomputable def kR:ME:=bN (af (ag 0) (av))
noncomputable def kQ:ME:=au bq (ag 0) (bN (af (ag 1) (av)))
noncomputable def kN:MT:=gA (au (qh true) (ag 1) (ag 0))
noncomputable def i4:MB:=rm (fw (au bQ (ag 2) (au bQ (ag 0) (sW tf (cC (.int 1)))))) (ai 1) (kN) (qX (kQ))
noncomputable def i5:MS:=bp (oW (fw (ag 4)) [none,none,some 3] (ai 0) (bI) (i4)) (ai 4)
noncomputable def kP:ME:=ag 0
noncomputable def kM:MT:=gA (au (qh false) (au bQ (ag 0) (cC (.int 0))) (au bQ (ag 1) (au bQ (ag 0) (sW tf (cC (.int 1))))))
noncomputable def sC:MS:=aZ (bp (au bQ (ag 0) (cC (.int 0))) (ai 2))
 (aZ (bp (bV (eD eX (af (ag 2) (av))) [none,some 0] (ai 0) (bI) (kS)) (ai 3))
 (aZ (bp (bV (eD eX (af (ag 2) (av))) [none] (ai 0) (bI) (kR)) (ai 4))
 (aZ (iU (eD eX (af (au gC (ag 1) (cC (.int 1))) (av))) (ai 5) i5)
 (bX (bV (fw (ag 4)) [none,some 3] (ai 0) (kM) (kP))))))
noncomputable def jq:List D->aG->ak D:=jC 2 6 sC
theorem xW:aY ["web", "thing"] ["web", "thing"] (aw jO):=⟨rfl,rfl,rfl,by decide +kernel,rfl,by decide +kernel,by decide +kernel⟩
noncomputable def sG:MS:=bX (fE (aA cw (af (au bQ (ag 0) (cC (.int 0))) (af (ag 1) (av)))) (au (m7 false) (aA lS (af (ag 0) (af (au bQ (ag 1) (cC (.int 0))) (af (au bQ (ag 1) (cC (.int 1))) (av))))) (cC .non)))
noncomputable def js:List D->aG->ak D:=jC 2 2 sG
theorem yS:aY ["web", "ring"] ["web", "ring"] (aw jo):=⟨rfl,rfl,rfl,by decide +kernel,rfl,by decide +kernel,by decide +kernel⟩
theorem vV:(["tie", "ring"]:List Str).Nodup:=by decide +kernel
noncomputable def lX:ME:=ag 0
noncomputable def lW:MT:=jG (gA (au (qh false) (au bQ (ag 0) (cC (.int 0))) (ag 1))) (gA (au (qh false) (au bQ (ag 0) (cC (.int 1))) (ag 1)))
noncomputable def uP:MS:=bX (au (fv false) (aA fB (af (bV (fw (au bQ (ag 0) (cC (.int 1)))) [none,some 1] (ai 0) (lW) (lX)) (av))) (aA fB (af (ag 1) (av))))
noncomputable def gu:List D->aG->ak D:=jC 2 2 uP
theorem sL:aY ["web", "thing"] ["web", "thing"] (aw gR):=⟨rfl,rfl,rfl,by decide +kernel,rfl,by decide +kernel,by decide +kernel⟩
noncomputable def j6:MS:=bX (fE (aA dF (af (ag 0) (af (ag 1) (av)))) (fE (au (ig .GtE) (aA fB (af (ag 1) (av))) (cC (.int 4))) (aA gu (af (ag 0) (af (ag 1) (av))))))
noncomputable def cK:List D->aG->ak D:=jC 2 2 j6
theorem xX:aY ["web", "thing"] ["web", "thing"] (aw jP):=⟨rfl,rfl,rfl,by decide +kernel,rfl,by decide +kernel,by decide +kernel⟩
noncomputable def sH:MS:=aZ (kx (jz (aA gx (af (ag 1) (af (cC (.str "apart")) (af (cC (.int 3)) (av)))))) (bX (aA js (af (ag 0) (af (qx (ag 1) (dZ (cC (.int 1))) (qM)) (av))))) (cS))
 (bX (fE (aA gx (af (ag 1) (af (cC (.str "ring")) (af (cC (.int 2)) (av))))) (aA cK (af (ag 0) (af (au bQ (ag 1) (cC (.int 1))) (av))))))
noncomputable def jt:List D->aG->ak D:=jC 2 2 sH
theorem mx:aY ["web", "pieces", "size", "ring"] ["web"] (aw mw):=⟨rfl,rfl,rfl,by decide +kernel,rfl,by decide +kernel,by decide +kernel⟩
noncomputable def dS:MS:=kx (jz (aA gu (af (ag 0) (af (ag 3) (av))))) (bX (bN (af (cC (.str "ring")) (af (ag 3) (av))))) (cS)
noncomputable def eO:MS:=iU (fw (aA jq (af (ag 0) (af (ag 2) (av))))) (ai 3) dS
noncomputable def xO:MS:=aZ (bp (aA iJ (af (ag 0) (av))) (ai 1))
 (aZ (kx (gA (au (ig .Gt) (aA fB (af (ag 1) (av))) (cC (.int 1)))) (bX (bN (af (cC (.str "apart")) (af (au bQ (au bQ (ag 1) (cC (.int 0))) (cC (.int 0))) (af (au bQ (au bQ (ag 1) (cC (.int 1))) (cC (.int 0))) (av)))))) (cS))
 (aZ (iU (eD nC (af (cC (.int 4)) (af (au bq (au bQ (ag 0) (cC (.int 0))) (cC (.int 1))) (av)))) (ai 2) eO)
 (bX (cC .non))))
noncomputable def jn:List D->aG->ak D:=jC 1 4 xO
theorem ql:aY ["_law_script", "_law_k"] ["_law_script", "_law_k"] (aw fS):=⟨rfl,rfl,rfl,by decide +kernel,rfl,by decide +kernel,by decide +kernel⟩
noncomputable def jv:MS:=aZ (kx (gA (au (ig .Lt) (ag 1) (aA fB (af (ag 0) (av))))) (bX (au bQ (ag 0) (ag 1))) (cS))
 (bX (cC (.int 0)))
noncomputable def eU:List D->aG->ak D:=jC 2 2 jv
theorem ou:aY ["_law_seed"] ["_law_seed"] (aw iY):=⟨rfl,rfl,rfl,by decide +kernel,rfl,by decide +kernel,by decide +kernel⟩
noncomputable def p8:MS:=aZ (bp (au tj (au bq (ag 0) (cC (.int 7919))) (cC (.int 2147483647))) (ai 0))
 (bX (au tj (au bq (au bq (au mE (ag 0) (ag 0)) (au mE (cC (.int 48271)) (ag 0))) (cC (.int 12345))) (cC (.int 2147483629))))
noncomputable def gy:List D->aG->ak D:=jC 1 1 p8
theorem ma:aY ["_law_cell", "_law_left"] ["_law_cell"] (aw gU):=⟨rfl,rfl,rfl,by decide +kernel,rfl,by decide +kernel,by decide +kernel⟩
noncomputable def m4:MS:=aZ (bp (aA qQ (af (ag 0) (af (au gC (cC (.int 0)) (ag 0)) (av)))) (ai 1))
 (bX (eF (af (ag 1) (af (aA pR (af (au (ig .GtE) (ag 1) (au GD (cC (.int 10)) (cC (.int 18)))) (av))) (af (au tj (ag 1) (cC (.int 1000003))) (av))))))
noncomputable def fO:List D->aG->ak D:=jC 1 2 m4
theorem oy:aY ["_law_pen", "_law_many", "_law_found"] ["_law_pen", "_law_many"] (aw iZ):=⟨rfl,rfl,rfl,by decide +kernel,rfl,by decide +kernel,by decide +kernel⟩
noncomputable def l9:MS:=aZ (kx (gA (au (fv false) (au bQ (ag 0) (cC (.int 1))) (cC (.int 1)))) (aZ (bp (au tj (au bQ (ag 0) (cC (.int 0))) (ag 1)) (ai 2))
 (aZ (bp (au wB (au bQ (ag 0) (cC (.int 0))) (ag 1)) (mR (ag 0) (cC (.int 0))))
 (bX (ag 2)))) (cS))
 (aZ (bp (aA gy (af (au bq (aA gy (af (au bQ (ag 0) (cC (.int 2))) (av))) (cC (.int 7))) (av))) (mR (ag 0) (cC (.int 2))))
 (bX (au tj (au wB (au bQ (ag 0) (cC (.int 2))) (cC (.int 64))) (ag 1))))
noncomputable def aJ:List D->aG->ak D:=jC 2 3 l9
theorem tG:aY ["_law_found"] ["_law_found"] (aw iz):=⟨rfl,rfl,rfl,by decide +kernel,rfl,by decide +kernel,by decide +kernel⟩
noncomputable def oE:MS:=bX (fE (sW (jy "int") (ag 0)) (wC (sW (jy "bool") (ag 0))))
noncomputable def dg:List D->aG->ak D:=jC 1 1 oE
theorem mT:aY ["_law_web", "_law_names", "_law_ties"] ["_law_web", "_law_names"] (aw d7):=⟨rfl,rfl,rfl,by decide +kernel,rfl,by decide +kernel,by decide +kernel⟩
theorem kX:(["_law_one", "_law_other", "_law_names"]:List Str).Nodup:=by decide +kernel
theorem qt:(["_law_tie"]:List Str).Nodup:=by decide +kernel
noncomputable def h8:ME:=bN (af (au bQ (ag 2) (ag 0)) (af (au bQ (ag 2) (ag 1)) (av)))
noncomputable def hZ:ME:=bN (af (aA uT (af (ag 0) (av))) (af (aA qQ (af (ag 0) (av))) (av)))
noncomputable def oH:MS:=aZ (bp (bV (fw (au bQ (ag 0) (cC (.int 1)))) [none,none,some 1] (fC 2 (bB (ai 0) (bB (ai 1) (fD)))) (bI) (h8)) (ai 2))
 (bX (bN (af (au bQ (ag 0) (cC (.int 0))) (af (aA ir (af (aA dR (af (aA ky (af (bV (fw (ag 2)) [none] (ai 0) (bI) (hZ)) (av))) (av))) (av))) (av)))))
noncomputable def gP:List D->aG->ak D:=jC 2 3 oH
theorem ko:aY ["_law_pen", "_law_many", "_law_left"] ["_law_pen", "_law_many"] (aw dC):=⟨rfl,rfl,rfl,by decide +kernel,rfl,by decide +kernel,by decide +kernel⟩
theorem ny:(["_law_place", "_law_left", "_law_pen"]:List Str).Nodup:=by decide +kernel
noncomputable def eC:ME:=F8 rq (ag 1) (af (aA aJ (af (ag 2) (af (aA fB (af (ag 1) (av))) (av)))) (av))
noncomputable def lb:MS:=aZ (bp (aA oV (af (ag 1) (av))) (ai 2))
 (bX (aA ir (af (bV (eD eX (af (ag 1) (av))) [none,some 2,some 0] (ai 0) (bI) (eC)) (av))))
noncomputable def cD:List D->aG->ak D:=jC 2 3 lb
theorem c9:aY ["_law_web", "_law_many", "_law_far_here", "_law_place", "_law_size", "_law_one", "_law_other", "_law_a", "_law_b"] ["_law_web"] (aw iI):=⟨rfl,rfl,rfl,by decide +kernel,rfl,by decide +kernel,by decide +kernel⟩
theorem tP:(["_law_place", "_law_many"]:List Str).Nodup:=by decide +kernel
noncomputable def gQ:ME:=au mE (eF (af (cC .non) (av))) (ag 1)
noncomputable def kO:MS:=kx (jG (gA (au (fv false) (au bQ (au bQ (ag 2) (ag 3)) (ag 7)) (au gC (ag 4) (cC (.int 1))))) (gA (au (m7 false) (au bQ (au bQ (ag 2) (ag 3)) (ag 8)) (cC .non)))) (bp (ag 4) (mR (au bQ (ag 2) (ag 3)) (ag 8))) (cS)
noncomputable def i8:MS:=iU (fw (eF (af (bN (af (ag 5) (af (ag 6) (av)))) (af (bN (af (ag 6) (af (ag 5) (av)))) (av))))) (fC 2 (bB (ai 7) (bB (ai 8) (fD)))) kO
noncomputable def i7:MS:=iU (fw (au bQ (ag 0) (cC (.int 1)))) (fC 2 (bB (ai 5) (bB (ai 6) (fD)))) i8
noncomputable def i6:MS:=aZ (bp (cC (.int 0)) (mR (au bQ (ag 2) (ag 3)) (ag 3)))
 (iU (eD nC (af (cC (.int 1)) (af (ag 1) (av)))) (ai 4) i7)
noncomputable def sI:MS:=aZ (bp (au bQ (ag 0) (cC (.int 0))) (ai 1))
 (aZ (bp (bV (eD eX (af (ag 1) (av))) [none,some 1] (ai 0) (bI) (gQ)) (ai 2))
 (aZ (iU (eD eX (af (ag 1) (av))) (ai 3) i6)
 (bX (ag 2))))
noncomputable def eP:List D->aG->ak D:=jC 1 9 sI
theorem fJ:aY ["_law_web", "_law_k", "_law_far_here", "_law_ties", "_law_one"] ["_law_web", "_law_k"] (aw fI):=⟨rfl,rfl,rfl,by decide +kernel,rfl,by decide +kernel,by decide +kernel⟩
theorem qo:(["_law_b", "_law_one", "_law_k", "_law_far_here"]:List Str).Nodup:=by decide +kernel
noncomputable def hV:ME:=bN (af (ag 1) (af (ag 0) (av)))
noncomputable def eT:MT:=jG (gA (au (m7 true) (au bQ (au bQ (ag 3) (ag 1)) (ag 0)) (cC .non))) (gA (au (ig .LtE) (au bQ (au bQ (ag 3) (ag 1)) (ag 0)) (ag 2)))
noncomputable def gY:MS:=bp (au bq (ag 3) (bV (eD nC (af (au bq (ag 4) (cC (.int 1))) (af (au bQ (ag 0) (cC (.int 0))) (av)))) [none,some 4,some 1,some 2] (ai 0) (eT) (hV))) (ai 3)
noncomputable def oF:MS:=aZ (bp (aA eP (af (ag 0) (av))) (ai 2))
 (aZ (bp (eF (av)) (ai 3))
 (aZ (iU (eD eX (af (au bQ (ag 0) (cC (.int 0))) (av))) (ai 4) gY)
 (bX (bN (af (au bQ (ag 0) (cC (.int 0))) (af (aA ir (af (ag 3) (av))) (av)))))))
noncomputable def dU:List D->aG->ak D:=jC 2 5 oF
theorem bh:aY ["_law_pen", "_law_way", "_law_many", "_law_every", "_law_other", "_law_ties"] ["_law_pen"] (aw br):=⟨rfl,rfl,rfl,by decide +kernel,rfl,by decide +kernel,by decide +kernel⟩
theorem mL:(["_law_one", "_law_other"]:List Str).Nodup:=by decide +kernel
theorem mK:(["_law_pair", "_law_pen"]:List Str).Nodup:=by decide +kernel
theorem mJ:(["_law_pair", "_law_pen"]:List Str).Nodup:=by decide +kernel
theorem mI:(["_law_place"]:List Str).Nodup:=by decide +kernel
theorem mH:(["_law_place"]:List Str).Nodup:=by decide +kernel
theorem mG:(["_law_place"]:List Str).Nodup:=by decide +kernel
theorem mF:(["_law_place", "_law_pen"]:List Str).Nodup:=by decide +kernel
noncomputable def jw:ME:=bN (af (ag 0) (af (ag 1) (av)))
noncomputable def dW:MS:=bp (au bq (ag 3) (bV (eD eX (af (ag 4) (av))) [none,some 4] (ai 0) (bI) (jw))) (ai 3)
noncomputable def gk:ME:=ag 0
noncomputable def gb:MT:=gA (au (fv false) (aA aJ (af (ag 1) (af (cC (.int 2)) (av)))) (cC (.int 0)))
noncomputable def gh:ME:=ag 0
noncomputable def f9:MT:=gA (au (fv false) (aA aJ (af (ag 1) (af (cC (.int 3)) (av)))) (cC (.int 0)))
noncomputable def dY:ME:=bN (af (ag 0) (af (au bq (ag 0) (cC (.int 1))) (av)))
noncomputable def gf:ME:=bN (af (ag 0) (af (au bq (ag 0) (cC (.int 1))) (av)))
noncomputable def dX:ME:=bN (af (cC (.int 0)) (af (ag 0) (av)))
noncomputable def cE:ME:=bN (af (aA aJ (af (ag 1) (af (ag 0) (av)))) (af (ag 0) (av)))
noncomputable def kv:MS:=aZ (bp (aA aJ (af (ag 0) (af (cC (.int 7)) (av)))) (ai 1))
 (aZ (bp (au bq (cC (.int 1)) (aA aJ (af (ag 0) (af (cC (.int 6)) (av))))) (ai 2))
 (aZ (bp (eF (av)) (ai 3))
 (aZ (iU (eD eX (af (ag 2) (av))) (ai 4) dW)
 (aZ (kx (gA (au (fv false) (ag 1) (cC (.int 0)))) (bp (bV (fw (ag 3)) [none,some 0] (ai 0) (gb) (gk)) (ai 5)) (kx (gA (au (fv false) (ag 1) (cC (.int 1)))) (bp (bV (fw (ag 3)) [none,some 0] (ai 0) (f9) (gh)) (ai 5)) (kx (gA (au (fv false) (ag 1) (cC (.int 2)))) (bp (au bq (bV (eD eX (af (au gC (ag 2) (cC (.int 1))) (av))) [none] (ai 0) (bI) (dY)) (au mE (eF (af (bN (af (cC (.int 0)) (af (au gC (ag 2) (cC (.int 1))) (av)))) (av))) (aA pR (af (au (ig .Gt) (ag 2) (cC (.int 2))) (av))))) (ai 5)) (kx (gA (au (fv false) (ag 1) (cC (.int 3)))) (bp (bV (eD eX (af (au gC (ag 2) (cC (.int 1))) (av))) [none] (ai 0) (bI) (gf)) (ai 5)) (kx (gA (au (fv false) (ag 1) (cC (.int 4)))) (bp (bV (eD nC (af (cC (.int 1)) (af (ag 2) (av)))) [none] (ai 0) (bI) (dX)) (ai 5)) (bp (bV (eD nC (af (cC (.int 1)) (af (ag 2) (av)))) [none,some 0] (ai 0) (bI) (cE)) (ai 5)))))))
 (bX (aA gP (af (bN (af (ag 2) (af (aA ir (af (ag 5) (av))) (av)))) (af (aA cD (af (ag 0) (af (ag 2) (av)))) (av)))))))))
noncomputable def cj:List D->aG->ak D:=jC 1 6 kv
theorem cR:aY ["_law_pen", "_law_web", "_law_way", "_law_spot", "_law_one", "_law_pair"] ["_law_pen"] (aw gT):=⟨rfl,rfl,rfl,by decide +kernel,rfl,by decide +kernel,by decide +kernel⟩
noncomputable def iB:MS:=aZ (bp (aA cj (af (ag 0) (av))) (ai 1))
 (aZ (bp (aA aJ (af (ag 0) (af (cC (.int 6)) (av)))) (ai 2))
 (aZ (kx (gA (au (ig .Lt) (ag 2) (cC (.int 3)))) (bp (aA dU (af (ag 1) (af (cC (.int 2)) (av)))) (ai 1)) (cS))
 (aZ (kx (jG (gA (au (fv false) (ag 2) (cC (.int 0)))) (gA (au (fv true) (au bQ (ag 1) (cC (.int 1))) (bN (av))))) (aZ (bp (aA aJ (af (ag 0) (af (aA fB (af (au bQ (ag 1) (cC (.int 1))) (av))) (av)))) (ai 3))
 (bX (bN (af (au bQ (ag 1) (cC (.int 0))) (af (au bq (qx (au bQ (ag 1) (cC (.int 1))) (qM) (dZ (ag 3))) (qx (au bQ (ag 1) (cC (.int 1))) (dZ (au bq (ag 3) (cC (.int 1)))) (qM))) (av)))))) (cS))
 (aZ (kx (jG (gA (au (fv false) (ag 2) (cC (.int 1)))) (gA (au (ig .Gt) (au bQ (ag 1) (cC (.int 0))) (cC (.int 1))))) (aZ (bp (aA aJ (af (ag 0) (af (au bQ (ag 1) (cC (.int 0))) (av)))) (ai 4))
 (aZ (bp (aA ir (af (aA dR (af (bN (af (ag 4) (af (au tj (au bq (au bq (ag 4) (cC (.int 1))) (aA aJ (af (ag 0) (af (au gC (au bQ (ag 1) (cC (.int 0))) (cC (.int 1))) (av))))) (au bQ (ag 1) (cC (.int 0)))) (av)))) (av))) (av))) (ai 5))
 (bX (bN (af (au bQ (ag 1) (cC (.int 0))) (af (aA ir (af (aA dR (af (aA ky (af (au bq (au bQ (ag 1) (cC (.int 1))) (bN (af (ag 5) (av)))) (av))) (av))) (av))) (av))))))) (cS))
 (bX (ag 1))))))
noncomputable def fN:List D->aG->ak D:=jC 1 6 iB
theorem gN:aY ["_law_web", "_law_ring", "_law_size", "_law_at", "_law_k", "_law_near"] ["_law_web", "_law_ring"] (aw i3):=⟨rfl,rfl,rfl,by decide +kernel,rfl,by decide +kernel,by decide +kernel⟩
noncomputable def fM:MS:=aZ (bp (au (qh false) (bN (af (aA uT (af (au bQ (ag 1) (ag 3)) (af (au bQ (ag 1) (ag 4)) (av)))) (af (aA qQ (af (au bQ (ag 1) (ag 3)) (af (au bQ (ag 1) (ag 4)) (av)))) (av)))) (au bQ (ag 0) (cC (.int 1)))) (ai 5))
 (kx (gA (au (fv true) (ag 5) (D1 (au (fv false) (au gC (ag 3) (ag 4)) (cC (.int 1))) (au (fv false) (au gC (ag 3) (ag 4)) (au gC (ag 2) (cC (.int 1))))))) (bX (cC (.bl false))) (cS))
noncomputable def d8:MS:=iU (eD eX (af (ag 3) (av))) (ai 4) fM
noncomputable def qd:MS:=aZ (bp (aA fB (af (ag 1) (av))) (ai 2))
 (aZ (iU (eD eX (af (ag 2) (av))) (ai 3) d8)
 (bX (au (ig .Gt) (ag 2) (cC (.int 3)))))
noncomputable def df:List D->aG->ak D:=jC 2 6 qd
theorem ox:aY ["_law_web", "_law_far_here", "_law_thing", "_law_ring"] ["_law_web", "_law_far_here", "_law_thing"] (aw fm):=⟨rfl,rfl,rfl,by decide +kernel,rfl,by decide +kernel,by decide +kernel⟩
theorem sV:(["_law_one", "_law_web"]:List Str).Nodup:=by decide +kernel
theorem sU:(["_law_one", "_law_web"]:List Str).Nodup:=by decide +kernel
noncomputable def j5:ME:=fE (aA dg (af (ag 0) (av))) (kD (ig .LtE) (ig .Lt) (cC (.int 0)) (ag 0) (au bQ (ag 1) (cC (.int 0))))
noncomputable def mX:ME:=fE (aA dg (af (ag 0) (av))) (kD (ig .LtE) (ig .Lt) (cC (.int 0)) (ag 0) (au bQ (ag 1) (cC (.int 0))))
noncomputable def p9:MS:=aZ (kx (oO (jh (jz (sW (jy "tuple") (ag 2)))) (oO (gA (au (ig .Lt) (aA fB (af (ag 2) (av))) (cC (.int 2)))) (jh (jz (sW (jy "str") (au bQ (ag 2) (cC (.int 0)))))))) (bX (cC (.bl false))) (cS))
 (aZ (kx (jG (gA (au (fv false) (au bQ (ag 2) (cC (.int 0))) (cC (.str "ring")))) (gA (au (fv false) (aA fB (af (ag 2) (av))) (cC (.int 2))))) (aZ (bp (au bQ (ag 2) (cC (.int 1))) (ai 3))
 (aZ (kx (oO (jh (jz (sW (jy "tuple") (ag 3)))) (jh (jz (aA tm (af (bV (fw (ag 3)) [none,some 0] (ai 0) (bI) (j5)) (av)))))) (bX (cC (.bl false))) (cS))
 (bX (fE (au (fv false) (aA fB (af (aA ky (af (ag 3) (av))) (av))) (aA fB (af (ag 3) (av)))) (aA df (af (ag 0) (af (ag 3) (av)))))))) (cS))
 (aZ (kx (oO (gA (au (fv true) (au bQ (ag 2) (cC (.int 0))) (cC (.str "apart")))) (gA (au (fv true) (aA fB (af (ag 2) (av))) (cC (.int 3))))) (bX (cC (.bl false))) (cS))
 (aZ (kx (jh (jz (aA tm (af (bV (fw (qx (ag 2) (dZ (cC (.int 1))) (qM))) [none,some 0] (ai 0) (bI) (mX)) (av))))) (bX (cC (.bl false))) (cS))
 (bX (au (m7 false) (au bQ (au bQ (ag 1) (au bQ (ag 2) (cC (.int 1)))) (au bQ (ag 2) (cC (.int 2)))) (cC .non))))))
noncomputable def eS:List D->aG->ak D:=jC 3 4 p9
theorem ck:aY ["_law_web", "_law_found", "_law_ways", "_law_turn", "_law_longer", "_law_way", "_law_place"] ["_law_web"] (aw d6):=⟨rfl,rfl,rfl,by decide +kernel,rfl,by decide +kernel,by decide +kernel⟩
theorem qq:(["_law_place"]:List Str).Nodup:=by decide +kernel
theorem qp:(["_law_way", "_law_web"]:List Str).Nodup:=by decide +kernel
noncomputable def ju:ME:=bN (af (ag 0) (av))
noncomputable def hG:MS:=kx (jG (gA (au (qh true) (ag 6) (ag 5))) (gA (au (qh false) (bN (af (aA uT (af (au bQ (ag 5) (sW tf (cC (.int 1)))) (af (ag 6) (av)))) (af (aA qQ (af (au bQ (ag 5) (sW tf (cC (.int 1)))) (af (ag 6) (av)))) (av)))) (au bQ (ag 0) (cC (.int 1)))))) (nI (F8 fj (ag 4) (af (au bq (ag 5) (bN (af (ag 6) (av)))) (av)))) (cS)
noncomputable def g9:MS:=iU (eD eX (af (au bQ (ag 0) (cC (.int 0))) (av))) (ai 6) hG
noncomputable def hX:ME:=ag 0
noncomputable def gX:MT:=jz (aA df (af (ag 1) (af (ag 0) (av))))
noncomputable def g6:MS:=aZ (bp (eF (av)) (ai 4))
 (aZ (iU (fw (ag 2)) (ai 5) g9)
 (aZ (bp (ag 4) (ai 2))
 (bp (au bq (ag 1) (bV (fw (ag 2)) [none,some 0] (ai 0) (gX) (hX))) (ai 1))))
noncomputable def oG:MS:=aZ (bp (eF (av)) (ai 1))
 (aZ (bp (bV (eD eX (af (au bQ (ag 0) (cC (.int 0))) (av))) [none] (ai 0) (bI) (ju)) (ai 2))
 (aZ (iU (eD eX (af (au gC (au bQ (ag 0) (cC (.int 0))) (cC (.int 1))) (av))) (ai 3) g6)
 (bX (ag 1))))
noncomputable def gO:List D->aG->ak D:=jC 1 7 oG
theorem cH:aY ["_law_bar", "_law_pen", "_law_odd", "_law_word", "_law_ring", "_law_spot", "_law_some"] ["_law_bar", "_law_pen"] (aw i0):=⟨rfl,rfl,rfl,by decide +kernel,rfl,by decide +kernel,by decide +kernel⟩
noncomputable def qc:MS:=aZ (bp (au bQ (eF (af (cC (.int 0)) (af (cC (.int 1)) (af (cC (.int 6)) (af (sW tf (cC (.int 1))) (af (cC (.bl true)) (af (cC .non) (af (cC (.str "0")) (af (bN (af (cC (.int 0)) (av))) (av)))))))))) (aA aJ (af (ag 1) (af (cC (.int 8)) (av))))) (ai 2))
 (aZ (bp (au bQ (eF (af (cC (.str "ring")) (af (cC (.str "apart")) (af (cC (.str "rings")) (af (cC (.str "")) (af (cC (.int 0)) (af (cC .non) (av)))))))) (aA aJ (af (ag 1) (af (cC (.int 6)) (av))))) (ai 3))
 (aZ (kx (gA (au (fv false) (au bQ (ag 0) (cC (.int 0))) (cC (.str "ring")))) (aZ (bp (au bQ (ag 0) (cC (.int 1))) (ai 4))
 (aZ (bp (aA aJ (af (ag 1) (af (au bq (aA fB (af (ag 4) (av))) (cC (.int 1))) (av)))) (ai 5))
 (aZ (bp (eF (af (bN (af (cC (.str "ring")) (af (au bq (au bq (qx (ag 4) (qM) (dZ (ag 5))) (bN (af (ag 2) (av)))) (qx (ag 4) (dZ (au bq (ag 5) (cC (.int 1)))) (qM))) (av)))) (af (bN (af (cC (.str "ring")) (af (au bq (au bq (qx (ag 4) (qM) (dZ (ag 5))) (bN (af (ag 2) (av)))) (qx (ag 4) (dZ (ag 5)) (qM))) (av)))) (av)))) (ai 6))
 (aZ (bp (au bq (ag 6) (eF (af (bN (af (cC (.str "ring")) (af (au bq (qx (ag 4) (qM) (dZ (ag 5))) (qx (ag 4) (dZ (au bq (ag 5) (cC (.int 1)))) (qM))) (av)))) (af (bN (af (cC (.str "ring")) (af (au bq (qx (ag 4) (dZ (cC (.int 1))) (qM)) (qx (ag 4) (qM) (dZ (cC (.int 1))))) (av)))) (af (bN (af (cC (.str "ring")) (af (aA nN (af (ag 4) (av))) (av)))) (av)))))) (ai 6))
 (bX (au bQ (au bq (ag 6) (eF (af (bN (af (ag 3) (af (ag 4) (av)))) (af (bN (af (cC (.str "ring")) (af (ag 4) (af (cC (.int 0)) (av))))) (af (bN (af (cC (.str "ring")) (av))) (af (aA nN (af (ag 0) (av))) (af (ag 4) (av)))))))) (aA aJ (af (ag 1) (af (cC (.int 10)) (av)))))))))) (cS))
 (aZ (bp (au bq (cC (.int 1)) (aA aJ (af (ag 1) (af (cC (.int 2)) (av))))) (ai 5))
 (aZ (bp (eF (af (au bq (au bq (qx (ag 0) (qM) (dZ (ag 5))) (bN (af (ag 2) (av)))) (qx (ag 0) (dZ (au bq (ag 5) (cC (.int 1)))) (qM))) (af (qx (ag 0) (qM) (dZ (cC (.int 2)))) (af (au bq (ag 0) (bN (af (ag 2) (av)))) (af (au bq (bN (af (ag 3) (av))) (qx (ag 0) (dZ (cC (.int 1))) (qM))) (af (aA nN (af (ag 0) (av))) (af (qx (ag 0) (dZ (cC (.int 1))) (qM)) (av)))))))) (ai 6))
 (bX (au bQ (au bq (ag 6) (eF (af (bN (af (cC (.str "apart")) (af (au bQ (ag 0) (cC (.int 2))) (af (au bQ (ag 0) (cC (.int 1))) (av))))) (af (bN (af (cC (.str "apart")) (af (qx (ag 0) (dZ (cC (.int 1))) (qM)) (av)))) (af (cC .non) (af (bN (av)) (av))))))) (aA aJ (af (ag 1) (af (cC (.int 10)) (av))))))))))
noncomputable def cJ:List D->aG->ak D:=jC 2 7 qc
theorem iq:aY ["_law_script", "_law_square", "_law_six", "_law_cell", "_law_pen", "_law_web", "_law_far_here", "_law_rings_here", "_law_bar", "_law_things", "_law_thing", "_law_found"] ["_law_script"] (aw kz):=⟨rfl,rfl,rfl,by decide +kernel,rfl,by decide +kernel,by decide +kernel⟩
theorem Do:(["_law_ring"]:List Str).Nodup:=by decide +kernel
theorem Dn:(["_law_one", "_law_pen"]:List Str).Nodup:=by decide +kernel
noncomputable def qK:ME:=bN (af (cC (.str "ring")) (af (ag 0) (av)))
noncomputable def qJ:ME:=aA cJ (af (ag 0) (af (ag 1) (av)))
noncomputable def nY:MS:=aZ (bp (aA jt (af (ag 5) (af (ag 10) (av)))) (ai 11))
 (kx (oO (jh (jz (sW (jy "bool") (ag 11)))) (gA (au (fv true) (ag 11) (aA eS (af (ag 5) (af (ag 6) (af (ag 10) (av)))))))) (bX (cC (.bl false))) (cS))
noncomputable def mr:MS:=aZ (bp (aA eP (af (ag 5) (av))) (ai 6))
 (aZ (bp (aA gO (af (ag 5) (av))) (ai 7))
 (aZ (bp (aA jn (af (ag 5) (av))) (ai 8))
 (aZ (kx (oO (gA (au (fv true) (au (m7 false) (ag 8) (cC .non)) (fE (au (fv false) (ag 7) (eF (av))) (au (qh true) (cC .non) (au bQ (ag 6) (cC (.int 0))))))) (gA (au (fv true) (aA jn (af (ag 5) (av))) (ag 8)))) (bX (cC (.bl false))) (cS))
 (aZ (kx (jG (gA (au (m7 true) (ag 8) (cC .non))) (jh (jz (aA eS (af (ag 5) (af (ag 6) (af (ag 8) (av)))))))) (bX (cC (.bl false))) (cS))
 (aZ (bp (eF (af (bN (af (cC (.str "apart")) (af (aA aJ (af (ag 4) (af (au bQ (ag 5) (cC (.int 0))) (av)))) (af (aA aJ (af (ag 4) (af (au bQ (ag 5) (cC (.int 0))) (av)))) (av))))) (af (bN (af (cC (.str "apart")) (af (cC (.int 0)) (af (au gC (au bQ (ag 5) (cC (.int 0))) (cC (.int 1))) (av))))) (av)))) (ai 9))
 (aZ (nI (F8 fj (ag 9) (af (bN (af (cC (.str "ring")) (af (qx (aA cD (af (ag 4) (af (au bQ (ag 5) (cC (.int 0))) (av)))) (qM) (dZ (cC (.int 4)))) (av)))) (av))))
 (aZ (bp (au bq (ag 9) (bV (fw (qx (ag 7) (qM) (dZ (cC (.int 2))))) [none] (ai 0) (bI) (qK))) (ai 9))
 (iU (fw (au bq (au bq (ag 9) (bV (fw (ag 9)) [none,some 4] (ai 0) (bI) (qJ))) (eF (af (cC .non) (af (cC (.int 0)) (af (cC (.str "ring")) (av))))))) (ai 10) nY))))))))
noncomputable def qI:MS:=aZ (bp (aA fO (af (ag 3) (av))) (ai 4))
 (iU (fw (eF (af (aA fN (af (ag 4) (av))) (af (aA cj (af (ag 4) (av))) (af (au bQ (eF (af (ag 1) (af (ag 2) (av)))) (aA aJ (af (ag 4) (af (cC (.int 2)) (av))))) (av)))))) (ai 5) mr)
noncomputable def Gu:MS:=aZ (bp (bN (af (cC (.int 4)) (af (bN (af (bN (af (cC (.int 0)) (af (cC (.int 1)) (av)))) (af (bN (af (cC (.int 0)) (af (cC (.int 3)) (av)))) (af (bN (af (cC (.int 1)) (af (cC (.int 2)) (av)))) (af (bN (af (cC (.int 2)) (af (cC (.int 3)) (av)))) (av)))))) (av)))) (ai 1))
 (aZ (bp (bN (af (cC (.int 6)) (af (bN (af (bN (af (cC (.int 0)) (af (cC (.int 1)) (av)))) (af (bN (af (cC (.int 0)) (af (cC (.int 5)) (av)))) (af (bN (af (cC (.int 1)) (af (cC (.int 2)) (av)))) (af (bN (af (cC (.int 2)) (af (cC (.int 3)) (av)))) (af (bN (af (cC (.int 3)) (af (cC (.int 4)) (av)))) (af (bN (af (cC (.int 4)) (af (cC (.int 5)) (av)))) (av)))))))) (av)))) (ai 2))
 (aZ (iU (fw (au bq (eF (af (aA eU (af (ag 0) (af (cC (.int 0)) (av)))) (av))) (qx (ag 0) (dZ (cC (.int 1))) (dZ (cC (.int 6)))))) (ai 3) qI)
 (bX (cC (.bl true)))))
noncomputable def wH:List D->aG->ak D:=jC 1 12 Gu
theorem x8 (nm:Nm mg) {f:Addr}{fd:FuncData} (F:iS K "is_whole" "is_whole" jM f fd) (hm:mg "is_whole" = some (.ref f)):dj P w K mg base (di K w) 1 "is_whole" 1 jr:=
 cx F xU rfl hm (F.b1 (by rfl) fun _ _ _ _ _ _ _=>by rfl) fun cdv A outer s H E hr=>
 aP (bE (jD (mP (T:="int") (by decide) Cp (by decide) (by decide) nm.isinstance nm.int (aB 0)) (ka (Gb (mP (T:="bool") (by decide) vw (by decide) (by decide) nm.isinstance nm.bool (aB 0))))))
theorem pF (nm:Nm mg) {f:Addr}{fd:FuncData} (F:iS K "is_whole_from" "is_whole_from" fq f fd) (hm:mg "is_whole_from" = some (.ref f)) (d_is_whole:dj P w K mg base (di K w) 1 "is_whole" 1 jr):dj P w K mg base (di K w) 2 "is_whole_from" 3 d4:=
 cx F pE rfl hm (F.b3 (by rfl) fun _ _ _ _ _ _ _ _ _=>by rfl) fun cdv A outer s H E hr=>
 aP (bE (jD (aN d_is_whole (hr.mono (by decide)) (aE (aB 0) (aS))) (ka (BJ (iE (op:=.LtE) hr.units) (iE (op:=.LtE) hr.units) (aB 1) (aB 0) (aB 2)))))
theorem x9 (nm:Nm mg) {f:Addr}{fd:FuncData} (F:iS K "is_place" "is_place" jN f fd) (hm:mg "is_place" = some (.ref f)) (d_is_whole_from:dj P w K mg base (di K w) 2 "is_whole_from" 3 d4):dj P w K mg base (di K w) 3 "is_place" 2 f7:=
 cx F xV rfl hm (F.b2 (by rfl) fun _ _ _ _ _ _ _ _=>by rfl) fun cdv A outer s H E hr=>
 aP (bE (aN d_is_whole_from (hr.mono (by decide)) (aE (aB 1) (aE (bb) (aE (jE (aB 0) (bb)) (aS))))))
theorem vM (nm:Nm mg) {f:Addr}{fd:FuncData} (F:iS K "is_places" "is_places" gJ f fd) (hm:mg "is_places" = some (.ref f)) (d_is_place:dj P w K mg base (di K w) 3 "is_place" 2 f7):dj P w K mg base (di K w) 4 "is_places" 2 cw:=
 cx F vI rfl hm (F.b2 (by rfl) fun _ _ _ _ _ _ _ _=>by rfl) fun cdv A outer s H E hr=>
 aP (bE (jD (mP (T:="tuple") (by decide) oi (by decide) (by decide) nm.isinstance nm.tuple (aB 1)) (ka (bz zz nm.all (aE (eA (bK (N:=["many", "thing"]) (sc:=aw gJ) (Nc:=["place", "many"]) (cap:=[none,some 0]) rfl rfl (by decide +kernel)) (qf (aB 1)) (fun _ _ _ _ _=>h9 0 sS) (fun _ _ _ _ _=>gD) (fun _ _ _ _ _=>aN d_is_place (hr.mono (by decide)) (aE (aB 1) (aE (aB 0) (aS))))) (aS))))))
theorem vN (nm:Nm mg) {f:Addr}{fd:FuncData} (F:iS K "is_headed" "is_headed" iX f fd) (hm:mg "is_headed" = some (.ref f)):dj P w K mg base (di K w) 1 "is_headed" 3 gx:=
 cx F vJ rfl hm (F.b3 (by rfl) fun _ _ _ _ _ _ _ _ _=>by rfl) fun cdv A outer s H E hr=>
 aP (bE (jD (mP (T:="tuple") (by decide) oi (by decide) (by decide) nm.isinstance nm.tuple (aB 0)) (jD (iC (jx hr.units) (bz il nm.len (aE (aB 0) (aS))) (aB 2)) (ka (iC (jx hr.units) (a8 (aB 0) (bb)) (aB 1))))))
theorem sP (nm:Nm mg) {f:Addr}{fd:FuncData} (F:iS K "check_place" "check_place" gS f fd) (hm:mg "check_place" = some (.ref f)) (d_is_place:dj P w K mg base (di K w) 3 "is_place" 2 f7):dj P w K mg base (di K w) 4 "check_place" 2 cL:=
 cx F sM rfl hm (F.b2 (by rfl) fun _ _ _ _ _ _ _ _=>by rfl) fun cdv A outer s H E hr=>
 aP (ic (nF (Ah (aN d_is_place (hr.mono (by decide)) (aE (a8 (aB 0) (bb)) (aE (aB 1) (aS)))))) (aP (D7)) (eG))
theorem yZ (nm:Nm mg) {f:Addr}{fd:FuncData} (F:iS K "is_tied" "is_tied" kI f fd) (hm:mg "is_tied" = some (.ref f)):dj P w K mg base (di K w) 1 "is_tied" 3 kn:=
 cx F yR rfl hm (F.b3 (by rfl) fun _ _ _ _ _ _ _ _ _=>by rfl) fun cdv A outer s H E hr=>
 aP (bE (iC (v9 hr.units) (bj (aE (bz zy nm.min (aE (aB 1) (aE (aB 2) (aS)))) (aE (bz wF nm.max (aE (aB 1) (aE (aB 2) (aS)))) (aS)))) (a8 (aB 0) (bb))))
theorem sN (nm:Nm mg) {f:Addr}{fd:FuncData} (F:iS K "next_places" "next_places" dB f fd) (hm:mg "next_places" = some (.ref f)):dj P w K mg base (di K w) 1 "next_places" 2 dh:=
 cx F sJ rfl hm (F.b2 (by rfl) fun _ _ _ _ _ _ _ _=>by rfl) fun cdv A outer s H E hr=>
 aP (bE (bR (eA (bK (N:=["ties", "front"]) (sc:=aw dB) (Nc:=["a", "b", "front"]) (cap:=[none,none,some 1]) rfl rfl (by decide +kernel)) (qf (aB 0)) (fun _ _ _ _ _=>pO (fA (h9 0 ku) (fA (h9 1 ku) (pP)))) (fun _ _ _ _ _=>lx (bS (v9 hr.units) (aB 0) (aB 2))) (fun _ _ _ _ _=>aB 1)) (eA (bK (N:=["ties", "front"]) (sc:=aw dB) (Nc:=["a", "b", "front"]) (cap:=[none,none,some 1]) rfl rfl (by decide +kernel)) (qf (aB 0)) (fun _ _ _ _ _=>pO (fA (h9 0 kr) (fA (h9 1 kr) (pP)))) (fun _ _ _ _ _=>lx (bS (v9 hr.units) (aB 1) (aB 2))) (fun _ _ _ _ _=>aB 0))))
theorem vO (nm:Nm mg) {f:Addr}{fd:FuncData} (F:iS K "fars_from" "fars_from" gK f fd) (hm:mg "fars_from" = some (.ref f)) (d_next_places:dj P w K mg base (di K w) 1 "next_places" 2 dh):dj P w K mg base (di K w) 2 "fars_from" 2 eQ:=
 cx F cG rfl hm (F.b2 (by rfl) fun _ _ _ _ _ _ _ _=>by rfl) fun cdv A outer s H E hr=>
 aH (qU (aB 0) (pO (fA (h9 2 cG.nd) (fA (h9 3 cG.nd) (pP)))))
 (aH (bF 4 cG.nd (wq (dD (aE (yn) (aS))) (aB 2)))
 (aH (qU (bb) (tZ (aB 4) (aB 1)))
 (aH (bF 5 cG.nd (bb))
 (aH (bF 6 cG.nd (dD (aE (aB 1) (aS))))
 (aH (EF 100 PZ (Ah (aB 6)) (aH (JX 5 cG.nd (bb))
 (aH (jU 6 cG.nd (bK (N:=["web", "start", "many", "ties", "fars", "far", "front", "place"]) (sc:=aw gK) (Nc:=["place", "fars"]) (cap:=[none,some 4]) rfl rfl (by decide +kernel)) (qf (aN d_next_places (hr.mono (by decide)) (aE (aB 3) (aE (aB 6) (aS))))) (fun _ _ _ _ _=>h9 0 sT) (fun _ _ _ _ _=>lx (bS (wu) (a8 (aB 1) (aB 0)) (yn))) (fun _ _ _ _ _=>aB 0))
 (aP (gE PZ (qf (aB 6)) (h9 7 cG.nd) (aP (qU (aB 5) (tZ (aB 4) (aB 7)))))))))
 (aP (bE (aB 4))))))))
theorem AR (nm:Nm mg) {f:Addr}{fd:FuncData} (F:iS K "far_of" "far_of" mv f fd) (hm:mg "far_of" = some (.ref f)) (d_check_place:dj P w K mg base (di K w) 4 "check_place" 2 cL) (d_fars_from:dj P w K mg base (di K w) 2 "fars_from" 2 eQ):dj P w K mg base (di K w) 5 "far_of" 3 lS:=
 cx F AH rfl hm (F.b3 (by rfl) fun _ _ _ _ _ _ _ _ _=>by rfl) fun cdv A outer s H E hr=>
 aH (oR (aN d_check_place (hr.mono (by decide)) (aE (aB 0) (aE (aB 1) (aS)))))
 (aH (oR (aN d_check_place (hr.mono (by decide)) (aE (aB 0) (aE (aB 2) (aS)))))
 (aP (bE (a8 (aN d_fars_from (hr.mono (by decide)) (aE (aB 0) (aE (aB 1) (aS)))) (aB 2)))))
theorem yY (nm:Nm mg) {f:Addr}{fd:FuncData} (F:iS K "star_of" "star_of" kH f fd) (hm:mg "star_of" = some (.ref f)) (d_check_place:dj P w K mg base (di K w) 4 "check_place" 2 cL) (d_next_places:dj P w K mg base (di K w) 1 "next_places" 2 dh):dj P w K mg base (di K w) 5 "star_of" 2 km:=
 cx F yQ rfl hm (F.b2 (by rfl) fun _ _ _ _ _ _ _ _=>by rfl) fun cdv A outer s H E hr=>
 aH (oR (aN d_check_place (hr.mono (by decide)) (aE (aB 0) (aE (aB 1) (aS)))))
 (aP (bE (bz jL nm.tuple (aE (bz oj nm.sorted (aE (bz (wD hr.units) nm.set (aE (bR (dD (aE (aB 1) (aS))) (aN d_next_places (hr.mono (by decide)) (aE (a8 (aB 0) (bb)) (aE (dD (aE (aB 1) (aS))) (aS))))) (aS))) (aS))) (aS)))))
theorem vL (nm:Nm mg) {f:Addr}{fd:FuncData} (F:iS K "pieces_of" "pieces_of" gI f fd) (hm:mg "pieces_of" = some (.ref f)) (d_fars_from:dj P w K mg base (di K w) 2 "fars_from" 2 eQ):dj P w K mg base (di K w) 3 "pieces_of" 1 iJ:=
 cx F gM rfl hm (F.b1 (by rfl) fun _ _ _ _ _ _ _=>by rfl) fun cdv A outer s H E hr=>
 aH (bF 1 gM.nd (dD (aS)))
 (aH (gE PZ (lu nm.range (aE (a8 (aB 0) (bb)) (aS))) (h9 2 gM.nd) (aH (bF 3 gM.nd (aN d_fars_from (hr.mono (by decide)) (aE (aB 0) (aE (aB 2) (aS)))))
 (aH (bF 4 gM.nd (bz jL nm.tuple (aE (eA (bK (N:=["web", "pieces", "start", "fars", "piece"]) (sc:=aw gI) (Nc:=["place", "far"]) (cap:=[none,none]) rfl rfl (by decide +kernel)) (JA nm.enumerate (aE (aB 3) (aS))) (fun _ _ _ _ _=>pO (fA (h9 0 mh) (fA (h9 1 mh) (pP)))) (fun _ _ _ _ _=>lx (bS (yA) (aB 1) (yn))) (fun _ _ _ _ _=>aB 0)) (aS))))
 (aP (ic (bS (jx hr.units) (a8 (aB 4) (bb)) (aB 2)) (aP (oR (BK (aB 1) (aE (aB 4) (aS))))) (eG))))))
 (aP (bE (aB 1))))
theorem vK (nm:Nm mg) {f:Addr}{fd:FuncData} (F:iS K "ring_good" "ring_good" gH f fd) (hm:mg "ring_good" = some (.ref f)) (c_LEAST_RING:∃ t,mg "LEAST_RING" = some (.int 3 t)) (d_is_places:dj P w K mg base (di K w) 4 "is_places" 2 cw) (d_is_tied:dj P w K mg base (di K w) 1 "is_tied" 3 kn):dj P w K mg base (di K w) 5 "ring_good" 2 dF:=
 cx F vH rfl hm (F.b2 (by rfl) fun _ _ _ _ _ _ _ _=>by rfl) fun cdv A outer s H E hr=>
 aH (ic (nB (v5 (nF (Ah (aN d_is_places (hr.mono (by decide)) (aE (a8 (aB 0) (bb)) (aE (aB 1) (aS)))))) (v5 (bS (iE (op:=.Lt) hr.units) (bz il nm.len (aE (aB 1) (aS))) (GA c_LEAST_RING)) (tX (bS (v8 hr.units) (bz il nm.len (aE (bz (wD hr.units) nm.set (aE (aB 1) (aS))) (aS))) (bz il nm.len (aE (aB 1) (aS)))))))) (aP (bE (Br))) (eG))
 (aP (bE (bz zz nm.all (aE (eA (bK (N:=["web", "thing"]) (sc:=aw gH) (Nc:=["at", "place", "web", "thing"]) (cap:=[none,none,some 0,some 1]) rfl rfl (by decide +kernel)) (JA nm.enumerate (aE (aB 1) (aS))) (fun _ _ _ _ _=>pO (fA (h9 0 mf) (fA (h9 1 mf) (pP)))) (fun _ _ _ _ _=>gD) (fun _ _ _ _ _=>aN d_is_tied (hr.mono (by decide)) (aE (aB 2) (aE (a8 (aB 3) (jE (aB 0) (bb))) (aE (aB 1) (aS)))))) (aS)))))
theorem xZ (nm:Nm mg) {f:Addr}{fd:FuncData} (F:iS K "rings_of" "rings_of" dE f fd) (hm:mg "rings_of" = some (.ref f)) (d_star_of:dj P w K mg base (di K w) 5 "star_of" 2 km):dj P w K mg base (di K w) 6 "rings_of" 2 jq:=
 cx F gv rfl hm (F.b2 (by rfl) fun _ _ _ _ _ _ _ _=>by rfl) fun cdv A outer s H E hr=>
 aH (bF 2 gv.nd (a8 (aB 0) (bb)))
 (aH (bF 3 gv.nd (eA (bK (N:=["web", "size", "many", "stars", "ways", "step"]) (sc:=aw dE) (Nc:=["place", "web"]) (cap:=[none,some 0]) rfl rfl (by decide +kernel)) (lu nm.range (aE (aB 2) (aS))) (fun _ _ _ _ _=>h9 0 tO) (fun _ _ _ _ _=>gD) (fun _ _ _ _ _=>aN d_star_of (hr.mono (by decide)) (aE (aB 1) (aE (aB 0) (aS))))))
 (aH (jU 4 gv.nd (bK (N:=["web", "size", "many", "stars", "ways", "step"]) (sc:=aw dE) (Nc:=["place"]) (cap:=[none]) rfl rfl (by decide +kernel)) (lu nm.range (aE (aB 2) (aS))) (fun _ _ _ _ _=>h9 0 tN) (fun _ _ _ _ _=>gD) (fun _ _ _ _ _=>bj (aE (aB 0) (aS))))
 (aH (gE PZ (lu nm.range (aE (jE (aB 1) (bb)) (aS))) (h9 5 gv.nd) (aP (EG 4 gv.nd (bK (N:=["web", "size", "many", "stars", "ways", "step"]) (sc:=aw dE) (Nc:=["way", "place", "stars"]) (cap:=[none,none,some 3]) rfl rfl (by decide +kernel)) (qf (aB 4)) (fun _ _ _ _ _=>h9 0 mU) (fun _ _ _ _ _=>gD) (fun _ _ _ _ _ _=>Lj rfl (qf (a8 (aB 2) (a8 (aB 0) (wo (bb))))) (h9 1 mU) (lx (bS (BZ hr.units) (aB 1) (aB 0))) (Lk rfl (bR (aB 0) (bj (aE (aB 1) (aS)))))))))
 (aP (bE (eA (bK (N:=["web", "size", "many", "stars", "ways", "step"]) (sc:=aw dE) (Nc:=["way", "stars"]) (cap:=[none,some 3]) rfl rfl (by decide +kernel)) (qf (aB 4)) (fun _ _ _ _ _=>h9 0 tM) (fun _ _ _ _ _=>lx (bS (v9 hr.units) (a8 (aB 0) (bb)) (a8 (aB 1) (a8 (aB 0) (wo (bb)))))) (fun _ _ _ _ _=>aB 0)))))))
theorem ya (nm:Nm mg) {f:Addr}{fd:FuncData} (F:iS K "is_apart" "is_apart" jO f fd) (hm:mg "is_apart" = some (.ref f)) (d_is_places:dj P w K mg base (di K w) 4 "is_places" 2 cw) (d_far_of:dj P w K mg base (di K w) 5 "far_of" 3 lS):dj P w K mg base (di K w) 6 "is_apart" 2 js:=
 cx F xW rfl hm (F.b2 (by rfl) fun _ _ _ _ _ _ _ _=>by rfl) fun cdv A outer s H E hr=>
 aP (bE (jD (aN d_is_places (hr.mono (by decide)) (aE (a8 (aB 0) (bb)) (aE (aB 1) (aS)))) (ka (iC (wu) (aN d_far_of (hr.mono (by decide)) (aE (aB 0) (aE (a8 (aB 1) (bb)) (aE (a8 (aB 1) (bb)) (aS))))) (yn)))))
theorem y0 (nm:Nm mg) {f:Addr}{fd:FuncData} (F:iS K "is_bare" "is_bare" jo f fd) (hm:mg "is_bare" = some (.ref f)):dj P w K mg base (di K w) 1 "is_bare" 2 gu:=
 cx F yS rfl hm (F.b2 (by rfl) fun _ _ _ _ _ _ _ _=>by rfl) fun cdv A outer s H E hr=>
 aP (bE (iC (jx hr.units) (bz il nm.len (aE (eA (bK (N:=["web", "ring"]) (sc:=aw jo) (Nc:=["tie", "ring"]) (cap:=[none,some 1]) rfl rfl (by decide +kernel)) (qf (a8 (aB 0) (bb))) (fun _ _ _ _ _=>h9 0 vV) (fun _ _ _ _ _=>lx (nB (pM (bS (v9 hr.units) (a8 (aB 0) (bb)) (aB 1)) (lF (bS (v9 hr.units) (a8 (aB 0) (bb)) (aB 1)))))) (fun _ _ _ _ _=>aB 0)) (aS))) (bz il nm.len (aE (aB 1) (aS)))))
theorem sO (nm:Nm mg) {f:Addr}{fd:FuncData} (F:iS K "is_bar_ring" "is_bar_ring" gR f fd) (hm:mg "is_bar_ring" = some (.ref f)) (c_LEAST_BARE:∃ t,mg "LEAST_BARE" = some (.int 4 t)) (d_ring_good:dj P w K mg base (di K w) 5 "ring_good" 2 dF) (d_is_bare:dj P w K mg base (di K w) 1 "is_bare" 2 gu):dj P w K mg base (di K w) 6 "is_bar_ring" 2 cK:=
 cx F sL rfl hm (F.b2 (by rfl) fun _ _ _ _ _ _ _ _=>by rfl) fun cdv A outer s H E hr=>
 aP (bE (jD (aN d_ring_good (hr.mono (by decide)) (aE (aB 0) (aE (aB 1) (aS)))) (jD (iC (iE (op:=.GtE) hr.units) (bz il nm.len (aE (aB 1) (aS))) (GA c_LEAST_BARE)) (ka (aN d_is_bare (hr.mono (by decide)) (aE (aB 0) (aE (aB 1) (aS))))))))
theorem yb (nm:Nm mg) {f:Addr}{fd:FuncData} (F:iS K "bar_good" "bar_good" jP f fd) (hm:mg "bar_good" = some (.ref f)) (d_is_headed:dj P w K mg base (di K w) 1 "is_headed" 3 gx) (d_is_apart:dj P w K mg base (di K w) 6 "is_apart" 2 js) (d_is_bar_ring:dj P w K mg base (di K w) 6 "is_bar_ring" 2 cK):dj P w K mg base (di K w) 7 "bar_good" 2 jt:=
 cx F xX rfl hm (F.b2 (by rfl) fun _ _ _ _ _ _ _ _=>by rfl) fun cdv A outer s H E hr=>
 aH (ic (Ah (aN d_is_headed (hr.mono (by decide)) (aE (aB 1) (aE (pI) (aE (bb) (aS)))))) (aP (bE (aN d_is_apart (hr.mono (by decide)) (aE (aB 0) (aE (jR (aB 1) (cf (bb)) (cz)) (aS)))))) (eG))
 (aP (bE (jD (aN d_is_headed (hr.mono (by decide)) (aE (aB 1) (aE (pI) (aE (bb) (aS))))) (ka (aN d_is_bar_ring (hr.mono (by decide)) (aE (aB 0) (aE (a8 (aB 1) (bb)) (aS))))))))
theorem AS (nm:Nm mg) {f:Addr}{fd:FuncData} (F:iS K "bar_of" "bar_of" mw f fd) (hm:mg "bar_of" = some (.ref f)) (c_LEAST_BARE:∃ t,mg "LEAST_BARE" = some (.int 4 t)) (d_pieces_of:dj P w K mg base (di K w) 3 "pieces_of" 1 iJ) (d_rings_of:dj P w K mg base (di K w) 6 "rings_of" 2 jq) (d_is_bare:dj P w K mg base (di K w) 1 "is_bare" 2 gu):dj P w K mg base (di K w) 7 "bar_of" 1 jn:=
 cx F mx rfl hm (F.b1 (by rfl) fun _ _ _ _ _ _ _=>by rfl) fun cdv A outer s H E hr=>
 aH (bF 1 mx.nd (aN d_pieces_of (hr.mono (by decide)) (aE (aB 0) (aS))))
 (aH (ic (bS (iE (op:=.Gt) hr.units) (bz il nm.len (aE (aB 1) (aS))) (bb)) (aP (bE (bj (aE (pI) (aE (a8 (a8 (aB 1) (bb)) (bb)) (aE (a8 (a8 (aB 1) (bb)) (bb)) (aS))))))) (eG))
 (aH (gE PZ (BF nm.range (aE (GA c_LEAST_BARE) (aE (bR (a8 (aB 0) (bb)) (bb)) (aS)))) (h9 2 mx.nd) (aP (gE PZ (qf (aN d_rings_of (hr.mono (by decide)) (aE (aB 0) (aE (aB 2) (aS))))) (h9 3 mx.nd) (aP (ic (Ah (aN d_is_bare (hr.mono (by decide)) (aE (aB 0) (aE (aB 3) (aS))))) (aP (bE (bj (aE (pI) (aE (aB 3) (aS)))))) (eG))))))
 (aP (bE (yn)))))
theorem qm (nm:Nm mg) {f:Addr}{fd:FuncData} (F:iS K "_law_cell_at" "_law_cell_at" fS f fd) (hm:mg "_law_cell_at" = some (.ref f)):dj P w K mg base (di K w) 1 "_law_cell_at" 2 eU:=
 cx F ql rfl hm (F.b2 (by rfl) fun _ _ _ _ _ _ _ _=>by rfl) fun cdv A outer s H E hr=>
 aH (ic (bS (iE (op:=.Lt) hr.units) (aB 1) (bz il nm.len (aE (aB 0) (aS)))) (aP (bE (a8 (aB 0) (aB 1)))) (eG))
 (aP (bE (bb)))
theorem vP (nm:Nm mg) {f:Addr}{fd:FuncData} (F:iS K "_law_next" "_law_next" iY f fd) (hm:mg "_law_next" = some (.ref f)):dj P w K mg base (di K w) 1 "_law_next" 1 gy:=
 cx F ou rfl hm (F.b1 (by rfl) fun _ _ _ _ _ _ _=>by rfl) fun cdv A outer s H E hr=>
 aH (bF 0 ou.nd (tW (bR (aB 0) (bb)) (bb)))
 (aP (bE (tW (bR (bR (wq (aB 0) (aB 0)) (wq (bb) (aB 0))) (bb)) (bb))))
theorem sR (nm:Nm mg) {f:Addr}{fd:FuncData} (F:iS K "_law_pen_of" "_law_pen_of" gU f fd) (hm:mg "_law_pen_of" = some (.ref f)):dj P w K mg base (di K w) 1 "_law_pen_of" 1 fO:=
 cx F ma rfl hm (F.b1 (by rfl) fun _ _ _ _ _ _ _=>by rfl) fun cdv A outer s H E hr=>
 aH (bF 1 ma.nd (bz wF nm.max (aE (aB 0) (aE (jE (bb) (aB 0)) (aS)))))
 (aP (bE (dD (aE (aB 1) (aE (bz Gs nm.int (aE (iC (iE (op:=.GtE) hr.units) (aB 1) (JD (bb) (bb))) (aS))) (aE (tW (aB 1) (bb)) (aS)))))))
theorem vR (nm:Nm mg) {f:Addr}{fd:FuncData} (F:iS K "_law_draw" "_law_draw" iZ f fd) (hm:mg "_law_draw" = some (.ref f)) (d__law_next:dj P w K mg base (di K w) 1 "_law_next" 1 gy):dj P w K mg base (di K w) 2 "_law_draw" 2 aJ:=
 cx F oy rfl hm (F.b2 (by rfl) fun _ _ _ _ _ _ _ _=>by rfl) fun cdv A outer s H E hr=>
 aH (ic (bS (jx hr.units) (a8 (aB 0) (bb)) (bb)) (aH (bF 2 oy.nd (tW (a8 (aB 0) (bb)) (aB 1)))
 (aH (qU (B5 (a8 (aB 0) (bb)) (aB 1)) (tZ (aB 0) (bb)))
 (aP (bE (aB 2))))) (eG))
 (aH (qU (aN d__law_next (hr.mono (by decide)) (aE (bR (aN d__law_next (hr.mono (by decide)) (aE (a8 (aB 0) (bb)) (aS))) (bb)) (aS))) (tZ (aB 0) (bb)))
 (aP (bE (tW (B5 (a8 (aB 0) (bb)) (bb)) (aB 1)))))
theorem tH (nm:Nm mg) {f:Addr}{fd:FuncData} (F:iS K "_law_whole" "_law_whole" iz f fd) (hm:mg "_law_whole" = some (.ref f)):dj P w K mg base (di K w) 1 "_law_whole" 1 dg:=
 cx F tG rfl hm (F.b1 (by rfl) fun _ _ _ _ _ _ _=>by rfl) fun cdv A outer s H E hr=>
 aP (bE (jD (mP (T:="int") (by decide) Cp (by decide) (by decide) nm.isinstance nm.int (aB 0)) (ka (Gb (mP (T:="bool") (by decide) vw (by decide) (by decide) nm.isinstance nm.bool (aB 0))))))
theorem tL (nm:Nm mg) {f:Addr}{fd:FuncData} (F:iS K "_law_named" "_law_named" d7 f fd) (hm:mg "_law_named" = some (.ref f)):dj P w K mg base (di K w) 1 "_law_named" 2 gP:=
 cx F mT rfl hm (F.b2 (by rfl) fun _ _ _ _ _ _ _ _=>by rfl) fun cdv A outer s H E hr=>
 aH (jU 2 mT.nd (bK (N:=["_law_web", "_law_names", "_law_ties"]) (sc:=aw d7) (Nc:=["_law_one", "_law_other", "_law_names"]) (cap:=[none,none,some 1]) rfl rfl (by decide +kernel)) (qf (a8 (aB 0) (bb))) (fun _ _ _ _ _=>pO (fA (h9 0 kX) (fA (h9 1 kX) (pP)))) (fun _ _ _ _ _=>gD) (fun _ _ _ _ _=>bj (aE (a8 (aB 2) (aB 0)) (aE (a8 (aB 2) (aB 1)) (aS)))))
 (aP (bE (bj (aE (a8 (aB 0) (bb)) (aE (bz jL nm.tuple (aE (bz oj nm.sorted (aE (bz (wD hr.units) nm.set (aE (eA (bK (N:=["_law_web", "_law_names", "_law_ties"]) (sc:=aw d7) (Nc:=["_law_tie"]) (cap:=[none]) rfl rfl (by decide +kernel)) (qf (aB 2)) (fun _ _ _ _ _=>h9 0 qt) (fun _ _ _ _ _=>gD) (fun _ _ _ _ _=>bj (aE (bz zy nm.min (aE (aB 0) (aS))) (aE (bz wF nm.max (aE (aB 0) (aS))) (aS))))) (aS))) (aS))) (aS))) (aS))))))
theorem pG (nm:Nm mg) {f:Addr}{fd:FuncData} (F:iS K "_law_names_by" "_law_names_by" dC f fd) (hm:mg "_law_names_by" = some (.ref f)) (d__law_draw:dj P w K mg base (di K w) 2 "_law_draw" 2 aJ):dj P w K mg base (di K w) 3 "_law_names_by" 2 cD:=
 cx F ko rfl hm (F.b2 (by rfl) fun _ _ _ _ _ _ _ _=>by rfl) fun cdv A outer s H E hr=>
 aH (bF 2 ko.nd (GO nm.range nm.list (aE (aB 1) (aS))))
 (aP (bE (bz jL nm.tuple (aE (eA (bK (N:=["_law_pen", "_law_many", "_law_left"]) (sc:=aw dC) (Nc:=["_law_place", "_law_left", "_law_pen"]) (cap:=[none,some 2,some 0]) rfl rfl (by decide +kernel)) (lu nm.range (aE (aB 1) (aS))) (fun _ _ _ _ _=>h9 0 ny) (fun _ _ _ _ _=>gD) (fun _ _ _ _ _=>JE (aB 1) (aE (aN d__law_draw (hr.mono (by decide)) (aE (aB 2) (aE (bz il nm.len (aE (aB 1) (aS))) (aS)))) (aS)))) (aS)))))
theorem yc (nm:Nm mg) {f:Addr}{fd:FuncData} (F:iS K "_law_far" "_law_far" iI f fd) (hm:mg "_law_far" = some (.ref f)):dj P w K mg base (di K w) 1 "_law_far" 1 eP:=
 cx F c9 rfl hm (F.b1 (by rfl) fun _ _ _ _ _ _ _=>by rfl) fun cdv A outer s H E hr=>
 aH (bF 1 c9.nd (a8 (aB 0) (bb)))
 (aH (jU 2 c9.nd (bK (N:=["_law_web", "_law_many", "_law_far_here", "_law_place", "_law_size", "_law_one", "_law_other", "_law_a", "_law_b"]) (sc:=aw iI) (Nc:=["_law_place", "_law_many"]) (cap:=[none,some 1]) rfl rfl (by decide +kernel)) (lu nm.range (aE (aB 1) (aS))) (fun _ _ _ _ _=>h9 0 tP) (fun _ _ _ _ _=>gD) (fun _ _ _ _ _=>wq (dD (aE (yn) (aS))) (aB 1)))
 (aH (gE PZ (lu nm.range (aE (aB 1) (aS))) (h9 3 c9.nd) (aH (qU (bb) (tZ (a8 (aB 2) (aB 3)) (aB 3)))
 (aP (gE PZ (BF nm.range (aE (bb) (aE (aB 1) (aS)))) (h9 4 c9.nd) (aP (gE PZ (qf (a8 (aB 0) (bb))) (pO (fA (h9 5 c9.nd) (fA (h9 6 c9.nd) (pP)))) (aP (gE PZ (qf (dD (aE (bj (aE (aB 5) (aE (aB 6) (aS)))) (aE (bj (aE (aB 6) (aE (aB 5) (aS)))) (aS))))) (pO (fA (h9 7 c9.nd) (fA (h9 8 c9.nd) (pP)))) (aP (ic (nB (pM (bS (jx hr.units) (a8 (a8 (aB 2) (aB 3)) (aB 7)) (jE (aB 4) (bb))) (lF (bS (wu) (a8 (a8 (aB 2) (aB 3)) (aB 8)) (yn))))) (aP (qU (aB 4) (tZ (a8 (aB 2) (aB 3)) (aB 8)))) (eG)))))))))))
 (aP (bE (aB 2)))))
theorem tJ (nm:Nm mg) {f:Addr}{fd:FuncData} (F:iS K "_law_steps" "_law_steps" fI f fd) (hm:mg "_law_steps" = some (.ref f)) (d__law_far:dj P w K mg base (di K w) 1 "_law_far" 1 eP):dj P w K mg base (di K w) 2 "_law_steps" 2 dU:=
 cx F fJ rfl hm (F.b2 (by rfl) fun _ _ _ _ _ _ _ _=>by rfl) fun cdv A outer s H E hr=>
 aH (bF 2 fJ.nd (aN d__law_far (hr.mono (by decide)) (aE (aB 0) (aS))))
 (aH (bF 3 fJ.nd (dD (aS)))
 (aH (gE PZ (lu nm.range (aE (a8 (aB 0) (bb)) (aS))) (h9 4 fJ.nd) (aP (bF 3 fJ.nd (bR (aB 3) (eA (bK (N:=["_law_web", "_law_k", "_law_far_here", "_law_ties", "_law_one"]) (sc:=aw fI) (Nc:=["_law_b", "_law_one", "_law_k", "_law_far_here"]) (cap:=[none,some 4,some 1,some 2]) rfl rfl (by decide +kernel)) (BF nm.range (aE (bR (aB 4) (bb)) (aE (a8 (aB 0) (bb)) (aS)))) (fun _ _ _ _ _=>h9 0 qo) (fun _ _ _ _ _=>lx (nB (pM (bS (yA) (a8 (a8 (aB 3) (aB 1)) (aB 0)) (yn)) (lF (bS (iE (op:=.LtE) hr.units) (a8 (a8 (aB 3) (aB 1)) (aB 0)) (aB 2)))))) (fun _ _ _ _ _=>bj (aE (aB 1) (aE (aB 0) (aS)))))))))
 (aP (bE (bj (aE (a8 (aB 0) (bb)) (aE (bz jL nm.tuple (aE (aB 3) (aS))) (aS))))))))
theorem oI (nm:Nm mg) {f:Addr}{fd:FuncData} (F:iS K "_law_sparse_by" "_law_sparse_by" br f fd) (hm:mg "_law_sparse_by" = some (.ref f)) (d__law_draw:dj P w K mg base (di K w) 2 "_law_draw" 2 aJ) (d__law_named:dj P w K mg base (di K w) 1 "_law_named" 2 gP) (d__law_names_by:dj P w K mg base (di K w) 3 "_law_names_by" 2 cD):dj P w K mg base (di K w) 4 "_law_sparse_by" 1 cj:=
 cx F bh rfl hm (F.b1 (by rfl) fun _ _ _ _ _ _ _=>by rfl) fun cdv A outer s H E hr=>
 aH (bF 1 bh.nd (aN d__law_draw (hr.mono (by decide)) (aE (aB 0) (aE (bb) (aS)))))
 (aH (bF 2 bh.nd (bR (bb) (aN d__law_draw (hr.mono (by decide)) (aE (aB 0) (aE (bb) (aS))))))
 (aH (bF 3 bh.nd (dD (aS)))
 (aH (gE PZ (lu nm.range (aE (aB 2) (aS))) (h9 4 bh.nd) (aP (bF 3 bh.nd (bR (aB 3) (eA (bK (N:=["_law_pen", "_law_way", "_law_many", "_law_every", "_law_other", "_law_ties"]) (sc:=aw br) (Nc:=["_law_one", "_law_other"]) (cap:=[none,some 4]) rfl rfl (by decide +kernel)) (lu nm.range (aE (aB 4) (aS))) (fun _ _ _ _ _=>h9 0 mL) (fun _ _ _ _ _=>gD) (fun _ _ _ _ _=>bj (aE (aB 0) (aE (aB 1) (aS)))))))))
 (aH (ic (bS (jx hr.units) (aB 1) (bb)) (aP (jU 5 bh.nd (bK (N:=["_law_pen", "_law_way", "_law_many", "_law_every", "_law_other", "_law_ties"]) (sc:=aw br) (Nc:=["_law_pair", "_law_pen"]) (cap:=[none,some 0]) rfl rfl (by decide +kernel)) (qf (aB 3)) (fun _ _ _ _ _=>h9 0 mK) (fun _ _ _ _ _=>lx (bS (jx hr.units) (aN d__law_draw (hr.mono (by decide)) (aE (aB 1) (aE (bb) (aS)))) (bb))) (fun _ _ _ _ _=>aB 0))) (aP (ic (bS (jx hr.units) (aB 1) (bb)) (aP (jU 5 bh.nd (bK (N:=["_law_pen", "_law_way", "_law_many", "_law_every", "_law_other", "_law_ties"]) (sc:=aw br) (Nc:=["_law_pair", "_law_pen"]) (cap:=[none,some 0]) rfl rfl (by decide +kernel)) (qf (aB 3)) (fun _ _ _ _ _=>h9 0 mJ) (fun _ _ _ _ _=>lx (bS (jx hr.units) (aN d__law_draw (hr.mono (by decide)) (aE (aB 1) (aE (bb) (aS)))) (bb))) (fun _ _ _ _ _=>aB 0))) (aP (ic (bS (jx hr.units) (aB 1) (bb)) (aP (bF 5 bh.nd (bR (eA (bK (N:=["_law_pen", "_law_way", "_law_many", "_law_every", "_law_other", "_law_ties"]) (sc:=aw br) (Nc:=["_law_place"]) (cap:=[none]) rfl rfl (by decide +kernel)) (lu nm.range (aE (jE (aB 2) (bb)) (aS))) (fun _ _ _ _ _=>h9 0 mI) (fun _ _ _ _ _=>gD) (fun _ _ _ _ _=>bj (aE (aB 0) (aE (bR (aB 0) (bb)) (aS))))) (wq (dD (aE (bj (aE (bb) (aE (jE (aB 2) (bb)) (aS)))) (aS))) (bz Gs nm.int (aE (iC (iE (op:=.Gt) hr.units) (aB 2) (bb)) (aS))))))) (aP (ic (bS (jx hr.units) (aB 1) (bb)) (aP (jU 5 bh.nd (bK (N:=["_law_pen", "_law_way", "_law_many", "_law_every", "_law_other", "_law_ties"]) (sc:=aw br) (Nc:=["_law_place"]) (cap:=[none]) rfl rfl (by decide +kernel)) (lu nm.range (aE (jE (aB 2) (bb)) (aS))) (fun _ _ _ _ _=>h9 0 mH) (fun _ _ _ _ _=>gD) (fun _ _ _ _ _=>bj (aE (aB 0) (aE (bR (aB 0) (bb)) (aS)))))) (aP (ic (bS (jx hr.units) (aB 1) (bb)) (aP (jU 5 bh.nd (bK (N:=["_law_pen", "_law_way", "_law_many", "_law_every", "_law_other", "_law_ties"]) (sc:=aw br) (Nc:=["_law_place"]) (cap:=[none]) rfl rfl (by decide +kernel)) (BF nm.range (aE (bb) (aE (aB 2) (aS)))) (fun _ _ _ _ _=>h9 0 mG) (fun _ _ _ _ _=>gD) (fun _ _ _ _ _=>bj (aE (bb) (aE (aB 0) (aS)))))) (aP (jU 5 bh.nd (bK (N:=["_law_pen", "_law_way", "_law_many", "_law_every", "_law_other", "_law_ties"]) (sc:=aw br) (Nc:=["_law_place", "_law_pen"]) (cap:=[none,some 0]) rfl rfl (by decide +kernel)) (BF nm.range (aE (bb) (aE (aB 2) (aS)))) (fun _ _ _ _ _=>h9 0 mF) (fun _ _ _ _ _=>gD) (fun _ _ _ _ _=>bj (aE (aN d__law_draw (hr.mono (by decide)) (aE (aB 1) (aE (aB 0) (aS)))) (aE (aB 0) (aS)))))))))))))))
 (aP (bE (aN d__law_named (hr.mono (by decide)) (aE (bj (aE (aB 2) (aE (bz jL nm.tuple (aE (aB 5) (aS))) (aS)))) (aE (aN d__law_names_by (hr.mono (by decide)) (aE (aB 0) (aE (aB 2) (aS)))) (aS))))))))))
theorem sQ (nm:Nm mg) {f:Addr}{fd:FuncData} (F:iS K "_law_web_by" "_law_web_by" gT f fd) (hm:mg "_law_web_by" = some (.ref f)) (d__law_sparse_by:dj P w K mg base (di K w) 4 "_law_sparse_by" 1 cj) (d__law_draw:dj P w K mg base (di K w) 2 "_law_draw" 2 aJ) (d__law_steps:dj P w K mg base (di K w) 2 "_law_steps" 2 dU):dj P w K mg base (di K w) 5 "_law_web_by" 1 fN:=
 cx F cR rfl hm (F.b1 (by rfl) fun _ _ _ _ _ _ _=>by rfl) fun cdv A outer s H E hr=>
 aH (bF 1 cR.nd (aN d__law_sparse_by (hr.mono (by decide)) (aE (aB 0) (aS))))
 (aH (bF 2 cR.nd (aN d__law_draw (hr.mono (by decide)) (aE (aB 0) (aE (bb) (aS)))))
 (aH (ic (bS (iE (op:=.Lt) hr.units) (aB 2) (bb)) (aP (bF 1 cR.nd (aN d__law_steps (hr.mono (by decide)) (aE (aB 1) (aE (bb) (aS)))))) (eG))
 (aH (ic (nB (pM (bS (jx hr.units) (aB 2) (bb)) (lF (bS (v8 hr.units) (a8 (aB 1) (bb)) (bj (aS)))))) (aH (bF 3 cR.nd (aN d__law_draw (hr.mono (by decide)) (aE (aB 0) (aE (bz il nm.len (aE (a8 (aB 1) (bb)) (aS))) (aS)))))
 (aP (bE (bj (aE (a8 (aB 1) (bb)) (aE (bR (jR (a8 (aB 1) (bb)) (cz) (cf (aB 3))) (jR (a8 (aB 1) (bb)) (cf (bR (aB 3) (bb))) (cz))) (aS))))))) (eG))
 (aH (ic (nB (pM (bS (jx hr.units) (aB 2) (bb)) (lF (bS (iE (op:=.Gt) hr.units) (a8 (aB 1) (bb)) (bb))))) (aH (bF 4 cR.nd (aN d__law_draw (hr.mono (by decide)) (aE (aB 0) (aE (a8 (aB 1) (bb)) (aS)))))
 (aH (bF 5 cR.nd (bz jL nm.tuple (aE (bz oj nm.sorted (aE (bj (aE (aB 4) (aE (tW (bR (bR (aB 4) (bb)) (aN d__law_draw (hr.mono (by decide)) (aE (aB 0) (aE (jE (a8 (aB 1) (bb)) (bb)) (aS))))) (a8 (aB 1) (bb))) (aS)))) (aS))) (aS))))
 (aP (bE (bj (aE (a8 (aB 1) (bb)) (aE (bz jL nm.tuple (aE (bz oj nm.sorted (aE (bz (wD hr.units) nm.set (aE (bR (a8 (aB 1) (bb)) (bj (aE (aB 5) (aS)))) (aS))) (aS))) (aS))) (aS)))))))) (eG))
 (aP (bE (aB 1)))))))
theorem vT (nm:Nm mg) {f:Addr}{fd:FuncData} (F:iS K "_law_bare" "_law_bare" i3 f fd) (hm:mg "_law_bare" = some (.ref f)):dj P w K mg base (di K w) 1 "_law_bare" 2 df:=
 cx F gN rfl hm (F.b2 (by rfl) fun _ _ _ _ _ _ _ _=>by rfl) fun cdv A outer s H E hr=>
 aH (bF 2 gN.nd (bz il nm.len (aE (aB 1) (aS))))
 (aH (gE PZ (lu nm.range (aE (aB 2) (aS))) (h9 3 gN.nd) (aP (gE PZ (lu nm.range (aE (aB 3) (aS))) (h9 4 gN.nd) (aH (bF 5 gN.nd (iC (v9 hr.units) (bj (aE (bz zy nm.min (aE (a8 (aB 1) (aB 3)) (aE (a8 (aB 1) (aB 4)) (aS)))) (aE (bz wF nm.max (aE (a8 (aB 1) (aB 3)) (aE (a8 (aB 1) (aB 4)) (aS)))) (aS)))) (a8 (aB 0) (bb))))
 (aP (ic (bS (v8 hr.units) (aB 5) (KL (iC (jx hr.units) (jE (aB 3) (aB 4)) (bb)) (ka (iC (jx hr.units) (jE (aB 3) (aB 4)) (jE (aB 2) (bb)))))) (aP (bE (Br))) (eG)))))))
 (aP (bE (iC (iE (op:=.Gt) hr.units) (aB 2) (bb)))))
theorem vQ (nm:Nm mg) {f:Addr}{fd:FuncData} (F:iS K "_law_good" "_law_good" fm f fd) (hm:mg "_law_good" = some (.ref f)) (d__law_whole:dj P w K mg base (di K w) 1 "_law_whole" 1 dg) (d__law_bare:dj P w K mg base (di K w) 1 "_law_bare" 2 df):dj P w K mg base (di K w) 2 "_law_good" 3 eS:=
 cx F ox rfl hm (F.b3 (by rfl) fun _ _ _ _ _ _ _ _ _=>by rfl) fun cdv A outer s H E hr=>
 aH (ic (nB (v5 (nF (Ah (mP (T:="tuple") (by decide) oi (by decide) (by decide) nm.isinstance nm.tuple (aB 2)))) (v5 (bS (iE (op:=.Lt) hr.units) (bz il nm.len (aE (aB 2) (aS))) (bb)) (tX (nF (Ah (mP (T:="str") (by decide) I0 (by decide) (by decide) nm.isinstance nm.str (a8 (aB 2) (bb))))))))) (aP (bE (Br))) (eG))
 (aH (ic (nB (pM (bS (jx hr.units) (a8 (aB 2) (bb)) (pI)) (lF (bS (jx hr.units) (bz il nm.len (aE (aB 2) (aS))) (bb))))) (aH (bF 3 ox.nd (a8 (aB 2) (bb)))
 (aH (ic (nB (v5 (nF (Ah (mP (T:="tuple") (by decide) oi (by decide) (by decide) nm.isinstance nm.tuple (aB 3)))) (tX (nF (Ah (bz zz nm.all (aE (eA (bK (N:=["_law_web", "_law_far_here", "_law_thing", "_law_ring"]) (sc:=aw fm) (Nc:=["_law_one", "_law_web"]) (cap:=[none,some 0]) rfl rfl (by decide +kernel)) (qf (aB 3)) (fun _ _ _ _ _=>h9 0 sV) (fun _ _ _ _ _=>gD) (fun _ _ _ _ _=>jD (aN d__law_whole (hr.mono (by decide)) (aE (aB 0) (aS))) (ka (BJ (iE (op:=.LtE) hr.units) (iE (op:=.Lt) hr.units) (bb) (aB 0) (a8 (aB 1) (bb)))))) (aS)))))))) (aP (bE (Br))) (eG))
 (aP (bE (jD (iC (jx hr.units) (bz il nm.len (aE (bz (wD hr.units) nm.set (aE (aB 3) (aS))) (aS))) (bz il nm.len (aE (aB 3) (aS)))) (ka (aN d__law_bare (hr.mono (by decide)) (aE (aB 0) (aE (aB 3) (aS)))))))))) (eG))
 (aH (ic (nB (v5 (bS (v8 hr.units) (a8 (aB 2) (bb)) (pI)) (tX (bS (v8 hr.units) (bz il nm.len (aE (aB 2) (aS))) (bb))))) (aP (bE (Br))) (eG))
 (aH (ic (nF (Ah (bz zz nm.all (aE (eA (bK (N:=["_law_web", "_law_far_here", "_law_thing", "_law_ring"]) (sc:=aw fm) (Nc:=["_law_one", "_law_web"]) (cap:=[none,some 0]) rfl rfl (by decide +kernel)) (qf (jR (aB 2) (cf (bb)) (cz))) (fun _ _ _ _ _=>h9 0 sU) (fun _ _ _ _ _=>gD) (fun _ _ _ _ _=>jD (aN d__law_whole (hr.mono (by decide)) (aE (aB 0) (aS))) (ka (BJ (iE (op:=.LtE) hr.units) (iE (op:=.Lt) hr.units) (bb) (aB 0) (a8 (aB 1) (bb)))))) (aS))))) (aP (bE (Br))) (eG))
 (aP (bE (iC (wu) (a8 (a8 (aB 1) (a8 (aB 2) (bb))) (a8 (aB 2) (bb))) (yn)))))))
theorem tK (nm:Nm mg) {f:Addr}{fd:FuncData} (F:iS K "_law_rings" "_law_rings" d6 f fd) (hm:mg "_law_rings" = some (.ref f)) (d__law_bare:dj P w K mg base (di K w) 1 "_law_bare" 2 df):dj P w K mg base (di K w) 2 "_law_rings" 1 gO:=
 cx F ck rfl hm (F.b1 (by rfl) fun _ _ _ _ _ _ _=>by rfl) fun cdv A outer s H E hr=>
 aH (bF 1 ck.nd (dD (aS)))
 (aH (jU 2 ck.nd (bK (N:=["_law_web", "_law_found", "_law_ways", "_law_turn", "_law_longer", "_law_way", "_law_place"]) (sc:=aw d6) (Nc:=["_law_place"]) (cap:=[none]) rfl rfl (by decide +kernel)) (lu nm.range (aE (a8 (aB 0) (bb)) (aS))) (fun _ _ _ _ _=>h9 0 qq) (fun _ _ _ _ _=>gD) (fun _ _ _ _ _=>bj (aE (aB 0) (aS))))
 (aH (gE PZ (lu nm.range (aE (jE (a8 (aB 0) (bb)) (bb)) (aS))) (h9 3 ck.nd) (aH (bF 4 ck.nd (dD (aS)))
 (aH (gE PZ (qf (aB 2)) (h9 5 ck.nd) (aP (gE PZ (lu nm.range (aE (a8 (aB 0) (bb)) (aS))) (h9 6 ck.nd) (aP (ic (nB (pM (bS (BZ hr.units) (aB 6) (aB 5)) (lF (bS (v9 hr.units) (bj (aE (bz zy nm.min (aE (a8 (aB 5) (wo (bb))) (aE (aB 6) (aS)))) (aE (bz wF nm.max (aE (a8 (aB 5) (wo (bb))) (aE (aB 6) (aS)))) (aS)))) (a8 (aB 0) (bb)))))) (aP (oR (BK (aB 4) (aE (bR (aB 5) (bj (aE (aB 6) (aS)))) (aS))))) (eG))))))
 (aH (bF 2 ck.nd (aB 4))
 (aP (bF 1 ck.nd (bR (aB 1) (eA (bK (N:=["_law_web", "_law_found", "_law_ways", "_law_turn", "_law_longer", "_law_way", "_law_place"]) (sc:=aw d6) (Nc:=["_law_way", "_law_web"]) (cap:=[none,some 0]) rfl rfl (by decide +kernel)) (qf (aB 2)) (fun _ _ _ _ _=>h9 0 qp) (fun _ _ _ _ _=>lx (Ah (aN d__law_bare (hr.mono (by decide)) (aE (aB 1) (aE (aB 0) (aS)))))) (fun _ _ _ _ _=>aB 0)))))))))
 (aP (bE (aB 1)))))
theorem vS (nm:Nm mg) {f:Addr}{fd:FuncData} (F:iS K "_law_bent" "_law_bent" i0 f fd) (hm:mg "_law_bent" = some (.ref f)) (d__law_draw:dj P w K mg base (di K w) 2 "_law_draw" 2 aJ):dj P w K mg base (di K w) 3 "_law_bent" 2 cJ:=
 cx F cH rfl hm (F.b2 (by rfl) fun _ _ _ _ _ _ _ _=>by rfl) fun cdv A outer s H E hr=>
 aH (bF 2 cH.nd (a8 (dD (aE (bb) (aE (bb) (aE (bb) (aE (wo (bb)) (aE (Br) (aE (yn) (aE (pI) (aE (bj (aE (bb) (aS))) (aS)))))))))) (aN d__law_draw (hr.mono (by decide)) (aE (aB 1) (aE (bb) (aS))))))
 (aH (bF 3 cH.nd (a8 (dD (aE (pI) (aE (pI) (aE (pI) (aE (pI) (aE (bb) (aE (yn) (aS)))))))) (aN d__law_draw (hr.mono (by decide)) (aE (aB 1) (aE (bb) (aS))))))
 (aH (ic (bS (jx hr.units) (a8 (aB 0) (bb)) (pI)) (aH (bF 4 cH.nd (a8 (aB 0) (bb)))
 (aH (bF 5 cH.nd (aN d__law_draw (hr.mono (by decide)) (aE (aB 1) (aE (bR (bz il nm.len (aE (aB 4) (aS))) (bb)) (aS)))))
 (aH (bF 6 cH.nd (dD (aE (bj (aE (pI) (aE (bR (bR (jR (aB 4) (cz) (cf (aB 5))) (bj (aE (aB 2) (aS)))) (jR (aB 4) (cf (bR (aB 5) (bb))) (cz))) (aS)))) (aE (bj (aE (pI) (aE (bR (bR (jR (aB 4) (cz) (cf (aB 5))) (bj (aE (aB 2) (aS)))) (jR (aB 4) (cf (aB 5)) (cz))) (aS)))) (aS)))))
 (aH (bF 6 cH.nd (bR (aB 6) (dD (aE (bj (aE (pI) (aE (bR (jR (aB 4) (cz) (cf (aB 5))) (jR (aB 4) (cf (bR (aB 5) (bb))) (cz))) (aS)))) (aE (bj (aE (pI) (aE (bR (jR (aB 4) (cf (bb)) (cz)) (jR (aB 4) (cz) (cf (bb)))) (aS)))) (aE (bj (aE (pI) (aE (bz yE nm.list (aE (aB 4) (aS))) (aS)))) (aS)))))))
 (aP (bE (a8 (bR (aB 6) (dD (aE (bj (aE (aB 3) (aE (aB 4) (aS)))) (aE (bj (aE (pI) (aE (aB 4) (aE (bb) (aS))))) (aE (bj (aE (pI) (aS))) (aE (bz yE nm.list (aE (aB 0) (aS))) (aE (aB 4) (aS)))))))) (aN d__law_draw (hr.mono (by decide)) (aE (aB 1) (aE (bb) (aS))))))))))) (eG))
 (aH (bF 5 cH.nd (bR (bb) (aN d__law_draw (hr.mono (by decide)) (aE (aB 1) (aE (bb) (aS))))))
 (aH (bF 6 cH.nd (dD (aE (bR (bR (jR (aB 0) (cz) (cf (aB 5))) (bj (aE (aB 2) (aS)))) (jR (aB 0) (cf (bR (aB 5) (bb))) (cz))) (aE (jR (aB 0) (cz) (cf (bb))) (aE (bR (aB 0) (bj (aE (aB 2) (aS)))) (aE (bR (bj (aE (aB 3) (aS))) (jR (aB 0) (cf (bb)) (cz))) (aE (bz yE nm.list (aE (aB 0) (aS))) (aE (jR (aB 0) (cf (bb)) (cz)) (aS)))))))))
 (aP (bE (a8 (bR (aB 6) (dD (aE (bj (aE (pI) (aE (a8 (aB 0) (bb)) (aE (a8 (aB 0) (bb)) (aS))))) (aE (bj (aE (pI) (aE (jR (aB 0) (cf (bb)) (cz)) (aS)))) (aE (yn) (aE (bj (aS)) (aS))))))) (aN d__law_draw (hr.mono (by decide)) (aE (aB 1) (aE (bb) (aS)))))))))))
theorem IQ (nm:Nm mg) {f:Addr}{fd:FuncData} (F:iS K "law" "law" kz f fd) (d__law_cell_at:dj P w K mg base (di K w) 1 "_law_cell_at" 2 eU) (d__law_pen_of:dj P w K mg base (di K w) 1 "_law_pen_of" 1 fO) (d__law_web_by:dj P w K mg base (di K w) 5 "_law_web_by" 1 fN) (d__law_sparse_by:dj P w K mg base (di K w) 4 "_law_sparse_by" 1 cj) (d__law_draw:dj P w K mg base (di K w) 2 "_law_draw" 2 aJ) (d__law_far:dj P w K mg base (di K w) 1 "_law_far" 1 eP) (d__law_rings:dj P w K mg base (di K w) 2 "_law_rings" 1 gO) (d_bar_of:dj P w K mg base (di K w) 7 "bar_of" 1 jn) (d__law_good:dj P w K mg base (di K w) 2 "_law_good" 3 eS) (d__law_names_by:dj P w K mg base (di K w) 3 "_law_names_by" 2 cD) (d__law_bent:dj P w K mg base (di K w) 3 "_law_bent" 2 cJ) (d_bar_good:dj P w K mg base (di K w) 7 "bar_good" 2 jt):tp P w K mg base By 8 f fd ["_law_script"] (Gw (di K w) 1 wH):=
 Kh F iq rfl fun cdv A outer s H E hr=>
 aH (bF 1 iq.nd (bj (aE (bb) (aE (bj (aE (bj (aE (bb) (aE (bb) (aS)))) (aE (bj (aE (bb) (aE (bb) (aS)))) (aE (bj (aE (bb) (aE (bb) (aS)))) (aE (bj (aE (bb) (aE (bb) (aS)))) (aS)))))) (aS)))))
 (aH (bF 2 iq.nd (bj (aE (bb) (aE (bj (aE (bj (aE (bb) (aE (bb) (aS)))) (aE (bj (aE (bb) (aE (bb) (aS)))) (aE (bj (aE (bb) (aE (bb) (aS)))) (aE (bj (aE (bb) (aE (bb) (aS)))) (aE (bj (aE (bb) (aE (bb) (aS)))) (aE (bj (aE (bb) (aE (bb) (aS)))) (aS)))))))) (aS)))))
 (aH (gE PZ (qf (bR (dD (aE (aN d__law_cell_at (hr.mono (by decide)) (aE (aB 0) (aE (bb) (aS)))) (aS))) (jR (aB 0) (cf (bb)) (cf (bb))))) (h9 3 iq.nd) (aH (bF 4 iq.nd (aN d__law_pen_of (hr.mono (by decide)) (aE (aB 3) (aS))))
 (aP (gE PZ (qf (dD (aE (aN d__law_web_by (hr.mono (by decide)) (aE (aB 4) (aS))) (aE (aN d__law_sparse_by (hr.mono (by decide)) (aE (aB 4) (aS))) (aE (a8 (dD (aE (aB 1) (aE (aB 2) (aS)))) (aN d__law_draw (hr.mono (by decide)) (aE (aB 4) (aE (bb) (aS))))) (aS)))))) (h9 5 iq.nd) (aH (bF 6 iq.nd (aN d__law_far (hr.mono (by decide)) (aE (aB 5) (aS))))
 (aH (bF 7 iq.nd (aN d__law_rings (hr.mono (by decide)) (aE (aB 5) (aS))))
 (aH (bF 8 iq.nd (aN d_bar_of (hr.mono (by decide)) (aE (aB 5) (aS))))
 (aH (ic (nB (v5 (bS (v8 hr.units) (iC (wu) (aB 8) (yn)) (jD (iC (jx hr.units) (aB 7) (dD (aS))) (ka (iC (BZ hr.units) (yn) (a8 (aB 6) (bb)))))) (tX (bS (v8 hr.units) (aN d_bar_of (hr.mono (by decide)) (aE (aB 5) (aS))) (aB 8))))) (aP (bE (Br))) (eG))
 (aH (ic (nB (pM (bS (yA) (aB 8) (yn)) (lF (nF (Ah (aN d__law_good (hr.mono (by decide)) (aE (aB 5) (aE (aB 6) (aE (aB 8) (aS)))))))))) (aP (bE (Br))) (eG))
 (aH (bF 9 iq.nd (dD (aE (bj (aE (pI) (aE (aN d__law_draw (hr.mono (by decide)) (aE (aB 4) (aE (a8 (aB 5) (bb)) (aS)))) (aE (aN d__law_draw (hr.mono (by decide)) (aE (aB 4) (aE (a8 (aB 5) (bb)) (aS)))) (aS))))) (aE (bj (aE (pI) (aE (bb) (aE (jE (a8 (aB 5) (bb)) (bb)) (aS))))) (aS)))))
 (aH (oR (BK (aB 9) (aE (bj (aE (pI) (aE (jR (aN d__law_names_by (hr.mono (by decide)) (aE (aB 4) (aE (a8 (aB 5) (bb)) (aS)))) (cz) (cf (bb))) (aS)))) (aS))))
 (aH (bF 9 iq.nd (bR (aB 9) (eA (bK (N:=["_law_script", "_law_square", "_law_six", "_law_cell", "_law_pen", "_law_web", "_law_far_here", "_law_rings_here", "_law_bar", "_law_things", "_law_thing", "_law_found"]) (sc:=aw kz) (Nc:=["_law_ring"]) (cap:=[none]) rfl rfl (by decide +kernel)) (qf (jR (aB 7) (cz) (cf (bb)))) (fun _ _ _ _ _=>h9 0 Do) (fun _ _ _ _ _=>gD) (fun _ _ _ _ _=>bj (aE (pI) (aE (aB 0) (aS)))))))
 (aP (gE PZ (qf (bR (bR (aB 9) (eA (bK (N:=["_law_script", "_law_square", "_law_six", "_law_cell", "_law_pen", "_law_web", "_law_far_here", "_law_rings_here", "_law_bar", "_law_things", "_law_thing", "_law_found"]) (sc:=aw kz) (Nc:=["_law_one", "_law_pen"]) (cap:=[none,some 4]) rfl rfl (by decide +kernel)) (qf (aB 9)) (fun _ _ _ _ _=>h9 0 Dn) (fun _ _ _ _ _=>gD) (fun _ _ _ _ _=>aN d__law_bent (hr.mono (by decide)) (aE (aB 0) (aE (aB 1) (aS)))))) (dD (aE (yn) (aE (bb) (aE (pI) (aS))))))) (h9 10 iq.nd) (aH (bF 11 iq.nd (aN d_bar_good (hr.mono (by decide)) (aE (aB 5) (aE (aB 10) (aS)))))
 (aP (ic (nB (v5 (nF (Ah (mP (T:="bool") (by decide) vw (by decide) (by decide) nm.isinstance nm.bool (aB 11)))) (tX (bS (v8 hr.units) (aB 11) (aN d__law_good (hr.mono (by decide)) (aE (aB 5) (aE (aB 6) (aE (aB 10) (aS))))))))) (aP (bE (Br))) (eG))))))))))))))))))
 (aP (bE (Br)))))
end
end Lw
namespace Lv
variable {adj:Int->Int->Prop}{p:Int}
def R (adj:Int->Int->Prop) (p:Int):Nat->Int->Prop
 | 0,q=>q=p
 | n+1,q=>R adj p n q\/∃ r,adj r q/\R adj p n r
def uQ (adj:Int->Int->Prop) (p:Int):Nat->Int->Prop
 | 0,q=>q=p
 | n+1,q=>R adj p (n+1) q/\¬ R adj p n q
theorem R.up {n:Nat}{q:Int} (h:R adj p n q):R adj p (n+1) q:=.inl h
theorem R.mono {n m:Nat}{q:Int} (h:R adj p n q) (hm:n<=m):R adj p m q:=by
 induction hm with
 | refl=>exact h
 | step _ ih=>exact ih.up
theorem uQ.r {n:Nat}{q:Int} (h:uQ adj p n q):R adj p n q:=by
 cases n with
 | zero=>exact h
 | succ n=>exact h.1
theorem R.lev {n:Nat}{q:Int} (h:R adj p n q):∃ j,j<=n/\uQ adj p j q:=by
 induction n with
 | zero=>exact ⟨0,MD _,h⟩
 | succ n ih=>
  by_cases hr:R adj p n q
  ·obtain ⟨j, hj, hl⟩ := ih hr
   exact ⟨j,by omega,hl⟩
  ·exact ⟨n+1,MD _,h,hr⟩
theorem uQ.low {n j:Nat}{q:Int} (h:uQ adj p n q) (hj:j<n):¬ R adj p j q:=by
 cases n with
 | zero=>omega
 | succ n=>exact fun hr=>h.2 (hr.mono (by omega))
theorem uQ.one {n m:Nat}{q:Int} (h:uQ adj p n q) (h':uQ adj p m q):n=m:=by
 rcases Nat.lt_trichotomy n m with z | z | z
 ·exact absurd h.r (h'.low z)
 ·exact z
 ·exact absurd h'.r (h.low z)
theorem kc {n:Nat}{q:Int}:uQ adj p (n+1) q↔¬ R adj p n q/\∃ r,adj r q/\uQ adj p n r:=by
 constructor
 ·rintro ⟨h1, h2⟩
  refine ⟨h2,?_⟩
  rcases h1 with h1 | ⟨r,ha,hr⟩
  ·exact absurd h1 h2
  ·refine ⟨r, ha, ?_⟩
   cases n with
   | zero=>exact hr
   | succ n=>exact ⟨hr,fun z=>h2 (.inr ⟨r,ha,z⟩)⟩
 ·rintro ⟨h1, r, ha, hr⟩
  exact ⟨.inr ⟨r,ha,hr.r⟩,h1⟩
def Up (adj:Int->Int->Prop) (p:Int) (D:Int->Prop) (n:Nat) (f:Int->Option Nat):Prop:=∀ q,D q->∀ j,f q=some j↔(j<=n/\uQ adj p j q)
theorem Up.none {D:Int->Prop}{n:Nat}{f:Int->Option Nat} (h:Up adj p D n f) {q:Int} (hq:D q):f q=none↔¬ R adj p n q:=by
 constructor
 ·intro e hr
  obtain ⟨j,hj,hl⟩:=hr.lev
  have:=(h q hq j).mpr ⟨hj,hl⟩
  rw [e] at this;cases this
 ·intro hr
  cases e:f q with
  | none=>rfl
  | some j=>
   obtain ⟨hj,hl⟩:=(h q hq j).mp e
   exact absurd (hl.r.mono hj) hr
theorem Ag {D:Int->Prop}{f:Int->Option Nat} (h:∀ q,D q->f q=if q=p then some 0 else Option.none):Up adj p D 0 f:=fun q hq j=>by
 rw [h q hq]
 by_cases e:q=p
 ·rw [LU e]
  constructor
  ·intro z;cases z;exact ⟨MD _,e⟩
  ·rintro ⟨h1, _⟩
   have:j=0:=by omega
   rw [this]
 ·rw [LV e]
  constructor
  ·intro z;cases z
  ·rintro ⟨h1, h2⟩
   have:j=0:=by omega
   subst this
   exact absurd h2 e
theorem Up.next {D:Int->Prop}{n:Nat}{f f':Int->Option Nat} (h:Up adj p D n f) (hD:∀ a b,adj a b->D a) (e:∀ q,D q->∀ j,f' q=some j↔(f q=some j\/(f q=Option.none/\j=n+1/\∃ r,adj r q/\f r=some n))):Up adj p D (n+1) f':=fun q hq j=>by
 rw [e q hq j]
 constructor
 ·rintro (z | ⟨z1, z2, r, z3, z4⟩)
  ·obtain ⟨hj, hl⟩ := (h q hq j).mp z
   exact ⟨by omega,hl⟩
  ·subst z2
   refine ⟨MD _,kc.mpr ⟨(h.none hq).mp z1,r,z3,?_⟩⟩
   exact ((h r (hD r q z3) n).mp z4).2
 ·rintro ⟨hj, hl⟩
  by_cases hn:j<=n
  ·exact .inl ((h q hq j).mpr ⟨hn,hl⟩)
  ·have : j = n + 1 := by omega
   subst this
   obtain ⟨h1,r,ha,hr⟩:=kc.mp hl
   exact .inr ⟨(h.none hq).mpr h1,rfl,r,ha,(h r (hD r q ha) n).mpr ⟨MD _,hr⟩⟩
def qi (adj:Int->Int->Prop) (p:Int) (D:Int->Prop) (f:Int->Option Nat):Prop:=∀ q,D q->∀ j,f q=some j↔uQ adj p j q
theorem uQ.below {n:Nat}:∀ {q:Int},uQ adj p n q->∀ j,j<=n->∃ r,uQ adj p j r:=by
 induction n with
 | zero => intro q h j hj; exact ⟨q, by have : j = 0 := by omega
                                        subst this;exact h⟩
 | succ n ih=>
  intro q h j hj
  by_cases e:j=n+1
  ·subst e;exact ⟨q,h⟩
  ·obtain ⟨_, r, _, hr⟩ := kc.mp h
   exact ih hr j (by omega)
theorem Up.full {D:Int->Prop}{n:Nat}{f:Int->Option Nat} (h:Up adj p D n f) (hD:∀ a b,adj a b->D b) (e:∀ q,D q->¬ uQ adj p (n+1) q):qi adj p D f:=fun q hq j=>by
 rw [h q hq j]
 constructor
 ·exact fun z=>z.2
 ·intro hl
  refine ⟨?_,hl⟩
  apply Nat.le_of_not_lt
  intro hj
  obtain ⟨r,hr⟩:=hl.below (n+1) (by omega)
  obtain ⟨_,s,hs,_⟩:=kc.mp hr
  exact e r (hD s r hs) hr
theorem Cj {m:Nat} (hp:0<=p/\p<m) (hD:∀ a b,adj a b->0<=b/\b<m) {n:Nat}{q:Int} (h:uQ adj p n q):n<m:=by
 have hr:∀ j,∃ r,j<=n->uQ adj p j r:=fun j=>by
  by_cases hj:j<=n
  ·obtain ⟨r,hr⟩:=h.below j hj;exact ⟨r,fun _=>hr⟩
  ·exact ⟨0,fun z=>absurd z hj⟩
 let r:Nat->Int:=fun j=>(hr j).choose
 have hr':∀ j,j<=n->uQ adj p j (r j):=fun j hj=>(hr j).choose_spec hj
 have rng:∀ j,j<=n->0<=r j/\r j<m:=fun j hj=>by
  have:=hr' j hj
  cases j with
  | zero=>rw [show r 0=p from this];exact hp
  | succ j=>
   obtain ⟨_,s,hs,_⟩:=kc.mp this
   exact hD s _ hs
 have nd:((List.range (n+1)).map fun j=>(r j).toNat).Nodup:=by
  rw [List.Nodup,Pf]
  refine List.Pairwise.imp_of_mem (R:=(·<·)) ?_ OH
  intro a b ha hb hab e
  rw [L4] at ha hb
  have r1:=rng a (by omega)
  have r2:=rng b (by omega)
  have e':r a=r b:=by omega
  have h1:=hr' a (by omega)
  have h2:=hr' b (by omega)
  rw [e'] at h1
  have:=h1.one h2
  omega
 have sub:((List.range (n+1)).map fun j=>(r j).toNat) ⊆ List.range m:=fun x hx=>by
  obtain ⟨j,hj,rfl⟩:=Ol.mp hx
  rw [L4] at hj ⊢
  have:=rng j (by omega)
  omega
 have:=nd.length_le_of_subset sub
 rw [Nd,Oe,Oe] at this;omega
end Lv
namespace Lv
def m5 (f:Int->Option Nat) (r:Int) (v:Nat):Int->Option Nat:=fun q=>if q=r then some v else f q
def Bs (n:Nat) (f:Int->Option Nat) (qr:Int × Int):Int->Option Nat:=if f qr.1=some n/\f qr.2=none then m5 f qr.2 (n+1) else f
theorem Ee {n:Nat}{f0 f:Int->Option Nat}{done:List (Int × Int)}{qr:Int × Int}
  (h:∀ q j,f q=some j↔(f0 q=some j\/(f0 q=none/\j=n+1/\∃ r,(r,q)∈done/\f0 r=some n))) :
  ∀ q j,Bs n f qr q=some j↔(f0 q=some j\/(f0 q=none/\j=n+1/\∃ r,(r,q)∈done++[qr]/\f0 r=some n)):=by
 intro q j
 have hn:∀ r,f r=some n↔f0 r=some n:=fun r=>by
  rw [h r n]
  constructor
  ·rintro (z | ⟨_, z, _⟩)
   ·exact z
   ·omega
  ·exact .inl
 have h0:∀ r,f r=none->f0 r=none:=fun r e=>by
  cases e0:f0 r with
  | none=>rfl
  | some i=>
   have:=(h r i).mpr (.inl e0)
   rw [e] at this;cases this
 obtain ⟨a,b⟩:=qr
 unfold Bs
 dsimp only
 by_cases c:f a=some n/\f b=none
 ·rw [LU c]
  unfold m5
  by_cases e:q=b
  ·subst e
   rw [LU rfl]
   have z:=h0 q c.2
   constructor
   ·intro e; cases e
    exact .inr ⟨z,rfl,a,by simp,(hn a).mp c.1⟩
   ·rintro (y | ⟨_, y, _⟩)
    ·rw [z] at y;cases y
    ·rw [y]
  ·rw [LV e, h q j]
   constructor
   ·rintro (y | ⟨y1, y2, r, y3, y4⟩)
    ·exact .inl y
    ·exact .inr ⟨y1,y2,r,Mf _ y3,y4⟩
   ·rintro (y | ⟨y1, y2, r, y3, y4⟩)
    ·exact .inl y
    ·rcases Me.mp y3 with y3 | y3
     ·exact .inr ⟨y1,y2,r,y3,y4⟩
     ·simp at y3;exact absurd y3.2 e
 ·rw [LV c, h q j]
  constructor
  ·rintro (y | ⟨y1, y2, r, y3, y4⟩)
   ·exact .inl y
   ·exact .inr ⟨y1,y2,r,Mf _ y3,y4⟩
  ·rintro (y | ⟨y1, y2, r, y3, y4⟩)
   ·exact .inl y
   ·rcases Me.mp y3 with y3 | y3
    ·exact .inr ⟨y1,y2,r,y3,y4⟩
    ·simp at y3
     obtain ⟨rfl,rfl⟩:=y3
     have c2:f q≠none:=fun z=>c ⟨(hn r).mpr y4,z⟩
     cases e:f q with
     | none=>exact absurd e c2
     | some i=>
      have:=(h q i).mp e
      rcases this with w | ⟨w1,w2,w3⟩
      ·rw [y1] at w;cases w
      ·exact .inr ⟨y1,y2,w3⟩
theorem xA {n:Nat}{f0:Int->Option Nat}:∀ (qs done:List (Int × Int)) (f:Int->Option Nat),
  (∀ q j,f q=some j↔(f0 q=some j\/(f0 q=none/\j=n+1/\∃ r,(r,q)∈done/\f0 r=some n))) ->
  ∀ q j,qs.foldl (Bs n) f q=some j↔(f0 q=some j\/(f0 q=none/\j=n+1/\∃ r,(r,q)∈done++qs/\f0 r=some n))
 | [],done,f,h=>by simpa using h
 | qr::qs,done,f,h=>by
  have:=xA qs (done++[qr]) (Bs n f qr) (Ee h)
  simpa [NG] using this
theorem C2 {adj:Int->Int->Prop}{p:Int}{D:Int->Prop}{n:Nat}{f:Int->Option Nat}{qs:List (Int × Int)} (h:Up adj p D n f) (hD:∀ a b,adj a b->D a) (ha:∀ a b,adj a b↔(a,b)∈qs):Up adj p D (n+1) (qs.foldl (Bs n) f):=by
 refine h.next hD fun q hq j=>?_
 have:=xA (n:=n) (f0:=f) qs [] f (fun q j=>by simp) q j
 rw [this]
 simp only [NL,ha]
def fU (ks:List (List Int)) (a b:Int):Bool:=decide ([min a b,max a b]∈ks)
def rg (m:Nat):List Int:=(List.range m).map Int.ofNat
def cn (w:List Int):Int:=w.getLast?.getD 0
def qv (w:List Int):Int:=w.head?.getD 0
def qV (m:Nat) (ks:List (List Int)) (w:List Int):List Int:=(rg m).filter fun p=>!decide (p∈w) && fU ks (cn w) p
def jT (m:Nat) (ks:List (List Int)) (w:List Int):List (List Int):=(qV m ks w).map fun p=>w++[p]
def cg (m:Nat) (ks:List (List Int)):Nat->List (List Int)
 | 0=>(rg m).map fun p=>[p]
 | k+1=>(cg m ks k).flatMap (jT m ks)
def jW (ks:List (List Int)) (w:List Int):Bool:=fU ks (qv w) (cn w)
def fx (m:Nat) (ks:List (List Int)) (size:Nat):List (List Int):=(cg m ks (size - 1)).filter (jW ks)
def fu (m:Nat) (ks:List (List Int)) (p:Int):List Int:=(rg m).filter fun q=>decide (q=p) || fU ks p q
theorem cT {m:Nat}{p:Int}:p∈rg m↔0<=p/\p<m:=by
 unfold rg
 rw [Ol]
 constructor
 ·rintro ⟨i, hi, rfl⟩
  have:=L4.mp hi
  exact ⟨Int.natCast_nonneg _,by simpa using this⟩
 ·rintro ⟨h0, h1⟩
  exact ⟨p.toNat,L4.mpr (by omega),by simp;omega⟩
theorem iN {m:Nat}:(rg m).length=m:=by simp [rg]
theorem zt {m:Nat}:(rg m).Pairwise (·<·):=by
 unfold rg
 rw [Pf]
 exact OH.imp fun h=>by simpa using h
theorem nj {w:List Int}{p:Int}:cn (w++[p])=p:=by simp [cn]
theorem mz {w:List Int} (h:w≠[]):cn w∈w:=by
 unfold cn
 rw [List.getLast?_eq_getLast h]
 exact List.getLast_mem h
theorem qF {w:List Int} (h:w≠[]):qv w∈w:=by
 cases w with
 | nil=>exact absurd rfl h
 | cons a r=>exact Ma
structure Gy (m k:Nat) (w:List Int):Prop where
 len:w.length=k+1
 nd:w.Nodup
 rng:∀ p∈w,0<=p/\p<(m:Int)
theorem Gy.ne {m k:Nat}{w:List Int} (h:Gy m k w):w≠[]:=fun e=>by have:=h.len;rw [e] at this;simp at this
theorem cZ {m:Nat}{ks:List (List Int)}:∀ {k:Nat}{w:List Int},w∈cg m ks k->Gy m k w
 | 0,w,h=>by
  obtain ⟨p,hp,rfl⟩:=Ol.mp h
  exact ⟨rfl,by simp,fun q hq=>by simp at hq;subst hq;exact cT.mp hp⟩
 | k+1,w,h=>by
  obtain ⟨v,hv,h2⟩:=Qa.mp h
  obtain ⟨p,hp,rfl⟩:=Ol.mp h2
  have ih:=cZ hv
  obtain ⟨h3,h4⟩:=L1.mp hp
  simp only [Nw,Bool.not_eq_true',decide_eq_false_iff_not] at h4
  refine ⟨by simp [ih.len],?_,fun q hq=>?_⟩
  ·rw [OR]
   exact ⟨ih.nd,by simp,fun a ha b hb=>by simp at hb;subst hb;exact fun e=>h4.1 (e ▸ ha)⟩
  ·rcases Me.mp hq with z | z
   ·exact ih.rng q z
   ·simp at z;subst z;exact cT.mp h3
theorem FP {m:Nat}{ks:List (List Int)}{w:List Int}:(jT m ks w).length<=m:=by
 unfold jT qV
 rw [Nd]
 exact L5 (Qb _ _) (by rw [iN];exact MD _)
theorem lQ {m:Nat}{f:List Int->List (List Int)} (h:∀ w,(f w).length<=m):∀ l:List (List Int),(l.flatMap f).length<=l.length * m
 | []=>by simp
 | w::l=>by
  rw [Qc,Nb,NQ,Nat.succ_mul]
  have:=h w;have:=lQ h l;omega
theorem wI {m:Nat} (hm:m<=6) {ks:List (List Int)}:∀ k,(cg m ks k).length<=6 ^ (k+1)
 | 0=>by simp [cg,iN];omega
 | k+1=>by
  have h:=lQ (m:=6) (fun w=>L5 (FP (m:=m) (ks:=ks) (w:=w)) hm) (cg m ks k)
  have:=wI hm (ks:=ks) k
  show ((cg m ks k).flatMap (jT m ks)).length<=_
  rw [Nat.pow_succ]
  exact L5 h (Qd 6 this)
theorem iu {m:Nat} (hm:m<=6) {ks:List (List Int)}{k:Nat} (hk:k<=5):(cg m ks k).length<=46656:=
 L5 (wI hm k) (Nat.pow_le_pow_right (n:=6) (by decide) (show k+1<=6 by omega))
def fy (ks:List (List Int)):List Int->Bool
 | a::b::r=>fU ks a b && fy ks (b::r)
 | _=>true
theorem lU {ks:List (List Int)}{p:Int}:∀ {w:List Int},w≠[]->fy ks (w++[p])=(fy ks w && fU ks (cn w) p)
 | [],h=>absurd rfl h
 | [a],_=>by simp [fy,cn]
 | a::b::r,_=>by
  have ih:=lU (ks:=ks) (p:=p) (w:=b::r) (by simp)
  show (fU ks a b && fy ks (b::r++[p]))=_
  rw [ih]
  show _=((fU ks a b && fy ks (b::r)) && fU ks (cn (a::b::r)) p)
  rw [show cn (a::b::r)=cn (b::r) from by simp [cn,List.getLast?_cons_cons],Bool.and_assoc]
theorem u4 {m:Nat}{ks:List (List Int)}:∀ {k:Nat}{w:List Int},w∈cg m ks k↔Gy m k w/\fy ks w=true
 | 0,w=>by
  constructor
  ·intro h
   have hw:=cZ h
   obtain ⟨p,hp,rfl⟩:=Ol.mp h
   exact ⟨hw,rfl⟩
  ·rintro ⟨h, _⟩
   have hl:=h.len
   cases w with
   | nil=>simp at hl
   | cons a r=>
    cases r with
    | nil=>exact Ol.mpr ⟨a,cT.mpr (h.rng a (by simp)),rfl⟩
    | cons b r=>simp at hl
 | k+1,w=>by
  constructor
  ·intro h
   refine ⟨cZ h,?_⟩
   obtain ⟨v,hv,h2⟩:=Qa.mp h
   obtain ⟨p,hp,rfl⟩:=Ol.mp h2
   obtain ⟨h3,h4⟩:=L1.mp hp
   simp only [Nw] at h4
   have ih:=u4.mp hv
   rw [lU ih.1.ne,ih.2,h4.2];rfl
  ·rintro ⟨h, hl⟩
   obtain ⟨v,p,rfl⟩:∃ v p,w=v++[p]:=⟨w.dropLast,w.getLast h.ne,(Qe h.ne).symm⟩
   have l1:v.length=k+1:=by have:=h.len;simp at this;omega
   have vn:v≠[]:=fun e=>by rw [e] at l1;simp at l1
   rw [lU vn,Nw] at hl
   have nd:=OR.mp h.nd
   refine Qa.mpr ⟨v,u4.mpr ⟨⟨l1,nd.1,fun q hq=>h.rng q (Mf _ hq)⟩,hl.1⟩,Ol.mpr ⟨p,L1.mpr ⟨cT.mpr (h.rng p (by simp)),?_⟩,rfl⟩⟩
   rw [hl.2,Qf,Bool.not_eq_true',decide_eq_false_iff_not]
   exact fun hp=>nd.2.2 p hp p (by simp) rfl
theorem Aw {m:Nat}{ks:List (List Int)}{w:List Int} (h:w≠[]):(fu m ks (cn w)).filter (fun p=>!decide (p∈w))=qV m ks w:=by
 unfold fu qV
 rw [List.filter_filter]
 apply PM
 intro p hp
 by_cases e:p∈w
 ·simp [e]
 ·have : p ≠ cn w := fun z => e (z ▸ mz h)
  simp [e,this]
theorem y8 {w:List Int} (h:w.Nodup) (l:2<=w.length):qv w≠cn w:=by
 cases w with
 | nil=>simp at l
 | cons a r=>
  cases r with
  | nil=>simp at l
  | cons b r=>
   intro e
   have:cn (a::b::r)=cn (b::r):=by simp [cn,List.getLast?_cons_cons]
   rw [this] at e
   have hm:=mz (w:=b::r) (by simp)
   rw [<- e] at hm
   exact (MQ.mp h).1 hm
theorem zi {m:Nat}{ks:List (List Int)}{k:Nat}{w:List Int} (hw:Gy m k w) (hk:1<=k):decide (qv w∈fu m ks (cn w))=jW ks w:=by
 have h1:=y8 hw.nd (by rw [hw.len];omega)
 have h2:=cT.mpr (hw.rng _ (qF hw.ne))
 unfold jW fu
 apply Qg.mpr
 rw [PF,L1]
 simp only [h2,true_and,PU,PF,h1,false_or]
 unfold fU
 rw [Int.min_comm,Int.max_comm]
theorem lG:∀ {w:List Int},w.Nodup->∀ {i j:Nat},i<w.length->j<w.length->w.getD i 0=w.getD j 0->i=j
 | [],_,i,j,hi,_,_=>by simp at hi
 | a::r,h,i,j,hi,hj,e=>by
  have hn:=MQ.mp h
  have mem:∀ {k:Nat},k<r.length->r.getD k 0∈r:=fun hk=>by
   rw [Pb,Pp hk]
   exact Po hk
  cases i with
  | zero=>
   cases j with
   | zero=>rfl
   | succ j=>
    have e':a=r.getD j 0:=e
    exact absurd (e' ▸ mem (by simpa using hj)) hn.1
  | succ i=>
   cases j with
   | zero=>
    have e':r.getD i 0=a:=e
    exact absurd (e' ▸ mem (by simpa using hi)) hn.1
   | succ j=>
    have e':r.getD i 0=r.getD j 0:=e
    have:=lG hn.2 (by simpa using hi) (by simpa using hj) e'
    omega
theorem mB {w:List Int}{i:Nat} (h:i<w.length):w.getD i 0∈w:=by
 rw [Pb,Pp h]
 exact Po h
theorem uk {w:List Int}{a:Int} (h:a∈w):∃ i,i<w.length/\w.getD i 0=a:=by
 obtain ⟨i,hi,e⟩:=Pw h
 exact ⟨i,hi,by rw [Pb,Pp hi];exact e⟩
def vZ (a b:Int):List Int:=[min a b,max a b]
theorem B8 {a b c d:Int} (h:vZ a b=vZ c d):(a=c/\b=d)\/(a=d/\b=c):=by
 unfold vZ at h
 simp only [List.cons.injEq,and_true] at h
 omega
theorem nZ {a b:Int}:vZ a b=vZ b a:=by unfold vZ;rw [Int.min_comm,Int.max_comm]
def pv (w:List Int) (i:Nat):Int:=if i=0 then cn w else w.getD (i - 1) 0
theorem pN {w:List Int}{i:Nat} (h:i<w.length):pv w i=w.getD (if i=0 then w.length - 1 else i - 1) 0:=by
 unfold pv
 split
 ·have hn : w ≠ [] := fun e => by rw [e] at h; simp at h
  obtain ⟨v,p,rfl⟩:∃ v p,w=v++[p]:=⟨w.dropLast,w.getLast hn,(Qe hn).symm⟩
  rw [nj,Pb,Nb,NQ,Of,OG,Pq,MX (MD _),OF]
  rfl
 ·rfl
def j9 (w:List Int) (i:Nat):List Int:=vZ (pv w i) (w.getD i 0)
def jH (ks:List (List Int)) (w:List Int):List (List Int):=ks.filter fun k=>match k with | [a,b]=>decide (a∈w) && decide (b∈w) | _=>false
def nR (ks:List (List Int)) (w:List Int):Bool:=(List.range w.length).all fun i=>(List.range i).all fun k=>fU ks (w.getD i 0) (w.getD k 0) == (decide (i - k=1) || decide (i - k=w.length - 1))
theorem xY {ks:List (List Int)}{w:List Int}:nR ks w=true↔∀ i k,k<i->i<w.length->(fU ks (w.getD i 0) (w.getD k 0)=true↔(i - k=1\/i - k=w.length - 1)):=by
 unfold nR
 simp only [OK,L4,Qh]
 constructor
 ·intro h i k hk hi
  rw [h i hi k hk,PU,PF,PF]
 ·intro h i hi k hk
  apply Qg.mpr
  rw [h i k hk hi,PU,PF,PF]
section
variable {ks:List (List Int)}{w:List Int} (hk:∀ k∈ks,∃ a b:Int,k=[a,b]/\a<b) (hks:ks.Nodup) (nd:w.Nodup) (h4:4<=w.length)
include nd h4
theorem DD {i j:Nat} (hi:i<w.length) (hj:j<w.length) (e:j9 w i=j9 w j):i=j:=by
 unfold j9 at e
 rw [pN hi,pN hj] at e
 rcases B8 e with ⟨_,z⟩ | ⟨z1,z2⟩
 ·exact lG nd hi hj z
 ·have a1 := lG nd (by split <;> omega) hj z1
  have a2:=lG nd hi (by split <;> omega) z2
  split at a1 <;> split at a2 <;> omega
theorem xE:((List.range w.length).map (j9 w)).Nodup:=by
 unfold List.Nodup
 rw [Pf]
 have:(List.range w.length).Pairwise fun a b=>a<b/\a<w.length/\b<w.length:=by
  refine (List.Pairwise.and_mem.mp OH).imp fun {a b} ⟨h1,h2,h3⟩=>⟨h3,L4.mp h1,L4.mp h2⟩
 exact this.imp fun {a b} ⟨h1,h2,h3⟩ e=>by
  have:=DD nd h4 h2 h3 e
  omega
omit nd h4 in
theorem jk {a b:Int}:fU ks a b=true↔vZ a b∈ks:=by unfold fU vZ;rw [PF]
omit nd h4 in
theorem rZ {a b:Int}:vZ a b∈jH ks w↔vZ a b∈ks/\a∈w/\b∈w:=by
 unfold jH
 rw [L1]
 unfold vZ
 simp only [Nw,PF]
 by_cases c:a<=b
 ·rw [Qi c,Qj c]
 ·rw [Qk (by omega), Ql (by omega)]
  constructor
  ·rintro ⟨x,y,z⟩;exact ⟨x,z,y⟩
  ·rintro ⟨x,y,z⟩;exact ⟨x,z,y⟩
theorem pb {i k:Nat} (hki:k<i) (hi:i<w.length):(∃ j,j<w.length/\vZ (w.getD i 0) (w.getD k 0)=j9 w j)↔(i - k=1\/i - k=w.length - 1):=by
 constructor
 ·rintro ⟨j, hj, e⟩
  unfold j9 at e
  rw [pN hj] at e
  rcases B8 e with ⟨z1,z2⟩ | ⟨z1,z2⟩
  ·have a1 := lG nd hi (by split <;> omega) z1
   have a2:=lG nd (by omega) hj z2
   split at a1 <;> omega
  ·have a1 := lG nd hi hj z1
   have a2:=lG nd (by omega) (by split <;> omega) z2
   split at a2 <;> omega
 ·rintro (e | e)
  ·refine ⟨i, hi, ?_⟩
   unfold j9
   rw [pN hi,LV (by omega),nZ,show i - 1=k from by omega]
  ·refine ⟨0, by omega, ?_⟩
   unfold j9
   rw [pN (by omega),LU rfl,show i=w.length - 1 from by omega,show k=0 from by omega]
include hk hks
theorem DK:((∀ i,i<w.length->j9 w i∈ks)/\(jH ks w).length=w.length)↔nR ks w=true:=by
 rw [xY]
 have eW:∀ i,i<w.length->j9 w i∈ks->j9 w i∈jH ks w:=fun i hi h=>by
  have hp:pv w i∈w:=by rw [pN hi];exact mB (by split <;> omega)
  exact rZ.mpr ⟨h,hp,mB hi⟩
 have nW:(jH ks w).Nodup:=hks.filter _
 have lE:((List.range w.length).map (j9 w)).length=w.length:=by simp
 constructor
 ·rintro ⟨h1, h2⟩ i k hki hi
  rw [jk,<- pb nd h4 hki hi]
  constructor
  ·intro ht
   by_cases c:∃ j,j<w.length/\vZ (w.getD i 0) (w.getD k 0)=j9 w j
   ·exact c
   ·exfalso
    have nd2:(vZ (w.getD i 0) (w.getD k 0)::(List.range w.length).map (j9 w)).Nodup:=MQ.mpr ⟨fun hm=>by
     obtain ⟨j,hj,e⟩:=Ol.mp hm
     exact c ⟨j,L4.mp hj,e.symm⟩,xE nd h4⟩
    have:=nd2.length_le_of_subset (l₂:=jH ks w) fun x hx=>by
     rcases Mc.mp hx with rfl | hx
     ·exact rZ.mpr ⟨ht,mB hi,mB (by omega)⟩
     ·obtain ⟨j, hj, rfl⟩ := Ol.mp hx
      exact eW j (L4.mp hj) (h1 j (L4.mp hj))
    rw [NQ,lE] at this
    omega
  ·rintro ⟨j, hj, e⟩
   rw [e];exact h1 j hj
 ·intro h
  have all:∀ i,i<w.length->j9 w i∈ks:=fun i hi=>by
   by_cases c:i=0
   ·subst c
    have:=(h (w.length - 1) 0 (by omega) (by omega)).mpr (.inr (by omega))
    rw [jk] at this
    unfold j9
    rw [pN hi,LU rfl];exact this
   ·have := (h i (i - 1) (by omega) hi).mpr (.inl (by omega))
    rw [jk,nZ] at this
    unfold j9
    rw [pN hi,LV c];exact this
  refine ⟨all,Nat.le_antisymm ?_ ?_⟩
  ·have:=nW.length_le_of_subset (l₂:=(List.range w.length).map (j9 w)) fun x hx=>by
    have hx':=L1.mp hx
    obtain ⟨a,b,rfl,hab⟩:=hk x hx'.1
    have hm:=hx'.2
    simp only [Nw,PF] at hm
    obtain ⟨i,hi,rfl⟩:=uk hm.1
    obtain ⟨j,hj,rfl⟩:=uk hm.2
    have es:vZ (w.getD i 0) (w.getD j 0)=[w.getD i 0,w.getD j 0]:=by
     unfold vZ;rw [Qi (by omega),Qj (by omega)]
    have key:∃ l,l<w.length/\vZ (w.getD i 0) (w.getD j 0)=j9 w l:=by
     rcases Nat.lt_trichotomy i j with z | z | z
     ·have := (h j i z hj).mp (by rw [jk, nZ, es]; exact hx'.1)
      obtain ⟨l,hl,e⟩:=(pb nd h4 z hj).mpr this
      exact ⟨l,hl,by rw [nZ];exact e⟩
     ·subst z;omega
     ·have := (h i j z hi).mp (by rw [jk, es]; exact hx'.1)
      exact (pb nd h4 z hi).mpr this
    obtain ⟨l,hl,e⟩:=key
    rw [<- es,e]
    exact Ol.mpr ⟨l,L4.mpr hl,rfl⟩
   rw [lE] at this;exact this
  ·have:=(xE nd h4).length_le_of_subset (l₂:=jH ks w) fun x hx=>by
    obtain ⟨j,hj,rfl⟩:=Ol.mp hx
    exact eW j (L4.mp hj) (all j (L4.mp hj))
   rw [lE] at this;exact this
end
end Lv
namespace Lw
open PySem L2 RS
theorem bA:1000<=sizeLine:=by decide
theorem zH {μ:aG} (s:Int):∃ r:Int,gy [.int s] μ=.ok (.int r) μ:=by
 have h0:0<=(s+7919) % 2147483647:=Qm _ (by decide)
 have h1:(s+7919) % 2147483647<2147483647:=Qn _ (by decide)
 generalize ht:(s+7919) % 2147483647=t at h0 h1
 refine ⟨(t * t+48271 * t+12345) % 2147483629,?_⟩
 have c1:wk t t:=.inl ⟨by omega,by omega⟩
 have c2:wk 48271 t:=.inl ⟨by omega,by omega⟩
 unfold gy
 rw [ji]
 simp [p8,ht,c1,c2]
 exact bg (by simp)
def aL (a b c:Int):O:=.lst [.int a,.int b,.int c]
theorem qC {n:Nat}{a b c:Int}:(aL a b c).low n:=by simp [aL,O.low]
theorem G6 {μ:aG} (x:Int):∃ a b c:Int,fO [.int x] μ=.ok (.obj μ.length) (μ++[aL a b c]):=by
 have e:∀ i j:Int,qQ [.int i,.int j] μ=.ok (.int (if j > i then j else i)) μ:=fun _ _=>rfl
 have p1:GK 10 18:=⟨by decide,by decide,by decide⟩
 have ib:∀ k:Bool,∀ μ,pR [.bl k] μ=.ok (.int (if k then 1 else 0)) μ:=fun _ _=>rfl
 refine ⟨(if 0 - x > x then 0 - x else x),(if cW .GtE (if 0 - x > x then 0 - x else x) (10 ^ (18:Int).toNat) then 1 else 0),(if 0 - x > x then 0 - x else x) % 1000003,?_⟩
 unfold fO
 rw [ji]
 have l3:(3:Nat)<=sizeLine:=by decide
 simp only [m4,aM,aV,aD,aq,ay,ah,aj,az,aR,aa,ae,Kj,e,bH,aF,aT,cO,List.set,List.replicate,Qo,Qp]
 have pw:GD (.int 10) (.int 18) μ=.ok (.int (10 ^ (18:Int).toNat)) μ:=oU p1
 have md:∀ x,tj (.int x) (.int 1000003) μ=.ok (.int (x % 1000003)) μ:=fun x=>oU (show (0:Int)<1000003 by decide)
 simp only [pw,md,aa,dr,ib,NQ,Of,LU l3,ae,aI]
 rw [qW (by simp)]
 rfl
theorem zK {μ:aG}{i:Nat}{a b c m:Int} (hp:μ[i]?=some (aL a b c)) (h0:0<m) (h1:m<1000) :
  ∃ r a' b' c':Int,0<=r/\r<m/\aJ [.obj i,.int m] μ=.ok (.int r) (μ.set i (aL a' b' c')):=by
 have hi:i<μ.length:=(Mg.mp hp).1
 have hp':μ[i]?=some (.lst [.int a,.int b,.int c]):=hp
 have md:∀ {x:Int}{μ:aG},tj (.int x) (.int m) μ=.ok (.int (x % m)) μ:=fun {x μ}=>oU (show (fun _ j=>(0:Int)<j) x m from h0)
 have fd:∀ {x:Int}{μ:aG},wB (.int x) (.int m) μ=.ok (.int (x / m)) μ:=fun {x μ}=>oU (show D6 x m from ⟨h0,by omega⟩)
 have f64:∀ {x:Int}{μ:aG},wB (.int x) (.int 64) μ=.ok (.int (x / 64)) μ:=fun {x μ}=>oU (show D6 x 64 from ⟨by decide,by decide⟩)
 unfold aJ
 rw [cV]
 by_cases hb:b=1
 ·subst hb
  refine ⟨a % m,a / m,1,c,Qm _ (by omega),Qn _ h0,?_⟩
  simp only [l9,aM,bC,bT,az,ah,aj,aR,aa]
  rw [cU hp' zA]
  simp only [aa,cv,NO,Nn,aQ,ae,aM,aV,az,ah,aj,aR]
  simp only [NP,Nl,Nn,aM,aV,az,ah,aj,aR,aa]
  rw [cU hp' wG]
  simp only [aa,md,ae,bH,aF,List.replicate,Qo,Qp,ah,aj,aR,az,aV,aM]
  rw [cU hp' wG]
  simp only [aa,fd,ae,ml,ah,aj,aR]
  rw [nS hp' (oT (by decide) (by simp))]
  simp only [aa,ae,aF,aT,ah,aj,cB,aI]
  exact z5 (by simp only [Fz]) (qC (a:=a / m) (b:=1) (c:=c))
 ·obtain ⟨s1, e1⟩ := zH (μ := μ) c
  obtain ⟨s2,e2⟩:=zH (μ:=μ) (s1+7)
  refine ⟨s2 / 64 % m,a,b,s2,Qm _ (by omega),Qn _ h0,?_⟩
  have hb':(b == 1)=false:=by simpa using hb
  simp only [l9,aM,bC,bT,az,ah,aj,aR,aa]
  rw [cU hp' zA]
  simp only [aa,cv,hb',aQ,ae,NP,Nl,bD,aF,aM,aV,aD,aq,ay,az,ah,aj,aR]
  rw [cU hp' B4]
  simp only [aa,e1,fR,e2,ae,ml,ah,aj,aR]
  rw [nS hp' (oT (by decide) (by simp))]
  have hg:(μ.set i (.lst ([D.int a,D.int b,D.int c].set (2:Int).toNat (.int s2))))[i]?=some (.lst [D.int a,D.int b,D.int s2]):=by rw [Mi hi];rfl
  simp only [aa,ae,aF,aT,az,ah,aj,aR]
  rw [cU hg B4]
  simp only [aa,f64,md,ae,aI]
  exact z5 (by simp) (qC (a:=a) (b:=b) (c:=s2))
theorem aC {μ g:aG}{i:Nat}{o:O} (h:μ[i]?=some o):(μ++g)[i]?=some o:=by
 rw [MY (Mg.mp h).1];exact h
theorem kG {μ g:aG}{i:Nat}{o:O} (h:i<μ.length):(μ++g).set i o=μ.set i o++g:=by
 rw [List.set_append_left _ _ h]
theorem fP {μ:aG}{i:Nat}{o:O} (h:i<μ.length):(μ.set i o)[i]?=some o:=Mi h
theorem uB {β γ:Type}{f:β->γ}:∀ {l:List β}{i:Nat},(l.map f).eraseIdx i=(l.eraseIdx i).map f
 | [],_=>rfl
 | _::_,0=>rfl
 | x::r,i+1=>by simp [uB (l:=r) (i:=i)]
theorem Fn {μ:aG}{i:Nat}{a b c:Int}{L:List Int}{ys:List D}{x:D} (hi:i<μ.length) (hL:0<L.length) (hL2:L.length<1000) :
  ∃ (r:Nat) (y:Int) (a' b' c':Int),L[r]?=some y/\eC [some x,some (.obj μ.length),some (.obj i)] ((μ.set i (aL a b c)++[.lst (L.map D.int)])++.lst ys::[]) =
   .ok (.int y) ((μ.set i (aL a' b' c')++[.lst ((L.eraseIdx r).map D.int)])++.lst ys::[]):=by
 have hn:((μ.set i (aL a b c)++[.lst (L.map D.int)])++.lst ys::[])[μ.length]?=some (.lst (L.map D.int)):=by
  have e:μ.length=(μ.set i (aL a b c)).length:=by simp
  rw [NG,e]
  exact ar
 have hp:((μ.set i (aL a b c)++[.lst (L.map D.int)])++.lst ys::[])[i]?=some (aL a b c):=aC (aC (fP hi))
 obtain ⟨r,a',b',c',h0,h1,e⟩:=zK (m:=(L.length:Int)) hp (by omega) (by omega)
 have hr:r.toNat<L.length:=by omega
 refine ⟨r.toNat,L[r.toNat],a',b',c',Pp hr,?_⟩
 have hset:((μ.set i (aL a b c)++[O.lst (L.map D.int)])++O.lst ys::[]).set i (aL a' b' c')=(μ.set i (aL a' b' c')++[O.lst (L.map D.int)])++O.lst ys::[]:=by
  rw [kG (by simp;omega),kG (by simpa using hi),Qq]
 have hn':((μ.set i (aL a' b' c')++[.lst (L.map D.int)])++.lst ys::[])[μ.length]?=some (.lst (L.map D.int)):=by
  have e:μ.length=(μ.set i (aL a' b' c')).length:=by simp
  rw [NG,e]
  exact ar
 have hl:Bo (.obj μ.length) ((μ.set i (aL a b c)++[.lst (L.map D.int)])++.lst ys::[])=true:=by
  unfold Bo;simp only [hn]
 unfold eC
 simp only [zw,aj,ah,aa,hl,Nn,aq,ay,aD]
 rw [vt hn]
 simp only [aa,Nd]
 rw [e]
 simp only [aa,hset]
 unfold rq
 dsimp only
 rw [hn']
 dsimp only
 rw [oT h0 (by simpa using h1)]
 dsimp only
 rw [MZ,Pp hr]
 dsimp only [Option.map_some]
 rw [LU (by omega)]
 congr 1
 have e2:μ.length=(μ.set i (aL a' b' c')).length:=by simp
 rw [NG,e2]
 show (μ.set i (aL a' b' c')++O.lst (L.map D.int)::[O.lst ys]).set _ _=_
 rw [iH,NG]
 congr 2
 congr 1
 exact uB
theorem yW {L:List Int}{r:Nat}{y:Int} (h:L[r]?=some y):L.Perm (y::L.eraseIdx r):=by
 induction L generalizing r with
 | nil=>simp at h
 | cons x l ih=>
  cases r with
  | zero=>simp at h;subst h;exact List.Perm.refl _
  | succ r=>
   simp at h
   exact ((ih h).cons x).trans (List.Perm.swap y x _)
theorem wN {μ:aG}{i:Nat}{a b c m:Int} (hp:μ[i]?=some (aL a b c)) (h0:1<=m) (h1:m<=6) :
  ∃ (ns:List Int) (a' b' c':Int),ns.Nodup/\(ns.length:Int)=m/\(∀ n∈ns,0<=n/\n<m)/\cD [.obj i,.int m] μ=.ok (.tup (ns.map D.int)) (μ.set i (aL a' b' c')):=by
 have hi:i<μ.length:=(Mg.mp hp).1
 have h00:μ=μ.set i (aL a b c):=by
  apply Pc
  intro j
  by_cases hj:i=j
  ·subst hj;rw [fP hi];exact hp
  ·rw [Mj hj]
 let N0:List Int:=(List.range m.toNat).map fun (k:Nat)=>(k:Int)
 have hN0:bJ 0 m.toNat=N0.map D.int:=by
  simp only [bJ,N0,Oc]
  apply Od;intro k _;simp
 have run:=jm (src:=.fix (bJ 0 m.toNat)) (g:=ai 0) (t:=bI) (e:=eC) (n:=μ.length+1)
  (fun xs ys ρ μ1 s=>s=[]/\∃ (o:Option D) (L ns:List Int) (a b c:Int),ρ=[o,some (.obj μ.length),some (.obj i)]/\μ1=μ.set i (aL a b c)++[.lst (L.map D.int)]/\ys=ns.map D.int/\(ns++L).Perm N0/\L.length=xs.length/\xs.length<=6)
  (fun ys ρ μ1 s ⟨_,o,L,ns,a,b,c,_,e,_⟩=>⟨by rw [e];simp,trivial⟩)
  (fun x r ys ρ μ1 s hJJ => by
   obtain ⟨es,o,L,ns,a,b,c,e1,e2,e3,e4,e5,e6⟩:=hJJ
   subst es
   refine ⟨by rw [e2];simp,trivial,[some x,some (.obj μ.length),some (.obj i)],μ1,[],true,μ1,[],by rw [e1];rfl,rfl,fun _=>?_,fun z=>by cases z⟩
   simp only [NQ] at e5 e6
   obtain ⟨j,y,a',b',c',hj,e⟩:=Fn (a:=a) (b:=b) (c:=c) (L:=L) (ys:=ys) (x:=x) hi (by omega) (by omega)
   rw [e2]
   refine ⟨.int y,_,[],e,?_,by simp,rfl,some x,L.eraseIdx j,ns++[y],a',b',c',rfl,rfl,by rw [e3];simp,?_,?_,by omega⟩
   ·rw [e3, Nd]
    have:=e4.length_eq
    have hN:N0.length=m.toNat:=by simp [N0]
    rw [Nb,hN] at this
    exact LY (show ns.length<1000 by omega) bA
   ·rw [NG]
    exact (List.Perm.append_left ns (yW hj).symm).trans e4
   ·have hlt := (Mg.mp hj).1
    rw [List.length_eraseIdx,LU hlt];omega)
  (xs:=bJ 0 m.toNat) (ys:=[]) (ρ:=[none,some (.obj μ.length),some (.obj i)]) (μ1:=μ++[.lst (bJ 0 m.toNat)]) (s:=[])
  ⟨rfl,none,N0,[],a,b,c,rfl,by rw [<- h00,hN0],rfl,by simp,by simp [N0,bJ],by simp [bJ];omega⟩
 obtain ⟨ys',ρ',μ1',s',⟨es,o,L,ns,a',b',c',f1,f2,f3,f4,f5,_⟩,run⟩:=run
 have hLn:L=[]:=PH (by simpa using f5)
 subst hLn es
 rw [MM] at f4
 refine ⟨ns,a',b',c',?_,?_,fun n hn=>?_,?_⟩
 ·rw [f4.nodup_iff]
  simp only [N0]
  rw [List.nodup_iff_pairwise_ne,Pf]
  exact (On (n:=m.toNat)).imp fun h e=>h (by omega)
 ·have := f4.length_eq
  rw [this];simp [N0];omega
 ·have := f4.mem_iff.mp hn
  simp only [N0,Ol,L4] at this
  obtain ⟨k,hk,rfl⟩:=this
  omega
 ·unfold cD
  rw [cV]
  have lr:oV [.int m] μ=.ok (.obj μ.length) (μ++[.lst (bJ 0 m.toNat)]):=by
   unfold oV;dsimp only;rw [LU (by omega)]
  simp only [lb,aM,aV,aD,aq,ay,aj,ah,aa,lr,ae,bH,aF,aT,bP,bW]
  simp only [List.replicate,Qo,Qp,aj,ah,aa]
  rw [dq (by omega) (by omega)]
  simp only [aa,aW,Nb,NQ,Of]
  rw [show eE [none,some 2,some 0] [some (D.obj i),some (D.int m),some (D.obj μ.length)]=[none,some (.obj μ.length),some (.obj i)] from rfl]
  rw [run]
  simp only [aa]
  have hl:(μ1'++[O.lst ys'])[μ.length+1]?=some (.lst ys'):=by
   have:μ1'.length=μ.length+1:=by rw [f2];simp
   rw [<- this];exact ar
  rw [jI hl]
  simp only [ae,aI]
  rw [f2,f3,NG]
  exact yB (fH.mpr (by simp)) qC
def pL (m:Int) (k:List Int):Prop:=∃ a b:Int,k=[a,b]/\0<=a/\a<b/\b<m
theorem pL.prs {m:Int}{k:List Int} (h:pL m k) (hm:m<=6):k∈prs:=by
 obtain ⟨a,b,rfl,h1,h2,h3⟩:=h
 exact zP h1 h2 (by omega)
def bu (d:D) (m:Int) (ks:List (List Int)):Prop:=d=.tup [.int m,.tup (ks.map ao)]/\1<=m/\m<=6/\(ks.Pairwise fun a b=>tS a<tS b)/\∀ k∈ks,pL m k
theorem pT {m:Int}{ks:List (List Int)} (h0:1<=m) (h1:m<=6) (hk:∀ k∈ks,pL m k):bu (.tup [.int m,.tup ((kU ks).map ao)]) m (kU ks):=by
 refine ⟨rfl,h0,h1,sd.filter _,fun k h=>?_⟩
 unfold kU at h
 rw [L1,PF] at h
 exact hk k h.2
theorem lP {m:Int}{ks:List (List Int)}{d:D} (h:bu d m ks):ks.length<=15:=by
 obtain ⟨_,_,hm,hp,hk⟩:=h
 have hn:ks.Nodup:=hp.imp fun h e=>by subst e;omega
 have hs:ks ⊆ prs:=fun k h=>(hk k h).prs hm
 have:=hn.length_le_of_subset hs
 rw [zQ] at this
 exact this
def dG (p:Int × Int):D:=.tup [.int p.1,.int p.2]
theorem l2:(2:Nat)<=sizeLine:=by decide
theorem K5 {u v:Int}{μ:aG}:uT [.tup [.int u,.int v]] μ=.ok (.int (min u v)) μ:=rfl
theorem K6 {u v:Int}{μ:aG}:qQ [.tup [.int u,.int v]] μ=.ok (.int (max u v)) μ:=rfl
theorem CH {μ:aG}{m:Int}{ps:List (Int × Int)}{ns:List Int} (h0:1<=m) (h1:m<=6) (hps:∀ p∈ps,0<=p.1/\p.1<m/\0<=p.2/\p.2<m/\p.1≠p.2) (hl:ps.length<1000)
  (hn:ns.Nodup) (hnl:(ns.length:Int)=m) (hnr:∀ n∈ns,0<=n/\n<m) :
  ∃ d ks,bu d m ks/\gP [.tup [.int m,.tup (ps.map dG)],.tup (ns.map D.int)] μ=.ok d μ:=by
 let nm:Int->Int:=fun k=>ns.getD k.toNat 0
 have nmD:∀ k,0<=k->k<m->atI (ns.map D.int) k=some (.int (nm k)):=fun k k0 k1=>by
  have hk:k.toNat<ns.length:=by omega
  refine kE k0 ?_
  rw [MZ,Pp hk]
  simp [nm,Pb,Pp hk]
 have nmR:∀ k,0<=k->k<m->0<=nm k/\nm k<m:=fun k k0 k1=>by
  have hk:k.toNat<ns.length:=by omega
  have:nm k=ns[k.toNat]:=by simp [nm,Pb,Pp hk]
  rw [this];exact hnr _ (Po hk)
 have nmI:∀ j k,0<=j->j<m->0<=k->k<m->j≠k->nm j≠nm k:=fun j k j0 j1 k0 k1 hjk e=>by
  have hj:j.toNat<ns.length:=by omega
  have hk:k.toNat<ns.length:=by omega
  have e1:nm j=ns[j.toNat]:=by simp [nm,Pb,Pp hj]
  have e2:nm k=ns[k.toNat]:=by simp [nm,Pb,Pp hk]
  rw [e1,e2] at e
  have:=(Mh hn).mp e
  omega
 let qs:List (Int × Int):=ps.map fun p=>(nm p.1,nm p.2)
 let ks:List (List Int):=qs.map fun p=>[min p.1 p.2,max p.1 p.2]
 have hks:∀ k∈ks,pL m k:=fun k hk=>by
  simp only [ks,qs,Oc,Ol,Function.comp_apply] at hk
  obtain ⟨p,hp,rfl⟩:=hk
  obtain ⟨a1,a2,a3,a4,a5⟩:=hps p hp
  have b1:=nmR p.1 a1 a2
  have b2:=nmR p.2 a3 a4
  have b3:=nmI p.1 p.2 a1 a2 a3 a4 a5
  exact ⟨_,_,rfl,by omega,by omega,by omega⟩
 refine ⟨_,_,pT h0 h1 hks,?_⟩
 have c1:compLoop (.fix (ps.map dG)) μ.length (fC 2 (bB (ai 0) (bB (ai 1) fD))) bI h8 (ps.map dG) [none,none,some (.tup (ns.map D.int))] (μ++[.lst []])=.ok (.obj μ.length) (μ++[.lst (qs.map dG)]):=by
  have:=fk (src:=.fix (ps.map dG)) (g:=fC 2 (bB (ai 0) (bB (ai 1) fD))) (t:=bI) (e:=h8) (μ1:=μ) (q:=fun _=>true)
   (h:=fun d=>match d with | .tup [.int a,.int b]=>dG (nm a,nm b) | _=>.non) (fun ρ=>∃ o1 o2,ρ=[o1,o2,some (.tup (ns.map D.int))]) (fun _=>trivial) (xs:=ps.map dG) (acc:=[]) (ρ:=[none,none,some (.tup (ns.map D.int))]) ⟨none,none,rfl⟩
   (by rw [Nd,Of];exact L5 (by omega) bA)
   (fun x hx a ρ hJJ => by
    obtain ⟨o1,o2,ho⟩:=hJJ
    obtain ⟨p,hp,rfl⟩:=Ol.mp hx
    obtain ⟨a1,a2,a3,a4,a5⟩:=hps p hp
    refine ⟨[some (.int p.1),some (.int p.2),some (.tup (ns.map D.int))],⟨_,_,rfl⟩,by subst ho;rfl,rfl,fun _=>?_⟩
    unfold h8
    simp only [bO,aq,ay,az,aj,ah,aa]
    rw [lI (nmD p.1 a1 a2)]
    simp only [aa]
    rw [lI (nmD p.2 a3 a4)]
    simp only [aa,NQ,Of,LU l2]
    rfl)
  rw [this,Qr.mpr (fun _ _=>rfl)]
  simp only [NL,Oc,qs]
  rfl
 have c2:compLoop (.own μ.length (qs.map dG)) (μ++[O.lst (qs.map dG)]).length (ai 0) bI hZ (qs.map dG) [none] ((μ++[O.lst (qs.map dG)])++[.lst []])=.ok (.obj (μ++[O.lst (qs.map dG)]).length) ((μ++[O.lst (qs.map dG)])++[.lst (ks.map ao)]):=by
  have:=fk (src:=.own μ.length (qs.map dG)) (g:=ai 0) (t:=bI) (e:=hZ) (μ1:=μ++[O.lst (qs.map dG)]) (q:=fun _=>true)
   (h:=fun d=>match d with | .tup [.int a,.int b]=>ao [min a b,max a b] | _=>.non) (fun ρ=>∃ o1,ρ=[o1]) (fun a=>aC ar) (xs:=qs.map dG) (acc:=[]) (ρ:=[none]) ⟨none,rfl⟩
   (by rw [Nd,Of];simp only [qs,Nd];exact L5 (by omega) bA)
   (fun x hx a ρ hJJ => by
    obtain ⟨o1,ho⟩:=hJJ
    obtain ⟨p,hp,rfl⟩:=Ol.mp hx
    refine ⟨[some (dG p)],⟨_,rfl⟩,by subst ho;rfl,rfl,fun _=>?_⟩
    unfold hZ dG
    simp only [bO,aq,ay,aD,ah,aa,K5,K6,NQ,Of,LU l2]
    rfl)
  rw [this,Qr.mpr (fun _ _=>rfl)]
  simp only [NL,Oc,ks]
  rfl
 have kd:lA (ks.map ao)=some ks:=rO fun k hk=>(hks k hk).prs h1
 unfold gP
 rw [cV]
 simp only [oH,aM,aV,bP,bY,az,ah,aj,aR,aa,dQ,jJ,aW]
 rw [show eE [none,none,some 1] (some (D.tup [D.int m,D.tup (List.map dG ps)])::some (D.tup (List.map D.int ns))::List.replicate (3 - 2) none)=[none,none,some (.tup (ns.map D.int))] from rfl,c1]
 simp only [ae,bH,aF,aT,bO,aq,ay,aD,az,ah,aj,aR,aa,List.replicate,Qo,Qp,bG,bP,bY]
 rw [dm ar]
 simp only [aa,b8]
 rw [show eE [none] _=[none] from rfl,c2]
 simp only [aa]
 have s1:ky [.obj (μ++[O.lst (qs.map dG)]).length] (μ++[O.lst (qs.map dG)]++[O.lst (ks.map ao)])=.ok (.obj (μ++[O.lst (qs.map dG)]++[O.lst (ks.map ao)]).length) ((μ++[O.lst (qs.map dG)]++[O.lst (ks.map ao)])++[.set (fX ks)]):=by
  unfold ky;dsimp only;rw [ar];dsimp only;unfold nH;rw [kd]
 rw [s1]
 simp only [aa]
 have s2:∀ M:aG,dR [.obj M.length] (M++[.set (fX ks)])=.ok (.obj (M++[O.set (fX ks)]).length) ((M++[.set (fX ks)])++[.lst ((kU ks).map ao)]):=fun M=>by
  unfold dR;dsimp only;rw [ar];dsimp only;rw [pU]
 rw [s2]
 simp only [aa]
 rw [jI ar]
 simp only [aa,NQ,Of,LU l2,ae,aI]
 rw [NG,NG,NG]
 exact fW (by simp;exact fH.mpr (fun x hx=>by obtain ⟨k,_,rfl⟩:=Ol.mp hx;simp [ao];exact fH.mpr (by simp)))
theorem xu {n:Nat}{d:D}{m:Int}{ks:List (List Int)} (h:bu d m ks):d.low n:=by
 obtain ⟨rfl,_⟩:=h
 simp
 exact fH.mpr fun x hx=>by
  obtain ⟨k,_,rfl⟩:=Ol.mp hx
  simp [ao]
  exact fH.mpr (by simp)
theorem jb {lo:Int}{n:Nat}:bJ lo (n+1)=.int lo::bJ (lo+1) n:=by
 unfold bJ
 rw [Ob,Nz,Oc]
 congr 1
 ·simp
 ·apply Od
  intro i _
  simp only [Function.comp_apply]
  congr 1
  omega
theorem kg {lo:Int}:bJ lo 0=[]:=rfl
theorem oa {lo:Int}{n:Nat} (h:bJ lo n=[]):n=0:=by
 cases n with
 | zero=>rfl
 | succ n=>rw [jb] at h;cases h
theorem rS {x:D}:∀ k:Nat,(List.replicate k [x]).flatten=List.replicate k x
 | 0=>rfl
 | k+1=>by rw [NC,ND,rS k];rfl
theorem l1:(1:Nat)<=sizeLine:=by decide
theorem Lg {M:aG}{m:Nat}{x:D} (hm:m<=6):gQ [some x,some (.int m)] M=.ok (.obj (M.length+1)) (M++[.lst [.non],.lst (List.replicate m .non)]):=by
 unfold gQ
 simp only [az,cO,aq,ay,aR,aa,NQ,Of,LU l1,aj,ah]
 unfold mE
 dsimp only
 rw [ar]
 dsimp only
 have hz:(6:Nat)<=sizeLine:=by decide
 rw [LU (by refine ⟨by omega,by omega,?_⟩;simp only [NQ,Of];omega)]
 simp only [Nj,rS,Nb,NQ,Of,NG,Oh,NL]
end Lw
namespace Lw
open PySem L2 RS Lv
def lh:Option Nat->D
 | none=>.non
 | some n=>.int n
theorem AN (o:Option Nat):lh o=.non\/∃ i,lh o=.int i:=by
 cases o with
 | none=>exact .inl rfl
 | some n=>exact .inr ⟨n,rfl⟩
def dH (m:Nat) (f:Int->Option Nat):List D:=(List.range m).map fun q:Nat=>lh (f q)
theorem n9 {m:Nat}{f:Int->Option Nat}{q:Int} (q0:0<=q) (q1:q<m):atI (dH m f) q=some (lh (f q)):=by
 refine kE q0 ?_
 unfold dH
 rw [MZ,Pd (by omega)]
 simp only [Option.map_some,OL q0]
theorem rK {m:Nat}{f:Int->Option Nat}{q:Int}{v:Nat} (q0:0<=q) (q1:q<m):(dH m f).set q.toNat (.int v)=dH m (m5 f q v):=by
 unfold dH
 apply Pc
 intro i
 rw [List.getElem?_set,Nd,Oe,MZ,MZ]
 by_cases e:q.toNat=i
 ·rw [LU e, LU (by omega), Pd (by omega), <- e]
  simp only [Option.map_some,OL q0,m5,LU rfl]
  rfl
 ·rw [LV e]
  by_cases hi:i<m
  ·rw [Pd hi]
   simp only [Option.map_some,m5]
   rw [LV (by omega)]
  ·rw [Pe (by rw [Oe]; omega)]
   rfl
def jS (T:Int->Int->Option Nat) (p:Int) (f:Int->Option Nat):Int->Int->Option Nat:=fun p'=>if p'=p then f else T p'
theorem oY {T:Int->Int->Option Nat}{p:Int}{f:Int->Option Nat}:jS T p f p=f:=LU rfl
theorem wV {T:Int->Int->Option Nat}{p:Int}{f g:Int->Option Nat}:jS (jS T p f) p g=jS T p g:=by
 funext p'
 unfold jS
 by_cases e:p'=p
 ·rw [LU e,LU e]
 ·rw [LV e,LV e,LV e]
def FT (μ0:aG) (m a:Nat) (T:Int->Int->Option Nat) (μ:aG):Prop:=μ0.length<=a/\(∀ i,i<μ0.length->μ[i]?=μ0[i]?)/\∃ bs:List Nat,bs.Nodup/\μ[a]?=some (.lst (bs.map D.obj))/\bs.length=m /\
 ∀ (p b:Nat),bs[p]?=some b->μ0.length<=b/\b≠a/\μ[b]?=some (.lst (dH m (T p)))
theorem FT.app {μ0 μ g:aG}{m a:Nat}{T:Int->Int->Option Nat} (h:FT μ0 m a T μ):FT μ0 m a T (μ++g):=by
 obtain ⟨h1,h2,bs,h0,h3,h4,h5⟩:=h
 have hl:μ0.length<=μ.length:=L5 h1 (L7 (Mg.mp h3).1)
 refine ⟨h1,fun i hi=>?_,bs,h0,aC h3,h4,fun p b hb=>?_⟩
 ·rw [MY (by omega)];exact h2 i hi
 ·obtain ⟨g1, g2, g3⟩ := h5 p b hb
  exact ⟨g1,g2,aC g3⟩
theorem FT.pre {μ0 μ:aG}{m a:Nat}{T:Int->Int->Option Nat} (h:FT μ0 m a T μ):∃ g,μ=μ0++g:=by
 obtain ⟨h1,h2,bs,h0,h3,h4,h5⟩:=h
 refine ⟨μ.drop μ0.length,?_⟩
 apply Pc
 intro i
 by_cases hi:i<μ0.length
 ·rw [MY hi,h2 i hi]
 ·rw [MX (by omega), Oz]
  congr 1;omega
theorem FT.get {μ0 μ:aG}{m a:Nat}{T:Int->Int->Option Nat}{p:Int} (h:FT μ0 m a T μ) (p0:0<=p) (p1:p<m):∃ b,bQ (.obj a) (.int p) μ=.ok (.obj b) μ/\(∀ q:Int,0<=q->q<m->bQ (.obj b) (.int q) μ=.ok (lh (T p q)) μ) /\
  ∀ (q:Int) (v:Nat),0<=q->q<m->∃ μ',yu (.obj b) (.int q) (.int v) μ=.ok () μ'/\(∀ (n:Nat) xs t,μ[n]?=some (.lst xs)->D.tup t∈xs->μ'[n]?=some (.lst xs))/\FT μ0 m a (jS T p (m5 (T p) q v)) μ':=by
 obtain ⟨h1,h2,bs,h0,h3,h4,h5⟩:=h
 have hp:p.toNat<bs.length:=by omega
 have hpe:((p.toNat:Nat):Int)=p:=OL p0
 obtain ⟨g1,g2,g3⟩:=h5 p.toNat bs[p.toNat] (Pp hp)
 rw [hpe] at g3
 refine ⟨bs[p.toNat],cU h3 (kE p0 (by rw [MZ,Pp hp];rfl)),fun q q0 q1=>cU g3 (n9 q0 q1),fun q v q0 q1=>?_⟩
 have hlen:(dH m (T p)).length=m:=by unfold dH;rw [Nd,Oe]
 refine ⟨_,nS g3 (oT q0 (by rw [hlen];exact q1)),fun n xs t hn ht=>?_,h1,fun i hi=>?_,bs,h0,?_,h4,fun p' b hb=>?_⟩
 ·by_cases e : bs[p.toNat] = n
  ·subst e
   rw [g3] at hn
   cases hn
   unfold dH at ht
   obtain ⟨j,_,hj⟩:=Ol.mp ht
   rcases AN (T p j) with z | ⟨i,z⟩ <;> (rw [z] at hj;cases hj)
  ·rw [Mj e];exact hn
 ·rw [Mj (by omega)];exact h2 i hi
 ·rw [Mj (by omega)];exact h3
 ·obtain ⟨k1, k2, k3⟩ := h5 p' b hb
  obtain ⟨hp',hbe⟩:=Mg.mp hb
  refine ⟨k1,k2,?_⟩
  by_cases e:p'=p.toNat
  ·subst e
   rw [hbe,fP (Mg.mp (hbe ▸ g3)).1,rK q0 q1,hpe,oY]
  ·have hne : bs[p.toNat] ≠ b := fun z => e ((Mh h0).mp (hbe.trans z.symm))
   rw [Mj hne,k3]
   unfold jS
   rw [LV (by omega)]
def wc (ks:List (List Int)):List (Int × Int):=ks.flatMap fun k=>match k with
 | [u,v]=>[(u,v),(v,u)]
 | _=>[]
def mO (ks:List (List Int)) (a b:Int):Prop:=(a,b)∈wc ks
theorem IT {μ:aG}{o:Option Nat}{n:Nat}:fv false (lh o) (.int ((n:Int)+1 - 1)) μ=.ok (.bl (decide (o=some n))) μ:=by
 cases o with
 | none=>rfl
 | some k=>
  show fv false (.int k) (.int ((n:Int)+1 - 1)) μ=_
  rw [cv]
  simp only [NP,Nl]
  congr 2
  by_cases e:k=n
  ·subst e;simp
  ·have : ¬ (k : Int) = (n : Int) + 1 - 1 := by omega
   rw [LR (show ¬ some k=some n by simp [e])]
   exact beq_eq_false_iff_ne.mpr this
theorem pd {o:Option Nat}:(lh o).isNon=decide (o=none):=by
 cases o <;> rfl
section
variable {μ0 μ:aG}{m a:Nat}{web:D}{M p u v q r:Int}{n:Nat}{T:Int->Int->Option Nat}{f:Int->Option Nat}
theorem Lu (h:FT μ0 m a (jS T p f) μ) (p0:0<=p) (p1:p<m) (q0:0<=q) (q1:q<m) (r0:0<=r) (r1:r<m) :
  ∃ μ',kO [some web,some (.int M),some (.obj a),some (.int p),some (.int ((n:Int)+1)),some (.int u),some (.int v),some (.int q),some (.int r)] μ=.next [some web,some (.int M),some (.obj a),some (.int p),some (.int ((n:Int)+1)),some (.int u),some (.int v),some (.int q),some (.int r)] μ' /\
   (∀ (n:Nat) xs t,μ[n]?=some (.lst xs)->D.tup t∈xs->μ'[n]?=some (.lst xs))/\FT μ0 m a (jS T p (Bs n f (q,r))) μ':=by
 obtain ⟨b,e1,e2,k⟩:=h.get p0 p1
 rw [oY] at k e2
 have sub1:∀ x:Int,gC (.int x) (.int 1) μ=.ok (.int (x - 1)) μ:=fun _=>rfl
 unfold kO
 simp only [bC,fQ,bT,az,aj,ah,aR,aa,e1,e2 q q0 q1,sub1,IT,aQ]
 unfold Bs
 dsimp only
 by_cases c1:f q=some n
 ·simp only [NM c1, Nn, e1, e2 r r0 r1, aa, lJ, pd, NP, Nl, aQ, ae]
  by_cases c2:f r=none
  ·obtain ⟨μ', g1, g2, g3⟩ := k r (n + 1) r0 r1
   rw [wV] at g3
   rw [show ((n+1:Nat):Int)=(n:Int)+1 by push_cast;rfl] at g1
   simp only [NM c2,Nn,aV,aj,ah,ae,ml,az,aa,e1,g1]
   rw [LU ⟨c1,c2⟩]
   exact ⟨μ',rfl,g2,g3⟩
  ·simp only [LR c2, NP, Nl, bD]
   rw [LV fun z=>c2 z.2]
   exact ⟨μ,rfl,fun _ _ _ h _=>h,h⟩
 ·simp only [LR c1, NP, Nl, ae, bD]
  rw [LV fun z=>c1 z.1]
  exact ⟨μ,rfl,fun _ _ _ h _=>h,h⟩
theorem fr3 (h:FT μ0 m a (jS T p f) μ) (p0:0<=p) (p1:p<m) (u0:0<=u) (u1:u<m) (v0:0<=v) (v1:v<m) {o7 o8:Option D} :
  ∃ o7' o8' μ',i8 [some web,some (.int M),some (.obj a),some (.int p),some (.int ((n:Int)+1)),some (.int u),some (.int v),o7,o8] μ=.next [some web,some (.int M),some (.obj a),some (.int p),some (.int ((n:Int)+1)),some (.int u),some (.int v),o7',o8'] μ'/\FT μ0 m a (jS T p (Bs n (Bs n f (u,v)) (v,u))) μ':=by
 unfold i8
 simp only [dO,bY,cO,aq,ay,bO,aj,ah,aa,NQ,Of,LU l2]
 rw [dm ar]
 simp only [ae,b8]
 have hn:(μ++[O.lst [.tup [.int u,.int v],.tup [.int v,.int u]]])[μ.length]?=some (.lst [.tup [.int u,.int v],.tup [.int v,.int u]]):=ar
 obtain ⟨μ1,e1,e2,e3⟩:=Lu (web:=web) (M:=M) (n:=n) (u:=u) (v:=v) (h.app (g:=[O.lst [.tup [.int u,.int v],.tup [.int v,.int u]]])) p0 p1 u0 u1 v0 v1
 have hn1:=e2 _ _ _ hn Ma
 obtain ⟨μ2,f1,f2,f3⟩:=Lu (web:=web) (M:=M) (n:=n) (u:=u) (v:=v) e3 p0 p1 v0 v1 u0 u1
 have hn2:=f2 _ _ _ hn1 Ma
 refine ⟨some (.int v),some (.int u),μ2,?_,f3⟩
 have g1:fC 2 (bB (ai 7) (bB (ai 8) fD)) (.tup [.int u,.int v]) [some web,some (.int M),some (.obj a),some (.int p),some (.int ((n:Int)+1)),some (.int u),some (.int v),o7,o8] (μ++[O.lst [.tup [.int u,.int v],.tup [.int v,.int u]]])=.ok [some web,some (.int M),some (.obj a),some (.int p),some (.int ((n:Int)+1)),some (.int u),some (.int v),some (.int u),some (.int v)] (μ++[O.lst [.tup [.int u,.int v],.tup [.int v,.int u]]]):=rfl
 have g2:fC 2 (bB (ai 7) (bB (ai 8) fD)) (.tup [.int v,.int u]) [some web,some (.int M),some (.obj a),some (.int p),some (.int ((n:Int)+1)),some (.int u),some (.int v),some (.int u),some (.int v)] μ1=.ok [some web,some (.int M),some (.obj a),some (.int p),some (.int ((n:Int)+1)),some (.int u),some (.int v),some (.int v),some (.int u)] μ1:=rfl
 unfold d9
 rw [LU (show cY (.own μ.length _) _ from hn),g1,ae,e1,ve]
 unfold d9
 rw [LU (show cY (.own μ.length _) _ from hn1),g2,ae,f1,ve]
 unfold d9
 rw [LU (show cY (.own μ.length _) _ from hn2)]
theorem LL {ks:List (List Int)} (hk:∀ k∈ks,pL m k) (h:FT μ0 m a (jS T p f) μ) (p0:0<=p) (p1:p<m) {o5 o6 o7 o8:Option D} :
  ∃ o5' o6' o7' o8' μ',i7 [some (.tup [.int M,.tup (ks.map ao)]),some (.int M),some (.obj a),some (.int p),some (.int ((n:Int)+1)),o5,o6,o7,o8] μ=.next [some (.tup [.int M,.tup (ks.map ao)]),some (.int M),some (.obj a),some (.int p),some (.int ((n:Int)+1)),o5',o6',o7',o8'] μ'/\FT μ0 m a (jS T p ((wc ks).foldl (Bs n) f)) μ':=by
 unfold i7
 simp only [dO,bY,az,ah,aR,aa,dQ,jJ,ae,aW]
 have run:=dP (src:=.fix (ks.map ao)) (g:=fC 2 (bB (ai 5) (bB (ai 6) fD))) (fb:=i8)
  (fun xs ρ μ1=>∃ ys zs:List (List Int),xs=zs.map ao/\ks=ys++zs/\FT μ0 m a (jS T p ((wc ys).foldl (Bs n) f)) μ1/\∃ o5 o6 o7 o8,ρ=[some (.tup [.int M,.tup (ks.map ao)]),some (.int M),some (.obj a),some (.int p),some (.int ((n:Int)+1)),o5,o6,o7,o8])
  (fun _ _ _=>trivial)
  (fun x xs ρ μ1 hJJ => by
   obtain ⟨ys,zs,hx,hks,hF,o5,o6,o7,o8,e⟩:=hJJ
   subst e
   cases zs with
   | nil=>cases hx
   | cons k zs=>
    injection hx with hx1 hx2
    subst hx1 hx2
    obtain ⟨u,v,rfl,u0,uv,v1⟩:=hk k (by rw [hks];simp)
    obtain ⟨o7',o8',μ3,e1,e3⟩:=fr3 (web:=.tup [.int M,.tup (ks.map ao)]) (M:=M) (n:=n) (u:=u) (v:=v) (o7:=o7) (o8:=o8) hF p0 p1 u0 (by omega) (by omega) v1
    refine ⟨trivial,_,μ1,_,μ3,rfl,e1,ys++[[u,v]],zs,rfl,by rw [hks];simp,?_,_,_,_,_,rfl⟩
    have:wc (ys++[[u,v]])=wc ys++[(u,v),(v,u)]:=by simp [wc]
    rw [this,OW]
    exact e3)
  (xs:=ks.map ao) (ρ:=[some (.tup [.int M,.tup (ks.map ao)]),some (.int M),some (.obj a),some (.int p),some (.int ((n:Int)+1)),o5,o6,o7,o8]) (μ:=μ)
  ⟨[],ks,rfl,rfl,h,o5,o6,o7,o8,rfl⟩
 obtain ⟨ρ',μ',⟨ys,zs,hx,hks,hF,o5',o6',o7',o8',e⟩,run⟩:=run
 subst e
 have hz:zs=[]:=by cases zs with
  | nil=>rfl
  | cons=>cases hx
 subst hz
 rw [MM] at hks
 subst hks
 exact ⟨o5',o6',o7',o8',μ',run,hF⟩
theorem iy {ks:List (List Int)} (hk:∀ k∈ks,pL m k) {x y:Int} (h:mO ks x y):(0<=x/\x<m)/\(0<=y/\y<m):=by
 unfold mO wc at h
 obtain ⟨k,hk',hm⟩:=Qa.mp h
 obtain ⟨u,v,rfl,u0,uv,v1⟩:=hk k hk'
 simp at hm
 omega
theorem fr5 {ks:List (List Int)} (hk:∀ k∈ks,pL m k) (h:FT μ0 m a (jS T p fun _=>none) μ) (p0:0<=p) (p1:p<m) (hm:m<=6) {o4 o5 o6 o7 o8:Option D} :
  ∃ o4' o5' o6' o7' o8' μ' f,i6 [some (.tup [.int m,.tup (ks.map ao)]),some (.int m),some (.obj a),some (.int p),o4,o5,o6,o7,o8] μ=.next [some (.tup [.int m,.tup (ks.map ao)]),some (.int m),some (.obj a),some (.int p),o4',o5',o6',o7',o8'] μ'/\FT μ0 m a (jS T p f) μ'/\qi (mO ks) p (fun q=>0<=q/\q<m) f:=by
 obtain ⟨b,e1,_,k⟩:=h.get p0 p1
 obtain ⟨μ1,e3,_,h1⟩:=k p 0 p0 p1
 rw [wV,oY] at h1
 unfold i6
 simp only [aM,aV,aR,ae,ml,az,aj,ah,aa,e1]
 rw [show (D.int 0)=.int ((0:Nat):Int) from rfl,e3]
 simp only [aa,ae,aF,dO,bW,aq,ay,aR,aj,ah]
 rw [nT (by omega) (by omega) (by omega) (by omega)]
 simp only [ae,aW]
 have run:=dP (src:=.fix (bJ 1 ((m:Int) - 1).toNat)) (g:=ai 4) (fb:=i7)
  (fun xs ρ μ1=>∃ (n c:Nat) (f:Int->Option Nat),xs=bJ ((n:Int)+1) c/\n+1+c=m/\FT μ0 m a (jS T p f) μ1/\Up (mO ks) p (fun q=>0<=q/\q<m) n f/\∃ o4 o5 o6 o7 o8,ρ=[some (.tup [.int m,.tup (ks.map ao)]),some (.int m),some (.obj a),some (.int p),o4,o5,o6,o7,o8])
  (fun _ _ _=>trivial)
  (fun x xs ρ μ1 hJJ => by
   obtain ⟨n,c,f,hx,hc,hF,hU,o4,o5,o6,o7,o8,e⟩:=hJJ
   subst e
   cases c with
   | zero=>rw [kg] at hx;cases hx
   | succ c=>
    rw [jb] at hx
    injection hx with hx1 hx2
    subst hx1 hx2
    obtain ⟨o5',o6',o7',o8',μ3,e1,e3⟩:=LL (M:=m) (n:=n) (o5:=o5) (o6:=o6) (o7:=o7) (o8:=o8) hk hF p0 p1
    exact ⟨trivial,_,μ1,_,μ3,rfl,e1,n+1,c,_,by push_cast;rfl,by omega,e3,C2 hU (fun a b h=>(iy hk h).1) (fun a b=>Iff.rfl),_,_,_,_,_,rfl⟩)
  (xs:=bJ 1 ((m:Int) - 1).toNat) (ρ:=[some (.tup [.int m,.tup (ks.map ao)]),some (.int m),some (.obj a),some (.int p),o4,o5,o6,o7,o8]) (μ:=μ1)
  ⟨0,m - 1,_,by rw [show ((m:Int) - 1).toNat=m - 1 by omega];rfl,by omega,h1,Ag (fun q _=>by unfold m5;rfl),o4,o5,o6,o7,o8,rfl⟩
 obtain ⟨ρ',μ',⟨n,c,f,hx,hc,hF,hU,o4',o5',o6',o7',o8',e⟩,run⟩:=run
 subst e
 have hz:=oa hx.symm
 subst hz
 refine ⟨o4',o5',o6',o7',o8',μ',f,run,hF,hU.full (fun a b h=>(iy hk h).2) fun q hq hl=>?_⟩
 have:=Cj (m:=m) ⟨p0,p1⟩ (fun a b h=>(iy hk h).2) hl
 omega
end
theorem ub {m:Nat}:dH m (fun _=>none)=List.replicate m .non:=by
 unfold dH lh
 rw [List.map_const',Oe]
theorem FL {μ:aG}{m:Nat} (hm:m<=6):∃ (bs:List Nat) (s:aG),compLoop (.fix (bJ 0 m)) μ.length (ai 0) bI gQ (bJ 0 m) [none,some (.int m)] (μ++[.lst []])=.ok (.obj μ.length) (μ++.lst (bs.map D.obj)::s)/\bs.length=m/\bs.Nodup/\∀ b∈bs,∃ j,b=μ.length+1+j/\s[j]?=some (.lst (List.replicate m .non)):=by
 have run:=jm (src:=.fix (bJ 0 m)) (g:=ai 0) (t:=bI) (e:=gQ) (n:=μ.length)
  (fun xs ys ρ μ1 s=>μ1=μ/\(∃ o,ρ=[o,some (.int m)])/\∃ bs:List Nat,ys=bs.map D.obj/\bs.length+xs.length=m/\bs.Nodup/\∀ b∈bs,∃ j,b=μ.length+1+j/\s[j]?=some (.lst (List.replicate m .non)))
  (fun ys ρ μ1 s ⟨e,_⟩=>⟨by rw [e],trivial⟩)
  (fun x r ys ρ μ1 s hJJ => by
   obtain ⟨e1,⟨o,e2⟩,bs,e3,e4,e6,e5⟩:=hJJ
   subst e1 e2
   refine ⟨rfl,trivial,[some x,some (.int m)],_,s,true,_,s,rfl,rfl,fun _=>?_,fun z=>by cases z⟩
   have e:=Lg (M:=μ1++.lst ys::s) (x:=x) hm
   simp only [NQ] at e4
   refine ⟨.obj ((μ1++O.lst ys::s).length+1),μ1,s++[.lst [.non],.lst (List.replicate m .non)],by rw [e];simp,?_,rfl,rfl,⟨_,rfl⟩,bs++[(μ1++O.lst ys::s).length+1],by rw [e3];simp,by simp;omega,?_,fun b hb=>?_⟩
   ·rw [e3, Nd]
    exact LY (show bs.length<1000 by omega) bA
   ·rw [OR]
    refine ⟨e6,by simp,fun b hb c hc=>?_⟩
    obtain ⟨j,f1,f2⟩:=e5 b hb
    have:=(Mg.mp f2).1
    simp only [N1,Nb,NQ] at hc
    omega
   ·rcases Me.mp hb with z | z
    ·obtain ⟨j, f1, f2⟩ := e5 b z
     exact ⟨j,f1,aC f2⟩
    ·refine ⟨s.length + 1, ?_, ?_⟩
     ·simp only [N1,Nb,NQ] at z;omega
     ·rw [MX (by omega)];simp)
  (xs:=bJ 0 m) (ys:=[]) (ρ:=[none,some (.int m)]) (μ1:=μ) (s:=[])
  ⟨rfl,⟨_,rfl⟩,[],rfl,by simp [bJ],by simp,by simp⟩
 obtain ⟨ys',ρ',μ1',s',⟨e1,_,bs,e3,e4,e6,e5⟩,run⟩:=run
 subst e1 e3
 exact ⟨bs,s',run,by simpa using e4,e6,e5⟩
theorem zJ {μ:aG}{k:Nat}{ks:List (List Int)} (h:bu (.tup [.int k,.tup (ks.map ao)]) k ks):∃ a μ' T,eP [.tup [.int k,.tup (ks.map ao)]] μ=.ok (.obj a) μ'/\FT μ k a T μ'/\∀ p:Int,0<=p->p<k->qi (mO ks) p (fun q=>0<=q/\q<k) (T p):=by
 obtain ⟨_,h0,h1,hp,hk⟩:=h
 have hk6:k<=6:=by omega
 obtain ⟨bs,s,e1,e2,e4,e3⟩:=FL (μ:=μ) hk6
 have F0:FT μ k μ.length (fun _ _=>none) (μ++.lst (bs.map D.obj)::s):=by
  refine ⟨MD _,fun i hi=>by rw [MY hi],bs,e4,ar,e2,fun p b hb=>?_⟩
  obtain ⟨j,rfl,f⟩:=e3 b (Na hb)
  refine ⟨by omega,by omega,?_⟩
  rw [MX (by omega),show μ.length+1+j - μ.length=j+1 by omega,ub]
  exact f
 have run:=dP (src:=.fix (bJ 0 k)) (g:=ai 3) (fb:=i6)
  (fun xs ρ μ1=>∃ (n c:Nat) (T:Int->Int->Option Nat),xs=bJ n c/\n+c=k/\FT μ k μ.length T μ1/\(∀ p:Int,(n:Int)<=p->T p=fun _=>none)/\(∀ p:Int,0<=p->p<n->qi (mO ks) p (fun q=>0<=q/\q<k) (T p))/\∃ o3 o4 o5 o6 o7 o8,ρ=[some (.tup [.int k,.tup (ks.map ao)]),some (.int k),some (.obj μ.length),o3,o4,o5,o6,o7,o8])
  (fun _ _ _=>trivial)
  (fun x xs ρ μ1 hJJ => by
   obtain ⟨n,c,T,hx,hc,hF,hN,hU,o3,o4,o5,o6,o7,o8,e⟩:=hJJ
   subst e
   cases c with
   | zero=>rw [kg] at hx;cases hx
   | succ c=>
    rw [jb] at hx
    injection hx with hx1 hx2
    subst hx1 hx2
    have hT:jS T n (fun _=>none)=T:=by
     funext p'
     unfold jS
     by_cases e:p'=(n:Int)
     ·rw [LU e,e,hN n (PR _)]
     ·rw [LV e]
    obtain ⟨o4',o5',o6',o7',o8',μ3,f,g1,g3,g4⟩:=fr5 (T:=T) (p:=(n:Int)) (o4:=o4) (o5:=o5) (o6:=o6) (o7:=o7) (o8:=o8) hk (by rw [hT];exact hF) (by omega) (by omega) hk6
    refine ⟨trivial,_,μ1,_,μ3,rfl,g1,n+1,c,_,by push_cast;rfl,by omega,g3,fun p hp=>?_,fun p p0 p1=>?_,_,_,_,_,_,_,rfl⟩
    ·unfold jS
     rw [LV (by omega)]
     exact hN p (by omega)
    ·unfold jS
     by_cases e:p=(n:Int)
     ·rw [LU e,e];exact g4
     ·rw [LV e];exact hU p p0 (by omega))
  (xs:=bJ 0 k) (ρ:=[some (.tup [.int k,.tup (ks.map ao)]),some (.int k),some (.obj μ.length),none,none,none,none,none,none]) (μ:=μ++.lst (bs.map D.obj)::s)
  ⟨0,k,_,rfl,by omega,F0,fun _ _=>rfl,fun p p0 p1=>by omega,_,_,_,_,_,_,rfl⟩
 obtain ⟨ρ',μ',⟨n,c,T,hx,hc,hF,hN,hU,o3,o4,o5,o6,o7,o8,e⟩,run⟩:=run
 subst e
 have hz:=oa hx.symm
 subst hz
 have hnk:n=k:=by omega
 subst hnk
 refine ⟨μ.length,μ',T,?_,hF,hU⟩
 unfold eP
 rw [ji]
 simp only [sI,aM,aV,az,ah,aR,aa,bG,ae,bH,aF,bP,bW,aq,ay]
 simp only [List.replicate,Qo,Qp,aj,ah,aa]
 rw [dq (by omega) (by omega)]
 simp only [aa,aW,Nj]
 rw [show eE [none,some 1] [some (D.tup [D.int n,D.tup (List.map ao ks)]),some (D.int n),none,none,none,none,none,none,none]=[none,some (.int n)] from rfl,e1]
 simp only [ae,bH,aF,aM,dO,bW,aq,ay,Qo,Qp,aj,ah,aa]
 rw [dq (by omega) (by omega)]
 simp only [ae,aW,Nj]
 rw [run]
 simp only [aF,aT,aj,ah,ae,aI]
 exact qW (by simp)
def Ks (k:Int):Option Nat->Bool
 | some j=>decide ((j:Int)<=k)
 | none=>false
def m6 (T:Int->Int->Option Nat) (k p lo:Int) (c:Nat):List (List Int):=(((List.range c).map fun i:Nat=>lo+(i:Int)).filter fun q=>Ks k (T p q)).map fun q=>[p,q]
def Gv (m:Nat) (T:Int->Int->Option Nat) (k:Int):List (List Int):=(List.range m).flatMap fun p:Nat=>m6 T k p ((p:Int)+1) (m - (p+1))
theorem wW {T:Int->Int->Option Nat}{k p lo:Int}{c:Nat}:(m6 T k p lo c).length<=c:=by
 unfold m6
 rw [Nd]
 refine L5 (Qb _ _) ?_
 rw [Nd,Oe]
 exact MD _
theorem rJ {T:Int->Int->Option Nat}{k p lo:Int}{c:Nat}{x:List Int} (h:x∈m6 T k p lo c):∃ q:Int,x=[p,q]/\lo<=q/\q<lo+c:=by
 unfold m6 at h
 obtain ⟨q,hq,rfl⟩:=Ol.mp h
 obtain ⟨hq,_⟩:=L1.mp hq
 obtain ⟨i,hi,rfl⟩:=Ol.mp hq
 rw [L4] at hi
 exact ⟨_,rfl,by omega,by omega⟩
theorem EH {T:Int->Int->Option Nat}{k p lo:Int}{c:Nat}:(m6 T k p lo c).Pairwise fun a b=>tS a<tS b:=by
 unfold m6
 rw [Pf]
 apply List.Pairwise.filter
 rw [Pf]
 exact OH.imp fun {a b} h=>by show p * 6+(lo+(a:Int))<p * 6+(lo+(b:Int));omega
theorem wK {m:Nat}{T:Int->Int->Option Nat}{k:Int} (h0:1<=m) (h1:m<=6):bu (.tup [.int m,.tup ((Gv m T k).map ao)]) m (Gv m T k):=by
 refine ⟨rfl,by omega,by omega,?_,fun x hx=>?_⟩
 ·unfold Gv
  rw [List.pairwise_flatMap]
  refine ⟨fun p _=>EH,?_⟩
  refine List.Pairwise.imp_of_mem (R:=(·<·)) ?_ OH
  intro a b ha hb hab x hx y hy
  rw [L4] at ha hb
  obtain ⟨q,rfl,q0,q1⟩:=rJ hx
  obtain ⟨r,rfl,r0,r1⟩:=rJ hy
  show (a:Int) * 6+q<(b:Int) * 6+r
  omega
 ·unfold Gv at hx
  obtain ⟨p,hp,hx⟩:=Qa.mp hx
  rw [L4] at hp
  obtain ⟨q,rfl,q0,q1⟩:=rJ hx
  exact ⟨_,_,rfl,by omega,by omega,by omega⟩
theorem C1 {T:Int->Int->Option Nat}{k p lo:Int}{c:Nat}:((bJ lo c).filter fun d=>match d with | .int q=>Ks k (T p q) | _=>false).map (fun d=>match d with | .int q=>ao [p,q] | _=>.non)=(m6 T k p lo c).map ao:=by
 unfold bJ m6
 rw [Qs,Oc,Qs,Oc,Oc]
 rfl
section
variable {μ0 μ:aG}{m a:Nat}{p q:Int}{k:Int}{T:Int->Int->Option Nat}
theorem Cw (h:FT μ0 m a T μ) (p0:0<=p) (p1:p<m) (q0:0<=q) (q1:q<m):eT [some (.int q),some (.int p),some (.int k),some (.obj a)] μ=.ok (Ks k (T p q)) μ:=by
 obtain ⟨b,e1,e2,_⟩:=h.get p0 p1
 unfold eT
 simp only [fQ,bT,az,aj,ah,aR,aa,e1,e2 q q0 q1,lJ,pd,aQ]
 cases e:T p q with
 | none=>rfl
 | some j=>
  simp only [LR (show ¬ some j=none by simp),OU,Nn,dr,aa,aQ,lh]
  rfl
theorem Cy (h:FT μ0 m a T μ) (hm:m<=6) (p0:0<=p) (p1:p<m) :
  compLoop (.fix (bJ (p+1) ((m:Int) - (p+1)).toNat)) μ.length (ai 0) eT hV (bJ (p+1) ((m:Int) - (p+1)).toNat) [none,some (.int p),some (.int k),some (.obj a)] (μ++[.lst []])=.ok (.obj μ.length) (μ++[.lst ((m6 T k p (p+1) ((m:Int) - (p+1)).toNat).map ao)]):=by
 have:=fk (src:=.fix (bJ (p+1) ((m:Int) - (p+1)).toNat)) (g:=ai 0) (t:=eT) (e:=hV) (μ1:=μ) (q:=fun d=>match d with | .int q=>Ks k (T p q) | _=>false)
  (h:=fun d=>match d with | .int q=>ao [p,q] | _=>.non) (fun ρ=>∃ o,ρ=[o,some (.int p),some (.int k),some (.obj a)]) (fun _=>trivial) (xs:=bJ (p+1) ((m:Int) - (p+1)).toNat) (acc:=[]) (ρ:=[none,some (.int p),some (.int k),some (.obj a)]) ⟨none,rfl⟩
  (by unfold bJ;rw [Nd,Of,Oe];exact L5 (by omega) bA)
  (fun x hx acc ρ hJJ => by
   obtain ⟨o,ho⟩:=hJJ
   unfold bJ at hx
   obtain ⟨i,hi,rfl⟩:=Ol.mp hx
   rw [L4] at hi
   subst ho
   refine ⟨[some (.int (p+1+(i:Int))),some (.int p),some (.int k),some (.obj a)],⟨_,rfl⟩,rfl,Cw (h.app) p0 p1 (by omega) (by omega),fun _=>?_⟩
   unfold hV
   simp only [bO,aq,ay,aj,ah,aa,NQ,Of,LU l2]
   rfl)
 rw [this,C1]
 rfl
end
theorem lQ {m:Nat}{T:Int->Int->Option Nat}{k:Int} (h:m<=6):∀ n,((List.range n).flatMap fun p:Nat=>m6 T k p ((p:Int)+1) (m - (p+1))).length<=6 * n
 | 0=>by simp
 | n+1=>by
  rw [Qt,Qu,Nb]
  have:=lQ (T:=T) (k:=k) h n
  have h2:=wW (T:=T) (k:=k) (p:=n) (lo:=(n:Int)+1) (c:=m - (n+1))
  simp only [Qc,Qv,MM]
  omega
theorem Ay {μ:aG}{m:Nat}{k:Int}{ks:List (List Int)} (h:bu (.tup [.int m,.tup (ks.map ao)]) m ks):∃ T,(∀ p:Int,0<=p->p<m->qi (mO ks) p (fun q=>0<=q/\q<m) (T p)) /\
  dU [.tup [.int m,.tup (ks.map ao)],.int k] μ=.ok (.tup [.int m,.tup ((Gv m T k).map ao)]) μ:=by
 obtain ⟨a,μf,T,ef,hF,hT⟩:=zJ (μ:=μ) h
 obtain ⟨_,h0,h1,hp,hk⟩:=h
 have hm6:m<=6:=by omega
 refine ⟨T,hT,?_⟩
 have run:=dP (src:=.fix (bJ 0 m)) (g:=ai 4) (fb:=gY)
  (fun xs ρ μ1=>∃ (n c t:Nat) (o4:Option D),xs=bJ n c/\n+c=m/\ρ=[some (.tup [.int m,.tup (ks.map ao)]),some (.int k),some (.obj a),some (.obj t),o4]/\FT μ m a T μ1/\μ1[t]?=some (.lst (((List.range n).flatMap fun p:Nat=>m6 T k p ((p:Int)+1) (m - (p+1))).map ao)))
  (fun _ _ _=>trivial)
  (fun x r ρ μ1 hJJ => by
   obtain ⟨n,c,t,o4,e1,e3,e4,e5,e6⟩:=hJJ
   subst e4
   cases c with
   | zero=>rw [kg] at e1;cases e1
   | succ c=>
    rw [jb] at e1
    injection e1 with ex er
    subst ex er
    have q3:=Cy (k:=k) (p:=(n:Int)) e5 hm6 (by omega) (by omega)
    rw [show ((m:Int) - ((n:Int)+1)).toNat=m - (n+1) by omega] at q3
    have hlen:=lQ (T:=T) (k:=k) hm6 n
    have hrow:=wW (T:=T) (k:=k) (p:=n) (lo:=(n:Int)+1) (c:=m - (n+1))
    refine ⟨trivial,_,μ1,[some (.tup [.int m,.tup (ks.map ao)]),some (.int k),some (.obj a),some (.obj (μ1.length+1)),some (.int n)],(μ1++[O.lst ((m6 T k n ((n:Int)+1) (m - (n+1))).map ao)])++[O.lst (((List.range (n+1)).flatMap fun p:Nat=>m6 T k p ((p:Int)+1) (m - (p+1))).map ao)],rfl,?_,n+1,c,μ1.length+1,some (.int n),by push_cast;rfl,by omega,rfl,(e5.app).app,?_⟩
    ·show gY [some (.tup [.int m, .tup (ks.map ao)]), some (.int k), some (.obj a), some (.obj t), some (.int n)] μ1 = _
     unfold gY
     simp only [aV,az,aj,ah,aa,bP,bW,aq,ay,aR,fR,bG]
     rw [nT (by omega) (by omega) (by omega) (by omega)]
     simp only [aa,aW]
     rw [show ((m:Int) - ((n:Int)+1)).toNat=m - (n+1) by omega]
     rw [show eE [none,some 4,some 1,some 2] [some (D.tup [D.int ↑m,D.tup (List.map ao ks)]),some (D.int k),some (D.obj a),some (D.obj t),some (D.int n)]=[none,some (.int n),some (.int k),some (.obj a)] from rfl,q3]
     simp only [aa]
     unfold bq
     dsimp only
     rw [aC e6,ar]
     dsimp only
     rw [LU (by
      rw [Nd,Nd]
      exact L5 (show _<=1000 by omega) bA)]
     simp only [ae,bH]
     simp only [Nb,NQ,Of,Qo,Qp,Qt,Qu,Ou,Qc,Qv,MM]
    ·have : μ1.length + 1 = (μ1 ++ [O.lst ((m6 T k n ((n : Int) + 1) (m - (n + 1))).map ao)]).length := by simp
     rw [this];exact ar)
  (xs:=bJ 0 m) (ρ:=[some (.tup [.int m,.tup (ks.map ao)]),some (.int k),some (.obj a),some (.obj μf.length),none]) (μ:=μf++[.lst []])
  ⟨0,m,μf.length,none,rfl,by omega,rfl,hF.app,ar⟩
 obtain ⟨ρ',μ',⟨n,c,t,o4,e1,e3,e4,e5,e6⟩,run⟩:=run
 subst e4
 have hz:=oa e1.symm
 subst hz
 have hnm:n=m:=by omega
 subst hnm
 have hg:bu (.tup [.int n,.tup ((Gv n T k).map ao)]) n (Gv n T k):=wK (by omega) hm6
 obtain ⟨g,hpre⟩:=e5.pre
 unfold dU
 rw [cV]
 simp only [oF,aM,aV,aD,aq,ay,ah,aa,ef,ae,bH,aF,cO]
 have l0:(0:Nat)<=sizeLine:=NZ _
 simp only [Of,LU l0,ae,aF,List.replicate,Qo,Qp,aM,dO,bW,aq,ay,az,ah,aR,aa,bG]
 rw [dq (by omega) (by omega)]
 simp only [ae,aW,Nj]
 rw [run]
 simp only [aF,aT,bO,aq,ay,az,aD,aj,ah,aR,aa,bG]
 rw [jI e6]
 simp only [aa,NQ,Of,LU l2,ae,aI]
 rw [hpre]
 exact fW (xu hg)
theorem rP {μ:aG}:∀ fs:List Int,ij μ (fs.map D.int)=some (fs.map PyData.int)
 | []=>rfl
 | x::fs=>by simp only [Nz,ij,rP fs];rfl
theorem lN:∀ fs:List Int,PyData.canLayAll0 (fs.map PyData.int)=true/\PyData.depthAll (fs.map PyData.int)=0
 | []=>by simp [PyData.canLayAll0,PyData.depthAll]
 | x::fs=>by
  have:=lN fs
  simp only [Nz,PyData.canLayAll0,PyData.depthAll,PyData.canLay0,PyData.depth,this.1,this.2]
  exact ⟨rfl,rfl⟩
theorem zW {μ:aG}{F:Nat}{fs:List Int}{a:Int} (h:μ[F]?=some (.lst (fs.map D.int))):qh false (.int a) (.obj F) μ=.ok (.bl (decide (a∈fs))) μ:=by
 have e1:kT μ (.int a)=some (.int a):=rfl
 have e2:kT μ (.obj F)=some (.list (fs.map PyData.int)):=by
  unfold kT
  dsimp only
  rw [h]
  dsimp only
  rw [rP]
  rfl
 have f1:dJ (.int a)=true:=rfl
 have f2:dJ (.list (fs.map PyData.int))=true:=by
  have:=lN fs
  simp only [dJ,PyData.canLay0,this.1,PyData.depth,this.2,Qw]
  rfl
 unfold qh
 rw [e1,e2]
 dsimp only [rl]
 rw [LU ⟨f1,f2⟩]
 simp only [NP,Nl]
 congr 2
 rw [Qx]
 apply Qg.mpr
 rw [Qy,PF]
 constructor
 ·rintro ⟨x, hx, e⟩
  have:x=a:=by simpa [PyData.eqv] using e
  subst this;exact hx
 ·intro hx
  exact ⟨a,hx,by simp [PyData.eqv]⟩
theorem mn {m:Int}{ks:List (List Int)} (hk:∀ k∈ks,pL m k) {a b:Int}:mO ks a b↔([a,b]∈ks\/[b,a]∈ks):=by
 unfold mO wc
 rw [Qa]
 constructor
 ·rintro ⟨k, hk', hm⟩
  obtain ⟨u,v,rfl,_⟩:=hk k hk'
  simp at hm
  rcases hm with ⟨rfl,rfl⟩ | ⟨rfl,rfl⟩
  ·exact .inl hk'
  ·exact .inr hk'
 ·rintro (h | h)
  ·exact ⟨_,h,by simp⟩
  ·exact ⟨_,h,by simp⟩
theorem pA {m:Int}{t e:List Int->Int}:∀ {ks:List (List Int)},(∀ k∈ks,pL m k)->∀ (P:Int->Bool),∃ l:List Int,
  ((ks.map ao).filter (fun d=>match d with | .tup [.int a,.int b]=>P (t [a,b]) | _=>false)).map (fun d=>match d with | .tup [.int a,.int b]=>.int (e [a,b]) | _=>.non)=l.map D.int/\l.length<=ks.length/\∀ x,x∈l↔∃ k∈ks,P (t k)=true/\x=e k
 | [],_,P=>⟨[],rfl,MD _,by simp⟩
 | k::ks,h,P=>by
  obtain ⟨l,e1,e2,e3⟩:=pA (t:=t) (e:=e) (ks:=ks) (fun x hx=>h x (Mb _ hx)) P
  obtain ⟨a,b,rfl,_⟩:=h k Ma
  rw [Nz,PX]
  show ∃ l:List Int,List.map _ (if P (t [a,b])=true then _ else _)=_/\_
  by_cases c:P (t [a,b])=true
  ·rw [LU c, Nz, e1]
   refine ⟨e [a,b]::l,rfl,by simp;omega,fun x=>?_⟩
   simp only [Mc,e3]
   constructor
   ·rintro (rfl | ⟨k, hk, z⟩)
    ·exact ⟨[a,b],.inl rfl,c,rfl⟩
    ·exact ⟨k,.inr hk,z⟩
   ·rintro ⟨k, rfl | hk, z1, z2⟩
    ·exact .inl z2
    ·exact .inr ⟨k,hk,z1,z2⟩
  ·rw [LV c, e1]
   refine ⟨l,rfl,by simp;omega,fun x=>?_⟩
   simp only [Mc,e3]
   constructor
   ·rintro ⟨k,hk,z⟩;exact ⟨k,.inr hk,z⟩
   ·rintro ⟨k, rfl | hk, z1, z2⟩
    ·exact absurd z1 c
    ·exact ⟨k,hk,z1,z2⟩
def D0:List Int->Int
 | [a,_]=>a
 | _=>0
def DW:List Int->Int
 | [_,b]=>b
 | _=>0
theorem wM {μ:aG}{m:Int}{F:Nat}{fs:List Int}{ks:List (List Int)} (hk:∀ k∈ks,pL m k) (hl:ks.length<=15) (h:μ[F]?=some (.lst (fs.map D.int))) :
  ∃ (t:Nat) (g:aG) (ns:List Int),dh [.tup (ks.map ao),.obj F] μ=.ok (.obj t) (μ++g)/\(μ++g)[t]?=some (.lst (ns.map D.int))/\ns.length<=30/\μ.length<=t/\∀ q,q∈ns↔∃ r∈fs,mO ks r q:=by
 obtain ⟨l1,a1,a2,a3⟩:=pA (t:=D0) (e:=DW) hk fun x=>decide (x∈fs)
 obtain ⟨l2',b1,b2,b3⟩:=pA (t:=DW) (e:=D0) hk fun x=>decide (x∈fs)
 have c1:=fk (src:=.fix (ks.map ao)) (g:=fC 2 (bB (ai 0) (bB (ai 1) (fD)))) (t:=iR) (e:=k9) (μ1:=μ)
  (q:=fun d=>match d with | .tup [.int a,.int b]=>decide (D0 [a,b]∈fs) | _=>false) (h:=fun d=>match d with | .tup [.int a,.int b]=>.int (DW [a,b]) | _=>.non)
  (fun ρ=>∃ o1 o2,ρ=[o1,o2,some (.obj F)]) (fun _=>trivial) (xs:=ks.map ao) (acc:=[]) (ρ:=[none,none,some (.obj F)]) ⟨_,_,rfl⟩
  (by rw [Nd,Of];exact L5 (by omega) bA)
  (fun x hx a ρ hJJ => by
   obtain ⟨o1,o2,ho⟩:=hJJ
   obtain ⟨k,hk',rfl⟩:=Ol.mp hx
   obtain ⟨u,v,rfl,_⟩:=hk k hk'
   subst ho
   refine ⟨[some (.int u),some (.int v),some (.obj F)],⟨_,_,rfl⟩,rfl,?_,fun _=>rfl⟩
   unfold iR
   simp only [bT,az,aj,ah,aa]
   rw [zW (aC h)]
   rfl)
 have c2:=fun M:aG=>fun hM:M[F]?=some (.lst (fs.map D.int))=>fk (src:=.fix (ks.map ao)) (g:=fC 2 (bB (ai 0) (bB (ai 1) (fD)))) (t:=iQ) (e:=kZ) (μ1:=M)
  (q:=fun d=>match d with | .tup [.int a,.int b]=>decide (DW [a,b]∈fs) | _=>false) (h:=fun d=>match d with | .tup [.int a,.int b]=>.int (D0 [a,b]) | _=>.non)
  (fun ρ=>∃ o1 o2,ρ=[o1,o2,some (.obj F)]) (fun _=>trivial) (xs:=ks.map ao) (acc:=[]) (ρ:=[none,none,some (.obj F)]) ⟨_,_,rfl⟩
  (by rw [Nd,Of];exact L5 (by omega) bA)
  (fun x hx a ρ hJJ => by
   obtain ⟨o1,o2,ho⟩:=hJJ
   obtain ⟨k,hk',rfl⟩:=Ol.mp hx
   obtain ⟨u,v,rfl,_⟩:=hk k hk'
   subst ho
   refine ⟨[some (.int u),some (.int v),some (.obj F)],⟨_,_,rfl⟩,rfl,?_,fun _=>rfl⟩
   unfold iQ
   simp only [bT,az,aj,ah,aa]
   rw [zW (aC hM)]
   rfl)
 rw [NL,a1] at c1
 have c2':=c2 (μ++[O.lst (l1.map D.int)]) (aC h)
 rw [NL,b1] at c2'
 refine ⟨((μ++[O.lst (l1.map D.int)])++[O.lst (l2'.map D.int)]).length,([O.lst (l1.map D.int)]++[O.lst (l2'.map D.int)])++[O.lst ((l1++l2').map D.int)],l1++l2',?_,?_,by rw [Nb];omega,by simp,fun q=>?_⟩
 ·unfold dh
  rw [cV]
  simp only [mY,aT,az,bP,bY,ah,aa,jJ,aW,List.replicate]
  rw [show eE [none,none,some 1] (some (D.tup (List.map ao ks))::some (D.obj F)::List.replicate (2 - 2) none)=[none,none,some (.obj F)] from rfl,c1]
  simp only [aa]
  rw [c2']
  simp only [aa]
  have ad:bq (.obj μ.length) (.obj (μ++[O.lst (l1.map D.int)]).length) ((μ++[O.lst (l1.map D.int)])++[O.lst (l2'.map D.int)])=.ok (.obj ((μ++[O.lst (l1.map D.int)])++[O.lst (l2'.map D.int)]).length) (((μ++[O.lst (l1.map D.int)])++[O.lst (l2'.map D.int)])++[O.lst ((l1++l2').map D.int)]):=by
   unfold bq
   dsimp only
   rw [ar,aC ar]
   dsimp only
   rw [LU,Ou]
   rw [Nd,Nd]
   exact L5 (show _<=1000 by omega) bA
  rw [ad,ae,aI,qW (by simp)]
  simp only [NG]
 ·rw [<- NG,<- NG];exact ar
 ·rw [Me, a3, b3]
  constructor
  ·rintro (⟨k, hk', z1, z2⟩ | ⟨k, hk', z1, z2⟩)
   ·obtain ⟨u, v, rfl, _⟩ := hk k hk'
    subst z2
    exact ⟨u,QA z1,(mn hk).mpr (.inl hk')⟩
   ·obtain ⟨u, v, rfl, _⟩ := hk k hk'
    subst z2
    exact ⟨v,QA z1,(mn hk).mpr (.inr hk')⟩
  ·rintro ⟨r, hr, ha⟩
   rcases (mn hk).mp ha with z | z
   ·exact .inl ⟨_,z,NM hr,rfl⟩
   ·exact .inr ⟨_,z,NM hr,rfl⟩
theorem bL {μ:aG}{i j:Nat}{o o':O} (h:μ[j]?=some o') (ne:i≠j):(μ.set i o)[j]?=some o':=by rw [Mj ne];exact h
def nJ (k:List Int):PyData:=.tuple (k.map PyData.int)
theorem oZ {μ:aG}{m:Int}:∀ {ks:List (List Int)},(∀ k∈ks,pL m k)->ij μ (ks.map ao)=some (ks.map nJ)
 | [],_=>rfl
 | k::ks,h=>by
  obtain ⟨a,b,rfl,_⟩:=h k Ma
  have ih:=oZ (μ:=μ) fun x hx=>h x (Mb _ hx)
  simp only [Nz,ij,ih]
  rfl
theorem ug {m:Int}:∀ {ks:List (List Int)},(∀ k∈ks,pL m k)->PyData.canLayAll0 (ks.map nJ)=true/\PyData.depthAll (ks.map nJ)<=1
 | [],_=>by simp [PyData.canLayAll0,PyData.depthAll]
 | k::ks,h=>by
  obtain ⟨a,b,rfl,_⟩:=h k Ma
  have ih:=ug fun x hx=>h x (Mb _ hx)
  simp only [Nz,PyData.canLayAll0,PyData.depthAll,ih.1,nJ,Ny,PyData.canLay0,PyData.depth]
  refine ⟨rfl,?_⟩
  have:=ih.2
  omega
end Lw
namespace Lw
open PySem L2 RS
def Pn (μ0:aG) (i:Nat) (μ:aG):Prop:=∃ a b c g,μ=μ0.set i (aL a b c)++g
theorem Pn.app {μ0 μ g:aG}{i:Nat} (h:Pn μ0 i μ):Pn μ0 i (μ++g):=by
 obtain ⟨a,b,c,g',rfl⟩:=h
 exact ⟨a,b,c,g'++g,by rw [NG]⟩
theorem Pn.get {μ0 μ:aG}{i:Nat} (h:Pn μ0 i μ) (hi:i<μ0.length):∃ a b c,μ[i]?=some (aL a b c):=by
 obtain ⟨a,b,c,g',rfl⟩:=h
 exact ⟨a,b,c,aC (fP hi)⟩
theorem Pn.set {μ0 μ:aG}{i:Nat}{a b c:Int} (h:Pn μ0 i μ) (hi:i<μ0.length):Pn μ0 i (μ.set i (aL a b c)):=by
 obtain ⟨a',b',c',g',rfl⟩:=h
 exact ⟨a,b,c,g',by rw [kG (by simpa using hi),Qq]⟩
theorem Pn.len {μ0 μ:aG}{i:Nat} (h:Pn μ0 i μ):μ0.length<=μ.length:=by
 obtain ⟨a',b',c',g',rfl⟩:=h
 simp
theorem Pn.self {μ0:aG}{i:Nat}{a b c:Int} (h:μ0[i]?=some (aL a b c)):Pn μ0 i μ0:=by
 refine ⟨a,b,c,[],?_⟩
 rw [MM]
 apply Pc
 intro j
 by_cases e:i=j
 ·subst e;rw [fP (Mg.mp h).1,h]
 ·rw [Mj e]
theorem Pn.draw {μ0 μ:aG}{i:Nat}{m:Int} (h:Pn μ0 i μ) (hi:i<μ0.length) (h0:0<m) (h1:m<1000) :
  ∃ r a b c:Int,0<=r/\r<m/\aJ [.obj i,.int m] μ=.ok (.int r) (μ.set i (aL a b c))/\Pn μ0 i (μ.set i (aL a b c)):=by
 obtain ⟨a,b,c,hp⟩:=h.get hi
 obtain ⟨r,a',b',c',r0,r1,e⟩:=zK hp h0 h1
 exact ⟨r,a',b',c',r0,r1,e,h.set hi⟩
theorem Pn.gc {μ0 μ:aG}{i:Nat}{d:D} (h:Pn μ0 i μ) (hd:d.low μ0.length):∃ a b c,qw μ0 (.ok d μ)=.ok d (μ0.set i (aL a b c)):=by
 obtain ⟨a,b,c,g',rfl⟩:=h
 exact ⟨a,b,c,yB hd qC⟩
theorem oh {μ1:aG}{e:ME}{rest:Ro}{f:Int->Int × Int}{lo:Int}{n:Nat} (hn:n<1000) (he:∀ v a,e (some (.int v)::rest) (μ1++[.lst a])=.ok (dG (f v)) (μ1++[.lst a])) :
  compLoop (.fix (bJ lo n)) μ1.length (ai 0) bI e (bJ lo n) (none::rest) (μ1++[.lst []])=.ok (.obj μ1.length) (μ1++[.lst (((List.range n).map fun k:Nat=>f (lo+(k:Int))).map dG)]):=by
 have:=fk (src:=.fix (bJ lo n)) (g:=ai 0) (t:=bI) (e:=e) (μ1:=μ1) (q:=fun _=>true)
  (h:=fun d=>match d with | .int a=>dG (f a) | _=>.non) (fun ρ=>∃ o,ρ=o::rest) (fun _=>trivial) (xs:=bJ lo n) (acc:=[]) (ρ:=none::rest) ⟨none,rfl⟩
  (by unfold bJ;rw [Nd,Of,Oe];exact L5 (by omega) bA)
  (fun x hx a ρ hJJ => by
   obtain ⟨o,ho⟩:=hJJ
   unfold bJ at hx
   obtain ⟨k,hk,rfl⟩:=Ol.mp hx
   exact ⟨_,⟨_,rfl⟩,by subst ho;rfl,rfl,fun _=>he _ _⟩)
 rw [this,Qr.mpr (fun _ _=>rfl)]
 unfold bJ
 simp only [NL,Oc]
 rfl
def Jg (m:Int) (ps:List (Int × Int)):Prop:=ps.length<=40/\∀ p∈ps,0<=p.1/\p.1<m/\0<=p.2/\p.2<m/\p.1≠p.2
theorem su {μ0 μ1:aG}{i t:Nat}{m:Int}{k:Int}{ps:List (Int × Int)} (hi:i<μ0.length) (ht:μ0.length<=t) (h:Pn μ0 i μ1) (hl:μ1[t]?=some (.lst (ps.map dG))) (hps:Jg m ps) (k0:0<k) (k1:k<1000) :
  ∃ qs μ2,Jg m qs/\Pn μ0 i μ2/\μ2.length=μ1.length/\compLoop (.own t (ps.map dG)) μ1.length (ai 0) (gA (au (fv false) (aA aJ (af (ag 1) (af (cC (.int k)) (av)))) (cC (.int 0)))) (ag 0) (ps.map dG) [none,some (.obj i)] (μ1++[.lst []])=.ok (.obj μ1.length) (μ2++[.lst (qs.map dG)]):=by
 have run:=jm (src:=.own t (ps.map dG)) (g:=ai 0) (t:=(gA (au (fv false) (aA aJ (af (ag 1) (af (cC (.int k)) (av)))) (cC (.int 0))))) (e:=ag 0) (n:=μ1.length)
  (fun xs ys ρ μ2 s=>s=[]/\μ2.length=μ1.length/\Pn μ0 i μ2/\μ2[t]?=some (.lst (ps.map dG))/\(∃ o,ρ=[o,some (.obj i)])/\∃ rs qs:List (Int × Int),xs=rs.map dG/\ys=qs.map dG/\qs.length+rs.length<=40/\(∀ p∈rs,0<=p.1/\p.1<m/\0<=p.2/\p.2<m/\p.1≠p.2)/\(∀ p∈qs,0<=p.1/\p.1<m/\0<=p.2/\p.2<m/\p.1≠p.2))
  (fun ys ρ μ2 s ⟨_,e1,_,e2,_⟩=>⟨e1,aC e2⟩)
  (fun x r ys ρ μ2 s hJJ => by
   obtain ⟨es,e1,e2,e3,⟨o,e4⟩,rs,qs,e5,e6,e7,e8,e9⟩:=hJJ
   subst es e4 e6
   cases rs with
   | nil=>cases e5
   | cons p rs=>
    injection e5 with ex er
    subst ex er
    obtain ⟨v,a,b,c,v0,v1,ed,hp⟩:=(e2.app (g:=[.lst (qs.map dG)])).draw hi k0 k1
    have i2:i<μ2.length:=LY hi e2.len
    rw [kG i2] at ed
    refine ⟨e1,aC e3,[some (dG p),some (.obj i)],μ2,[],v == 0,μ2.set i (aL a b c),[],rfl,?_,fun hc=>?_,fun hc=>?_⟩
    ·simp only [bT,az,aD,aq,ay,aj,ah,aR,aa,ed,cv,NP,Nl,aQ]
    ·refine ⟨dG p, μ2.set i (aL a b c), [], by rw [ah], ?_, by simpa using e1, rfl, by simpa using e1, e2.set hi, bL e3 (by omega), ⟨_, rfl⟩, rs, qs ++ [p], rfl, by simp, by simp at e7 ⊢; omega, fun q hq => e8 q (Mb _ hq), fun q hq => ?_⟩
     ·rw [Nd]
      simp only [NQ] at e7
      exact LY (show qs.length<1000 by omega) bA
     ·rcases Me.mp hq with z | z
      ·exact e9 q z
      ·simp at z;subst z;exact e8 _ Ma
    ·exact ⟨rfl,by simpa using e1,e2.set hi,bL e3 (by omega),⟨_,rfl⟩,rs,qs,rfl,rfl,by simp at e7 ⊢;omega,fun q hq=>e8 q (Mb _ hq),e9⟩)
  (xs:=ps.map dG) (ys:=[]) (ρ:=[none,some (.obj i)]) (μ1:=μ1) (s:=[])
  ⟨rfl,rfl,h,hl,⟨_,rfl⟩,ps,[],rfl,rfl,by have:=hps.1;simpa using this,hps.2,by simp⟩
 obtain ⟨ys',ρ',μ2,s',⟨es,e1,e2,e3,⟨o,e4⟩,rs,qs,e5,e6,e7,e8,e9⟩,run⟩:=run
 subst es e6
 exact ⟨qs,μ2,⟨by omega,e9⟩,e2,e1,run⟩
theorem ze {μ0 μ1:aG}{i:Nat}{m:Int} (hi:i<μ0.length) (h:Pn μ0 i μ1) (m0:1<=m) (m1:m<=6) :
  ∃ qs μ2,Jg m qs/\Pn μ0 i μ2/\μ2.length=μ1.length/\compLoop (.fix (bJ 1 (m - 1).toNat)) μ1.length (ai 0) bI cE (bJ 1 (m - 1).toNat) [none,some (.obj i)] (μ1++[.lst []])=.ok (.obj μ1.length) (μ2++[.lst (qs.map dG)]):=by
 have run:=jm (src:=.fix (bJ 1 (m - 1).toNat)) (g:=ai 0) (t:=bI) (e:=cE) (n:=μ1.length)
  (fun xs ys ρ μ2 s=>s=[]/\μ2.length=μ1.length/\Pn μ0 i μ2/\(∃ o,ρ=[o,some (.obj i)])/\∃ (lo:Int) (n:Nat) (qs:List (Int × Int)),xs=bJ lo n/\1<=lo/\lo+n=m/\ys=qs.map dG/\qs.length+n<=40/\(∀ p∈qs,0<=p.1/\p.1<m/\0<=p.2/\p.2<m/\p.1≠p.2))
  (fun ys ρ μ2 s ⟨_,e1,_⟩=>⟨e1,trivial⟩)
  (fun x r ys ρ μ2 s hJJ => by
   obtain ⟨es,e1,e2,⟨o,e4⟩,lo,n,qs,e5,e6,e7,e8,e9,e10⟩:=hJJ
   subst es e4 e8
   cases n with
   | zero=>rw [kg] at e5;cases e5
   | succ n=>
    rw [jb] at e5
    injection e5 with ex er
    subst ex er
    obtain ⟨v,a,b,c,v0,v1,ed,hp⟩:=(e2.app (g:=[.lst (qs.map dG)])).draw (m:=lo) hi (by omega) (by omega)
    have i2:i<μ2.length:=LY hi e2.len
    rw [kG i2] at ed
    refine ⟨e1,trivial,[some (.int lo),some (.obj i)],μ2,[],true,μ2,[],rfl,rfl,fun hc=>?_,fun hc=>nomatch hc⟩
    refine ⟨dG (v,lo),μ2.set i (aL a b c),[],?_,?_,by simpa using e1,rfl,by simpa using e1,e2.set hi,⟨_,rfl⟩,lo+1,n,qs++[(v,lo)],rfl,by omega,by omega,by simp,by simp;omega,fun q hq=>?_⟩
    ·unfold cE
     simp only [bO,aD,aq,ay,aj,ah,aR,aa,ed,NQ,Of,LU l2]
     rfl
    ·rw [Nd]
     exact LY (show qs.length<1000 by omega) bA
    ·rcases Me.mp hq with z | z
     ·exact e10 q z
     ·simp at z;subst z;exact ⟨v0,by omega,by omega,by omega,by dsimp only;omega⟩)
  (xs:=bJ 1 (m - 1).toNat) (ys:=[]) (ρ:=[none,some (.obj i)]) (μ1:=μ1) (s:=[])
  ⟨rfl,rfl,h,⟨_,rfl⟩,1,_,[],rfl,by omega,by omega,rfl,by simp;omega,by simp⟩
 obtain ⟨ys',ρ',μ2,s',⟨es,e1,e2,⟨o,e4⟩,lo,n,qs,e5,e6,e7,e8,e9,e10⟩,run⟩:=run
 subst es e8
 exact ⟨qs,μ2,⟨by omega,e10⟩,e2,e1,run⟩
noncomputable def ix:MS:=(kx (gA (au (fv false) (ag 1) (cC (.int 0)))) (bp (bV (fw (ag 3)) [none,some 0] (ai 0) (gb) (gk)) (ai 5)) (kx (gA (au (fv false) (ag 1) (cC (.int 1)))) (bp (bV (fw (ag 3)) [none,some 0] (ai 0) (f9) (gh)) (ai 5)) (kx (gA (au (fv false) (ag 1) (cC (.int 2)))) (bp (au bq (bV (eD eX (af (au gC (ag 2) (cC (.int 1))) (av))) [none] (ai 0) (bI) (dY)) (au mE (eF (af (bN (af (cC (.int 0)) (af (au gC (ag 2) (cC (.int 1))) (av)))) (av))) (aA pR (af (au (ig .Gt) (ag 2) (cC (.int 2))) (av))))) (ai 5)) (kx (gA (au (fv false) (ag 1) (cC (.int 3)))) (bp (bV (eD eX (af (au gC (ag 2) (cC (.int 1))) (av))) [none] (ai 0) (bI) (gf)) (ai 5)) (kx (gA (au (fv false) (ag 1) (cC (.int 4)))) (bp (bV (eD nC (af (cC (.int 1)) (af (ag 2) (av)))) [none] (ai 0) (bI) (dX)) (ai 5)) (bp (bV (eD nC (af (cC (.int 1)) (af (ag 2) (av)))) [none,some 0] (ai 0) (bI) (cE)) (ai 5)))))))
theorem EC {μ0 μ1:aG}{i t:Nat}{m w:Int}{ps:List (Int × Int)}{o4:Option D} (hi:i<μ0.length) (ht:μ0.length<=t) (h:Pn μ0 i μ1) (hl:μ1[t]?=some (.lst (ps.map dG))) (hps:Jg m ps) (m0:1<=m) (m1:m<=6) :
  ∃ (o:Nat) (qs:List (Int × Int)) (μ2:aG),Jg m qs/\Pn μ0 i μ2/\μ2[o]?=some (.lst (qs.map dG))/\ix [some (.obj i),some (.int w),some (.int m),some (.obj t),o4,none] μ1=.next [some (.obj i),some (.int w),some (.int m),some (.obj t),o4,some (.obj o)] μ2:=by
 unfold ix
 have r1:∀ n a,dY (some (.int n)::[]) (μ1++[.lst a])=.ok (dG (n,n+1)) (μ1++[.lst a]):=fun n a=>by
  unfold dY
  simp only [bO,aq,ay,az,ah,aR,aa,fR,NQ,Of,LU l2]
  rfl
 have r2:∀ n a,gf (some (.int n)::[]) (μ1++[.lst a])=.ok (dG (n,n+1)) (μ1++[.lst a]):=r1
 have r3:∀ n a,dX (some (.int n)::[]) (μ1++[.lst a])=.ok (dG (0,n)) (μ1++[.lst a]):=fun n a=>by
  unfold dX
  simp only [bO,aq,ay,az,ah,aR,aa,fR,NQ,Of,LU l2]
  rfl
 have sb:gC (.int m) (.int 1) μ1=.ok (.int (m - 1)) μ1:=rfl
 have rn:(List.range (m - 1).toNat).length<=5:=by rw [Oe];omega
 have pth:∀ p∈(List.range (m - 1).toNat).map (fun k:Nat=>(((0:Int)+(k:Int)),(0:Int)+(k:Int)+1)),0<=p.1/\p.1<m/\0<=p.2/\p.2<m/\p.1≠p.2:=fun p hp=>by
  obtain ⟨k,hk,rfl⟩:=Ol.mp hp
  rw [L4] at hk
  dsimp only
  omega
 by_cases w0:w=0
 ·subst w0
  obtain ⟨qs,μ2,q1,q2,q3,q4⟩:=su (k:=2) hi ht h hl hps (by decide) (by decide)
  refine ⟨μ1.length,qs,μ2++[.lst (qs.map dG)],q1,q2.app,by rw [<- q3];exact ar,?_⟩
  simp only [bC,bT,az,aj,ah,aR,aa,cv,NO,aQ,ae,NP,Nl,Nn,aV,bP,bY]
  rw [dm hl]
  simp only [aa,b8]
  rw [show eE [none,some 0] [some (D.obj i),some (.int 0),some (.int m),some (.obj t),o4,none]=[none,some (.obj i)] from rfl]
  unfold gb gk
  rw [q4]
  rfl
 have w0':(w == 0)=false:=by simpa using w0
 by_cases w1:w=1
 ·subst w1
  obtain ⟨qs,μ2,q1,q2,q3,q4⟩:=su (k:=3) hi ht h hl hps (by decide) (by decide)
  refine ⟨μ1.length,qs,μ2++[.lst (qs.map dG)],q1,q2.app,by rw [<- q3];exact ar,?_⟩
  simp only [bC,bT,az,aj,ah,aR,aa,cv,w0',NO,aQ,ae,NP,Nl,Nn,aV,bP,bY]
  rw [dm hl]
  simp only [aa,b8]
  rw [show eE [none,some 0] [some (D.obj i),some (.int 1),some (.int m),some (.obj t),o4,none]=[none,some (.obj i)] from rfl]
  unfold f9 gh
  rw [q4]
  rfl
 have w1':(w == 1)=false:=by simpa using w1
 by_cases w2:w=2
 ·subst w2
  let ps1:List (Int × Int):=(List.range (m - 1).toNat).map (fun k:Nat=>(((0:Int)+(k:Int)),(0:Int)+(k:Int)+1))
  let ps2:List (Int × Int):=(List.replicate (if cW .Gt m 2 then (1:Int) else 0).toNat [((0:Int),m - 1)]).flatten
  have hb:ps2=if cW .Gt m 2 then [((0:Int),m - 1)] else []:=by
   simp only [ps2]
   cases cW .Gt m 2 <;> rfl
  have hb2:ps2.length<=1/\∀ p∈ps2,p=(0,m - 1)/\2<m:=by
   rw [hb]
   by_cases z:cW .Gt m 2=true
   ·rw [LU z]
    have:2<m:=by simpa [cW] using z
    simp [this]
   ·rw [LV z];simp
  refine ⟨_,ps1++ps2,((μ1++[O.lst (ps1.map dG)]++[O.lst [dG (0,m - 1)]])++[O.lst (ps2.map dG)])++[O.lst ((ps1++ps2).map dG)],⟨?_,fun p hp=>?_⟩,((h.app).app.app).app,ar,?_⟩
  ·rw [Nb]
   have:ps1.length<=5:=by simp only [ps1,Nd];exact rn
   omega
  ·rcases Me.mp hp with z | z
   ·exact pth p z
   ·obtain ⟨rfl, z2⟩ := hb2.2 p z
    dsimp only
    omega
  ·simp only [bC, bT, az, aj, ah, aR, aa, cv, w0', w1', NO, aQ, ae, NP, Nl, Nn, aV, bP, bW, aq, ay, sb]
   rw [dq (by omega) (by omega)]
   simp only [aa,aW]
   rw [show eE [none] _=[none] from rfl,oh (f:=fun v=>(v,v+1)) (by omega) r1]
   have l1:(1:Nat)<=sizeLine:=by decide
   have sb':∀ μ,gC (.int m) (.int 1) μ=.ok (.int (m - 1)) μ:=fun _=>rfl
   have ib:∀ k:Bool,∀ μ,pR [.bl k] μ=.ok (.int (if k then 1 else 0)) μ:=fun _ _=>rfl
   simp only [aa,cO,bO,aq,ay,az,aj,ah,aR,sb',NQ,Of,LU l2,LU l1,aD,dr,ib]
   have mu:∀ M:aG,mE (.obj M.length) (.int (if cW .Gt m 2=true then 1 else 0)) (M++[O.lst [dG (0,m - 1)]])=.ok (.obj (M++[O.lst [dG (0,m - 1)]]).length) ((M++[O.lst [dG (0,m - 1)]])++[O.lst (ps2.map dG)]):=fun M=>by
    unfold mE
    dsimp only
    rw [ar]
    dsimp only
    have:(List.replicate (if cW .Gt m 2=true then (1:Int) else 0).toNat [dG (0,m - 1)]).flatten=ps2.map dG:=by
     simp only [ps2]
     cases cW .Gt m 2 <;> rfl
    rw [this,LU]
    have l1':(1:Nat)<=sizeLine:=by decide
    cases cW .Gt m 2
    ·exact ⟨by decide,by decide,NZ _⟩
    ·exact ⟨by decide,by decide,l1'⟩
   rw [show (D.tup [D.int 0,D.int (m - 1)])=dG (0,m - 1) from rfl,mu]
   simp only [aa]
   have ad:bq (.obj μ1.length) (.obj (μ1++[O.lst (ps1.map dG)]++[O.lst [dG (0,m - 1)]]).length) ((μ1++[O.lst (ps1.map dG)]++[O.lst [dG (0,m - 1)]])++[O.lst (ps2.map dG)])=.ok (.obj ((μ1++[O.lst (ps1.map dG)]++[O.lst [dG (0,m - 1)]])++[O.lst (ps2.map dG)]).length) (((μ1++[O.lst (ps1.map dG)]++[O.lst [dG (0,m - 1)]])++[O.lst (ps2.map dG)])++[O.lst ((ps1++ps2).map dG)]):=by
    unfold bq
    dsimp only
    rw [ar,aC (aC ar)]
    dsimp only
    rw [LU,Ou]
    have e1:((List.range (m - 1).toNat).map (fun k:Nat=>(((0:Int)+(k:Int)),(0:Int)+(k:Int)+1))).length<=5:=by rw [Nd];exact rn
    have e2:((ps1.map dG).length:Nat)<=5:=by rw [Nd];exact e1
    have e3:((ps2.map dG).length:Nat)<=1:=by rw [Nd];exact hb2.1
    exact L5 (show _<=1000 by omega) bA
   rw [ad]
   rfl
 have w2':(w == 2)=false:=by simpa using w2
 by_cases w3:w=3
 ·subst w3
  refine ⟨μ1.length,(List.range (m - 1).toNat).map (fun k:Nat=>(((0:Int)+(k:Int)),(0:Int)+(k:Int)+1)),μ1++[.lst _],⟨by rw [Nd];omega,pth⟩,h.app,ar,?_⟩
  simp only [bC,bT,az,aj,ah,aR,aa,cv,w0',w1',w2',NO,aQ,ae,NP,Nl,Nn,aV,bP,bW,aq,ay,sb]
  rw [dq (by omega) (by omega)]
  simp only [aa,aW]
  rw [show eE [none] _=[none] from rfl,oh (f:=fun v=>(v,v+1)) (by omega) r2]
  rfl
 have w3':(w == 3)=false:=by simpa using w3
 by_cases w4:w=4
 ·subst w4
  refine ⟨μ1.length,(List.range (m - 1).toNat).map (fun k:Nat=>((0:Int),(1:Int)+(k:Int))),μ1++[.lst _],⟨by rw [Nd];omega,fun p hp=>?_⟩,h.app,ar,?_⟩
  ·obtain ⟨k, hk, rfl⟩ := Ol.mp hp
   rw [L4] at hk
   dsimp only
   omega
  simp only [bC,bT,az,aj,ah,aR,aa,cv,w0',w1',w2',w3',NO,aQ,ae,NP,Nl,Nn,aV,bP,bW,aq,ay,sb]
  rw [nT (by omega) (by omega) (by omega) (by omega)]
  simp only [aa,aW]
  rw [show eE [none] _=[none] from rfl,oh (f:=fun v=>(0,v)) (by omega) r3]
  rfl
 have w4':(w == 4)=false:=by simpa using w4
 obtain ⟨qs,μ2,q1,q2,q3,q4⟩:=ze hi h m0 m1
 refine ⟨μ1.length,qs,μ2++[.lst (qs.map dG)],q1,q2.app,by rw [<- q3];exact ar,?_⟩
 simp only [bC,bT,az,aj,ah,aR,aa,cv,w0',w1',w2',w3',w4',aQ,ae,NP,Nl,aV,bP,bW,aq,ay]
 rw [nT (by omega) (by omega) (by omega) (by omega)]
 simp only [aa,aW]
 rw [show eE [none,some 0] [some (D.obj i),some (.int w),some (.int m),some (.obj t),o4,none]=[none,some (.obj i)] from rfl,q4]
 rfl
theorem kh {n:Nat}{d:D}{m:Int}{ks:List (List Int)} (h:bu d m ks):d.low n:=xu h
theorem t7 {μ:aG}{i:Nat}{a b c:Int} (hp:μ[i]?=some (aL a b c)):∃ d m ks a' b' c',bu d m ks/\cj [.obj i] μ=.ok d (μ.set i (aL a' b' c')):=by
 have hi:i<μ.length:=(Mg.mp hp).1
 have P0:Pn μ i μ:=Pn.self hp
 obtain ⟨w,a1,b1,c1,w0,w1,ew,P1⟩:=P0.draw (m:=7) hi (by decide) (by decide)
 generalize hM1:μ.set i (aL a1 b1 c1)=M1 at ew P1
 obtain ⟨m',a2,b2,c2,m0,m1,em,P2⟩:=P1.draw (m:=6) hi (by decide) (by decide)
 generalize hM2:M1.set i (aL a2 b2 c2)=M2 at em P2
 have run:=dP (src:=.fix (bJ 0 (1+m').toNat)) (g:=ai 4) (fb:=dW)
  (fun xs ρ μ1 => ∃ (lo : Int) (n : Nat) (t : Nat) (ps : List (Int × Int)) (o4 : Option D), xs = bJ lo n /\ 0 <= lo /\ lo + n = 1 + m' /\ ρ = [some (.obj i), some (.int w), some (.int (1 + m')), some (.obj t), o4, none] /\ Pn μ i μ1 /\ μ.length <= t /\ μ1[t]? = some (.lst (ps.map dG)) /\
   (ps.length:Int)<=6 * lo/\(∀ p∈ps,0<=p.1/\p.1<p.2/\p.2<lo))
  (fun _ _ _=>trivial)
  (fun x r ρ μ1 hJJ => by
   obtain ⟨lo,n,t,ps,o4,e1,e2,e3,e4,e5,e6,e7,e8,e9⟩:=hJJ
   subst e4
   cases n with
   | zero=>rw [kg] at e1;cases e1
   | succ n=>
    rw [jb] at e1
    injection e1 with ex er
    subst ex er
    let qs:List (Int × Int):=(List.range lo.toNat).map fun k:Nat=>((0:Int)+(k:Int),lo)
    have hq:(qs.length:Int)=lo:=by simp only [qs,Nd,Oe];omega
    refine ⟨trivial,_,μ1,[some (.obj i),some (.int w),some (.int (1+m')),some (.obj (μ1.length+1)),some (.int lo),none],(μ1++[O.lst (qs.map dG)])++[O.lst ((ps++qs).map dG)],rfl,?_,lo+1,n,μ1.length+1,ps++qs,some (.int lo),rfl,by omega,by omega,rfl,e5.app.app,?_,?_,?_,fun p hp=>?_⟩
    ·show dW [some (.obj i), some (.int w), some (.int (1 + m')), some (.obj t), some (.int lo), none] μ1 = _
     unfold dW
     simp only [aV,az,aj,ah,aa,bP,bW,aq,ay]
     rw [dq (by omega) (by omega)]
     simp only [aa,aW]
     rw [show eE [none,some 4] [some (D.obj i),some (.int w),some (.int (1+m')),some (.obj t),some (.int lo),none]=[none,some (.int lo)] from rfl,
      oh (f:=fun v=>(v,lo)) (by omega) (fun v a=>by
       unfold jw
       simp only [bO,aq,ay,aj,ah,aa,NQ,Of,LU l2]
       rfl)]
     simp only [aa]
     unfold bq
     dsimp only
     rw [aC e7,ar]
     dsimp only
     rw [LU (by
      rw [Nd,Nd]
      have:qs.length=((List.range lo.toNat).map fun k:Nat=>((0:Int)+(k:Int),lo)).length:=rfl
      rw [<- this]
      exact L5 (show _<=1000 by omega) bA)]
     simp only [ae,bH]
     simp only [Nb,NQ,Of,Qo,Qp,Ou]
     rfl
    ·have := e5.len
     omega
    ·have : μ1.length + 1 = (μ1 ++ [O.lst (qs.map dG)]).length := by simp
     rw [this];exact ar
    ·rw [Nb];push_cast;omega
    ·rcases Me.mp hp with z | z
     ·have:=e9 p z;omega
     ·simp only [qs] at z
      obtain ⟨k,hk,rfl⟩:=Ol.mp z
      rw [L4] at hk
      dsimp only
      omega)
  (xs:=bJ 0 (1+m').toNat) (ρ:=[some (.obj i),some (.int w),some (.int (1+m')),some (.obj M2.length),none,none]) (μ:=M2++[.lst []])
  ⟨0,(1+m').toNat,M2.length,[],none,rfl,by omega,by omega,rfl,P2.app,P2.len,ar,by simp,by simp⟩
 obtain ⟨ρ',M3,⟨lo,n,t,ps,o4,e1,e2,e3,e4,e5,e6,e7,e8,e9⟩,run⟩:=run
 subst e4
 have hn:=oa e1.symm
 subst hn
 obtain ⟨o,qs,M4,q1,q2,q3,q4⟩:=EC (m:=1+m') (w:=w) (o4:=o4) hi e6 e5 e7 ⟨by omega,fun p hp=>by have:=e9 p hp;omega⟩ (by omega) (by omega)
 obtain ⟨a5,b5,c5,hp4⟩:=q2.get hi
 obtain ⟨ns,a6,b6,c6,n1,n2,n3,n4⟩:=wN hp4 (m:=1+m') (by omega) (by omega)
 obtain ⟨d,ks,g1,g2⟩:=CH (μ:=M4.set i (aL a6 b6 c6)) (m:=1+m') (by omega) (by omega) q1.2 (by have:=q1.1;omega) n1 n2 n3
 obtain ⟨a7,b7,c7,hg⟩:=(q2.set (a:=a6) (b:=b6) (c:=c6) hi).gc (kh g1)
 refine ⟨d,1+m',ks,a7,b7,c7,g1,?_⟩
 unfold cj
 rw [ji]
 simp only [kv,aM,aV,aD,aq,ay,ah,aR,aa,ew,ae,bH,aF,List.replicate,Qo,Qp,az,hM1,em,hM2,fR,cO,Of,LU (NZ sizeLine),dO,bW,aj]
 rw [dq (by omega) (by omega)]
 simp only [ae,aW]
 rw [run]
 simp only [aF,aM]
 have hW:=q4
 unfold ix at hW
 rw [hW]
 simp only [aF,aT,aD,aq,ay,aj,ah,bO,aa]
 rw [jI q3]
 simp only [aa,NQ,Of,LU l2,n4,g2,ae,aI]
 exact hg
theorem CF {μ:aG}{d:D}{m k:Int}{ks:List (List Int)} (h:bu d m ks):∃ d' ks',bu d' m ks'/\dU [d,.int k] μ=.ok d' μ:=by
 have hd:=h.1
 have hm:1<=m/\m<=6:=⟨h.2.1,h.2.2.1⟩
 subst hd
 obtain ⟨n,rfl⟩:∃ n:Nat,m=(n:Int):=⟨m.toNat,by omega⟩
 obtain ⟨T,_,e⟩:=Ay (μ:=μ) (k:=k) h
 exact ⟨_,_,wK (by omega) (by omega),e⟩
theorem uh {m:Int}{ks:List (List Int)} (h:∀ k∈ks,pL m k):dJ (.tuple (ks.map nJ))=true:=by
 have:=ug h
 simp only [dJ,PyData.canLay0,this.1,PyData.depth,Qw]
 exact NM (by omega)
theorem zS {μ:aG}{m:Int}{ks:List (List Int)} (h:∀ k∈ks,pL m k):fv true (.tup (ks.map ao)) (.tup []) μ=.ok (.bl (!ks.isEmpty)) μ:=by
 have e1:kT μ (.tup (ks.map ao))=some (.tuple (ks.map nJ)):=by
  simp only [kT,oZ h,Option.map_some]
 have e2:kT μ (.tup [])=some (.tuple []):=rfl
 unfold fv
 rw [e1,e2]
 dsimp only
 rw [LU ⟨uh h,by decide⟩]
 congr 2
 cases ks with
 | nil=>rfl
 | cons k ks=>simp [PyData.eqv,PyData.eqvAll]
theorem Dw {m:Int}{ks ks':List (List Int)}{d:D} (h:bu d m ks) (hs:ks'.Sublist ks):bu (.tup [.int m,.tup (ks'.map ao)]) m ks':=by
 obtain ⟨_,h0,h1,hp,hk⟩:=h
 exact ⟨rfl,h0,h1,hp.sublist hs,fun k hk'=>hk k (hs.subset hk')⟩
theorem IZ {β:Type}{xs:List β}{r:Nat} (h:r<=xs.length):fV xs none (some (r:Int))=xs.take r:=by
 unfold fV
 rw [HT.sIx_none,HT.sIx_nat]
 simp [Nat.min_eq_left h]
theorem DE {β:Type}{xs:List β}{r:Nat} (h:r<=xs.length):fV xs (some (r:Int)) none=xs.drop r:=by
 unfold fV
 rw [HT.sIx_none,HT.sIx_nat,Nat.min_eq_left h]
 exact Oj (by rw [Nq];exact MD _)
theorem JR {a b:Int}{μ:aG}:dR [.tup [.int a,.int b]] μ=.ok (.obj μ.length) (μ++[.lst [.int (min a b),.int (max a b)]]):=by
 have e:[min a b,max a b]=nG [a,b]:=by
  refine rH ?_ (by simp;omega)
  by_cases h:a<=b
  ·rw [Qi h,Qj h]
  ·rw [Qk (by omega), Ql (by omega)]
   exact List.Perm.swap a b []
 have e2:jf [.int a,.int b]=some [a,b]:=rfl
 unfold dR
 dsimp only
 rw [e2]
 dsimp only
 rw [LU (show [a,b].length<64 from (by decide:2<64)),<- e]
 rfl
theorem CD {μ:aG}{i:Nat}{a b c:Int} (hp:μ[i]?=some (aL a b c)):∃ d m ks a' b' c',bu d m ks/\fN [.obj i] μ=.ok d (μ.set i (aL a' b' c')):=by
 have hi:i<μ.length:=(Mg.mp hp).1
 obtain ⟨d0,m,ks0,a0,b0,c0,g0,e0⟩:=t7 hp
 have P0:Pn μ i (μ.set i (aL a0 b0 c0)):=⟨a0,b0,c0,[],by simp⟩
 generalize hM0:μ.set i (aL a0 b0 c0)=M0 at e0 P0
 obtain ⟨w,a1,b1,c1,w0,w1,ew,P1⟩:=P0.draw (m:=6) hi (by decide) (by decide)
 generalize hM1:M0.set i (aL a1 b1 c1)=M1 at ew P1
 have cmpw:cW .Lt w 3=decide (w<3):=rfl
 have st:∃ d ks,bu d m ks/\kx (gA (au (ig .Lt) (ag 2) (cC (.int 3)))) (bp (aA dU (af (ag 1) (af (cC (.int 2)) (av)))) (ai 1)) (cS) [some (.obj i),some d0,some (.int w),none,none,none] M1=.next [some (.obj i),some d,some (.int w),none,none,none] M1:=by
  obtain ⟨d',ks',g',e'⟩:=CF (μ:=M1) (k:=2) g0
  by_cases hw:w<3
  ·refine ⟨d', ks', g', ?_⟩
   simp only [bC,bT,az,aj,ah,aR,aa,dr,cmpw,NM hw,aQ,ae,Nn,aV,aD,aq,ay,e',bH,Qo,Qp]
  ·refine ⟨d0, ks0, g0, ?_⟩
   simp only [bC,bT,az,aj,ah,aR,aa,dr,cmpw,LR hw,aQ,ae,NP,Nl,bD]
 obtain ⟨d,ks,g,es⟩:=st
 have hlow:=fun n=>kh (n:=n) g
 have hg:=g
 obtain ⟨rfl,h0,h1,hpw,hk⟩:=hg
 unfold fN
 rw [ji]
 have sub1:∀ x y:Int,∀ μ,gC (.int x) (.int y) μ=.ok (.int (x - y)) μ:=fun _ _ _=>rfl
 by_cases z0:w=0/\ks≠[]
 ·obtain ⟨rfl, hne⟩ := z0
  have hlen:=lP g
  have hpos:0<ks.length:=PQ.mpr hne
  have hem:ks.isEmpty=false:=by simpa using hne
  obtain ⟨r,a2,b2,c2,r0,r1,er,P2⟩:=P1.draw (m:=(ks.length:Int)) hi (by omega) (by omega)
  generalize hM2:M1.set i (aL a2 b2 c2)=M2 at er P2
  obtain ⟨rn,rfl⟩:∃ rn:Nat,r=(rn:Int):=⟨r.toNat,by omega⟩
  have gs:bu (.tup [.int m,.tup ((ks.take rn++ks.drop (rn+1)).map ao)]) m (ks.take rn++ks.drop (rn+1)):=by
   refine Dw g ?_
   have:=List.Sublist.append (List.Sublist.refl (ks.take rn)) (List.drop_sublist 1 (ks.drop rn))
   rwa [Os,List.drop_drop] at this
  obtain ⟨a7,b7,c7,hgc⟩:=P2.gc (kh gs)
  refine ⟨_,m,_,a7,b7,c7,gs,?_⟩
  simp only [iB,aM,aV,aD,aq,ay,ah,aj,aR,aa,e0,hM0,ae,bH,aF,List.replicate,Qo,Qp,ew,hM1]
  rw [es]
  simp only [aF,aM,bC,fQ,bT,az,aj,ah,aR,aa,cv,NO,NP,Nl,Nn,aQ,dQ,bO,ay,Of,LU (NZ sizeLine),zS hk,hem,OU,ae,aV,aD,aq,eZ,Nd,er,hM2,bH,Qo,Qp,aT,bG,nM,lH,gG,kC,fR]
  have s1:∀ μ,qg (.tup (ks.map ao)) none (some (rn:Int)) μ=.ok (.tup ((ks.map ao).take rn)) μ:=fun μ=>by
   unfold qg;dsimp only;rw [IZ (by rw [Nd];omega)]
  have s2:∀ μ,qg (.tup (ks.map ao)) (some ((rn:Int)+1)) none μ=.ok (.tup ((ks.map ao).drop (rn+1))) μ:=fun μ=>by
   unfold qg;dsimp only;rw [show ((rn:Int)+1)=((rn+1:Nat):Int) by push_cast;rfl,DE (by rw [Nd];omega)]
  simp only [s1,s2,aa]
  have s3:∀ μ,bq (.tup ((ks.map ao).take rn)) (.tup ((ks.map ao).drop (rn+1))) μ=.ok (.tup ((ks.take rn++ks.drop (rn+1)).map ao)) μ:=fun μ=>by
   unfold bq
   dsimp only
   rw [LU,Ou,Ov,Ow]
   rw [MV,Nq,Nd]
   exact L5 (show _<=1000 by omega) bA
  simp only [s3,aa,NQ,Of,LU l2,ae,cB,aI]
  exact hgc
 ·
  have t0:jG (gA (au (fv false) (ag 2) (cC (.int 0)))) (gA (au (fv true) (au bQ (ag 1) (cC (.int 1))) (bN (av)))) [some (.obj i),some (.tup [.int m,.tup (ks.map ao)]),some (.int w),none,none,none] M1=.ok false M1:=by
   by_cases hw:w=0
   ·subst hw
    have hem:ks.isEmpty=true:=by
     cases ks with
     | nil=>rfl
     | cons x y=>exact absurd ⟨rfl,by simp⟩ z0
    simp only [fQ,bT,az,aj,ah,aR,aa,cv,NO,NP,Nl,Nn,aQ,dQ,bO,ay,Of,LU (NZ sizeLine),zS hk,hem,OM]
   ·have hw' : (w == 0) = false := by simpa using hw
    simp only [fQ,bT,az,aj,ah,aR,aa,cv,hw',NP,Nl,aQ]
  by_cases z1:w=1/\1<m
  ·obtain ⟨rfl, hm⟩ := z1
   obtain ⟨u,a2,b2,c2,u0,u1,eu,P2⟩:=P1.draw (m:=m) hi (by omega) (by omega)
   generalize hM2:M1.set i (aL a2 b2 c2)=M2 at eu P2
   obtain ⟨v,a3,b3,c3,v0,v1,ev,P3⟩:=P2.draw (m:=m - 1) hi (by omega) (by omega)
   generalize hM3:M2.set i (aL a3 b3 c3)=M3 at ev P3
   have hx0:0<=(u+1+v) % m:=Qm _ (by omega)
   have hx1:(u+1+v) % m<m:=Qn _ (by omega)
   have hxne:(u+1+v) % m≠u:=by
    by_cases hh:u+1+v<m
    ·rw [Int.emod_eq_of_lt (by omega) hh];omega
    ·rw [show u+1+v=(u+1+v - m)+m by omega,Int.add_emod_right,Int.emod_eq_of_lt (by omega) (by omega)];omega
   have md:∀ x μ,tj (.int x) (.int m) μ=.ok (.int (x % m)) μ:=fun x μ=>oU (show (fun _ j=>(0:Int)<j) x m by show 0<m;omega)
   generalize hx:(u+1+v) % m=x at hx0 hx1 hxne
   have hks:∀ k∈ks++[[min u x,max u x]],pL m k:=fun k hk'=>by
    rcases Me.mp hk' with z | z
    ·exact hk k z
    ·simp at z;subst z;exact ⟨_,_,rfl,by omega,by omega,by omega⟩
   have gs:=pT h0 h1 hks
   have kd:lA ((ks++[[min u x,max u x]]).map ao)=some (ks++[[min u x,max u x]]):=rO fun k hk=>(hks k hk).prs h1
   obtain ⟨a7,b7,c7,hgc⟩:=(((P3.app (g:=[.lst [.int (min u x),.int (max u x)]])).app (g:=[.set (fX (ks++[[min u x,max u x]]))])).app (g:=[.lst ((kU (ks++[[min u x,max u x]])).map ao)])).gc (kh gs)
   refine ⟨_,m,_,a7,b7,c7,gs,?_⟩
   have cm:cW .Gt m 1=true:=by simpa [cW] using hm
   have l1:(1:Nat)<=sizeLine:=by decide
   have s3:∀ μ,bq (.tup (ks.map ao)) (.tup [.tup [.int (min u x),.int (max u x)]]) μ=.ok (.tup ((ks++[[min u x,max u x]]).map ao)) μ:=fun μ=>by
    unfold bq
    dsimp only
    rw [LU,Ou]
    ·rfl
    ·have := lP g
     rw [Nd]
     simp only [NQ,Of]
     exact L5 (show _<=1000 by omega) bA
   have s4:∀ μ,ky [.tup ((ks++[[min u x,max u x]]).map ao)] μ=.ok (.obj μ.length) (μ++[.set (fX (ks++[[min u x,max u x]]))]):=fun μ=>by
    unfold ky;dsimp only;unfold nH;rw [kd]
   have s5:∀ M:aG,dR [.obj M.length] (M++[.set (fX (ks++[[min u x,max u x]]))])=.ok (.obj (M++[O.set (fX (ks++[[min u x,max u x]]))]).length) ((M++[.set (fX (ks++[[min u x,max u x]]))])++[.lst ((kU (ks++[[min u x,max u x]])).map ao)]):=fun M=>by
    unfold dR;dsimp only;rw [ar];dsimp only;rw [pU]
   simp only [iB,aM,aV,aD,aq,ay,ah,aj,aR,aa,e0,hM0,ae,bH,aF,List.replicate,Qo,Qp,ew,hM1]
   rw [es]
   simp only [aF]
   rw [aM,bC,t0]
   simp only [ae,NP,Nl,bD,aF,aM,bC,fQ,bT,az,aj,ah,aR,aa,cv,NO,Nn,aQ,bG,dr,cm,aV,aD,aq,ay,eu,hM2,bH,Qo,Qp,bO,sub1,ev,hM3,fR,md,hx,NQ,Of,LU l2,LU l1,JR]
   rw [jI ar]
   simp only [aa,ae,bH,Qo,Qp,aF,aT,bO,aq,ay,az,aD,aj,ah,aR,bG,dQ,NQ,Of,LU l2,LU l1,s3,s4,s5]
   rw [jI ar]
   simp only [aa,ae,NQ,Of,LU l2,cB,aI]
   exact hgc
  ·have t1:jG (gA (au (fv false) (ag 2) (cC (.int 1)))) (gA (au (ig .Gt) (au bQ (ag 1) (cC (.int 0))) (cC (.int 1)))) [some (.obj i),some (.tup [.int m,.tup (ks.map ao)]),some (.int w),none,none,none] M1=.ok false M1:=by
    by_cases hw:w=1
    ·subst hw
     have cm:cW .Gt m 1=false:=by
      have:¬ 1<m:=fun h=>z1 ⟨rfl,h⟩
      simpa [cW] using this
     simp only [fQ,bT,az,aj,ah,aR,aa,cv,NO,NP,Nl,Nn,aQ,bG,dr,cm]
    ·have hw' : (w == 1) = false := by simpa using hw
     simp only [fQ,bT,az,aj,ah,aR,aa,cv,hw',NP,Nl,aQ]
   obtain ⟨a7,b7,c7,hgc⟩:=P1.gc (kh g)
   refine ⟨_,m,_,a7,b7,c7,g,?_⟩
   simp only [iB,aM,aV,aD,aq,ay,ah,aj,aR,aa,e0,hM0,ae,bH,aF,List.replicate,Qo,Qp,ew,hM1]
   rw [es]
   simp only [aF]
   rw [aM,bC,t0]
   simp only [ae,NP,Nl,bD,aF]
   rw [aM,bC,t1]
   simp only [ae,NP,Nl,bD,aF,aT,aj,ah,aI]
   exact hgc
end Lw
namespace Lw
open PySem L2 RS Lv
theorem dA {U:Type}{en:U->D}{src:nA}{g:MG}{t:MT}{e:ME}{μ1:aG}{q:U->Bool}{h:U->D} (R:Ro->Prop) (ho:∀ a,cY src (μ1++[.lst a])) :
  ∀ {us:List U}{acc:List D}{ρ:Ro},R ρ->acc.length+us.length<=sizeLine->(∀ x∈us,∀ a ρ,R ρ->∃ ρ1,R ρ1/\g (en x) ρ (μ1++[.lst a])=.ok ρ1 (μ1++[.lst a])/\t ρ1 (μ1++[.lst a])=.ok (q x) (μ1++[.lst a])/\(q x=true->e ρ1 (μ1++[.lst a])=.ok (h x) (μ1++[.lst a]))) ->
   compLoop src μ1.length g t e (us.map en) ρ (μ1++[.lst acc])=.ok (.obj μ1.length) (μ1++[.lst (acc++(us.filter q).map h)])
 | [],acc,ρ,hr,hl,he=>by
  rw [Ny]
  unfold compLoop
  rw [LU (ho acc)]
  simp
 | x::xs,acc,ρ,hr,hl,he=>by
  obtain ⟨ρ1,r1,e1,e2,e3⟩:=he x Ma acc ρ hr
  rw [Nz]
  unfold compLoop
  rw [LU (ho acc),e1]
  simp only [bZ,aa]
  rw [e2]
  simp only [bZ,aa]
  have he':=fun y hy=>he y (Mb _ hy)
  simp only [NQ] at hl
  cases hq:q x with
  | false=>
   rw [LV Mu,dA R ho r1 (by omega) he',PX,hq]
   rfl
  | true=>
   rw [LU rfl,e3 hq]
   simp only [bZ,aa]
   rw [my (by omega)]
   simp only [aa]
   rw [dA R ho r1 (by simp;omega) he',PX,hq]
   simp
theorem oe {U:Type}{en:U->D}{src:nA}{g:MG}{t:MT}{fb:MB}{μ1:aG}{q:U->Bool}{k:U->List D} (R:Ro->Prop) (ho:∀ a,cY src (μ1++[.lst a])) :
  ∀ {us:List U}{acc:List D}{ρ:Ro},R ρ->acc.length+((us.filter q).flatMap k).length<=sizeLine->(∀ x∈us,∀ a ρ,R ρ->∃ ρ1,g (en x) ρ (μ1++[.lst a])=.ok ρ1 (μ1++[.lst a])/\t ρ1 (μ1++[.lst a])=.ok (q x) (μ1++[.lst a])/\(q x=false->R ρ1)/\(q x=true->a.length+(k x).length<=sizeLine->∃ ρ2,R ρ2/\fb μ1.length ρ1 (μ1++[.lst a])=.ok ρ2 (μ1++[.lst (a++k x)]))) ->
   ∃ ρ',R ρ'/\kW src μ1.length g t fb (us.map en) ρ (μ1++[.lst acc])=.ok ρ' (μ1++[.lst (acc++(us.filter q).flatMap k)])
 | [],acc,ρ,hr,hl,he=>by
  refine ⟨ρ,hr,?_⟩
  rw [Ny]
  unfold kW
  rw [LU (ho acc)]
  simp
 | x::xs,acc,ρ,hr,hl,he=>by
  obtain ⟨ρ1,e1,e2,e4,e3⟩:=he x Ma acc ρ hr
  rw [Nz]
  unfold kW
  rw [LU (ho acc),e1]
  simp only [bZ,aa]
  rw [e2]
  simp only [bZ,aa]
  have he':=fun y hy=>he y (Mb _ hy)
  cases hq:q x with
  | false=>
   rw [PX,hq] at hl
   rw [LV Mu,PX,hq]
   exact oe R ho (e4 hq) hl he'
  | true=>
   rw [PX,hq,LU rfl,Qc,Nb] at hl
   obtain ⟨ρ2,r2,e5⟩:=e3 hq (by omega)
   rw [LU rfl,e5]
   simp only [bZ,aa]
   obtain ⟨ρ',r',e6⟩:=oe R ho r2 (acc:=acc++k x) (by rw [Nb];omega) he'
   refine ⟨ρ',r',?_⟩
   rw [e6,PX,hq,LU rfl,Qc,NG]
theorem gF {U:Type}:∀ {us:List U},us.filter (fun _=>true)=us
 | []=>rfl
 | _::us=>by rw [PX,LU rfl,gF]
theorem DC {e:ME}{ρ:Ro}{μ1:aG}{a:List D}{y:D} (h:e ρ (μ1++[.lst a])=.ok y (μ1++[.lst a])) (hl:a.length+1<=sizeLine):qX e μ1.length ρ (μ1++[.lst a])=.ok ρ (μ1++[.lst (a++[y])]):=by
 unfold qX
 rw [h]
 simp only [bZ,aa]
 rw [my (by omega)]
 rfl
def Ak:D->Bool
 | .int _=>true
 | _=>false
def j7 (m:Nat):D->Bool
 | .int i=>decide (0<=i/\i<(m:Int))
 | _=>false
def qL (μ:aG) (d:D):Prop:=DM μ d≠none
theorem vc {μ:aG}{n:Nat} (h:qL μ (.obj n)):(∃ xs,μ[n]?=some (.lst xs))\/μ[n]?=some .dic:=by
 unfold qL DM at h
 dsimp only at h
 split at h
 ·rename_i xs e;exact .inl ⟨xs,e⟩
 ·rename_i e;exact .inr e
 ·exact absurd rfl h
theorem zU {μ:aG}{d:D} (h:qL μ d):∃ b,jy "int" d μ=.ok (.bl b) μ/\(b=true->∃ c,jy "bool" d μ=.ok (.bl c) μ/\(!c)=Ak d)/\(b=false->Ak d=false):=by
 cases d with
 | non=>exact ⟨false,rfl,nofun,fun _=>rfl⟩
 | bl b=>exact ⟨true,rfl,fun _=>⟨true,rfl,rfl⟩,nofun⟩
 | int i=>exact ⟨true,rfl,fun _=>⟨false,rfl,rfl⟩,nofun⟩
 | str x=>exact ⟨false,rfl,nofun,fun _=>rfl⟩
 | tup xs=>exact ⟨false,rfl,nofun,fun _=>rfl⟩
 | frz xs=>exact ⟨false,rfl,nofun,fun _=>rfl⟩
 | obj n=>
  refine ⟨false,?_,nofun,fun _=>rfl⟩
  unfold jy DM
  rcases vc h with ⟨xs,e⟩ | e <;> simp only [e] <;> rfl
theorem CC {μ:aG}{d:D} (h:qL μ d):jr [d] μ=.ok (.bl (Ak d)) μ:=by
 obtain ⟨b,h1,h2,h3⟩:=zU h
 unfold jr
 rw [ji]
 simp only [sE,List.replicate,aT,ff,z7,jF,ah,aa,h1,aQ]
 cases b with
 | false=>
  rw [LV Mu,ae,aI,h3 rfl]
  exact bg (by simp)
 | true=>
  obtain ⟨c,c1,c2⟩:=h2 rfl
  rw [LU rfl,c1]
  simp only [aa,aQ,ae,aI,c2]
  exact bg (by simp)
theorem AA {μ:aG}{d:D} (h:qL μ d):dg [d] μ=.ok (.bl (Ak d)) μ:=by
 obtain ⟨b,h1,h2,h3⟩:=zU h
 unfold dg
 rw [ji]
 simp only [oE,List.replicate,aT,ff,z7,jF,ah,aa,h1,aQ]
 cases b with
 | false=>
  rw [LV Mu,ae,aI,h3 rfl]
  exact bg (by simp)
 | true=>
  obtain ⟨c,c1,c2⟩:=h2 rfl
  rw [LU rfl,c1]
  simp only [aa,aQ,ae,aI,c2]
  exact bg (by simp)
theorem wL {μ:aG}{m:Nat}{d:D} (h:qL μ d):f7 [.int m,d] μ=.ok (.bl (j7 m d)) μ:=by
 have hw:d4 [d,.int 0,.int ((m:Int) - 1)] μ=.ok (.bl (j7 m d)) μ:=by
  unfold d4
  rw [rp]
  simp only [la,List.replicate,aT,ff,aD,aq,ay,ah,aj,aa,CC h,aQ,xD]
  cases d with
  | int i=>
   rw [show Ak (.int i)=true from rfl,LU rfl]
   simp only [dr,aa,aQ]
   by_cases c:cW .LtE 0 i=true
   ·rw [LU c, ae, aI]
    rw [show cW .LtE i ((m:Int) - 1)=j7 m (.int i) from by
     have c':(0:Int)<=i:=QA c
     show decide (i<=(m:Int) - 1)=decide (0<=i/\i<(m:Int))
     exact O9.mpr ⟨fun z=>⟨c',by omega⟩,fun z=>by omega⟩]
    exact bg (by simp)
   ·rw [LV c, ae, aI]
    rw [show j7 m (.int i)=false from by
     have c':¬ (0:Int)<=i:=fun z=>c (NM z)
     exact LR (fun z=>c' z.1)]
    exact bg (by simp)
  | _=>
   rw [show Ak _=false from rfl,LV Mu,ae,aI]
   exact bg (by simp)
 unfold f7
 rw [cV]
 simp only [sF,List.replicate,aT,aD,aq,ay,ah,aj,aR,az,aa]
 rw [show gC (.int m) (.int 1) μ=.ok (.int ((m:Int) - 1)) μ from rfl]
 simp only [aa,hw,ae,aI]
 exact bg (by simp)
theorem xc {μ g:aG}{d:D} (h:qL μ d):qL (μ++g) d:=by
 cases d with
 | obj n=>
  unfold qL DM
  rcases vc h with ⟨xs,e⟩ | e <;> simp only [aC e] <;> exact nofun
 | _=>exact h
theorem uX:100000<=sizeLine:=by decide
theorem nh {μ:aG}{m:Nat}{xs:List D} (h:∀ x∈xs,qL μ x) (hl:xs.length<=1000):cw [.int m,.tup xs] μ=.ok (.bl (xs.all (j7 m))) μ:=by
 have c:=dA (U:=D) (en:=fun x=>x) (src:=.fix xs) (g:=ai 0) (t:=bI) (e:=j4) (μ1:=μ) (q:=fun _=>true) (h:=fun x=>.bl (j7 m x)) (fun ρ=>∃ o,ρ=[o,some (.int m)]) (fun _=>trivial) (us:=xs) (acc:=[]) (ρ:=[none,some (.int m)]) ⟨_,rfl⟩
  (by rw [Of];exact L5 (by omega) bA)
  (fun x hx a ρ hJJ => by
   obtain ⟨o,e⟩:=hJJ
   subst e
   refine ⟨[some x,some (.int m)],⟨_,rfl⟩,rfl,rfl,fun _=>?_⟩
   unfold j4
   simp only [aD,aq,ay,aj,ah,aa,wL (xc (h x hx))])
 rw [List.map_id',NL,gF] at c
 unfold cw
 rw [cV]
 simp only [lZ,List.replicate,aT,ff,jF,aj,ah,aa]
 rw [show jy "tuple" (.tup xs) μ=.ok (.bl true) μ from rfl]
 simp only [aa,aQ,Nn,aD,aq,ay,bP,bY,aj,ah,jJ,aW]
 rw [show eE [none,some 0] _=[none,some (.int m)] from rfl,c]
 simp only [aa]
 rw [qG (bs:=xs.map (j7 m)) (by rw [ar,Oc];rfl)]
 simp only [ae,aI]
 rw [show (xs.map (j7 m)).all id=xs.all (j7 m) from by rw [PL];rfl]
 exact fW (by simp)
def DN:D->Bool
 | .tup _=>true
 | _=>false
theorem qD {μ:aG}{d:D} (h:qL μ d):jy "tuple" d μ=.ok (.bl (DN d)) μ:=by
 cases d with
 | obj n=>
  unfold jy DM
  rcases vc h with ⟨xs,e⟩ | e <;> simp only [e] <;> rfl
 | _=>rfl
theorem yL {μ:aG}{m:Nat}{d:D} (h:qL μ d) (hn:DN d=false):cw [.int m,d] μ=.ok (.bl false) μ:=by
 unfold cw
 rw [cV]
 simp only [lZ,List.replicate,aT,ff,jF,aj,ah,aa,qD h,hn,aQ,NP,Nl,ae,aI]
 exact bg (by simp)
theorem rG {μ:aG}{m:Nat}{x:D}{p:Int} (h:0<=p/\p<(m:Int)):cL [.tup [.int m,x],.int p] μ=.ok .non μ:=by
 unfold cL
 rw [cV]
 simp only [mZ,List.replicate,bC,jK,iP,aD,aq,ay,az,ah,aj,aR,aa,bG]
 rw [wL (show qL μ (.int p) from nofun),show j7 m (.int p)=true from NM h]
 simp only [aa,eY,OM,ae,NP,Nl,bD,Di]
 exact bg (by simp)
theorem rR {μ:aG}{m:Int}{ks:List (List Int)}{a b:Int} (hk:∀ k∈ks,pL m k):qh false (.tup [.int a,.int b]) (.tup (ks.map ao)) μ=.ok (.bl (decide ([a,b]∈ks))) μ:=by
 have e1:kT μ (.tup [.int a,.int b])=some (.tuple [.int a,.int b]):=rfl
 have e2:kT μ (.tup (ks.map ao))=some (.tuple (ks.map nJ)):=by
  simp only [kT,oZ hk,Option.map_some]
 unfold qh
 rw [e1,e2]
 dsimp only [rl]
 rw [LU ⟨rfl,uh hk⟩]
 simp only [NP,Nl]
 congr 2
 rw [Qx]
 apply Qg.mpr
 rw [Qy,PF]
 constructor
 ·rintro ⟨k, hk', e⟩
  obtain ⟨u,v,rfl,_⟩:=hk k hk'
  have:u=a/\v=b:=by simpa [nJ,PyData.eqv,PyData.eqvAll] using e
  rw [<- this.1,<- this.2];exact hk'
 ·intro h
  exact ⟨_,h,by simp [nJ,PyData.eqv,PyData.eqvAll]⟩
theorem BX {μ:aG}{a b:Int}:uT [.int a,.int b] μ=.ok (.int (min a b)) μ:=by
 show ak.ok (D.int (if b<a then b else a)) μ=_
 congr 2
 split <;> omega
theorem BY {μ:aG}{a b:Int}:qQ [.int a,.int b] μ=.ok (.int (max a b)) μ:=by
 show ak.ok (D.int (if b > a then b else a)) μ=_
 congr 2
 split <;> omega
theorem Ei {μ:aG}{m:Nat}{ks:List (List Int)}{a b:Int} (hk:∀ k∈ks,pL m k):kn [.tup [.int m,.tup (ks.map ao)],.int a,.int b] μ=.ok (.bl (fU ks a b)) μ:=by
 unfold kn
 rw [rp]
 simp only [uO,List.replicate,aT,az,bO,aq,ay,aD,ah,aj,aR,aa,BX,BY,NQ,Of,LU l2,dQ]
 rw [rR hk]
 simp only [ae,aI]
 exact bg (by simp)
abbrev aU (w:List Int):D:=.tup (w.map D.int)
theorem kL:∀ (l acc:List Int),acc.Nodup->(l.foldl (fun acc k=>if k∈acc then acc else acc++[k]) acc).Nodup/\∀ x,x∈l.foldl (fun acc k=>if k∈acc then acc else acc++[k]) acc↔x∈acc\/x∈l
 | [],acc,h=>⟨h,fun x=>by simp⟩
 | y::l,acc,h=>by
  rw [NH]
  by_cases c:y∈acc
  ·rw [LU c]
   have ih:=kL l acc h
   refine ⟨ih.1,fun x=>?_⟩
   rw [ih.2 x,Mc]
   constructor
   ·rintro (z | z)
    ·exact .inl z
    ·exact .inr (.inr z)
   ·rintro (z | rfl | z)
    ·exact .inl z
    ·exact .inl c
    ·exact .inr z
  ·rw [LV c]
   have ih:=kL l (acc++[y]) (by rw [OR];exact ⟨h,by simp,fun a ha b hb=>by simp at hb;subst hb;exact fun e=>c (e ▸ ha)⟩)
   refine ⟨ih.1,fun x=>?_⟩
   rw [ih.2 x,Mc,Me,N1,or_assoc]
theorem AC {m:Nat}{ks:List (List Int)}{p:Int}{ns:List Int} (h:∀ q,q∈ns↔q∈fu m ks p):nG (cP ns)=fu m ks p:=by
 have d:=kL ns [] OE
 have up:(fu m ks p).Pairwise (·<·):=zt.filter _
 refine (rH ?_ (up.imp fun {a b} h=>Int.le_of_lt h)).symm
 refine (OI (up.imp fun {a b} h=>by omega) d.1).mpr fun q=>?_
 rw [d.2 q,<- h q]
 simp
theorem Cs {m:Int}{ks:List (List Int)} (hk:∀ k∈ks,pL m k) {p q:Int}:fU ks p q=true↔[p,q]∈ks\/[q,p]∈ks:=by
 unfold fU
 rw [PF]
 have asc:∀ {a b:Int},[a,b]∈ks->a<b:=fun h=>by
  obtain ⟨u,v,e,_,h2,_⟩:=hk _ h
  simp at e;rw [e.1,e.2];exact h2
 constructor
 ·intro h
  have:=asc h
  by_cases c:p<=q
  ·left;rw [Qi c,Qj c] at h;exact h
  ·right;rw [Qk (by omega),Ql (by omega)] at h;exact h
 ·rintro (h | h)
  ·have := asc h
   rw [Qi (by omega),Qj (by omega)];exact h
  ·have := asc h
   rw [Qk (by omega),Ql (by omega)];exact h
theorem rQ:∀ {ns:List Int},jf (ns.map D.int)=some ns
 | []=>rfl
 | n::ns=>by simp [jf,rQ (ns:=ns)]
theorem vk {ns:List Int} (h:∀ n∈ns,0<=n/\n<6):BE (ns.map D.int)=some ns:=by
 unfold BE
 rw [rQ]
 dsimp only
 rw [LU (OK.mpr fun n hn=>NM (h n hn))]
theorem Ej {μ:aG}{m:Nat}{ks:List (List Int)}{p:Int} (h:bu (.tup [.int m,.tup (ks.map ao)]) m ks) (hp:0<=p/\p<(m:Int)):km [.tup [.int m,.tup (ks.map ao)],.int p] μ=.ok (aU (fu m ks p)) μ:=by
 have hl:=lP h
 obtain ⟨_,h0,h1,_,hk⟩:=h
 have eN:(μ++[O.lst [.int p]]++[O.lst [.int p]])[(μ++[O.lst [.int p]]).length]?=some (.lst ([p].map D.int)):=ar
 obtain ⟨t,g,ns,e1,e2,e3,e4,e5⟩:=wM (μ:=μ++[O.lst [.int p]]++[O.lst [.int p]]) hk hl eN
 have mem:∀ q,q∈p::ns↔q∈fu m ks p:=fun q=>by
  unfold fu
  rw [Mc,e5 q,L1,cT]
  simp only [N1,exists_eq_left,PU,PF,mn hk,Cs hk]
  constructor
  ·rintro (rfl | z)
   ·exact ⟨hp,.inl rfl⟩
   ·refine ⟨?_, .inr z⟩
    rcases z with z | z <;> (obtain ⟨u,v,e,h3,h4,h5⟩:=hk _ z;simp at e;obtain ⟨ea,eb⟩:=e;subst ea eb;exact ⟨by omega,by omega⟩)
  ·rintro ⟨_, z | z⟩
   ·exact .inl z
   ·exact .inr z
 have rng:∀ n∈p::ns,0<=n/\n<6:=fun n hn=>by
  have:=cT.mp (L1.mp ((mem n).mp hn)).1
  omega
 unfold km
 rw [cV]
 have l1:([D.int p]:List D).length<=sizeLine:=L5 (by simp) bA
 simp only [uN,List.replicate,aM,nU,aD,aq,ay,ah,aj,aa,rG hp,ae,aF,aT,az,cO,LU l1,aR,dQ,e1]
 have ad:bq (.obj μ.length) (.obj t) (μ++[O.lst [.int p]]++[O.lst [.int p]]++g)=.ok (.obj (μ++[O.lst [.int p]]++[O.lst [.int p]]++g).length) ((μ++[O.lst [.int p]]++[O.lst [.int p]]++g)++[O.lst ((p::ns).map D.int)]):=by
  unfold bq
  dsimp only
  rw [e2,aC (aC ar)]
  dsimp only
  rw [LU]
  ·rfl
  ·rw [Nd]
   exact L5 (show _<=1000 by simp;omega) bA
 rw [ad]
 simp only [aa]
 have st:∀ M:aG,ky [.obj M.length] (M++[O.lst ((p::ns).map D.int)])=.ok (.obj (M++[O.lst ((p::ns).map D.int)]).length) ((M++[O.lst ((p::ns).map D.int)])++[O.iset (cP (p::ns))]):=fun M=>by
  unfold ky
  dsimp only
  rw [ar]
  dsimp only
  unfold nH
  rw [show lA ((p::ns).map D.int)=none from rfl,vk rng]
 rw [st]
 simp only [aa]
 have so:∀ M:aG,dR [.obj M.length] (M++[O.iset (cP (p::ns))])=.ok (.obj (M++[O.iset (cP (p::ns))]).length) ((M++[O.iset (cP (p::ns))])++[.lst ((fu m ks p).map D.int)]):=fun M=>by
  unfold dR
  dsimp only
  rw [ar]
  dsimp only
  rw [AC mem]
 rw [so]
 simp only [aa]
 rw [jI ar]
 simp only [ae,aI]
 simp only [NG]
 exact fW (by simp only [qB];exact fH.mpr fun x hx=>by obtain ⟨k,_,rfl⟩:=Ol.mp hx;simp)
theorem Iu {n:Nat}{w:List Int}:(aU w).low n:=by simp only [qB];exact fH.mpr fun x hx=>by obtain ⟨k,_,rfl⟩:=Ol.mp hx;simp
theorem zu {μ:aG}{neg:Bool}{w:List Int}{a:Int}:qh neg (.int a) (aU w) μ=.ok (.bl (if neg then !decide (a∈w) else decide (a∈w))) μ:=by
 have e2:kT μ (aU w)=some (.tuple (w.map PyData.int)):=by
  simp only [kT,rP,Option.map_some]
 have f2:dJ (.tuple (w.map PyData.int))=true:=by
  have:=lN w
  simp only [dJ,PyData.canLay0,this.1,PyData.depth,this.2,Qw]
  rfl
 unfold qh
 rw [show kT μ (.int a)=some (.int a) from rfl,e2]
 dsimp only [rl]
 rw [LU ⟨rfl,f2⟩]
 have:(w.map PyData.int).any (fun y=>PyData.eqv y (.int a))=decide (a∈w):=by
  rw [Qx]
  apply Qg.mpr
  rw [Qy,PF]
  constructor
  ·rintro ⟨x, hx, e⟩
   have:x=a:=by simpa [PyData.eqv] using e
   subst this;exact hx
  ·intro hx
   exact ⟨a,hx,by simp [PyData.eqv]⟩
 rw [this]
theorem Cr {μ:aG}{w:List Int}{p:Int} (h:w.length<=100):bq (aU w) (.tup [.int p]) μ=.ok (aU (w++[p])) μ:=by
 unfold bq
 dsimp only
 rw [LU]
 ·show _ = ak.ok (D.tup ((w ++ [p]).map D.int)) μ
  rw [Ou];rfl
 ·rw [Nd];exact L5 (by simp;omega) bA
theorem vf {μ:aG}{w:List Int} (h:w≠[]):bQ (aU w) (.int (-1)) μ=.ok (.int (cn w)) μ:=by
 obtain ⟨v,p,rfl⟩:∃ v p,w=v++[p]:=⟨w.dropLast,w.getLast h,(Qe h).symm⟩
 rw [nj]
 refine lI ?_
 unfold atI yo
 simp only [Ou,Nz,Ny,Nb,Nd,NQ,Of]
 rw [LV (by omega),LU (by omega)]
 rw [show ((-1:Int)+((v.length+(0+1):Nat):Int)).toNat=(v.map D.int).length from by rw [Nd];omega]
 show (v.map D.int++[D.int p])[(v.map D.int).length]?=_
 rw [MX (MD _),OF]
 rfl
theorem qE {μ:aG}{w:List Int} (h:w≠[]):bQ (aU w) (.int 0) μ=.ok (.int (qv w)) μ:=by
 cases w with
 | nil=>exact absurd rfl h
 | cons a r=>exact bG
theorem rh {m:Nat}:bJ 0 ((m:Int)).toNat=(rg m).map D.int:=by
 unfold bJ rg
 rw [Oc]
 simp
theorem Af {m:Nat}{f:Int->D}{p:Int} (h:0<=p/\p<(m:Int)):atI ((rg m).map f) p=some (f p):=by
 refine kE h.1 ?_
 rw [MZ]
 unfold rg
 rw [MZ,Pd (by omega)]
 simp only [Option.map_some]
 congr 2
 exact OL h.1
theorem xi {m k:Nat}{ks:List (List Int)}{w:List Int} (hw:Gy m k w):((fu m ks (cn w)).filter fun p=>!decide (p∈w)).flatMap (fun p=>[aU (w++[p])])=(jT m ks w).map aU:=by
 rw [Aw hw.ne]
 unfold jT
 rw [Oc]
 generalize qV m ks w=l
 induction l with
 | nil=>rfl
 | cons a l ih=>rw [Qc,ih];rfl
theorem xC {m:Nat}{ks:List (List Int)}:∀ l:List (List Int),l.flatMap (fun w=>(jT m ks w).map aU)=(l.flatMap (jT m ks)).map aU
 | []=>rfl
 | w::l=>by rw [Qc,Qc,Ou,xC l]
theorem K9 {M:aG}{m k A B:Nat}{ks:List (List Int)} (hm:m<=6) (hk:k+1<=5) (hA:M[A]?=some (.lst ((rg m).map fun p=>aU (fu m ks p)))) (hB:M[B]?=some (.lst ((cg m ks k).map aU))) {o0 o1 o2 o5:Option D} :
  i5 [o0,o1,o2,some (.obj A),some (.obj B),o5] M=.next [o0,o1,o2,some (.obj A),some (.obj M.length),o5] (M++[.lst ((cg m ks (k+1)).map aU)]):=by
 have fl:((cg m ks k).filter fun _=>true).flatMap (fun w=>(jT m ks w).map aU)=(cg m ks (k+1)).map aU:=by
  rw [gF,xC];rfl
 have szA:=iu hm (ks:=ks) hk
 obtain ⟨ρ',r',run⟩:=oe (U:=List Int) (en:=aU) (src:=.own B ((cg m ks k).map aU)) (g:=ai 0) (t:=bI) (fb:=i4) (μ1:=M) (q:=fun _=>true) (k:=fun w=>(jT m ks w).map aU)
  (fun ρ=>∃ a b,ρ=[a,b,some (.obj A)]) (fun a=>aC hB) (us:=cg m ks k) (acc:=[]) (ρ:=[none,none,some (.obj A)]) ⟨_,_,rfl⟩
  (by rw [fl,Nd,Of];exact L5 (by omega) uX)
  (fun w hw a ρ hJJ => by
   obtain ⟨x,y,e⟩:=hJJ
   subst e
   have Hw:=cZ hw
   have hlast:=Hw.rng _ (mz Hw.ne)
   refine ⟨[some (aU w),y,some (.obj A)],rfl,rfl,fun z=>⟨_,_,rfl⟩,fun _ hsz=>?_⟩
   obtain ⟨ρ2,⟨y2,e2⟩,run2⟩:=oe (U:=Int) (en:=D.int) (src:=.fix ((fu m ks (cn w)).map D.int)) (g:=ai 1) (t:=kN) (fb:=qX kQ) (μ1:=M) (q:=fun p=>!decide (p∈w)) (k:=fun p=>[aU (w++[p])])
    (fun ρ=>∃ b,ρ=[some (aU w),b,some (.obj A)]) (fun _=>trivial) (us:=fu m ks (cn w)) (acc:=a) (ρ:=[some (aU w),y,some (.obj A)]) ⟨_,rfl⟩
    (by rw [xi Hw];exact hsz)
    (fun p hp b ρ hJJ => by
     obtain ⟨y,e⟩:=hJJ
     subst e
     refine ⟨[some (aU w),some (.int p),some (.obj A)],rfl,?_,fun _=>⟨_,rfl⟩,fun _ hb=>⟨_,⟨_,rfl⟩,DC ?_ (by simpa using hb)⟩⟩
     ·unfold kN
      simp only [bT,az,aj,ah,aa,zu,Nn,aQ]
     ·unfold kQ
      have l1:([D.int p]:List D).length<=sizeLine:=L5 (by simp) bA
      simp only [az,aj,ah,aa,bO,aq,ay,LU l1,Cr (show w.length<=100 by rw [Hw.len];omega)])
   rw [xi Hw] at run2
   refine ⟨ρ2,⟨_,_,e2⟩,?_⟩
   unfold i4 rm
   simp only [bY,az,jF,aj,ah,aR,aa,uZ,vf Hw.ne]
   rw [cU (aC hA) (Af hlast)]
   simp only [aa,jJ,bZ,aW]
   exact run2)
 rw [fl,NL] at run
 unfold i5
 simp only [aV]
 have cN:oW (fw (ag 4)) [none,none,some 3] (ai 0) bI i4 [o0,o1,o2,some (.obj A),some (.obj B),o5] M=.ok (.obj M.length) (M++[.lst ((cg m ks (k+1)).map aU)]):=by
  unfold oW
  simp only [bY,aj,ah,aa]
  rw [dm hB]
  simp only [aa,b8]
  rw [show eE [none,none,some 3] _=[none,none,some (.obj A)] from rfl,run]
  rfl
 rw [cN]
 simp only [ae,bH,Qo,Qp]
theorem CG {μ:aG}{m s:Nat}{ks:List (List Int)} (h:bu (.tup [.int m,.tup (ks.map ao)]) m ks) (s0:2<=s) (s1:s<=6) :
  ∃ (t:Nat) (g:aG),jq [.tup [.int m,.tup (ks.map ao)],.int s] μ=.ok (.obj t) (μ++g)/\(μ++g)[t]?=some (.lst ((fx m ks s).map aU))/\μ.length<=t:=by
 have hm6:m<=6:=by have:=h.2.2.1;omega
 have hm1:1<=m:=by have:=h.2.1;omega
 let W:D:=.tup [.int m,.tup (ks.map ao)]
 have c1:=dA (U:=Int) (en:=D.int) (src:=.fix ((rg m).map D.int)) (g:=ai 0) (t:=bI) (e:=kS) (μ1:=μ) (q:=fun _=>true) (h:=fun p=>aU (fu m ks p))
  (fun ρ=>∃ o,ρ=[o,some W]) (fun _=>trivial) (us:=rg m) (acc:=[]) (ρ:=[none,some W]) ⟨_,rfl⟩
  (by rw [Of,iN];exact L5 (by omega) bA)
  (fun p hp a ρ hJJ => by
   obtain ⟨o,e⟩:=hJJ
   subst e
   refine ⟨[some (.int p),some W],⟨_,rfl⟩,rfl,rfl,fun _=>?_⟩
   unfold kS
   simp only [aD,aq,ay,aj,ah,aa]
   exact Ej h (cT.mp hp))
 rw [gF,NL] at c1
 let M1:=μ++[O.lst ((rg m).map fun p=>aU (fu m ks p))]
 have c2:=dA (U:=Int) (en:=D.int) (src:=.fix ((rg m).map D.int)) (g:=ai 0) (t:=bI) (e:=kR) (μ1:=M1) (q:=fun _=>true) (h:=fun p=>aU [p])
  (fun ρ=>∃ o,ρ=[o]) (fun _=>trivial) (us:=rg m) (acc:=[]) (ρ:=[none]) ⟨_,rfl⟩
  (by rw [Of,iN];exact L5 (by omega) bA)
  (fun p hp a ρ hJJ => by
   obtain ⟨o,e⟩:=hJJ
   subst e
   refine ⟨[some (.int p)],⟨_,rfl⟩,rfl,rfl,fun _=>?_⟩
   unfold kR
   have l1:([D.int p]:List D).length<=sizeLine:=L5 (by simp) bA
   simp only [bO,aq,ay,ah,aa,LU l1]
   rfl)
 rw [gF,NL] at c2
 have w0:(rg m).map (fun p=>aU [p])=(cg m ks 0).map aU:=by
  show _=((rg m).map fun p=>[p]).map aU
  rw [Oc];rfl
 rw [w0] at c2
 let A:=μ.length
 obtain ⟨ρ',μ',⟨k,B,g,o5,e1,e2,e3,e4⟩,run⟩:=dP (src:=.fix (bJ 0 (s - 1))) (g:=ai 5) (fb:=i5)
  (fun xs ρ M=>∃ (k B:Nat) (g:aG) (o5:Option D),xs.length+k=s - 1/\M=M1++g/\M[B]?=some (.lst ((cg m ks k).map aU))/\ρ=[some W,some (.int s),some (.int m),some (.obj A),some (.obj B),o5])
  (fun _ _ _=>trivial)
  (fun x xs ρ M hJJ => by
   obtain ⟨k,B,g,o5,e1,e2,e3,e4⟩:=hJJ
   subst e4
   have hA:M[A]?=some (.lst ((rg m).map fun p=>aU (fu m ks p))):=by rw [e2];exact aC ar
   refine ⟨trivial,_,M,_,_,rfl,K9 (k:=k) hm6 (by simp at e1;omega) hA e3,k+1,M.length,g++[.lst ((cg m ks (k+1)).map aU)],some x,by simp at e1 ⊢;omega,by rw [e2,NG],ar,rfl⟩)
  (xs:=bJ 0 (s - 1)) (ρ:=[some W,some (.int s),some (.int m),some (.obj A),some (.obj M1.length),none]) (μ:=M1++[O.lst ((cg m ks 0).map aU)])
  ⟨0,M1.length,_,none,by simp [bJ],rfl,ar,rfl⟩
 have ek:k=s - 1:=by simpa using e1
 subst ek e4
 have hA:μ'[A]?=some (.lst ((rg m).map fun p=>aU (fu m ks p))):=by rw [e2];exact aC ar
 have c3:=dA (U:=List Int) (en:=aU) (src:=.own B ((cg m ks (s - 1)).map aU)) (g:=ai 0) (t:=kM) (e:=kP) (μ1:=μ') (q:=jW ks) (h:=aU)
  (fun ρ=>∃ o,ρ=[o,some (.obj A)]) (fun _=>aC e3) (us:=cg m ks (s - 1)) (acc:=[]) (ρ:=[none,some (.obj A)]) ⟨_,rfl⟩
  (by rw [Of];exact L5 (by have:=iu hm6 (ks:=ks) (show s - 1<=5 by omega);omega) uX)
  (fun w hw a ρ hJJ => by
   obtain ⟨o,e⟩:=hJJ
   subst e
   have Hw:=cZ hw
   refine ⟨[some (aU w),some (.obj A)],⟨_,rfl⟩,rfl,?_,fun _=>by unfold kP;rw [ah]⟩
   unfold kM
   simp only [bT,az,jF,aj,ah,aR,aa,uZ,vf Hw.ne,qE Hw.ne]
   rw [cU (aC hA) (Af (Hw.rng _ (mz Hw.ne)))]
   simp only [aa,zu,NP,Nl,aQ]
   rw [zi Hw (by omega)])
 rw [NL] at c3
 refine ⟨μ'.length,[O.lst ((rg m).map fun p=>aU (fu m ks p))]++g++[.lst ((fx m ks s).map aU)],?_,?_,?_⟩
 ·unfold jq
  rw [cV]
  have hr:eX [.int (m:Int)] μ=.ok (.fix ((rg m).map D.int)) μ:=by rw [dq (by omega) (by omega),rh]
  have hr2:eX [.int (m:Int)] M1=.ok (.fix ((rg m).map D.int)) M1:=by rw [dq (by omega) (by omega),rh]
  have hr3:eX [.int ((s:Int) - 1)] (M1++[O.lst ((cg m ks 0).map aU)])=.ok (.fix (bJ 0 (s - 1))) (M1++[O.lst ((cg m ks 0).map aU)]):=by
   rw [dq (by omega) (by omega),show ((s:Int) - 1).toNat=s - 1 from by omega]
  simp only [sC,List.replicate,aM,aV,az,ah,aj,aR,aa,bG,ae,bH,Qo,Qp,aF,bP,bW,aq,ay,hr,aW]
  rw [show eE [none,some 0] _=[none,some W] from rfl,c1]
  simp only [aM,aV,bP,bW,aq,ay,ae,bH,Qo,Qp,aF,aj,ah,aa]
  rw [show eX [.int (m:Int)] (μ++[O.lst ((rg m).map fun p=>aU (fu m ks p))])=_ from hr2]
  simp only [aa,aW]
  rw [show eE [none] _=[none] from rfl,c2]
  simp only [aM,ae,bH,Qo,Qp,aF,dO,bW,aq,ay,az,aj,ah,aR,aa]
  rw [show gC (.int (s:Int)) (.int 1) _=.ok (.int ((s:Int) - 1)) _ from rfl]
  simp only [aa,hr3,ae,aW]
  rw [run]
  simp only [aF,aT,bP,bY,aj,ah,aa]
  rw [dm e3]
  simp only [aa,b8]
  rw [show eE [none,some 3] _=[none,some (.obj A)] from rfl,c3]
  simp only [ae,aI]
  rw [qW (by rw [e2];simp [M1])]
  rw [e2]
  simp only [M1,NG]
  rfl
 ·rw [show μ ++ ([O.lst ((rg m).map fun p => aU (fu m ks p))] ++ g ++ [.lst ((fx m ks s).map aU)]) = μ' ++ [.lst ((fx m ks s).map aU)] from by rw [e2]; simp only [M1, NG]]
  exact ar
 ·rw [e2];simp only [M1,Nb];omega
theorem fZ {f g:MS}{ρ ρ':Ro}{μ μ':aG} (h:f ρ μ=.next ρ' μ'):aZ f g ρ μ=g ρ' μ':=by rw [aM,h,aF]
def uV (v:Nat) (f:Int->Option Nat) (qs:List Int):Int->Option Nat:=qs.foldl (fun f q=>m5 f q v) f
theorem rX {v:Nat}:∀ (qs:List Int) (f:Int->Option Nat) (q:Int),uV v f qs q=if q∈qs then some v else f q
 | [],f,q=>by simp [uV]
 | x::qs,f,q=>by
  have:=rX (v:=v) qs (m5 f x v) q
  unfold uV at this ⊢
  rw [NH,this]
  by_cases h:q∈qs
  ·rw [LU h,LU (Mb _ h)]
  ·rw [LV h]
   unfold m5
   by_cases e:q=x
   ·rw [LU e,LU (by simp [e])]
   ·rw [LV e,LV (by simp [e,h])]
section
variable {μ0:aG}{m A:Nat}{p:Int}{ks:List (List Int)}{w:D}
theorem FO {M:aG}{A t n:Nat}{f:Int->Option Nat}{fs:List Int}{o0 o1 o2 o3:Option D}{o7:Option D} (hA:M[A]?=some (.lst (dH m f))) (ht:M[t]?=some (.lst (fs.map D.int))) (hne:A≠t) (hfs:∀ q∈fs,0<=q/\q<(m:Int)) :
  ∃ o7',iU (fw (ag 6)) (ai 7) fL [o0,o1,o2,o3,some (.obj A),some (.int n),some (.obj t),o7] M=.next [o0,o1,o2,o3,some (.obj A),some (.int n),some (.obj t),o7'] (M.set A (.lst (dH m (uV n f fs)))):=by
 have hAl:A<M.length:=(Mg.mp hA).1
 have run:=dP (src:=.own t (fs.map D.int)) (g:=ai 7) (fb:=fL)
  (fun xs ρ μ1=>∃ ys zs:List Int,xs=zs.map D.int/\fs=ys++zs/\μ1=M.set A (.lst (dH m (uV n f ys)))/\∃ o7,ρ=[o0,o1,o2,o3,some (.obj A),some (.int n),some (.obj t),o7])
  (fun ρ μ1 ⟨ys,zs,_,_,e,_⟩=>by subst e;exact bL ht hne)
  (fun x xs ρ μ1 hJJ => by
   obtain ⟨ys,zs,hx,hf,e,o7,eρ⟩:=hJJ
   subst e eρ
   cases zs with
   | nil=>cases hx
   | cons z zs=>
    injection hx with h1 h2
    subst h1 h2
    have hz:=hfs z (by rw [hf];simp)
    have hlen:(dH m (uV n f ys)).length=m:=by unfold dH;rw [Nd,Oe]
    refine ⟨bL ht hne,_,_,[o0,o1,o2,o3,some (.obj A),some (.int n),some (.obj t),some (.int z)],M.set A (.lst (dH m (uV n f (ys++[z])))),rfl,?_,ys++[z],zs,rfl,by rw [hf];simp,rfl,_,rfl⟩
    show fL [o0,o1,o2,o3,some (.obj A),some (.int n),some (.obj t),some (.int z)] _=_
    unfold fL
    simp only [aV,aj,ah,ae,ml,aa]
    rw [nS (fP hAl) (oT hz.1 (by rw [hlen];exact hz.2)),rK hz.1 hz.2]
    simp only [aa,ae,Qq]
    unfold uV
    rw [OW]
    rfl)
  (xs:=fs.map D.int) (ρ:=[o0,o1,o2,o3,some (.obj A),some (.int n),some (.obj t),o7]) (μ:=M)
  ⟨[], fs, rfl, rfl, by
   apply Pc
   intro j
   by_cases e:A=j
   ·subst e;rw [fP hAl,hA];rfl
   ·rw [Mj e],_,rfl⟩
 obtain ⟨ρ',μ',⟨ys,zs,hx,hf,e,o7',eρ⟩,run⟩:=run
 subst e eρ
 have hz:zs=[]:=by cases zs with
  | nil=>rfl
  | cons=>cases hx
 subst hz
 rw [MM] at hf
 subst hf
 refine ⟨o7',?_⟩
 simp only [dO,bY,aj,ah,aa]
 rw [dm ht]
 simp only [ae,b8]
 exact run
theorem FN {M:aG}{A t n:Nat}{f:Int->Option Nat}{fs:List Int}{o0 o1 o2 o7:Option D} (hk:∀ k∈ks,pL m k) (hl:ks.length<=15) (hA:M[A]?=some (.lst (dH m f))) (ht:M[t]?=some (.lst (fs.map D.int))) (hne:A≠t)
  (hU:Up (mO ks) p (fun q=>0<=q/\q<m) n f) (hfs:∀ q,q∈fs↔((0<=q/\q<(m:Int))/\f q=some n)) :
  ∃ (t':Nat) (fs':List Int) (f':Int->Option Nat) (g:aG) (o7':Option D),fK [o0,o1,o2,some (.tup (ks.map ao)),some (.obj A),some (.int n),some (.obj t),o7] M=.next [o0,o1,o2,some (.tup (ks.map ao)),some (.obj A),some (.int ((n+1:Nat):Int)),some (.obj t'),o7'] ((M++g).set A (.lst (dH m f'))) /\
   (M++g)[t']?=some (.lst (fs'.map D.int))/\A≠t'/\Up (mO ks) p (fun q=>0<=q/\q<m) (n+1) f'/\∀ q,q∈fs'↔((0<=q/\q<(m:Int))/\f' q=some (n+1)):=by
 obtain ⟨s,g,ns,e1,e2,e3,e4,e5⟩:=wM hk hl ht
 have hA':=aC (g:=g) hA
 have hAl:A<M.length:=(Mg.mp hA).1
 have hnsD:∀ q∈ns,0<=q/\q<(m:Int):=fun q hq=>by
  obtain ⟨r,_,ha⟩:=(e5 q).mp hq
  exact (iy hk ha).2
 have c:=fk (src:=.own s (ns.map D.int)) (g:=ai 0) (t:=jY) (e:=mW) (μ1:=M++g) (q:=fun d=>match d with | .int q=>decide (f q=none) | _=>false) (h:=fun d=>d)
  (fun ρ=>∃ o,ρ=[o,some (.obj A)]) (fun a=>aC e2) (xs:=ns.map D.int) (acc:=[]) (ρ:=[none,some (.obj A)]) ⟨_,rfl⟩
  (by rw [Nd,Of];exact L5 (by omega) bA)
  (fun x hx a ρ hJJ => by
   obtain ⟨o,ho⟩:=hJJ
   obtain ⟨q,hq,rfl⟩:=Ol.mp hx
   subst ho
   refine ⟨[some (.int q),some (.obj A)],⟨_,rfl⟩,rfl,?_,fun _=>rfl⟩
   unfold jY
   simp only [bT,az,aj,ah,aR,aa]
   rw [cU (aC hA') (n9 (hnsD q hq).1 (hnsD q hq).2)]
   simp only [aa,lJ,pd,NP,Nl,aQ])
 have hfl:((ns.map D.int).filter fun d=>match d with | .int q=>decide (f q=none) | _=>false).map (fun d=>d)=(ns.filter fun q=>decide (f q=none)).map D.int:=by
  rw [List.map_id',Qs]
  rfl
 rw [NL,hfl] at c
 have hmem:∀ q,q∈(ns.filter fun q=>decide (f q=none))↔(f q=none/\∃ r,mO ks r q/\f r=some n):=fun q=>by
  rw [L1,PF,e5]
  constructor
  ·rintro ⟨⟨r, hr, ha⟩, hn⟩
   exact ⟨hn,r,ha,((hfs r).mp hr).2⟩
  ·rintro ⟨hn, r, ha, hr⟩
   exact ⟨⟨r,(hfs r).mpr ⟨(iy hk ha).1,hr⟩,ha⟩,hn⟩
 have hD':∀ q,q∈(ns.filter fun q=>decide (f q=none))->0<=q/\q<(m:Int):=fun q hq=>hnsD q (L1.mp hq).1
 have hne':A≠(M++g).length:=by rw [Nb];omega
 obtain ⟨o7',er⟩:=FO (m:=m) (n:=n+1) (f:=f) (fs:=ns.filter fun q=>decide (f q=none)) (o0:=o0) (o1:=o1) (o2:=o2) (o3:=some (.tup (ks.map ao))) (o7:=o7) (M:=(M++g)++[O.lst ((ns.filter fun q=>decide (f q=none)).map D.int)]) (aC hA') ar hne' hD'
 refine ⟨(M++g).length,ns.filter fun q=>decide (f q=none),uV (n+1) f (ns.filter fun q=>decide (f q=none)),g++[O.lst ((ns.filter fun q=>decide (f q=none)).map D.int)],o7',?_,by rw [<- NG];exact ar,hne',?_,fun q=>?_⟩
 ·unfold fK
  have s1:BB 5 wA (cC (.int 1)) [o0,o1,o2,some (.tup (ks.map ao)),some (.obj A),some (.int n),some (.obj t),o7] M=.next [o0,o1,o2,some (.tup (ks.map ao)),some (.obj A),some (.int ((n+1:Nat):Int)),some (.obj t),o7] M:=by
   push_cast;rfl
  rw [fZ s1,aM,aV,bP,bY,aD]
  simp only [aq,ay,aj,ah,aa,e1]
  rw [dm e2]
  simp only [aa,b8]
  rw [show eE [none,some 4] [o0,o1,o2,some (.tup (ks.map ao)),some (.obj A),some (.int ((n+1:Nat):Int)),some (.obj t),o7]=[none,some (.obj A)] from rfl,c]
  simp only [ae,bH,Qo,Qp,aF]
  rw [er,<- NG]
 ·refine hU.next (fun a b h => (iy hk h).1) fun q hq j => ?_
  rw [rX]
  by_cases hm:q∈ns.filter fun q=>decide (f q=none)
  ·rw [LU hm]
   have:=(hmem q).mp hm
   constructor
   ·intro e;cases e;exact .inr ⟨this.1,rfl,this.2⟩
   ·rintro (z | ⟨_, z, _⟩)
    ·rw [this.1] at z;cases z
    ·rw [z]
  ·rw [LV hm]
   constructor
   ·exact .inl
   ·rintro (z | ⟨z1, z2, z3⟩)
    ·exact z
    ·exact absurd ((hmem q).mpr ⟨z1,z3⟩) hm
 ·rw [rX]
  constructor
  ·intro hm
   exact ⟨hD' q hm,by rw [LU hm]⟩
  ·rintro ⟨hq, z⟩
   by_cases hm:q∈ns.filter fun q=>decide (f q=none)
   ·exact hm
   ·rw [LV hm] at z
    have:=((hU q hq (n+1)).mp z).1
    omega
end
theorem xB {μ0:aG}{m A:Nat}{p:Int}{ks:List (List Int)}{o0 o1 o2:Option D} (hk:∀ k∈ks,pL m k) (hl:ks.length<=15) (hp:0<=p/\p<(m:Int)) (hA0:μ0.length<=A) :
  ∀ (c n:Nat) (f:Int->Option Nat) (fs:List Int) (M:aG) (t:Nat) (o7:Option D),M[A]?=some (.lst (dH m f))->M[t]?=some (.lst (fs.map D.int))->A≠t->Up (mO ks) p (fun q=>0<=q/\q<m) n f ->
   (∀ q,q∈fs↔((0<=q/\q<(m:Int))/\f q=some n))->(∀ i,i<μ0.length->M[i]?=μ0[i]?)->n<=m->m<n+c ->
   ∃ ρ' M' f',m8 (jz (ag 6)) fK c [o0,o1,o2,some (.tup (ks.map ao)),some (.obj A),some (.int n),some (.obj t),o7] M=.next ρ' M'/\(∃ o5 o6 o7,ρ'=[o0,o1,o2,some (.tup (ks.map ao)),some (.obj A),o5,o6,o7]) /\
    M'[A]?=some (.lst (dH m f'))/\(∀ i,i<μ0.length->M'[i]?=μ0[i]?)/\qi (mO ks) p (fun q=>0<=q/\q<m) f'
 | 0,n,f,fs,M,t,o7,hA,ht,hne,hU,hfs,hpre,h1,h2=>by omega
 | c+1,n,f,fs,M,t,o7,hA,ht,hne,hU,hfs,hpre,h1,h2=>by
  have tr:jz (ag 6) [o0,o1,o2,some (.tup (ks.map ao)),some (.obj A),some (.int n),some (.obj t),o7] M=.ok (!(fs.map D.int).isEmpty) M:=by
   simp only [iP,aj,ah,aa]
   unfold Al
   dsimp only
   rw [ht]
  unfold m8
  rw [tr,ae]
  cases fs with
  | nil=>
   refine ⟨_,M,f,rfl,⟨_,_,_,rfl⟩,hA,hpre,hU.full (fun a b h=>(iy hk h).2) fun q hq hl=>?_⟩
   obtain ⟨_,r,ha,hr⟩:=kc.mp hl
   have:=(hfs r).mpr ⟨(iy hk ha).1,(hU r (iy hk ha).1 n).mpr ⟨MD _,hr⟩⟩
   cases this
  | cons x fs=>
   have hx:=(hfs x).mp Ma
   have hnm:n<m:=Cj (m:=m) hp (fun a b h=>(iy hk h).2) ((hU x hx.1 n).mp hx.2).2
   obtain ⟨t',fs',f',g,o7',e,ht',hne',hU',hfs'⟩:=FN (o0:=o0) (o1:=o1) (o2:=o2) (o7:=o7) hk hl hA ht hne hU hfs
   have hAl:A<(M++g).length:=by rw [Nb];have:=(Mg.mp hA).1;omega
   rw [LU (show (!(List.map D.int (x::fs)).isEmpty)=true from rfl),e,ve]
   exact xB hk hl hp hA0 c (n+1) f' fs' ((M++g).set A (.lst (dH m f'))) t' o7' (fP hAl) (bL ht' hne') hne' hU' hfs' (fun i hi=>by
    rw [Mj (by omega),MY (by have:=(Mg.mp hA).1;omega)];exact hpre i hi) (by omega) (by omega)
theorem zI {μ:aG}{m:Nat}{p:Int}{ks:List (List Int)} (h:bu (.tup [.int m,.tup (ks.map ao)]) m ks) (p0:0<=p) (p1:p<(m:Int)) :
  ∃ A μ' f,eQ [.tup [.int m,.tup (ks.map ao)],.int p] μ=.ok (.obj A) (μ++μ')/\(μ++μ')[A]?=some (.lst (dH m f))/\μ.length<=A/\qi (mO ks) p (fun q=>0<=q/\q<m) f:=by
 have hlen:=lP h
 obtain ⟨_,h0,h1,hpw,hk⟩:=h
 have hm6:m<=6:=by omega
 let M0:aG:=(μ++[.lst [.non]])++[.lst (dH m fun _=>none)]
 have hM0:M0[(μ++[O.lst [.non]]).length]?=some (.lst (dH m fun _=>none)):=ar
 have hlen0:(dH m fun _=>none).length=m:=by unfold dH;rw [Nd,Oe]
 let A:Nat:=(μ++[O.lst [.non]]).length
 have hAl:A<M0.length:=(Mg.mp hM0).1
 let M1:aG:=M0.set A (.lst (dH m (m5 (fun _=>none) p 0)))
 have hM1:M1[A]?=some (.lst (dH m (m5 (fun _=>none) p 0))):=fP hAl
 have hpreM:∀ i,i<μ.length->(M1++[O.lst [.int p]])[i]?=μ[i]?:=fun i hi=>by
  have:i<M1.length:=by simp only [M1,M0,NB,Nb];omega
  rw [MY this]
  simp only [M1]
  rw [Mj (by simp only [A,Nb];omega)]
  simp only [M0]
  rw [NG,MY hi]
 obtain ⟨ρ',M',f',ew,⟨o5,o6,o7,eρ⟩,hA',hpre,hF⟩:=xB (μ0:=μ) (o0:=some (.tup [.int m,.tup (ks.map ao)])) (o1:=some (.int p)) (o2:=some (.int m)) hk hlen ⟨p0,p1⟩ (show μ.length<=A by simp only [A,Nb];omega) 100 0 (m5 (fun _=>none) p 0) [p] (M1++[O.lst [.int p]]) M1.length none
  (aC hM1) ar (by simp only [M1, NB]; omega) (Ag fun q _ => by unfold m5; rfl) (fun q => by
   unfold m5
   rw [N1]
   constructor
   ·rintro rfl;exact ⟨⟨p0,p1⟩,by rw [LU rfl]⟩
   ·rintro ⟨_, z⟩
    by_cases e:q=p
    ·exact e
    ·rw [LV e] at z;cases z) hpreM (by omega) (by omega)
 subst eρ
 obtain ⟨g,hg⟩:∃ g,M'=μ++g:=by
  refine ⟨M'.drop μ.length,?_⟩
  apply Pc
  intro i
  by_cases hi:i<μ.length
  ·rw [MY hi,hpre i hi]
  ·rw [MX (by omega), Oz]
   congr 1;omega
 refine ⟨A,g,f',?_,by rw [<- hg];exact hA',by simp only [A,Nb];omega,hF⟩
 unfold eQ
 rw [cV]
 have l2':[D.int m,D.tup (ks.map ao)].length=2:=rfl
 have s1:bp (ag 0) (fC 2 (bB (ai 2) (bB (ai 3) (fD)))) [some (.tup [.int m,.tup (ks.map ao)]),some (.int p),none,none,none,none,none,none] μ=.next [some (.tup [.int m,.tup (ks.map ao)]),some (.int p),some (.int m),some (.tup (ks.map ao)),none,none,none,none] μ:=by
  simp only [aV,ah,ae,FS,LU l2',Dy,FU,bH,aa,Qo,Qp]
 have s2:bp (au mE (eF (af (cC .non) (av))) (ag 2)) (ai 4) [some (.tup [.int m,.tup (ks.map ao)]),some (.int p),some (.int m),some (.tup (ks.map ao)),none,none,none,none] μ=.next [some (.tup [.int m,.tup (ks.map ao)]),some (.int p),some (.int m),some (.tup (ks.map ao)),some (.obj A),none,none,none] M0:=by
  simp only [aV,az,cO,aq,ay,aR,aa,NQ,Of,LU l1,aj,ah]
  unfold mE
  dsimp only
  rw [ar]
  dsimp only
  have hz:(6:Nat)<=sizeLine:=by decide
  rw [LU (by refine ⟨by omega,by omega,?_⟩;simp only [NQ,Of];omega)]
  simp only [Nj,rS,ae,bH,Qo,Qp,M0,A,ub]
 have s3:bp (cC (.int 0)) (mR (ag 4) (ag 1)) [some (.tup [.int m,.tup (ks.map ao)]),some (.int p),some (.int m),some (.tup (ks.map ao)),some (.obj A),none,none,none] M0=.next [some (.tup [.int m,.tup (ks.map ao)]),some (.int p),some (.int m),some (.tup (ks.map ao)),some (.obj A),none,none,none] M1:=by
  simp only [aV,aR,ae,ml,aj,ah,aa]
  rw [nS hM0 (oT p0 (by rw [hlen0];exact p1)),show (D.int 0)=.int ((0:Nat):Int) from rfl,rK p0 p1]
  rfl
 have s4:bp (cC (.int 0)) (ai 5) [some (.tup [.int m,.tup (ks.map ao)]),some (.int p),some (.int m),some (.tup (ks.map ao)),some (.obj A),none,none,none] M1=.next [some (.tup [.int m,.tup (ks.map ao)]),some (.int p),some (.int m),some (.tup (ks.map ao)),some (.obj A),some (.int ((0:Nat):Int)),none,none] M1:=rfl
 have s5:bp (eF (af (ag 1) (av))) (ai 6) [some (.tup [.int m,.tup (ks.map ao)]),some (.int p),some (.int m),some (.tup (ks.map ao)),some (.obj A),some (.int ((0:Nat):Int)),none,none] M1=.next [some (.tup [.int m,.tup (ks.map ao)]),some (.int p),some (.int m),some (.tup (ks.map ao)),some (.obj A),some (.int ((0:Nat):Int)),some (.obj M1.length),none] (M1++[O.lst [.int p]]):=by
  simp only [aV,cO,aq,ay,aj,ah,aa,NQ,Of,LU l1,ae,bH,Qo,Qp]
 unfold p7
 simp only [List.replicate]
 rw [fZ s1,fZ s2,fZ s3,fZ s4,fZ s5,fZ (show uY 100 (jz (ag 6)) fK _ _=_ from ew)]
 simp only [aT,aj,ah,ae,aI]
 rw [qW (by simp only [Fy,A,Nb];omega),hg]
end Lw
namespace Lv
theorem sg {ks:List (List Int)}:∀ {w:List Int},fy ks w=true↔∀ i,i+1<w.length->fU ks (w.getD i 0) (w.getD (i+1) 0)=true
 | []=>by simp [fy]
 | [a]=>by simp [fy]
 | a::b::r=>by
  have ih:=sg (ks:=ks) (w:=b::r)
  rw [show fy ks (a::b::r)=(fU ks a b && fy ks (b::r)) from rfl,Nw,ih]
  constructor
  ·rintro ⟨h1, h2⟩ i hi
   cases i with
   | zero=>exact h1
   | succ i=>exact h2 i (by simpa using hi)
  ·intro h
   exact ⟨h 0 (by simp),fun i hi=>h (i+1) (by simpa using hi)⟩
theorem Ab {ks:List (List Int)}{w:List Int} (h:w≠[]):((List.range w.length).all fun i=>fU ks (if i=0 then cn w else w.getD (i - 1) 0) (w.getD i 0))=(jW ks w && fy ks w):=by
 apply Qg.mpr
 rw [OK,Nw,sg]
 have h0:w.getD 0 0=qv w:=by cases w <;> rfl
 have pos:0<w.length:=PQ.mpr h
 have cm:fU ks (cn w) (qv w)=jW ks w:=by unfold jW fU;rw [Int.min_comm,Int.max_comm]
 constructor
 ·intro z
  refine ⟨?_,fun i hi=>?_⟩
  ·have := z 0 (L4.mpr pos)
   rw [LU rfl,h0,cm] at this
   exact this
  ·have := z (i + 1) (L4.mpr hi)
   rw [LV (by omega)] at this
   exact this
 ·rintro ⟨z1, z2⟩ i hi
  cases i with
  | zero=>rw [LU rfl,h0,cm];exact z1
  | succ i=>rw [LV (by omega)];exact z2 i (L4.mp hi)
def ly (m:Nat) (ks:List (List Int)) (w:List Int):Bool:=decide (3<=w.length) && (w.all (fun p=>decide (0<=p/\p<(m:Int))) && (decide w.Nodup && (jW ks w && fy ks w)))
theorem xr {m:Nat}{ks:List (List Int)}{w:List Int} (h:3<=w.length):(decide (w.length<=m) && decide (w∈fx m ks w.length))=ly m ks w:=by
 apply Qg.mpr
 unfold ly fx
 simp only [Nw,PF,L1,u4,OK,h,true_and]
 constructor
 ·rintro ⟨_, ⟨hw, hl⟩, hc⟩
  exact ⟨hw.rng,hw.nd,hc,hl⟩
 ·rintro ⟨hr, hn, hc, hl⟩
  refine ⟨?_,⟨⟨by omega,hn,hr⟩,hl⟩,hc⟩
  have:=hn.length_le_of_subset (show w ⊆ rg m from fun p hp=>cT.mpr (hr p hp))
  rw [iN] at this
  exact this
end Lv
namespace Lw
open PySem L2 RS Lv
theorem A5 {w:List Int}:iF 0 (w.map D.int)=(List.range w.length).map fun i=>.tup [.int (i:Nat),.int (w.getD i 0)]:=by
 have gen:∀ (w:List Int) (k:Nat),iF k (w.map D.int)=(List.range w.length).map fun i=>.tup [.int ((k+i:Nat):Int),.int (w.getD i 0)]:=by
  intro w
  induction w with
  | nil=>intro k;rfl
  | cons a r ih=>
   intro k
   rw [Nz,NQ,Ob,Nz,Oc]
   show D.tup [.int (k:Nat),.int a]::iF (k+1) (r.map D.int)=_
   rw [ih (k+1)]
   congr 1
   apply Od
   intro i _
   show D.tup [.int _,.int _]=D.tup [.int _,.int _]
   congr 3
   simp only [Nat.succ_eq_add_one]
   omega
 have:=gen w 0
 simp only [OG] at this
 exact this
theorem nk:∀ (l acc:List Int),acc.Nodup->(l.foldl (fun acc k=>if k∈acc then acc else acc++[k]) acc).length<=acc.length+l.length/\((l.foldl (fun acc k=>if k∈acc then acc else acc++[k]) acc).length=acc.length+l.length->(acc++l).Nodup)
 | [],acc,h=>⟨MD _,fun _=>by simpa using h⟩
 | y::l,acc,h=>by
  rw [NH]
  by_cases c:y∈acc
  ·rw [LU c]
   have ih:=(nk l acc h).1
   exact ⟨by rw [NQ];omega,fun e=>by rw [NQ] at e;omega⟩
  ·rw [LV c]
   have ih:=nk l (acc++[y]) (by rw [OR];exact ⟨h,by simp,fun a ha b hb=>by simp at hb;subst hb;exact fun e=>c (e ▸ ha)⟩)
   rw [Nb,NQ,Of] at ih
   refine ⟨by rw [NQ];omega,fun e=>?_⟩
   rw [NQ] at e
   have:=ih.2 (by omega)
   rw [NG] at this
   exact this
theorem uD {ns:List Int}:decide ((cP ns).length=ns.length)=decide ns.Nodup:=by
 have d:=kL ns [] OE
 have mem:∀ x,x∈cP ns↔x∈ns:=fun x=>by rw [show cP ns=ns.foldl (fun acc k=>if k∈acc then acc else acc++[k]) [] from rfl,d.2 x];simp
 have nd:(cP ns).Nodup:=d.1
 apply O9.mpr
 constructor
 ·intro e
  have:=(nk ns [] OE).2 (by rw [Of,OG];exact e)
  simpa using this
 ·intro h
  exact ((OI nd h).mpr mem).length_eq
end Lw
namespace Lw
open PySem L2 RS Lv
theorem vh:∀ xs:List D,(∃ ns:List Int,xs=ns.map D.int)\/xs.all Ak=false
 | []=>.inl ⟨[],rfl⟩
 | x::xs=>by
  cases x with
  | int i=>
   rcases vh xs with ⟨ns,e⟩ | h
   ·exact .inl ⟨i::ns,by rw [e];rfl⟩
   ·exact .inr (by rw [PJ,h];rfl)
  | _=>exact .inr (by rw [PJ];rfl)
theorem zX {m:Nat}:∀ {xs:List D},xs.all Ak=false->xs.all (j7 m)=false
 | [],h=>by cases h
 | x::xs,h=>by
  rw [PJ] at h ⊢
  cases x with
  | int i=>rw [zX (by simpa [Ak] using h),OV]
  | _=>rfl
theorem xt {m:Nat}{ns:List Int}:(ns.map D.int).all (j7 m)=ns.all fun p=>decide (0<=p/\p<(m:Int)):=by
 rw [PL];rfl
structure zB (μ:aG) (d:D):Prop where
 ok:qL μ d
 el:∀ xs,d=.tup xs->(∀ x∈xs,qL μ x)/\xs.length<=1000
theorem vm {μ:aG}{m:Nat}{d:D}{x:D} (h:cw [.int m,d] μ=.ok (.bl false) μ):dF [.tup [.int m,x],d] μ=.ok (.bl false) μ:=by
 unfold dF
 rw [cV]
 simp only [lY,List.replicate,aM,bC,kB,jK,iP,aD,aq,ay,az,ah,aj,aR,aa,bG,h,eY,OU,Nn,ae,aT,cB,aI]
 exact bg (by simp)
theorem Kl {w:List Int}{i:Nat} (hi:i<w.length):atI (w.map D.int) ((i:Int) - 1)=some (.int (if i=0 then cn w else w.getD (i - 1) 0)):=by
 cases i with
 | zero=>
  have hn:w≠[]:=fun e=>by rw [e] at hi;simp at hi
  obtain ⟨v,p,rfl⟩:∃ v p,w=v++[p]:=⟨w.dropLast,w.getLast hn,(Qe hn).symm⟩
  rw [LU rfl,nj]
  unfold atI yo
  simp only [Ou,Nz,Ny,Nb,Nd,NQ,Of]
  rw [LV (by omega),LU (by omega)]
  rw [show (((0:Nat):Int) - 1+((v.length+(0+1):Nat):Int)).toNat=(v.map D.int).length from by rw [Nd];omega]
  show (v.map D.int++[D.int p])[(v.map D.int).length]?=_
  rw [MX (MD _),OF]
  rfl
 | succ i=>
  rw [LV (by omega)]
  refine kE (by omega) ?_
  rw [show (((i+1:Nat):Int) - 1).toNat=i from by omega,MZ,Pp (by omega)]
  simp only [Option.map_some,Pq]
  rw [Pb,Pp (by omega)]
  rfl
theorem CI {μ:aG}{m:Nat}{ks:List (List Int)}{w:List Int} (h:bu (.tup [.int m,.tup (ks.map ao)]) m ks) (hl:w.length<=1000):dF [.tup [.int m,.tup (ks.map ao)],aU w] μ=.ok (.bl (ly m ks w)) μ:=by
 have hk:=h.2.2.2.2
 have hm6:m<=6:=by have:=h.2.2.1;omega
 have pl:cw [.int m,aU w] μ=.ok (.bl (w.all fun p=>decide (0<=p/\p<(m:Int)))) μ:=by
  rw [show aU w=.tup (w.map D.int) from rfl,nh (fun x hx=>by obtain ⟨i,_,rfl⟩:=Ol.mp hx;exact nofun) (by rw [Nd];exact hl),xt]
 cases ha:w.all fun p=>decide (0<=p/\p<(m:Int)) with
 | false=>
  rw [ha] at pl
  rw [vm pl]
  unfold ly
  rw [ha,My,OV]
 | true=>
  rw [ha] at pl
  have rng:∀ p∈w,0<=p/\p<(m:Int):=fun p hp=>QA (OK.mp ha p hp)
  unfold dF
  rw [cV]
  simp only [lY,List.replicate,aM,bC,kB,jK,iP,aD,aq,ay,az,ah,aj,aR,aa,bG,pl,eY,OM,NP,Nl,bT,eZ,Nd,dr,aQ]
  by_cases c3:3<=w.length
  ·rw [show cW .Lt (w.length : Int) 3 = false from LR (by omega)]
   have hne:w≠[]:=fun e=>by rw [e] at c3;simp at c3
   have st:ky [aU w] μ=.ok (.obj μ.length) (μ++[O.iset (cP w)]):=by
    unfold ky
    dsimp only
    unfold nH
    rw [show lA (w.map D.int)=none from by cases w with
     | nil=>exact absurd rfl hne
     | cons a r=>rfl,vk (fun n hn=>by have:=rng n hn;omega)]
   simp only [NP,Nl,st,aa]
   rw [z8 ar]
   simp only [aa,cv,Nn,aQ,ae]
   rw [show (((cP w).length:Int) == (w.length:Int))=decide w.Nodup from by
    rw [<- uD]
    apply Qg.mpr
    rw [Qh,PF]
    omega]
   by_cases nd:w.Nodup
   ·rw [NM nd]
    have c:=dA (U:=Nat) (en:=fun i=>.tup [.int (i:Nat),.int (w.getD i 0)]) (src:=.fix (iF 0 (w.map D.int))) (g:=fC 2 (bB (ai 0) (bB (ai 1) fD))) (t:=bI) (e:=jZ) (μ1:=μ++[O.iset (cP w)]) (q:=fun _=>true) (h:=fun i=>.bl (fU ks (if i=0 then cn w else w.getD (i - 1) 0) (w.getD i 0)))
     (fun ρ=>∃ a b,ρ=[a,b,some (.tup [.int m,.tup (ks.map ao)]),some (aU w)]) (fun _=>trivial) (us:=List.range w.length) (acc:=[]) (ρ:=[none,none,some (.tup [.int m,.tup (ks.map ao)]),some (aU w)]) ⟨_,_,rfl⟩
     (by rw [Of,Oe];exact L5 (by omega) bA)
     (fun i hi a ρ hJJ => by
      obtain ⟨x,y,e⟩:=hJJ
      subst e
      refine ⟨[some (.int (i:Nat)),some (.int (w.getD i 0)),some (.tup [.int m,.tup (ks.map ao)]),some (aU w)],⟨_,_,rfl⟩,rfl,rfl,fun _=>?_⟩
      unfold jZ
      simp only [aD,aq,ay,az,aj,ah,aR,aa]
      rw [show gC (.int (i:Nat)) (.int 1) _=.ok (.int ((i:Int) - 1)) _ from rfl]
      simp only [aa]
      rw [lI (Kl (L4.mp hi))]
      simp only [aa,Ei hk])
    rw [gF,NL,<- A5] at c
    simp only [OM,NP,Nl,bD,aF,aT,aD,aq,ay,bP,bW,aj,ah,aa]
    rw [show pQ [aU w] (μ++[O.iset (cP w)])=.ok (.fix (iF 0 (w.map D.int))) (μ++[O.iset (cP w)]) from rfl]
    simp only [aa,aW]
    rw [show eE [none,none,some 0,some 1] _=[none,none,some (.tup [.int m,.tup (ks.map ao)]),some (aU w)] from rfl,c]
    simp only [aa]
    rw [qG (bs:=(List.range w.length).map fun i=>fU ks (if i=0 then cn w else w.getD (i - 1) 0) (w.getD i 0)) (by rw [ar,Oc];rfl)]
    simp only [ae,aI]
    rw [show ((List.range w.length).map fun i=>fU ks (if i=0 then cn w else w.getD (i - 1) 0) (w.getD i 0)).all id=(jW ks w && fy ks w) from by rw [PL,<- Ab hne];rfl]
    unfold ly
    rw [NM c3,ha,NM nd,Qw,Qw,Qw,NG]
    exact fW (by simp)
   ·rw [LR nd]
    simp only [OU,Nn,aT,aR,ae,cB,aI]
    unfold ly
    rw [LR nd,My,OV,OV]
    exact fW (by simp)
  ·rw [show cW .Lt (w.length : Int) 3 = true from NM (by omega)]
   simp only [Nn,ae,aT,aR,cB,aI]
   unfold ly
   rw [LR c3,My]
   exact bg (by simp)
def tU (ks:List (List Int)) (p q:Int):Prop:=∃ n,R (mO ks) p n q
theorem FX {m:Int}{ks:List (List Int)} (hk:∀ k∈ks,pL m k) {a b:Int} (h:mO ks a b):mO ks b a:=(mn hk).mpr ((mn hk).mp h).symm
theorem tU.refl {ks:List (List Int)}{p:Int}:tU ks p p:=⟨0,rfl⟩
theorem vb {ks:List (List Int)}{p a:Int} (ha:mO ks a p):∀ {n:Nat}{q:Int},R (mO ks) p n q->R (mO ks) a (n+1) q
 | 0,q,h=>by
  have:q=p:=h
  subst this
  exact .inr ⟨a,ha,rfl⟩
 | n+1,q,h=>by
  rcases h with h | ⟨r,h1,h2⟩
  ·exact .inl (vb ha h)
  ·exact .inr ⟨r,h1,vb ha h2⟩
theorem BP {m:Int}{ks:List (List Int)} (hk:∀ k∈ks,pL m k) {p:Int}:∀ {n:Nat}{q:Int},R (mO ks) p n q->R (mO ks) q n p
 | 0,q,h=>by
  have:q=p:=h
  exact this.symm
 | n+1,q,h=>by
  rcases h with h | ⟨r,h1,h2⟩
  ·exact .inl (BP hk h)
  ·exact vb (FX hk h1) (BP hk h2)
theorem va {ks:List (List Int)}{p q:Int}{n:Nat} (h:R (mO ks) p n q):∀ {k:Nat}{r:Int},R (mO ks) q k r->R (mO ks) p (n+k) r
 | 0,r,g=>by
  have:r=q:=g
  subst this;exact h
 | k+1,r,g=>by
  rcases g with g | ⟨s,g1,g2⟩
  ·exact .inl (va h g)
  ·exact .inr ⟨s,g1,va h g2⟩
theorem vB {m:Int}{ks:List (List Int)} (hk:∀ k∈ks,pL m k) {p q:Int} (h:tU ks p q):tU ks q p:=let ⟨n,h⟩:=h;⟨n,BP hk h⟩
theorem tU.trans {ks:List (List Int)}{p q r:Int} (h:tU ks p q) (k:tU ks q r):tU ks p r:=let ⟨n,h⟩:=h;let ⟨j,k⟩:=k;⟨n+j,va h k⟩
open Classical in
noncomputable def rB (ks:List (List Int)) (p q:Int):Bool:=decide (tU ks p q)
theorem jV {ks:List (List Int)}{p q:Int}:rB ks p q=true↔tU ks p q:=by unfold rB;exact @decide_eq_true_iff _ (Classical.propDecidable _)
theorem mC {m:Nat}{ks:List (List Int)}{p q:Int}{f:Int->Option Nat} (h:qi (mO ks) p (fun q=>0<=q/\q<(m:Int)) f) (hq:0<=q/\q<(m:Int)):(f q).isNone=!rB ks p q:=by
 cases e:f q with
 | none=>
  have:¬ tU ks p q:=fun ⟨n,hn⟩=>by
   obtain ⟨j,_,hj⟩:=hn.lev
   have:=(h q hq j).mpr hj
   rw [e] at this;cases this
  have hb:rB ks p q=false:=by
   cases z:rB ks p q with
   | false=>rfl
   | true=>exact absurd (jV.mp z) this
  rw [hb];rfl
 | some j=>
  have:tU ks p q:=⟨j,((h q hq j).mp e).r⟩
  rw [jV.mpr this];rfl
theorem rN {o:Option Nat}:(lh o).isNon=o.isNone:=by cases o <;> rfl
theorem Dj {o:Option Nat}{n:Nat}:(lh o).low n:=by cases o <;> simp [lh]
theorem CJ {μ:aG}{m:Nat}{ks:List (List Int)}{a b:Int} (h:bu (.tup [.int m,.tup (ks.map ao)]) m ks) (ha:0<=a/\a<(m:Int)) (hb:0<=b/\b<(m:Int)):∃ o,lS [.tup [.int m,.tup (ks.map ao)],.int a,.int b] μ=.ok (lh o) μ/\o.isNone=!rB ks a b:=by
 obtain ⟨A,g,f,e1,e2,e3,e4⟩:=zI (μ:=μ) h ha.1 ha.2
 refine ⟨f b,?_,mC e4 hb⟩
 unfold lS
 rw [rp]
 simp only [xN,List.replicate,aM,nU,aD,aq,ay,ah,aj,aa,rG ha,rG hb,ae,aF,aT,az,e1]
 rw [cU e2 (n9 hb.1 hb.2)]
 simp only [ae,aI]
 exact fW Dj
noncomputable def DO (m:Nat) (ks:List (List Int)):D->D->Bool
 | .int a,.int b=>j7 m (.int a) && (j7 m (.int b) && !rB ks a b)
 | _,_=>false
theorem CM {μ:aG}{m:Nat}{ks:List (List Int)}{x y:D} (h:bu (.tup [.int m,.tup (ks.map ao)]) m ks) (hx:qL μ x) (hy:qL μ y) :
  js [.tup [.int m,.tup (ks.map ao)],.tup [x,y]] μ=.ok (.bl (DO m ks x y)) μ:=by
 have pl:=nh (μ:=μ) (m:=m) (xs:=[x,y]) (fun z hz=>by simp at hz;rcases hz with rfl|rfl <;> assumption) (by simp)
 unfold js
 rw [cV]
 simp only [sG,List.replicate,aT,ff,aD,aq,ay,az,ah,aj,aR,aa,bG,pl,aQ,PJ,List.all_nil,Qf]
 cases hc:(j7 m x && j7 m y) with
 | false=>
  simp only [NP,Nl,ae,aI]
  have:DO m ks x y=false:=by
   unfold DO
   split
   ·rw [<- Bool.and_assoc,hc];rfl
   ·rfl
  rw [this]
  exact bg (by simp)
 | true=>
  rw [Nw] at hc
  cases x with
  | int a=>
   cases y with
   | int b=>
    have ha:0<=a/\a<(m:Int):=QA hc.1
    have hb:0<=b/\b<(m:Int):=QA hc.2
    obtain ⟨o,e1,e2⟩:=CJ (μ:=μ) h ha hb
    simp only [Nn,dQ,aa,e1,lJ,NP,Nl,rN,e2,ae,aI]
    rw [show DO m ks (.int a) (.int b)=(j7 m (.int a) && (j7 m (.int b) && !rB ks a b)) from rfl,hc.1,hc.2,Qw,Qw]
    exact bg (by simp)
   | _=>cases hc.2
  | _=>cases hc.1
def qZ (ks:List (List Int)) (w:List Int):List (List Int):=ks.filter fun k=>match k with | [a,b]=>decide (a∈w) && decide (b∈w) | _=>false
theorem t8 {μ:aG}{m:Nat}{ks:List (List Int)}{w:List Int} (h:bu (.tup [.int m,.tup (ks.map ao)]) m ks):gu [.tup [.int m,.tup (ks.map ao)],aU w] μ=.ok (.bl (decide ((qZ ks w).length=w.length))) μ:=by
 have hl:=lP h
 have hk:=h.2.2.2.2
 have c:=dA (U:=List Int) (en:=ao) (src:=.fix (ks.map ao)) (g:=ai 0) (t:=lW) (e:=lX) (μ1:=μ) (q:=fun k=>match k with | [a,b]=>decide (a∈w) && decide (b∈w) | _=>false) (h:=ao)
  (fun ρ=>∃ o,ρ=[o,some (aU w)]) (fun _=>trivial) (us:=ks) (acc:=[]) (ρ:=[none,some (aU w)]) ⟨_,rfl⟩
  (by rw [Of];exact L5 (by omega) bA)
  (fun k hk' a ρ hJJ => by
   obtain ⟨o,e⟩:=hJJ
   subst e
   obtain ⟨u,v,rfl,_⟩:=hk k hk'
   refine ⟨[some (ao [u,v]),some (aU w)],⟨_,rfl⟩,rfl,?_,fun _=>by unfold lX;rw [ah]⟩
   unfold lW
   simp only [fQ,bT,az,aj,ah,aR,aa,ao,Nz,Ny,bG,dQ,zu,NP,Nl,aQ]
   cases decide (u∈w) <;> rfl)
 rw [NL] at c
 unfold gu
 rw [cV]
 simp only [uP,List.replicate,aT,az,aD,aq,ay,bP,bY,ah,aj,aR,aa,dQ,jJ,aW]
 rw [show eE [none,some 1] _=[none,some (aU w)] from rfl,c]
 simp only [aa]
 rw [vt ar]
 simp only [aa,eZ,Nd,cv,NP,Nl,ae,aI]
 rw [show ((((ks.filter fun k=>match k with | [a,b]=>decide (a∈w) && decide (b∈w) | _=>false).length:Nat):Int) == ((w.length:Nat):Int))=decide ((qZ ks w).length=w.length) from by
  apply Qg.mpr
  rw [Qh,PF]
  unfold qZ
  omega]
 exact fW (by simp)
theorem vq {U:Type}{en:U->D}{src:nA}{g:MG}{fb:MS}{M:aG}{v:D}{P:U->Bool} (R:Ro->Prop) (hs:cY src M):∀ (us:List U) {ρ:Ro},R ρ ->
  (∀ x∈us,∀ ρ,R ρ->∃ ρ1,g (en x) ρ M=.ok ρ1 M/\(P x=true->∃ ρ2,R ρ2/\fb ρ1 M=.next ρ2 M)/\(P x=false->fb ρ1 M=.ret v M)) ->
  (us.all P=true->∃ ρ',R ρ'/\d9 src g fb (us.map en) ρ M=.next ρ' M)/\(us.all P=false->d9 src g fb (us.map en) ρ M=.ret v M)
 | [],ρ,hr,_=>⟨fun _=>⟨ρ,hr,by rw [Ny];unfold d9;rw [LU hs]⟩,nofun⟩
 | x::us,ρ,hr,he=>by
  obtain ⟨ρ1,e1,e2,e3⟩:=he x Ma ρ hr
  rw [Nz,PJ]
  cases hp:P x with
  | false=>
   refine ⟨fun z=>(by rw [My] at z;cases z),fun _=>?_⟩
   unfold d9
   rw [LU hs,e1]
   simp only [ae]
   rw [e3 hp]
   rfl
  | true=>
   obtain ⟨ρ2,r2,e4⟩:=e2 hp
   have ih:=vq (P:=P) (v:=v) R hs us r2 fun y hy=>he y (Mb _ hy)
   rw [Qw]
   have st:d9 src g fb (en x::us.map en) ρ M=d9 src g fb (us.map en) ρ2 M:=by
    conv=>lhs;unfold d9
    rw [LU hs,e1]
    simp only [ae]
    rw [e4]
    rfl
   rw [st]
   exact ih
theorem Ji {n:Nat}{μ:aG} (h:n<1000):eX [.int (n:Nat)] μ=.ok (.fix ((List.range n).map fun i=>D.int (i:Nat))) μ:=by
 rw [dq (by omega) (by omega)]
 unfold bJ
 simp
theorem Jw {w:List Int}{i:Nat}{μ:aG} (h:i<w.length):bQ (aU w) (.int (i:Nat)) μ=.ok (.int (w.getD i 0)) μ:=by
 refine lI (kE (by omega) ?_)
 rw [Nj,MZ,Pp h]
 simp only [Option.map_some]
 rw [Pb,Pp h]
 rfl
def iG (ks:List (List Int)) (w:List Int):Bool:=nR ks w && decide (3<w.length)
theorem wQ {μ:aG}{m:Nat}{ks:List (List Int)}{w:List Int} (hk:∀ k∈ks,pL m k) (hl:w.length<1000):df [.tup [.int m,.tup (ks.map ao)],aU w] μ=.ok (.bl (iG ks w)) μ:=by
 let W:D:=.tup [.int m,.tup (ks.map ao)]
 let inner:Nat->Nat->Bool:=fun i k=>fU ks (w.getD i 0) (w.getD k 0) == (decide (i - k=1) || decide (i - k=w.length - 1))
 have body:∀ (i:Nat),i<w.length->∀ (o4 o5:Option D),((List.range i).all (inner i)=true->∃ o4' o5',d8 [some W,some (aU w),some (.int w.length),some (.int (i:Nat)),o4,o5] μ=.next [some W,some (aU w),some (.int w.length),some (.int (i:Nat)),o4',o5'] μ)/\((List.range i).all (inner i)=false->d8 [some W,some (aU w),some (.int w.length),some (.int (i:Nat)),o4,o5] μ=.ret (.bl false) μ):=by
  intro i hi o4 o5
  have fa:=vq (U:=Nat) (en:=fun k=>.int (k:Nat)) (src:=.fix ((List.range i).map fun k=>D.int (k:Nat))) (g:=ai 4) (fb:=fM) (M:=μ) (v:=.bl false) (P:=inner i)
   (fun ρ=>∃ o4 o5,ρ=[some W,some (aU w),some (.int w.length),some (.int (i:Nat)),o4,o5]) trivial (List.range i) (ρ:=[some W,some (aU w),some (.int w.length),some (.int (i:Nat)),o4,o5]) ⟨_,_,rfl⟩
   (fun k hk' ρ hJJ => by
    obtain ⟨o4,o5,e⟩:=hJJ
    subst e
    have hki:=L4.mp hk'
    have run:fM [some W,some (aU w),some (.int w.length),some (.int (i:Nat)),some (.int (k:Nat)),o5] μ=if inner i k=true then .next [some W,some (aU w),some (.int w.length),some (.int (i:Nat)),some (.int (k:Nat)),some (.bl (fU ks (w.getD i 0) (w.getD k 0)))] μ else .ret (.bl false) μ:=by
     unfold fM
     simp only [W,aM,aV,az,bO,aq,ay,aD,aj,ah,aR,aa,Jw hi,Jw (show k<w.length by omega),BX,BY,NQ,Of,LU l2,dQ]
     rw [rR hk]
     simp only [ae,bH,Qo,Qp,aF,bC,bT,az,aj,ah,IR,aR,aa]
     have s1:∀ μ,gC (.int (i:Nat)) (.int (k:Nat)) μ=.ok (.int ((i:Int) - (k:Int))) μ:=fun _=>rfl
     have s2:∀ μ,gC (.int (w.length:Nat)) (.int 1) μ=.ok (.int ((w.length:Int) - 1)) μ:=fun _=>rfl
     simp only [s1,s2,aa,cv,NP,Nl,aQ]
     have c1:(((i:Int) - (k:Int)) == 1)=decide (i - k=1):=by
      apply Qg.mpr;rw [Qh,PF];omega
     have c2:(((i:Int) - (k:Int)) == ((w.length:Int) - 1))=decide (i - k=w.length - 1):=by
      apply Qg.mpr;rw [Qh,PF];omega
     rw [c1,c2]
     have te:decide ([min (w.getD i 0) (w.getD k 0),max (w.getD i 0) (w.getD k 0)]∈ks)=fU ks (w.getD i 0) (w.getD k 0):=rfl
     rw [te]
     have ie:inner i k=(fU ks (w.getD i 0) (w.getD k 0) == (decide (i - k=1) || decide (i - k=w.length - 1))):=rfl
     rw [ie]
     cases decide (i - k=1) <;> cases decide (i - k=w.length - 1) <;> cases fU ks (w.getD i 0) (w.getD k 0) <;> simp only [NP,Nl,Nn,aa,u3,aQ,ae,bD,aT,aR,Bool.or_true,Bool.true_or,Bool.or_false,Bool.or_self,NO,OM,OU] <;> rfl
    refine ⟨[some W,some (aU w),some (.int w.length),some (.int (i:Nat)),some (.int (k:Nat)),o5],rfl,fun hp=>⟨[some W,some (aU w),some (.int w.length),some (.int (i:Nat)),some (.int (k:Nat)),some (.bl (fU ks (w.getD i 0) (w.getD k 0)))],⟨_,_,rfl⟩,?_⟩,fun hp=>?_⟩
    ·rw [run,LU hp]
    ·rw [run,hp,LV Mu])
  have ex:d8 [some W,some (aU w),some (.int w.length),some (.int (i:Nat)),o4,o5] μ=d9 (.fix ((List.range i).map fun k=>D.int (k:Nat))) (ai 4) fM ((List.range i).map fun k=>D.int (k:Nat)) [some W,some (aU w),some (.int w.length),some (.int (i:Nat)),o4,o5] μ:=by
   unfold d8
   simp only [dO,bW,aq,ay,aj,ah,aa,Ji (show i<1000 by omega),ae,aW]
  rw [ex]
  refine ⟨fun h=>?_,fa.2⟩
  obtain ⟨ρ',⟨o4',o5',e⟩,r⟩:=fa.1 h
  subst e
  exact ⟨o4',o5',r⟩
 have fb:=vq (U:=Nat) (en:=fun k=>.int (k:Nat)) (src:=.fix ((List.range w.length).map fun k=>D.int (k:Nat))) (g:=ai 3) (fb:=d8) (M:=μ) (v:=.bl false) (P:=fun i=>(List.range i).all (inner i))
  (fun ρ=>∃ o3 o4 o5,ρ=[some W,some (aU w),some (.int w.length),o3,o4,o5]) trivial (List.range w.length) (ρ:=[some W,some (aU w),some (.int w.length),none,none,none]) ⟨_,_,_,rfl⟩
  (fun i hi ρ hJJ => by
   obtain ⟨o3,o4,o5,e⟩:=hJJ
   subst e
   have hb:=body i (L4.mp hi) o4 o5
   refine ⟨[some W,some (aU w),some (.int w.length),some (.int (i:Nat)),o4,o5],rfl,fun hp=>?_,hb.2⟩
   obtain ⟨o4',o5',r⟩:=hb.1 hp
   exact ⟨_,⟨_,_,_,rfl⟩,r⟩)
 have pe:nR ks w=(List.range w.length).all fun i=>(List.range i).all (inner i):=rfl
 unfold df
 rw [cV]
 simp only [qd,List.replicate,aM,aV,aD,aq,ay,aj,ah,aa,eZ,Nd,ae,bH,Qo,Qp,aF,dO,bW,Ji hl,aW]
 unfold iG
 rw [pe]
 cases hc:(List.range w.length).all fun i=>(List.range i).all (inner i) with
 | true=>
  obtain ⟨ρ',⟨o3,o4,o5,e⟩,r⟩:=fb.1 hc
  subst e
  rw [r]
  simp only [aF,aT,az,aj,ah,aR,aa,dr,ae,aI]
  rw [show cW .Gt (w.length:Int) 3=decide (3<w.length) from by
   show decide ((w.length:Int) > 3)=_
   apply O9.mpr;omega,Qw]
  exact bg (by simp)
 | false=>
  rw [fb.2 hc]
  simp only [cB,aI,My]
  exact bg (by simp)
theorem FJ {m:Int}{d:D}{ks:List (List Int)} (h:bu d m ks):ks.Nodup:=h.2.2.2.1.imp fun h e=>by subst e;omega
theorem vx {m:Nat}{ks:List (List Int)}{w:List Int} (h:bu (.tup [.int m,.tup (ks.map ao)]) m ks):(ly m ks w && (decide (4<=w.length) && decide ((qZ ks w).length=w.length)))=(w.all (fun p=>decide (0<=p/\p<(m:Int))) && (decide w.Nodup && iG ks w)):=by
 have hk:∀ k∈ks,∃ a b:Int,k=[a,b]/\a<b:=fun k hk'=>by
  obtain ⟨a,b,e,_,h2,_⟩:=h.2.2.2.2 k hk'
  exact ⟨a,b,e,h2⟩
 unfold ly iG
 by_cases h4:4<=w.length
 ·by_cases nd : w.Nodup
  ·have hne : w ≠ [] := fun e => by rw [e] at h4; simp at h4
   have:=DK hk (FJ h) nd h4
   have cy:(jW ks w && fy ks w)=true↔∀ i,i<w.length->j9 w i∈ks:=by
    rw [<- Ab hne,OK]
    constructor
    ·intro z i hi
     exact jk.mp (z i (L4.mpr hi))
    ·intro z i hi
     exact jk.mpr (z i (L4.mp hi))
   rw [NM (show 3<=w.length by omega),NM nd,NM h4,NM (show 3<w.length by omega)]
   apply Qg.mpr
   simp only [Nw,Qw,Qf,PF]
   rw [<- this,<- cy,Nw]
   show (_/\_)/\(jH ks w).length=_↔_
   constructor
   ·rintro ⟨⟨a,b⟩,c⟩;exact ⟨a,b,c⟩
   ·rintro ⟨a,b,c⟩;exact ⟨⟨a,b⟩,c⟩
  ·rw [LR nd];simp
 ·rw [LR h4,LR (show ¬ 3<w.length by omega)];simp
def Hd (x:D):Prop:=(∃ s,x=.str s/\dJ (.str s)=true)\/(∃ i,x=.int i)\/x=.non
def nz (w:Str):D->Bool
 | .str s=>decide (s=w)
 | _=>false
theorem nV {μ:aG}{x:D}{w:Str} (h:Hd x) (hw:dJ (.str w)=true):fv false x (.str w) μ=.ok (.bl (nz w x)) μ/\fv true x (.str w) μ=.ok (.bl (!nz w x)) μ:=by
 rcases h with ⟨s,rfl,hs⟩ | ⟨i,rfl⟩ | rfl
 ·have fs := hs
  have e:PyData.eqv (.str s) (.str w)=nz w (.str s):=by
   unfold nz
   simp only [PyData.eqv]
   by_cases c:s=w
   ·rw [NM c];simp [c]
   ·rw [LR c];simp [c]
  constructor
  ·unfold fv
   rw [show kT μ (.str s)=some (.str s) from rfl,show kT μ (.str w)=some (.str w) from rfl]
   dsimp only
   rw [LU ⟨fs,hw⟩,e]
   rfl
  ·unfold fv
   rw [show kT μ (.str s)=some (.str s) from rfl,show kT μ (.str w)=some (.str w) from rfl]
   dsimp only
   rw [LU ⟨fs,hw⟩,e]
   rfl
 ·constructor <;>
  ·unfold fv
   rw [show kT μ (.int i)=some (.int i) from rfl,show kT μ (.str w)=some (.str w) from rfl]
   dsimp only
   rw [LU ⟨rfl,hw⟩]
   rfl
 ·constructor <;>
  ·unfold fv
   rw [show kT μ .non=some .none from rfl,show kT μ (.str w)=some (.str w) from rfl]
   dsimp only
   rw [LU ⟨rfl,hw⟩]
   rfl
theorem ki:dJ (.str "apart")=true:=by decide +kernel
theorem jl:dJ (.str "ring")=true:=by decide +kernel
structure wg (μ:aG) (d:D):Prop where
 ok:qL μ d
 el:∀ xs,d=.tup xs->(∀ x∈xs,zB μ x)/\xs.length<=1000/\∀ x,xs.head?=some x->Hd x
def nL (d:D) (w:Str) (n:Nat):Bool:=match d with
 | .tup (x::xs)=>decide (xs.length+1=n) && nz w x
 | _=>false
theorem t9 {μ:aG}{d:D}{w:Str}{n:Nat} (h:wg μ d) (hw:dJ (.str w)=true) (hn:1<=n):gx [d,.str w,.int (n:Nat)] μ=.ok (.bl (nL d w n)) μ:=by
 unfold gx
 rw [rp]
 simp only [p6,List.replicate,aT,ff,jF,ah,aj,aa,qD h.ok,aQ]
 cases d with
 | tup xs=>
  simp only [DN,Nn,az,aD,aq,ay,ah,aj,aa,eZ,cv,NP,Nl,aQ]
  cases xs with
  | nil=>
   rw [show (((([]:List D).length:Nat):Int) == (n:Int))=false from by
    apply QB.mpr;simp;omega]
   simp only [NP,Nl,ae,aI]
   exact bg (by simp)
  | cons x xs=>
   have hh:=(h.el (x::xs) rfl).2.2 x rfl
   rw [show ((((x::xs).length:Nat):Int) == (n:Int))=decide (xs.length+1=n) from by
    apply Qg.mpr;rw [Qh,PF,NQ];omega]
   show qw μ _=.ok (.bl (decide (xs.length+1=n) && nz w x)) μ
   cases decide (xs.length+1=n) with
   | false=>
    simp only [NP,Nl,ae,aI,My]
    exact bg (by simp)
   | true=>
    simp only [Nn,aR,bG,aa,(nV hh hw).1,ae,aI,Qw]
    exact bg (by simp)
 | _=>
  simp only [DN,NP,Nl,ae,aI]
  exact bg (by simp)
def ll (m:Nat) (ks:List (List Int)):D->Bool
 | .tup ys=>match jf ys with
  | some ns=>ns.all (fun p=>decide (0<=p/\p<(m:Int))) && (decide ns.Nodup && iG ks ns)
  | none=>false
 | _=>false
theorem kl {m:Nat}{ks:List (List Int)}{w:List Int}:ll m ks (aU w)=(w.all (fun p=>decide (0<=p/\p<(m:Int))) && (decide w.Nodup && iG ks w)):=by
 unfold ll
 dsimp only
 rw [rQ]
theorem Ae {m:Nat}{ks:List (List Int)}{xs:List D} (h:xs.all Ak=false):ll m ks (.tup xs)=false:=by
 unfold ll
 dsimp only
 cases e:jf xs with
 | none=>rfl
 | some ns=>
  exfalso
  rw [gr e,PL] at h
  have:(ns.all (Ak ∘ D.int))=true:=OK.mpr fun _ _=>rfl
  rw [this] at h;cases h
theorem yM {μ:aG}{m:Nat}{ks:List (List Int)}{d:D} (h:bu (.tup [.int m,.tup (ks.map ao)]) m ks) (hd:zB μ d):cK [.tup [.int m,.tup (ks.map ao)],d] μ=.ok (.bl (ll m ks d)) μ:=by
 have no:dF [.tup [.int m,.tup (ks.map ao)],d] μ=.ok (.bl false) μ->ll m ks d=false->cK [.tup [.int m,.tup (ks.map ao)],d] μ=.ok (.bl (ll m ks d)) μ:=fun e1 e2=>by
  unfold cK
  rw [cV,e2]
  simp only [j6,List.replicate,aT,ff,aD,aq,ay,ah,aj,aa,e1,aQ,NP,Nl,ae,aI]
  exact bg (by simp)
 by_cases hT:DN d=true
 ·cases d with
  | tup xs=>
   obtain ⟨h1,h2⟩:=hd.el xs rfl
   rcases vh xs with ⟨w,rfl⟩ | hn
   ·rw [Nd] at h2
    have eg:=CI (μ:=μ) h h2
    have be:=vx (w:=w) h
    show cK [_,aU w] μ=.ok (.bl (ll m ks (aU w))) μ
    rw [kl,<- be]
    cases hr:ly m ks w with
    | false=>
     rw [hr] at eg
     have z:ll m ks (aU w)=false:=by rw [kl,<- be,hr,My]
     have:=no eg z
     rw [z] at this
     rw [My];exact this
    | true=>
     rw [hr] at eg
     unfold cK
     rw [cV]
     simp only [j6,List.replicate,aT,ff,aD,aq,ay,ah,aj,aa,eg,aQ,Nn,az,aR,eZ,Nd,dr,Qw]
     rw [show cW .GtE (w.length:Int) 4=decide (4<=w.length) from by
      show decide ((w.length:Int) ≥ 4)=_
      apply O9.mpr;omega]
     cases decide (4<=w.length) with
     | false=>
      simp only [NP,Nl,ae,aI,My]
      exact bg (by simp)
     | true=>
      simp only [Nn,t8 h,ae,aI,Qw]
      exact bg (by simp)
   ·exact no (vm (by rw [nh h1 h2,zX hn])) (Ae hn)
  | _=>cases hT
 ·have hT' : DN d = false := by simpa using hT
  refine no (vm (yL hd.ok hT')) ?_
  cases d <;> first | rfl | cases hT'
noncomputable def jg (m:Nat) (ks:List (List Int)):D->Bool
 | .tup [x0,x1,x2]=>nz "apart" x0 && DO m ks x1 x2
 | .tup [x0,x1]=>nz "ring" x0 && ll m ks x1
 | _=>false
theorem yN {μ:aG}{m:Nat}{ks:List (List Int)}{d:D} (h:bu (.tup [.int m,.tup (ks.map ao)]) m ks) (hd:wg μ d):jt [.tup [.int m,.tup (ks.map ao)],d] μ=.ok (.bl (jg m ks d)) μ:=by
 have h1:=t9 (μ:=μ) (n:=3) hd ki (by decide)
 have h2:=t9 (μ:=μ) (n:=2) hd jl (by decide)
 rw [show ((3:Nat):Int)=3 from rfl] at h1
 rw [show ((2:Nat):Int)=2 from rfl] at h2
 have mid:nL d "apart" 3=false->nL d "ring" 2=false->jg m ks d=false:=fun z1 z2=>by
  unfold jg
  split
  ·unfold nL at z1;simp at z1;rw [show nz "apart" _=false from z1];rfl
  ·unfold nL at z2;simp at z2;rw [show nz "ring" _=false from z2];rfl
  ·rfl
 unfold jt
 rw [cV]
 simp only [sH,List.replicate,aM,bC,iP,aD,aq,ay,ah,aj,aR,aa,h1,eY,ae]
 cases c1:nL d "apart" 3 with
 | true=>
  unfold nL at c1
  split at c1
  ·rename_i x xs
   rw [Nw,PF] at c1
   match xs,c1 with
   | [y,z],c1=>
    have el:=(hd.el [x,y,z] rfl).1
    simp only [Nn,aT,aD,aq,ay,nM,gG,lH,ah,aj,aR,aa,kC]
    rw [show qg (.tup [x,y,z]) (some 1) none μ=.ok (.tup [y,z]) μ from rfl]
    simp only [aa,CM h (el y (by simp)).ok (el z (by simp)).ok,ae,cB,aI]
    rw [show jg m ks (.tup [x,y,z])=(nz "apart" x && DO m ks y z) from rfl,c1.2,Qw]
    exact bg (by simp)
  ·cases c1
 | false=>
  simp only [NP,Nl,bD,aF,aT,ff,aD,aq,ay,ah,aj,aR,aa,h2,aQ]
  cases c2:nL d "ring" 2 with
  | false=>
   simp only [NP,Nl,ae,aI,mid c1 c2]
   exact bg (by simp)
  | true=>
   unfold nL at c2
   split at c2
   ·rename_i x xs
    rw [Nw,PF] at c2
    match xs,c2 with
    | [y],c2=>
     have el:=(hd.el [x,y] rfl).1
     simp only [Nn,az,ah,aj,aR,aa,dQ,yM h (el y (by simp)),ae,aI]
     rw [show jg m ks (.tup [x,y])=(nz "ring" x && ll m ks y) from rfl,c2.2,Qw]
     exact bg (by simp)
   ·cases c2
def lB (μ:aG) (a m:Nat) (ks:List (List Int)):Prop:=∃ (bs:List Nat) (T:Int->Int->Option Nat),μ[a]?=some (.lst (bs.map D.obj))/\bs.length=m/\(∀ (p b:Nat),bs[p]?=some b->μ[b]?=some (.lst (dH m (T p))))/\∀ p:Int,0<=p->p<m->qi (mO ks) p (fun q=>0<=q/\q<m) (T p)
theorem lB.app {μ g:aG}{a m:Nat}{ks:List (List Int)} (h:lB μ a m ks):lB (μ++g) a m ks:=by
 obtain ⟨bs,T,h1,h2,h3,h4⟩:=h
 exact ⟨bs,T,aC h1,h2,fun p b e=>aC (h3 p b e),h4⟩
theorem lB.get {μ:aG}{a m:Nat}{ks:List (List Int)} (h:lB μ a m ks) {x y:Int} (hx:0<=x/\x<(m:Int)) (hy:0<=y/\y<(m:Int)):∃ (b:Nat) (o:Option Nat),bQ (.obj a) (.int x) μ=.ok (.obj b) μ/\bQ (.obj b) (.int y) μ=.ok (lh o) μ/\o.isNone=!rB ks x y:=by
 obtain ⟨bs,T,h1,h2,h3,h4⟩:=h
 have hl:x.toNat<bs.length:=by omega
 refine ⟨bs[x.toNat],T (x.toNat:Int) y,cU h1 (kE hx.1 ?_),cU (h3 x.toNat _ (Pp hl)) (n9 hy.1 hy.2),?_⟩
 ·rw [MZ,Pp hl];rfl
 ·rw [OL hx.1]
  exact mC (h4 x hx.1 hx.2) hy
theorem EI {μ:aG}{m:Nat}{x r:D}{E:ME} (h:qL μ x) (hE:E=fE (aA dg (af (ag 0) (av))) (kD (ig .LtE) (ig .Lt) (cC (.int 0)) (ag 0) (au bQ (ag 1) (cC (.int 0))))):E [some x,some (.tup [.int m,r])] μ=.ok (.bl (j7 m x)) μ:=by
 subst hE
 simp only [ff,aD,aq,ay,ah,aj,aa,AA h,aQ]
 cases x with
 | int i=>
  rw [show Ak (.int i)=true from rfl,LU rfl]
  simp only [xD,aR,ah,aj,az,aa,dr,aQ,bG]
  by_cases c:cW .LtE 0 i=true
  ·rw [LU c]
   have c':(0:Int)<=i:=QA c
   rw [show cW .Lt i (m:Int)=j7 m (.int i) from O9.mpr ⟨fun z=>⟨c',z⟩,fun z=>z.2⟩]
  ·rw [LV c]
   have c':¬ (0:Int)<=i:=fun z=>c (NM z)
   rw [show j7 m (.int i)=false from LR (fun z=>c' z.1)]
 | _=>rw [show Ak _=false from rfl,LV Mu];rfl
theorem wX {μ:aG}{m:Nat}{xs:List D}{r:D}{E:ME} (h:∀ x∈xs,qL μ x) (hl:xs.length<=1000) (hE:E=fE (aA dg (af (ag 0) (av))) (kD (ig .LtE) (ig .Lt) (cC (.int 0)) (ag 0) (au bQ (ag 1) (cC (.int 0))))) :
  compLoop (.fix xs) μ.length (ai 0) bI E xs [none,some (.tup [.int m,r])] (μ++[.lst []])=.ok (.obj μ.length) (μ++[.lst ((xs.map (j7 m)).map D.bl)]):=by
 have c:=dA (U:=D) (en:=fun x=>x) (src:=.fix xs) (g:=ai 0) (t:=bI) (e:=E) (μ1:=μ) (q:=fun _=>true) (h:=fun x=>.bl (j7 m x)) (fun ρ=>∃ o,ρ=[o,some (.tup [.int m,r])]) (fun _=>trivial) (us:=xs) (acc:=[]) (ρ:=[none,some (.tup [.int m,r])]) ⟨_,rfl⟩
  (by rw [Of];exact L5 (by omega) bA)
  (fun x hx a ρ hJJ => by
   obtain ⟨o,e⟩:=hJJ
   subst e
   exact ⟨[some x,some (.tup [.int m,r])],⟨_,rfl⟩,rfl,rfl,fun _=>EI (xc (h x hx)) hE⟩)
 rw [List.map_id',NL,gF] at c
 rw [c,Oc]
 rfl
theorem zY {m:Nat}:∀ {xs:List D},xs.all (j7 m)=true->∃ ns:List Int,xs=ns.map D.int/\ns.all (fun p=>decide (0<=p/\p<(m:Int)))=true
 | [],_=>⟨[],rfl,rfl⟩
 | x::xs,h=>by
  rw [PJ,Nw] at h
  obtain ⟨ns,e1,e2⟩:=zY h.2
  cases x with
  | int i=>exact ⟨i::ns,by rw [e1];rfl,by rw [PJ,e2];exact (by rw [Qf];exact h.1)⟩
  | _=>cases h.1
theorem Kc {μ:aG}{m:Nat}{ks:List (List Int)}{y:D}{o0 o1 o2:Option D}{far d:D} (h:bu (.tup [.int m,.tup (ks.map ao)]) m ks) (hy:zB μ y) :
  ∃ g,(aZ (kx (oO (jh (jz (sW (jy "tuple") (ag 3)))) (jh (jz (aA tm (af (bV (fw (ag 3)) [none,some 0] (ai 0) (bI) (j5)) (av)))))) (bX (cC (.bl false))) (cS))
 (bX (fE (au (fv false) (aA fB (af (aA ky (af (ag 3) (av))) (av))) (aA fB (af (ag 3) (av)))) (aA df (af (ag 0) (af (ag 3) (av))))))) [some (.tup [.int m,.tup (ks.map ao)]),some far,some d,some y] μ=.ret (.bl (ll m ks y)) (μ++g):=by
 have hk:=h.2.2.2.2
 have hm6:m<=6:=by have:=h.2.2.1;omega
 simp only [aM,bC,kB,jK,iP,jF,aj,ah,aa,qD hy.ok,eY]
 cases y with
 | tup ys=>
  obtain ⟨h1,h2⟩:=hy.el ys rfl
  simp only [DN,OM,NP,Nl,aD,aq,ay,bP,bY,aj,ah,aa,jJ,aW]
  rw [show eE [none,some 0] _=[none,some (.tup [.int m,.tup (ks.map ao)])] from rfl,wX (E:=j5) h1 h2 rfl]
  simp only [aa]
  rw [qG ar,show (ys.map (j7 m)).all id=ys.all (j7 m) from by rw [PL];rfl]
  simp only [aa,eY,ae]
  cases ha:ys.all (j7 m) with
  | false=>
   refine ⟨[.lst ((ys.map (j7 m)).map D.bl)],?_⟩
   simp only [OU,Nn,aT,aR,ae,cB]
   have:ll m ks (.tup ys)=false:=by
    rcases vh ys with ⟨ns,rfl⟩ | hn
    ·show ll m ks (aU ns) = false
     rw [xt] at ha
     rw [kl,ha,My]
    ·exact Ae hn
   rw [this]
  | true=>
   obtain ⟨ns,rfl,e2⟩:=zY ha
   rw [Nd] at h2
   have rng:∀ p∈ns,0<=p/\p<(m:Int):=fun p hp=>QA (OK.mp e2 p hp)
   simp only [OM,NP,Nl,bD,aF,aT,ff,az,aD,aq,ay,aj,ah,aa]
   have hs:∃ o n,∀ M:aG,ky [aU ns] M=.ok (.obj M.length) (M++[o])/\fB [.obj M.length] (M++[o])=.ok (.int (n:Nat)) (M++[o])/\n=(cP ns).length:=by
    cases ns with
    | nil=>exact ⟨.set [],0,fun M=>⟨rfl,FQ ar,rfl⟩⟩
    | cons a r=>
     refine ⟨.iset (cP (a::r)),_,fun M=>⟨?_,z8 ar,rfl⟩⟩
     unfold ky
     dsimp only
     unfold nH
     rw [show lA ((a::r).map D.int)=none from rfl,vk (fun n hn=>by have:=rng n hn;omega)]
   obtain ⟨o,n,hs⟩:=hs
   have:=hs (μ++[.lst (((ns.map D.int).map (j7 m)).map D.bl)])
   rw [this.1]
   simp only [aa]
   rw [this.2.1,this.2.2]
   simp only [aa,eZ,Nd,cv,NP,Nl,aQ]
   rw [show ((((cP ns).length:Nat):Int) == ((ns.length:Nat):Int))=decide ns.Nodup from by
    rw [<- uD]
    apply Qg.mpr
    rw [Qh,PF]
    omega]
   refine ⟨[.lst (((ns.map D.int).map (j7 m)).map D.bl)]++[o],?_⟩
   show _=SO.ret (.bl (ll m ks (aU ns))) _
   rw [kl,e2,Qw,<- NG]
   cases hnd:decide ns.Nodup with
   | false=>simp only [NP,Nl,ae,My]
   | true=>
    have l6:=(QA hnd).length_le_of_subset (show ns ⊆ rg m from fun p hp=>cT.mpr (rng p hp))
    rw [iN] at l6
    simp only [Nn,ae,Qw]
    rw [show df [.tup [.int m,.tup (ks.map ao)],.tup (ns.map D.int)] _=_ from wQ hk (by omega)]
    simp only [ae]
 | _=>
  refine ⟨[],?_⟩
  simp only [DN,OU,Nn,ae,aT,aR,cB,MM,ll]
def Kt:D->Bool
 | .str _=>true
 | _=>false
theorem wO {μ:aG}{m a:Nat}{ks:List (List Int)}{d:D} (h:bu (.tup [.int m,.tup (ks.map ao)]) m ks) (hf:lB μ a m ks) (hd:wg μ d):eS [.tup [.int m,.tup (ks.map ao)],.obj a,d] μ=.ok (.bl (jg m ks d)) μ:=by
 have hm6:m<=6:=by have:=h.2.2.1;omega
 unfold eS
 rw [rp]
 unfold p9
 simp only [List.replicate]
 rw [aM,bC]
 simp only [kB,jK,iP,jF,ah,aj,aa,qD hd.ok,eY]
 cases d with
 | tup xs=>
  obtain ⟨h1,h2,h3⟩:=hd.el xs rfl
  simp only [DN,OM,NP,Nl,bT,az,aD,aq,ay,ah,aj,aR,aa,eZ,dr,aQ]
  match xs,h1,h2,h3 with
  | [],h1,h2,h3=>
   rw [show cW .Lt ((([]:List D).length:Nat):Int) 2=true from rfl]
   simp only [Nn,ae,aT,aR,cB,aI]
   exact bg (by simp)
  | [x],h1,h2,h3=>
   rw [show cW .Lt ((([x]:List D).length:Nat):Int) 2=true from rfl]
   simp only [Nn,ae,aT,aR,cB,aI]
   exact bg (by simp)
  | x::y::r,h1,h2,h3=>
   have hx:=h3 x rfl
   have e1:cW .Lt (((x::y::r).length:Nat):Int) 2=false:=by
    show decide ((((x::y::r).length:Nat):Int)<2)=false
    exact LR (by rw [NQ,NQ];omega)
   rw [e1]
   simp only [NP,Nl,jF,az,aj,ah,aR,aa,bG]
   have st:jy "str" x μ=.ok (.bl (Kt x)) μ:=by
    rcases hx with ⟨s,rfl,_⟩ | ⟨i,rfl⟩ | rfl <;> rfl
   rw [st]
   simp only [aa,eY,ae]
   rcases hx with ⟨s,rfl,fs⟩ | ⟨i,rfl⟩ | rfl
   ·have w1 := nV (μ := μ) (x := .str s) (w := "ring") (.inl ⟨s, rfl, fs⟩) jl
    have w2:=nV (μ:=μ) (x:=.str s) (w:="apart") (.inl ⟨s,rfl,fs⟩) ki
    simp only [Kt,OM,NP,Nl,bD,aF]
    rw [aM,bC]
    simp only [fQ,bT,az,aj,ah,aR,aa,bG,w1.1,aQ,aD,aq,ay,eZ,cv,NP,Nl]
    match r,h1,h2,h3 with
    | [],h1,h2,h3=>
     rw [show ((([.str s,y]:List D).length:Nat):Int) == 2 from rfl,show jg m ks (.tup [.str s,y])=(nz "ring" (.str s) && ll m ks y) from rfl]
     cases c:nz "ring" (.str s) with
     | true=>
      obtain ⟨g,lr⟩:=Kc (o0:=none) (o1:=none) (o2:=none) (far:=.obj a) (d:=.tup [.str s,y]) h (h1 y (by simp))
      simp only [Nn,ae]
      rw [aM,aV]
      simp only [az,aj,ah,aR,aa,dQ,ae,bH,Qo,Qp,aF]
      rw [lr,cB,aI,Qw]
      exact fW (by simp)
     | false=>
      simp only [NP,Nl,ae,bD,aF]
      rw [aM,bC]
      simp only [kB,bT,az,aj,ah,aR,aa,bG,w2.2,aQ,aD,aq,ay,eZ,cv,Nn]
      rw [show (((([.str s,y]:List D).length:Nat):Int) == 3)=false from rfl]
      cases nz "apart" (.str s) <;> simp only [OM,OU,NP,Nl,Nn,aa,ae,aT,aR,cB,aI,My] <;> exact bg (by simp)
    | [z],h1,h2,h3=>
     rw [show (((([.str s,y,z]:List D).length:Nat):Int) == 2)=false from rfl,show jg m ks (.tup [.str s,y,z])=(nz "apart" (.str s) && DO m ks y z) from rfl]
     have cc:(if nz "ring" (.str s)=true then (ak.ok false μ:ak Bool) else .ok false μ)=.ok false μ:=by split <;> rfl
     rw [cc]
     simp only [ae,NP,Nl,bD,aF]
     rw [aM,bC]
     simp only [kB,bT,az,aj,ah,aR,aa,bG,w2.2,aQ,aD,aq,ay,eZ,cv,Nn]
     rw [show (((([.str s,y,z]:List D).length:Nat):Int) == 3)=true from rfl]
     cases nz "apart" (.str s) with
     | false=>
      simp only [OU,Nn,ae,aT,aR,cB,aI,My]
      exact bg (by simp)
     | true=>
      simp only [OM,NP,Nl,ae,bD,aF]
      rw [aM,bC]
      simp only [jK,iP,aD,aq,ay,bP,bY,nM,gG,lH,aj,ah,aR,kC,aa]
      rw [show qg (.tup [.str s,y,z]) (some 1) none μ=.ok (.tup [y,z]) μ from rfl]
      simp only [aa,jJ,aW]
      rw [show eE [none,some 0] _=[none,some (.tup [.int m,.tup (ks.map ao)])] from rfl,wX (E:=mX) (xs:=[y,z]) (fun v hv=>by simp at hv;rcases hv with rfl|rfl;exact (h1 _ (by simp)).ok;exact (h1 _ (by simp)).ok) (by simp) rfl]
      simp only [aa]
      rw [qG ar,show (([y,z]:List D).map (j7 m)).all id=(j7 m y && j7 m z) from by simp]
      simp only [aa,eY,ae,Qw]
      cases hc:(j7 m y && j7 m z) with
      | false=>
       have:DO m ks y z=false:=by
        unfold DO
        split
        ·rw [<- Bool.and_assoc,hc];rfl
        ·rfl
       simp only [OU,Nn,aT,aR,ae,cB,aI,this]
       exact fW (by simp)
      | true=>
       rw [Nw] at hc
       cases y with
       | int p=>
        cases z with
        | int q=>
         have hp:0<=p/\p<(m:Int):=QA hc.1
         have hq:0<=q/\q<(m:Int):=QA hc.2
         obtain ⟨b,o,f1,f2,f3⟩:=(hf.app (g:=[.lst ((([.int p,.int q]:List D).map (j7 m)).map D.bl)])).get hp hq
         simp only [OM,NP,Nl,bD,aF,aT,az,aj,ah,aR,aa,dQ,FR]
         rw [f1]
         simp only [aa]
         rw [f2]
         simp only [aa,lJ,NP,Nl,rN,f3,ae,aI]
         rw [show DO m ks (.int p) (.int q)=(j7 m (.int p) && (j7 m (.int q) && !rB ks p q)) from rfl,hc.1,hc.2,Qw,Qw]
         exact fW (by simp)
        | _=>cases hc.2
       | _=>cases hc.1
    | z::z2::r,h1,h2,h3=>
     have l2':((((.str s::y::z::z2::r:List D).length:Nat):Int) == 2)=false:=by
      apply QB.mpr;simp only [NQ,ne_eq,Qh];omega
     have l3':((((.str s::y::z::z2::r:List D).length:Nat):Int) == 3)=false:=by
      apply QB.mpr;simp only [NQ,ne_eq,Qh];omega
     rw [l2',show jg m ks (.tup (.str s::y::z::z2::r))=false from rfl]
     have cc:(if nz "ring" (.str s)=true then (ak.ok false μ:ak Bool) else .ok false μ)=.ok false μ:=by split <;> rfl
     rw [cc]
     simp only [ae,NP,Nl,bD,aF]
     rw [aM,bC]
     simp only [kB,bT,az,aj,ah,aR,aa,bG,w2.2,aQ,aD,aq,ay,eZ,cv,Nn]
     rw [l3']
     cases nz "apart" (.str s) <;> simp only [OM,OU,NP,Nl,Nn,aa,ae,aT,aR,cB,aI] <;> exact bg (by simp)
   ·simp only [Kt, OU, Nn, ae, aT, aR, cB, aI]
    rw [show jg m ks (.tup (.int i::y::r))=false from by unfold jg;split <;> first | rfl | (rename_i e;cases e;rfl)]
    exact bg (by simp)
   ·simp only [Kt, OU, Nn, ae, aT, aR, cB, aI]
    rw [show jg m ks (.tup (.non::y::r))=false from by unfold jg;split <;> first | rfl | (rename_i e;cases e;rfl)]
    exact bg (by simp)
 | _=>
  simp only [DN,OU,Nn,ae,aT,aR,cB,aI]
  exact bg (by simp)
theorem C5 {M:aG}{a:List D}{y:D} (h:a.length<sizeLine):fj (.obj M.length) [y] (M++[.lst a])=.ok .non (M++[.lst (a++[y])]):=by
 unfold fj
 dsimp only
 rw [ar]
 dsimp only
 rw [LU h,iH]
theorem xp {M:aG}{a:List D}:Bo (.obj M.length) (M++[.lst a])=true:=by
 unfold Bo
 dsimp only
 rw [ar]
theorem Iv {M:aG}{m k:Nat}{ks:List (List Int)}{w:List Int}{a0:List D} (hm:m<=6) (hk:∀ k∈ks,pL m k) (Hw:Gy m k w) (hk5:k<=5) (ha:a0.length+(jT m ks w).length<=100000) {o1 o2 o3 o6:Option D} :
  ∃ o6',g9 [some (.tup [.int m,.tup (ks.map ao)]),o1,o2,o3,some (.obj M.length),some (aU w),o6] (M++[.lst a0])=.next [some (.tup [.int m,.tup (ks.map ao)]),o1,o2,o3,some (.obj M.length),some (aU w),o6'] (M++[.lst (a0++(jT m ks w).map aU)]):=by
 let q:Int->Bool:=fun p=>!decide (p∈w) && fU ks (cn w) p
 obtain ⟨ρ',μ',⟨dn,rs,o6',e1,e2,e3,e4⟩,run⟩:=dP (src:=.fix ((rg m).map D.int)) (g:=ai 6) (fb:=hG)
  (fun xs ρ μ1=>∃ (dn rs:List Int) (o6:Option D),rg m=dn++rs/\xs=rs.map D.int/\μ1=M++[.lst (a0++((dn.filter q).map fun p=>aU (w++[p])))]/\ρ=[some (.tup [.int m,.tup (ks.map ao)]),o1,o2,o3,some (.obj M.length),some (aU w),o6])
  (fun _ _ _=>trivial)
  (fun x xs ρ μ1 hJJ => by
   obtain ⟨dn,rs,o6,e1,e2,e3,e4⟩:=hJJ
   subst e3 e4
   cases rs with
   | nil=>cases e2
   | cons p rs=>
    rw [Nz] at e2
    injection e2 with h1 h2
    subst h1 h2
    have l1:([D.int p]:List D).length<=sizeLine:=L5 (by simp) bA
    refine ⟨trivial,_,_,[some (.tup [.int m,.tup (ks.map ao)]),o1,o2,o3,some (.obj M.length),some (aU w),some (.int p)],M++[.lst (a0++(((dn++[p]).filter q).map fun p=>aU (w++[p])))],rfl,?_,dn++[p],rs,some (.int p),by rw [e1,NG];rfl,rfl,rfl,rfl⟩
    show hG [some (.tup [.int m,.tup (ks.map ao)]),o1,o2,o3,some (.obj M.length),some (aU w),some (.int p)] _=_
    unfold hG
    simp only [bC,fQ,bT,az,jF,aj,ah,aa,zu,Nn,aQ]
    rw [QC,PX,QD]
    by_cases c:p∈w
    ·rw [show q p = false from by simp [q, c], NM c]
     simp only [OM,NP,Nl,ae,bD,MM]
    ·rw [LR c]
     simp only [OU,Nn,bO,aq,ay,aD,az,jF,aj,ah,aR,aa,uZ,vf Hw.ne,BX,BY,NQ,Of,LU l2,dQ]
     rw [rR hk]
     simp only [aa,aQ,ae]
     have qe:q p=decide ([min (cn w) p,max (cn w) p]∈ks):=by simp only [q,LR c,OU,Qw];rfl
     rw [qe]
     by_cases t:[min (cn w) p,max (cn w) p]∈ks
     ·rw [NM t]
      simp only [Nn,nU,zw,aj,ah,aa,xp,aq,ay,az,bO,LU l1]
      rw [Cr (show w.length<=100 by rw [Hw.len];omega)]
      simp only [aa]
      rw [C5,ae,Ou,NG]
      ·rfl
      ·have pf:((dn++[p]).filter q).length<=(jT m ks w).length:=by
        unfold jT qV
        rw [Nd,e1,show dn++p::rs=(dn++[p])++rs from by simp,QC (dn++[p])]
        rw [Nb]
        exact O6 _ _
       rw [QC,PX,qe,NM t] at pf
       simp only [Nn,QD,Nb,NQ,Of] at pf
       rw [Nb,Nd]
       exact LY (by omega) uX
     ·rw [LR t]
      simp only [NP,Nl,bD,MM])
  (xs:=(rg m).map D.int) (ρ:=[some (.tup [.int m,.tup (ks.map ao)]),o1,o2,o3,some (.obj M.length),some (aU w),o6]) (μ:=M++[.lst a0])
  ⟨[],rg m,o6,rfl,rfl,by simp,rfl⟩
 have hr:rs=[]:=by cases rs with
  | nil=>rfl
  | cons=>cases e2
 subst hr e3 e4
 rw [MM] at e1
 refine ⟨o6',?_⟩
 unfold g9
 have hr:∀ μ,eX [.int (m:Int)] μ=.ok (.fix ((rg m).map D.int)) μ:=fun μ=>by rw [dq (by omega) (by omega),rh]
 simp only [dO,bW,aq,ay,az,ah,aR,aa,bG,hr,ae,aW]
 rw [run,<- e1]
 show _=SO.next _ (M++[.lst (a0++(jT m ks w).map aU)])
 unfold jT qV
 rw [Oc]
 rfl
theorem Dx {m k:Nat}{ks dn rs:List (List Int)} (hm:m<=6) (hk:k+1<=5) (h:cg m ks k=dn++rs):(dn.flatMap (jT m ks)).length<=46656:=by
 have:=iu hm (ks:=ks) hk
 rw [show cg m ks (k+1)=(dn++rs).flatMap (jT m ks) from by rw [<- h];rfl,Qu,Nb] at this
 omega
theorem B9:1000000<=sizeLine:=by decide
theorem mq {μ:aG}{a b:Nat}{xs ys:List D} (h:μ[a]?=some (.lst xs)) (g:μ[b]?=some (.lst ys)) (hn:xs.length+ys.length<=1000000):bq (.obj a) (.obj b) μ=.ok (.obj μ.length) (μ++[.lst (xs++ys)]):=by
 unfold bq
 dsimp only
 rw [h,g]
 dsimp only
 rw [LU (L5 hn B9)]
def b9 (m:Nat) (ks:List (List Int)) (j:Nat):List (List Int):=(List.range j).flatMap fun t=>(cg m ks (t+1)).filter (iG ks)
theorem sj {m j:Nat}{ks:List (List Int)}:b9 m ks (j+1)=b9 m ks j++(cg m ks (j+1)).filter (iG ks):=by
 unfold b9
 rw [Qt,Qu,Qc,Qv,MM]
theorem pj {m:Nat} (hm:m<=6) {ks:List (List Int)}:∀ {j:Nat},j<=5->(b9 m ks j).length<=j * 46656
 | 0,_=>by simp [b9]
 | j+1,h=>by
  rw [sj,Nb]
  have h1:=pj hm (ks:=ks) (j:=j) (by omega)
  have h2:=L5 (Qb (iG ks) _) (iu hm (ks:=ks) (k:=j+1) (by omega))
  omega
theorem Kb {M:aG}{m k B Fd:Nat}{ks:List (List Int)} (h:bu (.tup [.int m,.tup (ks.map ao)]) m ks) (hk5:k+1<=5) (hB:M[B]?=some (.lst ((cg m ks k).map aU))) (hF:M[Fd]?=some (.lst ((b9 m ks k).map aU))) {o3 o4 o5 o6:Option D} :
  ∃ o5' o6' n1 n2 g,g6 [some (.tup [.int m,.tup (ks.map ao)]),some (.obj Fd),some (.obj B),o3,o4,o5,o6] M=.next [some (.tup [.int m,.tup (ks.map ao)]),some (.obj n2),some (.obj n1),o3,some (.obj n1),o5',o6'] (M++g)/\(M++g)[n1]?=some (.lst ((cg m ks (k+1)).map aU))/\(M++g)[n2]?=some (.lst ((b9 m ks (k+1)).map aU))/\M.length<=n2:=by
 have hm:m<=6:=by have:=h.2.2.1;omega
 have hk:=h.2.2.2.2
 obtain ⟨ρ',μ',⟨dn,rs,o5',o6',e1,e2,e3,e4⟩,run⟩:=dP (src:=.own B ((cg m ks k).map aU)) (g:=ai 5) (fb:=g9)
  (fun xs ρ μ1=>∃ (dn rs:List (List Int)) (o5 o6:Option D),cg m ks k=dn++rs/\xs=rs.map aU/\μ1=M++[.lst ((dn.flatMap (jT m ks)).map aU)]/\ρ=[some (.tup [.int m,.tup (ks.map ao)]),some (.obj Fd),some (.obj B),o3,some (.obj M.length),o5,o6])
  (fun ρ μ1 ⟨_,_,_,_,_,_,e3,_⟩=>by rw [e3];exact aC hB)
  (fun x xs ρ μ1 hJJ => by
   obtain ⟨dn,rs,o5,o6,e1,e2,e3,e4⟩:=hJJ
   subst e3 e4
   cases rs with
   | nil=>cases e2
   | cons w rs=>
    rw [Nz] at e2
    injection e2 with h1 h2
    subst h1 h2
    have e1':cg m ks k=(dn++[w])++rs:=by rw [e1];simp
    have Hw:=cZ (m:=m) (ks:=ks) (k:=k) (w:=w) (by rw [e1];simp)
    have hz:=Dx hm hk5 e1'
    rw [Qu,Nb] at hz
    obtain ⟨o6',eg⟩:=Iv (M:=M) (a0:=(dn.flatMap (jT m ks)).map aU) hm hk Hw (by omega) (by rw [Nd];rw [Qc,Qv,MM] at hz;omega) (o1:=some (.obj Fd)) (o2:=some (.obj B)) (o3:=o3) (o6:=o6)
    refine ⟨aC hB,_,_,_,_,rfl,eg,dn++[w],rs,some (aU w),o6',e1',rfl,?_,rfl⟩
    rw [Qu,Ou]
    simp)
  (xs:=(cg m ks k).map aU) (ρ:=[some (.tup [.int m,.tup (ks.map ao)]),some (.obj Fd),some (.obj B),o3,some (.obj M.length),o5,o6]) (μ:=M++[.lst []])
  ⟨[],_,o5,o6,rfl,rfl,by simp,rfl⟩
 have hr:rs=[]:=by cases rs with
  | nil=>rfl
  | cons=>cases e2
 subst hr e3 e4
 rw [MM] at e1
 rw [<- e1,show (cg m ks k).flatMap (jT m ks)=cg m ks (k+1) from rfl] at run
 let M1:=M++[O.lst ((cg m ks (k+1)).map aU)]
 have c3:=dA (U:=List Int) (en:=aU) (src:=.own M.length ((cg m ks (k+1)).map aU)) (g:=ai 0) (t:=gX) (e:=hX) (μ1:=M1) (q:=iG ks) (h:=aU)
  (fun ρ=>∃ o,ρ=[o,some (.tup [.int m,.tup (ks.map ao)])]) (fun _=>aC ar) (us:=cg m ks (k+1)) (acc:=[]) (ρ:=[none,some (.tup [.int m,.tup (ks.map ao)])]) ⟨_,rfl⟩
  (by rw [Of];exact L5 (by have:=iu hm (ks:=ks) hk5;omega) uX)
  (fun w hw a ρ hJJ => by
   obtain ⟨o,e⟩:=hJJ
   subst e
   have Hw:=cZ hw
   refine ⟨[some (aU w),some (.tup [.int m,.tup (ks.map ao)])],⟨_,rfl⟩,rfl,?_,fun _=>by unfold hX;rw [ah]⟩
   unfold gX
   simp only [iP,aD,aq,ay,aj,ah,aa]
   rw [wQ hk (by rw [Hw.len];omega)]
   simp only [aa,eY])
 rw [NL] at c3
 let M2:=M1++[O.lst (((cg m ks (k+1)).filter (iG ks)).map aU)]
 have fl:=pj hm (ks:=ks) (j:=k) (by omega)
 have wl:=L5 (Qb (iG ks) _) (iu hm (ks:=ks) hk5)
 have ad:bq (.obj Fd) (.obj M1.length) M2=.ok (.obj M2.length) (M2++[.lst ((b9 m ks k).map aU++((cg m ks (k+1)).filter (iG ks)).map aU)]):=mq (aC (aC hF)) ar (by
  rw [Nd,Nd]
  have:k * 46656<=5 * 46656:=Qd _ (by omega)
  omega)
 refine ⟨o5',o6',M.length,M2.length,[O.lst ((cg m ks (k+1)).map aU)]++[O.lst (((cg m ks (k+1)).filter (iG ks)).map aU)]++[.lst ((b9 m ks (k+1)).map aU)],?_,?_,?_,by show _<=(M++[O.lst ((cg m ks (k+1)).map aU)]++[O.lst (((cg m ks (k+1)).filter (iG ks)).map aU)]).length;simp only [Nb];omega⟩
 ·have l0 : ([] : List D).length <= sizeLine := NZ _
  unfold g6
  simp only [aM,aV,cO,ay,aa,LU l0,ae,bH,Qo,Qp,aF,dO,bY,aj,ah]
  rw [dm (aC hB)]
  simp only [ae,b8]
  rw [run]
  simp only [aF,aM,aV,aj,ah,ae,bH,Qo,Qp,az,aa,bP,bY]
  rw [dm (show (M++[O.lst ((cg m ks (k+1)).map aU)])[M.length]?=_ from ar)]
  simp only [aa,b8]
  rw [show eE [none,some 0] _=[none,some (.tup [.int m,.tup (ks.map ao)])] from rfl]
  rw [show compLoop (.own M.length ((cg m ks (k+1)).map aU)) (M++[O.lst ((cg m ks (k+1)).map aU)]).length (ai 0) gX hX _ _ _=_ from c3]
  simp only [aa]
  rw [ad]
  simp only [ae]
  rw [sj,Ou]
  simp only [M2,M1,NG]
 ·rw [<- NG,<- NG];exact aC (aC ar)
 ·rw [<- NG,<- NG];exact ar
theorem xQ {μ:aG}{m:Nat}{ks:List (List Int)} (h:bu (.tup [.int m,.tup (ks.map ao)]) m ks) :
  ∃ (t:Nat) (g:aG),gO [.tup [.int m,.tup (ks.map ao)]] μ=.ok (.obj t) (μ++g)/\(μ++g)[t]?=some (.lst ((b9 m ks (m - 1)).map aU))/\μ.length<=t:=by
 have hm6:m<=6:=by have:=h.2.2.1;omega
 have hm1:1<=m:=by have:=h.2.1;omega
 let W:D:=.tup [.int m,.tup (ks.map ao)]
 let M1:=μ++[O.lst []]
 have c2:=dA (U:=Int) (en:=D.int) (src:=.fix ((rg m).map D.int)) (g:=ai 0) (t:=bI) (e:=ju) (μ1:=M1) (q:=fun _=>true) (h:=fun p=>aU [p])
  (fun ρ=>∃ o,ρ=[o]) (fun _=>trivial) (us:=rg m) (acc:=[]) (ρ:=[none]) ⟨_,rfl⟩
  (by rw [Of,iN];exact L5 (by omega) bA)
  (fun p hp a ρ hJJ => by
   obtain ⟨o,e⟩:=hJJ
   subst e
   refine ⟨[some (.int p)],⟨_,rfl⟩,rfl,rfl,fun _=>?_⟩
   unfold ju
   have l1:([D.int p]:List D).length<=sizeLine:=L5 (by simp) bA
   simp only [bO,aq,ay,ah,aa,LU l1]
   rfl)
 rw [gF,NL] at c2
 have w0:(rg m).map (fun p=>aU [p])=(cg m ks 0).map aU:=by
  show _=((rg m).map fun p=>[p]).map aU
  rw [Oc];rfl
 rw [w0] at c2
 obtain ⟨ρ',μ',⟨k,B,Fd,g,o3,o4,o5,o6,e1,e2,e3,e4,e5,e6⟩,run⟩:=dP (src:=.fix (bJ 0 (m - 1))) (g:=ai 3) (fb:=g6)
  (fun xs ρ M=>∃ (k B Fd:Nat) (g:aG) (o3 o4 o5 o6:Option D),xs.length+k=m - 1/\M=μ++g/\M[B]?=some (.lst ((cg m ks k).map aU))/\M[Fd]?=some (.lst ((b9 m ks k).map aU))/\μ.length<=Fd/\ρ=[some W,some (.obj Fd),some (.obj B),o3,o4,o5,o6])
  (fun _ _ _=>trivial)
  (fun x xs ρ M hJJ => by
   obtain ⟨k,B,Fd,g,o3,o4,o5,o6,e1,e2,e3,e4,e5,e6⟩:=hJJ
   subst e6
   obtain ⟨o5',o6',n1,n2,g',eg,f1,f2,f3⟩:=Kb (M:=M) (k:=k) (o3:=some x) (o4:=o4) (o5:=o5) (o6:=o6) h (by simp at e1;omega) e3 e4
   exact ⟨trivial,_,M,_,_,rfl,eg,k+1,n1,n2,g++g',some x,_,_,_,by simp at e1 ⊢;omega,by rw [e2,NG],f1,f2,by rw [e2,Nb] at f3;omega,rfl⟩)
  (xs:=bJ 0 (m - 1)) (ρ:=[some W,some (.obj μ.length),some (.obj M1.length),none,none,none,none]) (μ:=M1++[O.lst ((cg m ks 0).map aU)])
  ⟨0,M1.length,μ.length,_,none,none,none,none,by simp [bJ],NG _ _ _,ar,aC ar,MD _,rfl⟩
 have ek:k=m - 1:=by simpa using e1
 subst ek e6
 refine ⟨Fd,g,?_,by rw [<- e2];exact e4,e5⟩
 unfold gO
 rw [ji]
 have l0:([]:List D).length<=sizeLine:=NZ _
 have hr:eX [.int (m:Int)] M1=.ok (.fix ((rg m).map D.int)) M1:=by rw [dq (by omega) (by omega),rh]
 have hr3:eX [.int ((m:Int) - 1)] (M1++[O.lst ((cg m ks 0).map aU)])=.ok (.fix (bJ 0 (m - 1))) (M1++[O.lst ((cg m ks 0).map aU)]):=by
  rw [dq (by omega) (by omega),show ((m:Int) - 1).toNat=m - 1 from by omega]
 simp only [oG,List.replicate,aM,aV,cO,ay,aa,LU l0,ae,bH,Qo,Qp,aF,bP,bW,aq,az,ah,aj,aR,bG]
 rw [show eX [.int (m:Int)] (μ++[O.lst []])=_ from hr]
 simp only [aa,aW]
 rw [show eE [none] _=[none] from rfl,c2]
 simp only [aM,ae,bH,Qo,Qp,aF,dO,bW,aq,ay,az,aj,ah,aR,aa,bG]
 rw [show gC (.int (m:Int)) (.int 1) _=.ok (.int ((m:Int) - 1)) _ from rfl]
 simp only [aa,hr3,ae,aW]
 rw [run]
 simp only [aF,aT,aj,ah,ae,aI]
 rw [qW (by simp;omega),e2]
noncomputable def a9 (m:Nat) (ks:List (List Int)) (s:Int):List Int:=(rg m).filter (rB ks s)
noncomputable def gm (m:Nat) (ks:List (List Int)) (s:Int):Bool:=decide (qv (a9 m ks s)=s)
noncomputable def oN (m:Nat) (ks:List (List Int)):List Int:=(rg m).filter (gm m ks)
theorem DA {m:Nat}{f:Int->Option Nat}:iF 0 (dH m f)=(List.range m).map fun i=>.tup [.int (i:Nat),lh (f (i:Nat))]:=by
 apply Pc
 intro i
 rw [pq]
 unfold dH
 rw [MZ,MZ]
 by_cases hi:i<m
 ·rw [Pd hi]
  simp
 ·rw [Pe (by simpa using hi)]
  rfl
theorem yV {m:Nat}{ks:List (List Int)}{s:Int}{f:Int->Option Nat} (h:qi (mO ks) s (fun q=>0<=q/\q<(m:Int)) f):((List.range m).filter fun i=>(f (i:Nat)).isSome).map (fun i:Nat=>D.int (i:Nat))=(a9 m ks s).map D.int:=by
 unfold a9 rg
 rw [Qs,Oc]
 congr 1
 apply PM
 intro i hi
 have:=mC h (q:=(i:Int)) ⟨by omega,by have:=L4.mp hi;omega⟩
 show (f (i:Nat)).isSome=rB ks s (Int.ofNat i)
 rw [show Int.ofNat i=(i:Int) from rfl]
 cases e:f (i:Nat) with
 | none=>rw [e] at this;cases z:rB ks s (i:Int) with
  | false=>rfl
  | true=>rw [z] at this;cases this
 | some j=>rw [e] at this;cases z:rB ks s (i:Int) with
  | true=>rfl
  | false=>rw [z] at this;cases this
theorem ni {m:Nat}{ks:List (List Int)}{s:Int} (hs:0<=s/\s<(m:Int)):s∈a9 m ks s:=L1.mpr ⟨cT.mpr hs,jV.mpr tU.refl⟩
theorem lK {m:Nat}{ks:List (List Int)}{s:Int} (hs:0<=s/\s<(m:Int)):a9 m ks s≠[]:=fun e=>by have:=ni (ks:=ks) hs;rw [e] at this;cases this
theorem Az {μ:aG}{m:Nat}{ks:List (List Int)} (h:bu (.tup [.int m,.tup (ks.map ao)]) m ks):∃ s,iJ [.tup [.int m,.tup (ks.map ao)]] μ=.ok (.obj μ.length) (μ++.lst ((oN m ks).map fun s=>aU (a9 m ks s))::s):=by
 have hm6:m<=6:=by have:=h.2.2.1;omega
 have hm1:1<=m:=by have:=h.2.1;omega
 let W:D:=.tup [.int m,.tup (ks.map ao)]
 obtain ⟨ρ',μ',⟨dn,rs,s,o2,o3,o4,e1,e2,e3,e4⟩,run⟩:=dP (src:=.fix ((rg m).map D.int)) (g:=ai 2) (fb:=iA)
  (fun xs ρ M=>∃ (dn rs:List Int) (s:aG) (o2 o3 o4:Option D),rg m=dn++rs/\xs=rs.map D.int/\M=μ++.lst ((dn.filter (gm m ks)).map fun s=>aU (a9 m ks s))::s/\ρ=[some W,some (.obj μ.length),o2,o3,o4])
  (fun _ _ _=>trivial)
  (fun x xs ρ M hJJ => by
   obtain ⟨dn,rs,s,o2,o3,o4,e1,e2,e3,e4⟩:=hJJ
   subst e4
   cases rs with
   | nil=>cases e2
   | cons p rs=>
    rw [Nz] at e2
    injection e2 with h1 h2
    subst h1 h2
    have hp:=cT.mp (show p∈rg m by rw [e1];simp)
    obtain ⟨A,g,f,f1,f2,f3,f4⟩:=zI (μ:=M) h hp.1 hp.2
    have c:=dA (U:=Nat) (en:=fun i=>.tup [.int (i:Nat),lh (f (i:Nat))]) (src:=.eno A (dH m f)) (g:=fC 2 (bB (ai 0) (bB (ai 1) fD))) (t:=jX) (e:=j3) (μ1:=M++g) (q:=fun i=>(f (i:Nat)).isSome) (h:=fun i=>.int (i:Nat))
     (fun ρ=>∃ a b,ρ=[a,b]) (fun _=>aC f2) (us:=List.range m) (acc:=[]) (ρ:=[none,none]) ⟨_,_,rfl⟩
     (by rw [Of,Oe];exact L5 (by omega) bA)
     (fun i hi a ρ hJJ => by
      obtain ⟨x,y,e⟩:=hJJ
      subst e
      refine ⟨[some (.int (i:Nat)),some (lh (f (i:Nat)))],⟨_,_,rfl⟩,rfl,?_,fun _=>by unfold j3;rw [ah]⟩
      unfold jX
      simp only [bT,az,aj,ah,aR,aa,lJ,Nn,aQ,rN]
      cases f (i:Nat) <;> rfl)
    rw [NL,<- DA,yV f4] at c
    have dl:dn.length<1000:=by
     have:(rg m).length=m:=iN
     rw [e1,Nb] at this
     omega
    have run:iA [some W,some (.obj μ.length),some (.int p),o3,o4] M=.next [some W,some (.obj μ.length),some (.int p),some (.obj A),some (aU (a9 m ks p))] (if gm m ks p=true then μ++.lst (((dn++[p]).filter (gm m ks)).map fun s=>aU (a9 m ks s))::(s++(g++[.lst ((a9 m ks p).map D.int)])) else μ++.lst ((dn.filter (gm m ks)).map fun s=>aU (a9 m ks s))::(s++(g++[.lst ((a9 m ks p).map D.int)]))):=by
     unfold iA
     simp only [aM,aV,aD,aq,ay,aj,ah,aa]
     rw [f1]
     simp only [ae,bH,Qo,Qp,aF,aM,aV,aD,aq,ay,bP,bW,aj,ah,aa]
     rw [show pQ [.obj A] (M++g)=.ok (.eno A (dH m f)) (M++g) from by unfold pQ;dsimp only;rw [f2]]
     simp only [aa]
     rw [show (nA.eno A (dH m f)).items=iF 0 (dH m f) from rfl,show eE [none,none] _=[none,none] from rfl,c]
     simp only [aa]
     rw [jI ar]
     simp only [ae,bH,Qo,Qp,aF,bC,bT,az,aj,ah,aR,aa]
     rw [show bQ (.tup ((a9 m ks p).map D.int)) (.int 0) _=.ok (.int (qv (a9 m ks p))) _ from qE (lK hp)]
     simp only [aa,cv,NP,Nl,aQ,ae]
     rw [show (qv (a9 m ks p) == p)=gm m ks p from by unfold gm;apply Qg.mpr;rw [Qh,PF]]
     have st:M++g++[O.lst ((a9 m ks p).map D.int)]=μ++O.lst ((dn.filter (gm m ks)).map fun s=>aU (a9 m ks s))::(s++(g++[.lst ((a9 m ks p).map D.int)])):=by
      rw [e3];simp only [NG,Oh]
     rw [st]
     cases hf:gm m ks p with
     | false=>simp only [NP,Nl,bD]
     | true=>
      simp only [Nn,nU,zw,aj,ah,aa]
      rw [show Bo (.obj μ.length) (μ++O.lst ((dn.filter (gm m ks)).map fun s=>aU (a9 m ks s))::(s++(g++[.lst ((a9 m ks p).map D.int)])))=true from by unfold Bo;dsimp only;rw [ar]]
      simp only [Nn,aq,ay,aj,ah,aa]
      rw [show fj (.obj μ.length) [.tup ((a9 m ks p).map D.int)] (μ++O.lst ((dn.filter (gm m ks)).map fun s=>aU (a9 m ks s))::(s++(g++[.lst ((a9 m ks p).map D.int)])))=.ok .non (μ++O.lst ((dn.filter (gm m ks)).map (fun s=>aU (a9 m ks s))++[aU (a9 m ks p)])::(s++(g++[.lst ((a9 m ks p).map D.int)]))) from by
       unfold fj
       dsimp only
       rw [ar]
       dsimp only
       rw [LU,iH]
       rw [Nd]
       exact Nat.lt_of_le_of_lt (Qb _ _) (LY dl bA)]
      simp only [ae]
      rw [QC,PX,hf,LU rfl,QD,Ou]
      rfl
    refine ⟨trivial,_,M,_,_,rfl,run,dn++[p],rs,s++(g++[.lst ((a9 m ks p).map D.int)]),_,_,_,by rw [e1];simp,rfl,?_,rfl⟩
    cases hf:gm m ks p with
    | true=>rw [LU rfl]
    | false=>
     rw [LV Mu,QC,PX,hf,LV Mu,QD,MM])
  (xs:=(rg m).map D.int) (ρ:=[some W,some (.obj μ.length),none,none,none]) (μ:=μ++[O.lst []])
  ⟨[],rg m,[],none,none,none,rfl,rfl,rfl,rfl⟩
 have hr:rs=[]:=by cases rs with
  | nil=>rfl
  | cons=>cases e2
 subst hr e4
 rw [MM] at e1
 subst e1
 refine ⟨s,?_⟩
 unfold iJ
 rw [ji]
 have l0:([]:List D).length<=sizeLine:=NZ _
 have hr:∀ μ,eX [.int (m:Int)] μ=.ok (.fix ((rg m).map D.int)) μ:=fun μ=>by rw [dq (by omega) (by omega),rh]
 simp only [p5,List.replicate,aM,aV,cO,ay,aa,LU l0,ae,bH,Qo,Qp,aF,dO,bW,aq,az,ah,aR,bG,hr,aW]
 rw [run]
 simp only [aF,aT,aj,ah,ae,aI]
 rw [qW (by simp),e3]
 rfl
def iO (ks:List (List Int)) (w:List Int):Bool:=decide ((qZ ks w).length=w.length)
def oK (m:Nat):List Nat:=(List.range (m - 3)).map (·+4)
def sD (s:Nat):D:=.int (s:Int)
theorem qy {m s:Nat} (hm:m<=6) (h:s∈oK m):4<=s/\s<=6:=by
 obtain ⟨i,hi,rfl⟩:=Ol.mp h
 have:=L4.mp hi
 omega
theorem Cu {m s:Nat} (h1:4<=s) (h2:s<=m):s∈oK m:=Ol.mpr ⟨s - 4,L4.mpr (by omega),by omega⟩
theorem C3 {m:Nat}{μ:aG} (hm:m<=6):nC [.int 4,.int ((m:Int)+1)] μ=.ok (.fix ((oK m).map sD)) μ:=by
 rw [nT (by omega) (by omega) (by omega) (by omega)]
 congr 2
 unfold bJ oK
 rw [Oc,show ((m:Int)+1 - 4).toNat=m - 3 from by omega]
 apply Od
 intro i _
 show D.int _=D.int _
 congr 1
 simp
 omega
def qP (m:Nat) (ks:List (List Int)) (l:List Nat):Option (List Int):=(l.flatMap (fx m ks)).find? (iO ks)
theorem uL {M:aG}{m t:Nat}{ks:List (List Int)} (h:bu (.tup [.int m,.tup (ks.map ao)]) m ks) {rs:List (List Int)} (hs:M[t]?=some (.lst (rs.map aU))) {o1 o2:Option D}:∀ (l:List (List Int)) (o3:Option D),
  (match l.find? (iO ks) with
   | some w=>d9 (.own t (rs.map aU)) (ai 3) dS (l.map aU) [some (.tup [.int m,.tup (ks.map ao)]),o1,o2,o3] M=.ret (.tup [.str "ring",aU w]) M
   | none=>∃ o3',d9 (.own t (rs.map aU)) (ai 3) dS (l.map aU) [some (.tup [.int m,.tup (ks.map ao)]),o1,o2,o3] M=.next [some (.tup [.int m,.tup (ks.map ao)]),o1,o2,o3'] M)
 | [],o3=>⟨o3,by rw [Ny];unfold d9;rw [LU (show cY (.own t (rs.map aU)) M from hs)]⟩
 | w::l,o3=>by
  have l2':([.str "ring",aU w]:List D).length<=sizeLine:=L5 (by simp) bA
  have body:dS [some (.tup [.int m,.tup (ks.map ao)]),o1,o2,some (aU w)] M=if iO ks w=true then .ret (.tup [.str "ring",aU w]) M else .next [some (.tup [.int m,.tup (ks.map ao)]),o1,o2,some (aU w)] M:=by
   unfold dS
   simp only [bC,iP,aD,aq,ay,aj,ah,aa]
   rw [show gu [.tup [.int m,.tup (ks.map ao)],aU w] M=.ok (.bl (iO ks w)) M from t8 h]
   simp only [aa,eY,ae]
   cases iO ks w with
   | true=>simp only [Nn,aT,bO,aq,ay,aR,aj,ah,aa,LU l2',ae]
   | false=>simp only [NP,Nl,bD]
  have step:d9 (.own t (rs.map aU)) (ai 3) dS ((w::l).map aU) [some (.tup [.int m,.tup (ks.map ao)]),o1,o2,o3] M=if iO ks w=true then .ret (.tup [.str "ring",aU w]) M else d9 (.own t (rs.map aU)) (ai 3) dS (l.map aU) [some (.tup [.int m,.tup (ks.map ao)]),o1,o2,some (aU w)] M:=by
   rw [Nz]
   conv=>lhs;unfold d9
   rw [LU (show cY (.own t (rs.map aU)) M from hs),bH]
   simp only [ae,Qo,Qp]
   rw [body]
   cases iO ks w <;> rfl
  rw [List.find?_cons,step]
  cases hb:iO ks w with
  | true=>simp only [Nn]
  | false=>
   simp only [NP,Nl]
   exact uL h hs l _
theorem uK {μ:aG}{m:Nat}{ks:List (List Int)} (h:bu (.tup [.int m,.tup (ks.map ao)]) m ks) {src:nA} (hs:∀ M,cY src M) {o1:Option D}:∀ (l:List Nat) (g:aG) (o2 o3:Option D),(∀ s∈l,4<=s/\s<=6) ->
  (match qP m ks l with
   | some w=>∃ g',d9 src (ai 2) eO (l.map sD) [some (.tup [.int m,.tup (ks.map ao)]),o1,o2,o3] (μ++g)=.ret (.tup [.str "ring",aU w]) (μ++g')
   | none=>∃ o2' o3' g',d9 src (ai 2) eO (l.map sD) [some (.tup [.int m,.tup (ks.map ao)]),o1,o2,o3] (μ++g)=.next [some (.tup [.int m,.tup (ks.map ao)]),o1,o2',o3'] (μ++g'))
 | [],g,o2,o3,_=>⟨o2,o3,g,by rw [Ny];unfold d9;rw [LU (hs _)]⟩
 | s::l,g,o2,o3,hl=>by
  have hs2:=hl s Ma
  obtain ⟨t,g1,e1,e2,e3⟩:=CG (μ:=μ++g) h (show 2<=s by omega) hs2.2
  rw [NG] at e1 e2
  have bi:=uL (M:=μ++(g++g1)) h e2 (o1:=o1) (o2:=some (sD s)) (fx m ks s) o3
  have ex:eO [some (.tup [.int m,.tup (ks.map ao)]),o1,some (sD s),o3] (μ++g)=d9 (.own t ((fx m ks s).map aU)) (ai 3) dS ((fx m ks s).map aU) [some (.tup [.int m,.tup (ks.map ao)]),o1,some (sD s),o3] (μ++(g++g1)):=by
   unfold eO sD
   simp only [dO,bY,aD,aq,ay,aj,ah,aa,e1]
   rw [dm e2]
   simp only [ae,b8]
  have fe:qP m ks (s::l)=((fx m ks s).find? (iO ks)).or (qP m ks l):=by
   unfold qP
   rw [Qc,OC]
  rw [fe]
  have unf:d9 src (ai 2) eO ((s::l).map sD) [some (.tup [.int m,.tup (ks.map ao)]),o1,o2,o3] (μ++g)=(d9 (.own t ((fx m ks s).map aU)) (ai 3) dS ((fx m ks s).map aU) [some (.tup [.int m,.tup (ks.map ao)]),o1,some (sD s),o3] (μ++(g++g1))).loop (d9 src (ai 2) eO (l.map sD)):=by
   rw [Nz]
   conv=>lhs;unfold d9
   rw [LU (hs _),bH]
   simp only [ae,Qo,Qp]
   rw [ex]
  rw [unf]
  cases ef:(fx m ks s).find? (iO ks) with
  | some w=>
   rw [ef] at bi
   simp only [Option.some_or]
   exact ⟨g++g1,by rw [bi];rfl⟩
  | none=>
   rw [ef] at bi
   simp only [Option.none_or]
   obtain ⟨o3',bi⟩:=bi
   rw [bi]
   exact uK h hs l (g++g1) _ _ fun s hs'=>hl s (Mb _ hs')
noncomputable def lj (m:Nat) (ks:List (List Int)):D:=match oN m ks with
 | a::b::_=>.tup [.str "apart",.int a,.int b]
 | _=>match qP m ks (oK m) with
  | some w=>.tup [.str "ring",aU w]
  | none=>.non
theorem wR {μ:aG}{m:Nat}{ks:List (List Int)} (h:bu (.tup [.int m,.tup (ks.map ao)]) m ks):jn [.tup [.int m,.tup (ks.map ao)]] μ=.ok (lj m ks) μ:=by
 have hm6:m<=6:=by have:=h.2.2.1;omega
 obtain ⟨s,e⟩:=Az (μ:=μ) h
 have hfst:∀ a∈oN m ks,(0<=a/\a<(m:Int))/\qv (a9 m ks a)=a:=fun a ha=>by
  have:=L1.mp ha
  exact ⟨cT.mp this.1,QA this.2⟩
 unfold jn
 rw [ji]
 simp only [xO,List.replicate,aM,aV,aD,aq,ay,ah,aa,e,ae,bH,Qo,Qp,aF,bC,bT,az,aj,aR]
 rw [vt ar]
 simp only [aa,Nd,dr,aQ,ae]
 unfold lj
 have tail:∀ (g:aG),∃ g',(aZ (iU (eD nC (af (cC (.int 4)) (af (au bq (au bQ (ag 0) (cC (.int 0))) (cC (.int 1))) (av)))) (ai 2) eO) (bX (cC .non))) [some (.tup [.int m,.tup (ks.map ao)]),some (.obj μ.length),none,none] (μ++g)=.ret (match qP m ks (oK m) with | some w=>.tup [.str "ring",aU w] | none=>.non) (μ++g'):=by
  intro g
  have bo:=uK (μ:=μ) h (src:=.fix ((oK m).map sD)) (fun _=>trivial) (o1:=some (.obj μ.length)) (oK m) g none none (fun s hs=>qy hm6 hs)
  simp only [aM,dO,bW,aq,ay,az,ah,aR,aa,bG,fR,C3 hm6,ae,aW]
  cases ef:qP m ks (oK m) with
  | some w=>
   rw [ef] at bo
   obtain ⟨g',bo⟩:=bo
   exact ⟨g',by rw [bo,cB]⟩
  | none=>
   rw [ef] at bo
   obtain ⟨o2',o3',g',bo⟩:=bo
   exact ⟨g',by rw [bo];simp only [aF,aT,aR,ae]⟩
 have lw:(match qP m ks (oK m) with | some w=>D.tup [.str "ring",aU w] | none=>.non).low μ.length:=by
  split
  ·simp only [qB];exact fH.mpr fun x hx=>by simp only [Mc,N8,N9] at hx;rcases hx with rfl|rfl;simp;exact Iu
  ·simp
 match hf:oN m ks,hfst with
 | [],_=>
  rw [show cW .Gt ((([]:List Int).length:Nat):Int) 1=false from rfl]
  simp only [NP,Nl,bD,aF]
  obtain ⟨g',tl⟩:=tail (.lst (([]:List Int).map fun s=>aU (a9 m ks s))::s)
  rw [show (aZ _ _) _ (μ++_)=_ from tl,aI]
  exact fW lw
 | [a],_=>
  rw [show cW .Gt ((([a]:List Int).length:Nat):Int) 1=false from rfl]
  simp only [NP,Nl,bD,aF]
  obtain ⟨g',tl⟩:=tail (.lst (([a]:List Int).map fun s=>aU (a9 m ks s))::s)
  rw [show (aZ _ _) _ (μ++_)=_ from tl,aI]
  exact fW lw
 | a::b::r,hfst=>
  obtain ⟨ha,ea⟩:=hfst a (by simp)
  obtain ⟨hb,eb⟩:=hfst b (by simp)
  rw [show cW .Gt (((a::b::r:List Int).length:Nat):Int) 1=true from by
   show decide ((((a::b::r:List Int).length:Nat):Int) > 1)=true
   exact NM (by rw [NQ,NQ];omega)]
  have l3':([.str "apart",.int a,.int b]:List D).length<=sizeLine:=L5 (by simp) bA
  simp only [Nn,aT,bO,aq,ay,aR,az,aj,ah,aa]
  rw [cU ar (show atI ((a::b::r).map fun s=>aU (a9 m ks s)) 0=some (aU (a9 m ks a)) from wG)]
  simp only [aa]
  rw [show bQ (aU (a9 m ks a)) (.int 0) _=.ok (.int a) _ from by rw [qE (lK ha),ea]]
  simp only [aa]
  rw [cU ar (show atI ((a::b::r).map fun s=>aU (a9 m ks s)) 1=some (aU (a9 m ks b)) from zA)]
  simp only [aa]
  rw [show bQ (aU (a9 m ks b)) (.int 0) _=.ok (.int b) _ from by rw [qE (lK hb),eb]]
  simp only [aa,LU l3',ae,cB,aI]
  exact fW (by simp only [qB];exact fH.mpr fun x hx=>by simp only [Mc,N8,N9] at hx;rcases hx with rfl|rfl|rfl <;> simp)
theorem yH {m k:Nat}{ks:List (List Int)}{w:List Int} (hw:w∈cg m ks k):w.all (fun p=>decide (0<=p/\p<(m:Int)))=true:=OK.mpr fun p hp=>NM ((cZ hw).rng p hp)
theorem uc {m s:Nat}{ks:List (List Int)}{w:List Int} (h:bu (.tup [.int m,.tup (ks.map ao)]) m ks) (hs:4<=s) (hw:w∈fx m ks s) (hb:iO ks w=true):(w.all (fun p=>decide (0<=p/\p<(m:Int))) && (decide w.Nodup && iG ks w))=true/\w∈cg m ks (s - 1):=by
 obtain ⟨h1,h2⟩:=L1.mp hw
 have hl:=(cZ h1).len
 refine ⟨?_,h1⟩
 rw [<- vx h]
 have hr:ly m ks w=true:=by
  rw [<- xr (show 3<=w.length by omega),Nw,PF,PF]
  refine ⟨?_,by rw [hl,show s - 1+1=s from by omega];exact hw⟩
  have:=(cZ h1).nd.length_le_of_subset (show w ⊆ rg m from fun p hp=>cT.mpr ((cZ h1).rng p hp))
  rw [iN] at this
  exact this
 rw [hr,NM (show 4<=w.length by omega),Qw,Qw]
 exact hb
theorem Bm {m k:Nat}{ks:List (List Int)}{w:List Int} (h:bu (.tup [.int m,.tup (ks.map ao)]) m ks) (hw:w∈cg m ks k) (hb:iG ks w=true):∃ s,s∈oK m/\w∈fx m ks s/\iO ks w=true:=by
 have hW:=cZ hw
 have e:=vx (w:=w) h
 rw [yH hw,NM hW.nd,hb,Qw,Qw,Nw,Nw,PF] at e
 have l6:=hW.nd.length_le_of_subset (show w ⊆ rg m from fun p hp=>cT.mpr (hW.rng p hp))
 rw [iN] at l6
 have hr:=e.1
 rw [<- xr (show 3<=w.length by omega),Nw,PF,PF] at hr
 exact ⟨w.length,Cu e.2.1 l6,hr.2,e.2.2⟩
theorem A2 {m:Nat}{ks:List (List Int)} (h:bu (.tup [.int m,.tup (ks.map ao)]) m ks):(qP m ks (oK m)).isNone=(b9 m ks (m - 1)).isEmpty:=by
 have hm6:m<=6:=by have:=h.2.2.1;omega
 apply Qg.mpr
 rw [Option.isNone_iff_eq_none,List.isEmpty_iff]
 unfold qP
 rw [List.find?_eq_none]
 constructor
 ·intro z
  apply List.eq_nil_iff_forall_not_mem.mpr
  intro w hw
  obtain ⟨t,ht,h2⟩:=Qa.mp hw
  obtain ⟨h3,h4⟩:=L1.mp h2
  obtain ⟨s,s1,s2,s3⟩:=Bm h h3 h4
  exact z w (Qa.mpr ⟨s,s1,s2⟩) s3
 ·intro z w hw hb
  obtain ⟨s,s1,s2⟩:=Qa.mp hw
  have hs:=qy hm6 s1
  obtain ⟨r1,r2⟩:=uc h hs.1 s2 hb
  rw [Nw,Nw] at r1
  have l6:=(cZ r2).nd.length_le_of_subset (show w ⊆ rg m from fun p hp=>cT.mpr ((cZ r2).rng p hp))
  rw [iN,(cZ r2).len] at l6
  have:w∈b9 m ks (m - 1):=Qa.mpr ⟨s - 2,L4.mpr (by omega),L1.mpr ⟨by rw [show s - 2+1=s - 1 from by omega];exact r2,r1.2.2⟩⟩
  rw [z] at this
  cases this
theorem lO {m:Nat}{f:Int->Bool}{q:Int} (hq:q∈(rg m).filter f):qv ((rg m).filter f)<=q:=by
 have up:((rg m).filter f).Pairwise (·<·):=zt.filter _
 cases e:(rg m).filter f with
 | nil=>rw [e] at hq;cases hq
 | cons a r=>
  rw [e] at hq up
  show a<=q
  rcases Mc.mp hq with rfl | z
  ·exact PR _
  ·exact Int.le_of_lt ((Ot.mp up).1 q z)
noncomputable def lD (m:Nat) (ks:List (List Int)):Bool:=(rg m).all (rB ks 0)
theorem xy {m:Nat}{ks:List (List Int)} (hm:1<=m):∃ r,oN m ks=0::r:=by
 have h0:(0:Int)<=0/\(0:Int)<(m:Int):=⟨PR _,by omega⟩
 have hf:gm m ks 0=true:=by
  unfold gm
  refine NM ?_
  have h1:=lO (m:=m) (f:=rB ks 0) (ni (ks:=ks) h0)
  have h2:0<=qv (a9 m ks 0):=(cT.mp (L1.mp (qF (lK (ks:=ks) h0))).1).1
  have h1':qv (a9 m ks 0)<=0:=h1
  omega
 have:rg m=0::((List.range (m - 1)).map fun i=>Int.ofNat (i+1)):=by
  unfold rg
  obtain ⟨n,rfl⟩:∃ n,m=n+1:=⟨m - 1,by omega⟩
  rw [Ob,Nz,Oc]
  rfl
 unfold oN
 rw [this,PX,hf,LU rfl]
 exact ⟨_,rfl⟩
theorem FK {m:Nat}{ks:List (List Int)} (h:bu (.tup [.int m,.tup (ks.map ao)]) m ks):(∃ b r,oN m ks=0::b::r)↔lD m ks=false:=by
 have hm:1<=m:=by have:=h.2.1;omega
 have hk:=h.2.2.2.2
 obtain ⟨r,er⟩:=xy (ks:=ks) hm
 have up:(oN m ks).Pairwise (·<·):=zt.filter _
 constructor
 ·rintro ⟨b, r', e⟩
  have hb:b∈oN m ks:=by rw [e];simp
  obtain ⟨b1,b2⟩:=L1.mp hb
  have hb0:0<b:=by
   rw [e] at up
   exact (Ot.mp up).1 b (by simp)
  apply QB.mpr
  intro z
  have rb:=OK.mp z b b1
  have:=vB hk (jV.mp rb)
  have hm0:(0:Int)∈a9 m ks b:=L1.mpr ⟨cT.mpr ⟨PR _,by omega⟩,jV.mpr this⟩
  have h1:qv (a9 m ks b)<=0:=lO hm0
  have h2:qv (a9 m ks b)=b:=QA b2
  omega
 ·intro z
  have hex:((rg m).filter fun q=>!rB ks 0 q)≠[]:=fun e=>by
   have:lD m ks=true:=OK.mpr fun q hq=>by
    cases c:rB ks 0 q with
    | true=>rfl
    | false=>
     have:q∈(rg m).filter fun q=>!rB ks 0 q:=L1.mpr ⟨hq,by rw [c];rfl⟩
     rw [e] at this;cases this
   rw [this] at z;cases z
  generalize hs:qv ((rg m).filter fun q=>!rB ks 0 q)=s
  have sm:=qF hex
  rw [hs] at sm
  obtain ⟨s1,s2⟩:=L1.mp sm
  have sr:=cT.mp s1
  have ns:¬ tU ks 0 s:=fun c=>by rw [jV.mpr c] at s2;cases s2
  have sf:gm m ks s=true:=by
   refine NM ?_
   have pm:=qF (lK (ks:=ks) sr)
   obtain ⟨p1,p2⟩:=L1.mp pm
   have le:qv (a9 m ks s)<=s:=lO (ni (ks:=ks) sr)
   have np:¬ tU ks 0 (qv (a9 m ks s)):=fun c=>ns (c.trans (vB hk (jV.mp p2)))
   have ge:s<=qv (a9 m ks s):=by
    have hq:qv (a9 m ks s)∈(rg m).filter fun q=>!rB ks 0 q:=L1.mpr ⟨p1,by
     cases c:rB ks 0 (qv (a9 m ks s)) with
     | false=>rfl
     | true=>exact absurd (jV.mp c) np⟩
    have:=lO hq
    rw [hs] at this
    exact this
   omega
  have smem:s∈oN m ks:=L1.mpr ⟨s1,sf⟩
  rw [er] at smem
  rcases Mc.mp smem with c | c
  ·subst c;exact absurd tU.refl ns
  ·cases r with
   | nil=>cases c
   | cons b r=>exact ⟨b,r,er⟩
theorem FW {m:Nat}{ks:List (List Int)} (h:bu (.tup [.int m,.tup (ks.map ao)]) m ks):(lj m ks).isNon=((b9 m ks (m - 1)).isEmpty && lD m ks):=by
 have hm:1<=m:=by have:=h.2.1;omega
 obtain ⟨r,er⟩:=xy (ks:=ks) hm
 have f1:=FK h
 unfold lj
 cases r with
 | cons b r=>
  rw [er,f1.mp ⟨b,r,er⟩,OV]
  rfl
 | nil=>
  have wt:lD m ks=true:=by
   cases c:lD m ks with
   | true=>rfl
   | false=>
    obtain ⟨b,r,e⟩:=f1.mpr c
    rw [er] at e;cases e
  rw [er,wt,Qf,<- A2 h]
  cases qP m ks (oK m) <;> rfl
theorem yj {m:Nat}{ks:List (List Int)} (h:bu (.tup [.int m,.tup (ks.map ao)]) m ks) (hn:(lj m ks).isNon=false):jg m ks (lj m ks)=true:=by
 have hm6:m<=6:=by have:=h.2.2.1;omega
 have hk:=h.2.2.2.2
 have up:(oN m ks).Pairwise (·<·):=zt.filter _
 unfold lj at hn ⊢
 split at hn
 ·rename_i a b r e
  rw [e] at up
  have ab:=(Ot.mp up).1 b (by simp)
  have am:=L1.mp (show a∈(rg m).filter (gm m ks) from by rw [show (rg m).filter (gm m ks)=oN m ks from rfl,e];simp)
  have bm:=L1.mp (show b∈(rg m).filter (gm m ks) from by rw [show (rg m).filter (gm m ks)=oN m ks from rfl,e];simp)
  have nr:rB ks a b=false:=by
   apply QB.mpr
   intro z
   have:=vB hk (jV.mp z)
   have hm0:a∈a9 m ks b:=L1.mpr ⟨am.1,jV.mpr this⟩
   have h1:qv (a9 m ks b)<=a:=lO hm0
   have h2:qv (a9 m ks b)=b:=QA bm.2
   omega
  show (nz "apart" (.str "apart") && (j7 m (.int a) && (j7 m (.int b) && !rB ks a b)))=true
  rw [nr,show j7 m (.int a)=true from NM (cT.mp am.1),show j7 m (.int b)=true from NM (cT.mp bm.1),show nz "apart" (.str "apart")=true from by unfold nz;exact NM rfl]
  rfl
 ·split at hn
  ·rename_i w e
   have wm:=List.mem_of_find?_eq_some e
   have wb:=List.find?_some e
   obtain ⟨s,s1,s2⟩:=Qa.mp wm
   obtain ⟨r1,_⟩:=uc h (qy hm6 s1).1 s2 wb
   show (nz "ring" (.str "ring") && ll m ks (aU w))=true
   rw [kl,r1,show nz "ring" (.str "ring")=true from by unfold nz;exact NM rfl]
   rfl
  ·cases hn
def Jb (d:D):Prop:=∀ n,d≠.obj n
theorem Ip {μ:aG}{d:D} (h:Jb d):qL μ d:=by
 cases d with
 | obj n=>exact absurd rfl (h n)
 | _=>exact nofun
def Tu (n:Nat) (xs:List D):Prop:=(∀ x∈xs,Jb x)/\xs.length<=n
theorem nX {β:Type}{xs:List β}{lo hi:Option Int}:(∀ x∈fV xs lo hi,x∈xs)/\(fV xs lo hi).length<=xs.length:=by
 unfold fV
 refine ⟨fun x hx=>OB (OA hx),?_⟩
 rw [MV,Nq]
 omega
theorem Tu.cut {n:Nat}{xs:List D}{lo hi:Option Int} (h:Tu n xs):Tu n (fV xs lo hi):=⟨fun x hx=>h.1 x (nX.1 x hx),L5 nX.2 h.2⟩
theorem Tu.app {n k:Nat}{xs ys:List D} (h:Tu n xs) (g:Tu k ys):Tu (n+k) (xs++ys):=⟨fun x hx=>by rcases Me.mp hx with z | z;exact h.1 x z;exact g.1 x z,by rw [Nb];have:=h.2;have:=g.2;omega⟩
theorem Tu.one {x:D} (h:Jb x):Tu 1 [x]:=⟨fun y hy=>by simp at hy;subst hy;exact h,MD _⟩
theorem Tu.ints {w:List Int}{n:Nat} (h:w.length<=n):Tu n (w.map D.int):=⟨fun x hx=>by obtain ⟨i,_,rfl⟩:=Ol.mp hx;exact nofun,by rw [Nd];exact h⟩
theorem kF {μ:aG}{n k:Nat}{xs ys:List D} (h:Tu n xs) (g:Tu k ys) (hn:n+k<=1000):bq (.tup xs) (.tup ys) μ=.ok (.tup (xs++ys)) μ:=by
 unfold bq
 dsimp only
 rw [LU]
 have:=h.2;have:=g.2
 exact L5 (by omega) bA
theorem qH {xs:List D}{r:Int} (h0:0<=r) (h1:r<xs.length):∃ d,atI xs r=some d/\d∈xs:=by
 have:r.toNat<xs.length:=by omega
 exact ⟨xs[r.toNat],kE h0 (Pp this),Po this⟩
theorem sY {n:Nat}{xs:List D} (h:xs.length=n) (hn:n<=1000:=by decide):xs.length<=sizeLine:=by rw [h];exact L5 hn bA
def El (L:Nat->Prop) (x:D):Prop:=(∀ n,x=.obj n->L n)/\∀ ys,x=.tup ys->(∀ y∈ys,Jb y)/\ys.length<=1000
def Bt (L:Nat->Prop) (d:D):Prop:=(∀ n,d=.obj n->L n)/\∀ xs,d=.tup xs->(∀ x∈xs,El L x)/\xs.length<=1000/\∀ x,xs.head?=some x->Hd x
theorem El.tup {L:Nat->Prop}{n:Nat}{xs:List D} (h:Tu n xs) (hn:n<=1000):El L (.tup xs):=⟨nofun,fun ys e=>by cases e;exact ⟨h.1,L5 h.2 hn⟩⟩
theorem El.obj {L:Nat->Prop}{t:Nat} (h:L t):El L (.obj t):=⟨fun n e=>by cases e;exact h,nofun⟩
theorem Bt.obj {L:Nat->Prop}{t:Nat} (h:L t):Bt L (.obj t):=⟨fun n e=>by cases e;exact h,nofun⟩
theorem Bt.one {L:Nat->Prop}{x:D} (hx:Hd x) (e0:El L x):Bt L (.tup [x]):=⟨nofun,fun ys e=>by cases e;exact ⟨fun y hy=>by simp at hy;subst hy;exact e0,by simp,fun y hy=>by cases hy;exact hx⟩⟩
theorem Bt.two {L:Nat->Prop}{x y:D} (hx:Hd x) (e0:El L x) (e1:El L y):Bt L (.tup [x,y]):=⟨nofun,fun ys e=>by cases e;exact ⟨fun z hz=>by simp at hz;rcases hz with rfl|rfl;exact e0;exact e1,by simp,fun y hy=>by cases hy;exact hx⟩⟩
theorem ke {L:Nat->Prop}{x y z:D} (hx:Hd x) (e0:El L x) (e1:El L y) (e2:El L z):Bt L (.tup [x,y,z]):=⟨nofun,fun ys e=>by cases e;exact ⟨fun u hu=>by simp at hu;rcases hu with rfl|rfl|rfl;exact e0;exact e1;exact e2,by simp,fun y hy=>by cases hy;exact hx⟩⟩
theorem El.ok {μ:aG}{x:D}{L:Nat->Prop} (h:El L x) (hL:∀ n,L n->∃ xs,μ[n]?=some (.lst xs)):zB μ x:=by
 refine ⟨?_,fun ys e=>⟨fun y hy=>Ip ((h.2 ys e).1 y hy),(h.2 ys e).2⟩⟩
 cases x with
 | obj n=>
  obtain ⟨xs,e⟩:=hL n (h.1 n rfl)
  unfold qL DM;simp [e]
 | _=>exact nofun
theorem Bt.ok {μ:aG}{x:D}{L:Nat->Prop} (h:Bt L x) (hL:∀ n,L n->∃ xs,μ[n]?=some (.lst xs)):wg μ x:=by
 refine ⟨?_,fun ys e=>⟨fun y hy=>((h.2 ys e).1 y hy).ok hL,(h.2 ys e).2⟩⟩
 cases x with
 | obj n=>
  obtain ⟨xs,e⟩:=hL n (h.1 n rfl)
  unfold qL DM;simp [e]
 | _=>exact nofun
theorem El.mono {x:D}{L L':Nat->Prop} (h:El L x) (hL:∀ n,L n->L' n):El L' x:=⟨fun n e=>hL n (h.1 n e),h.2⟩
theorem Bt.mono {x:D}{L L':Nat->Prop} (h:Bt L x) (hL:∀ n,L n->L' n):Bt L' x:=⟨fun n e=>hL n (h.1 n e),fun xs e=>⟨fun y hy=>((h.2 xs e).1 y hy).mono hL,(h.2 xs e).2⟩⟩
theorem xl {n:Nat}:∀ {xs:List D},D.lows n xs->∀ {k:Nat},D.obj k∈xs->k<n
 | [],_,_,h=>by cases h
 | x::xs,h,k,hk=>by
  simp only [D.lows] at h
  rcases Mc.mp hk with e | e
  ·subst e;simpa [D.low] using h.1
  ·exact xl h.2 e
theorem Bt.low {x:D}{L:Nat->Prop}{k:Nat} (h:Bt L x) (hL:∀ n,L n->k<=n) (lo:x.low k):Bt (fun _=>False) x:=by
 refine ⟨fun n e=>?_,fun xs e=>⟨fun y hy=>⟨fun n e'=>?_,((h.2 xs e).1 y hy).2⟩,(h.2 xs e).2⟩⟩
 ·have := hL n (h.1 n e)
  subst e
  have:n<k:=by simpa [D.low] using lo
  omega
 ·have h1 := hL n (((h.2 xs e).1 y hy).1 n e')
  subst e e'
  have:n<k:=xl (by simpa [D.low] using lo) hy
  omega
theorem kA {s:Str} (h:dJ (.str s)=true):Hd (.str s):=.inl ⟨s,rfl,h⟩
def Ga (d:D):Prop:=(∃ w:List Int,d=.tup [.str "ring",aU w]/\w.length<=6)\/∃ x y:Int,d=.tup [.str "apart",.int x,.int y]
theorem Ga.bt {d:D}{L:Nat->Prop} (h:Ga d):Bt L d:=by
 rcases h with ⟨w,rfl,hw⟩ | ⟨x,y,rfl⟩
 ·exact Bt.two (kA jl) ⟨nofun,nofun⟩ (El.tup (Tu.ints hw) (by decide))
 ·exact ke (kA ki) ⟨nofun,nofun⟩ ⟨nofun,nofun⟩ ⟨nofun,nofun⟩
def L8:List D:=[.int 0,.int 1,.int 6,.int (-1),.bl true,.non,.str "0",.tup [.int 0]]
def L6:List D:=[.str "ring",.str "apart",.str "rings",.str "",.int 0,.non]
theorem rk {x:D} (h:x∈L8):Jb x/\∀ L,El L x:=by
 simp only [L8,Mc,N8,N9] at h
 rcases h with rfl|rfl|rfl|rfl|rfl|rfl|rfl|rfl
 rotate_right
 ·exact ⟨nofun,fun _=>El.tup (n:=1) (Tu.one nofun) (by decide)⟩
 all_goals exact ⟨nofun,fun _=>⟨nofun,nofun⟩⟩
theorem nP {x:D} (h:x∈L6):Jb x/\Hd x/\∀ L,El L x:=by
 simp only [L6,Mc,N8,N9] at h
 rcases h with rfl|rfl|rfl|rfl|rfl|rfl
 all_goals refine ⟨nofun,?_,fun _=>⟨nofun,nofun⟩⟩
 ·exact kA (by decide +kernel)
 ·exact kA (by decide +kernel)
 ·exact kA (by decide +kernel)
 ·exact kA (by decide +kernel)
 ·exact .inr (.inl ⟨0,rfl⟩)
 ·exact .inr (.inr rfl)
def Ls (μ:aG) (n:Nat) (t:Nat):Prop:=n<=t/\∃ xs,μ[t]?=some (.lst xs)
theorem xI {μ M:aG}{i:Nat}{d:D} (P:Pn μ i M) (hB:Bt (Ls M μ.length) d):∃ a' b' c' g,qw μ (.ok d M)=.ok d (μ.set i (aL a' b' c')++g)/\Bt (Ls (μ.set i (aL a' b' c')++g) μ.length) d:=by
 obtain ⟨a',b',c',g',hP⟩:=P
 have hl:(μ.set i (aL a' b' c')).length=μ.length:=NB
 rcases Ck (μ:=μ) (d:=d) (μ':=M) with e | ⟨e,lo⟩
 ·exact ⟨a',b',c',g',by rw [e,hP],by rw [<- hP];exact hB⟩
 ·exact ⟨a',b',c',[],by rw [e,hP,MM,PV (by rw [hl];exact MD _),<- hl,O7],(hB.low (fun n h=>h.1) lo).mono nofun⟩
theorem rY {μ:aG}{a b:Nat}{xs ys:List D} (h:μ[a]?=some (.lst xs)) (g:μ[b]?=some (.lst ys)) (hn:xs.length+ys.length<=1000):bq (.obj a) (.obj b) μ=.ok (.obj μ.length) (μ++[.lst (xs++ys)]):=mq h g (by omega)
theorem xH {μ:aG}{i:Nat}{a b c:Int} (hp:μ[i]?=some (aL a b c)) {bar:D}:∃ odd word M,odd∈L8/\word∈L6/\Pn μ i M /\
  ∀ S:MS,qc=aZ (bp (au bQ (eF (af (cC (.int 0)) (af (cC (.int 1)) (af (cC (.int 6)) (af (sW tf (cC (.int 1))) (af (cC (.bl true)) (af (cC .non) (af (cC (.str "0")) (af (bN (af (cC (.int 0)) (av))) (av)))))))))) (aA aJ (af (ag 1) (af (cC (.int 8)) (av))))) (ai 2))
 (aZ (bp (au bQ (eF (af (cC (.str "ring")) (af (cC (.str "apart")) (af (cC (.str "rings")) (af (cC (.str "")) (af (cC (.int 0)) (af (cC .non) (av)))))))) (aA aJ (af (ag 1) (af (cC (.int 6)) (av))))) (ai 3)) S) ->
   cJ [bar,.obj i] μ=qw μ (S [some bar,some (.obj i),some odd,some word,none,none,none] M).out:=by
 have hi:i<μ.length:=(Mg.mp hp).1
 have P0:Pn μ i μ:=Pn.self hp
 obtain ⟨v,a3,b3,c3,v0,v1,ev,P3⟩:=(P0.app (g:=[O.lst L8])).draw (m:=8) hi (by decide) (by decide)
 generalize hM3:(μ++[O.lst L8]).set i (aL a3 b3 c3)=M3 at ev P3
 have g7:M3[μ.length]?=some (.lst L8):=by
  rw [<- hM3]
  exact bL ar (by omega)
 obtain ⟨odd,eo,ho⟩:=qH (xs:=L8) v0 (by simpa [L8] using v1)
 obtain ⟨u,a4,b4,c4,u0,u1,eu,P4⟩:=(P3.app (g:=[O.lst L6])).draw (m:=6) hi (by decide) (by decide)
 generalize hM4:(M3++[O.lst L6]).set i (aL a4 b4 c4)=M4 at eu P4
 have g8:M4[M3.length]?=some (.lst L6):=by
  rw [<- hM4]
  exact bL ar (by have:=P3.len;omega)
 obtain ⟨word,ew,hw⟩:=qH (xs:=L6) u0 (by simpa [L6] using u1)
 refine ⟨odd,word,M4,ho,hw,P4,fun S hS=>?_⟩
 have n8:L8.length<=sizeLine:=sY (n:=8) rfl
 have n6:L6.length<=sizeLine:=sY (n:=6) rfl
 have n1:([.int 0]:List D).length<=sizeLine:=sY (n:=1) rfl
 unfold cJ
 rw [cV,hS]
 simp only [List.replicate,aM,aV,aD,aq,ay,ah,aj,aR,az,aa,cO,jF,uZ,bO,LU n1]
 rw [LU (show ([.int 0,.int 1,.int 6,.int (-1),.bl true,.non,.str "0",.tup [.int 0]]:List D).length<=sizeLine from n8)]
 simp only [aa]
 rw [show aJ [.obj i,.int 8] (μ++[O.lst [.int 0,.int 1,.int 6,.int (-1),.bl true,.non,.str "0",.tup [.int 0]]])=_ from ev]
 simp only [aa]
 rw [cU g7 eo]
 simp only [ae,bH,Qo,Qp,aF,aM,aV,aD,aq,ay,ah,aj,aR,az,aa,cO]
 rw [LU (show ([.str "ring",.str "apart",.str "rings",.str "",.int 0,.non]:List D).length<=sizeLine from n6)]
 simp only [aa,ah,aj]
 rw [show aJ [.obj i,.int 6] (M3++[O.lst [.str "ring",.str "apart",.str "rings",.str "",.int 0,.non]])=_ from eu]
 simp only [aa]
 rw [cU g8 ew]
 simp only [ae,bH,Qo,Qp,aF]
theorem CK {μ:aG}{i:Nat}{a b c:Int}{w:List Int} (hp:μ[i]?=some (aL a b c)) (hw:w.length<=6):∃ d a' b' c' g,cJ [.tup [.str "ring",aU w],.obj i] μ=.ok d (μ.set i (aL a' b' c')++g)/\Bt (Ls (μ.set i (aL a' b' c')++g) μ.length) d:=by
 have hi:i<μ.length:=(Mg.mp hp).1
 obtain ⟨odd,word,M2,ho,hwd,P2,run0⟩:=xH hp (bar:=.tup [.str "ring",aU w])
 have run1:=run0 _ rfl
 obtain ⟨s,a1,b1,c1,s0,s1,es,P3⟩:=P2.draw (m:=(w.length:Int)+1) hi (by omega) (by omega)
 generalize hM3:M2.set i (aL a1 b1 c1)=M3 at es P3
 have no:=(rk ho).1
 have tw:Tu 6 (w.map D.int):=Tu.ints hw
 have t1:Tu 1 [odd]:=Tu.one no
 let x1:=fV (w.map D.int) none (some s)
 let x2:=fV (w.map D.int) (some (s+1)) none
 let x3:=fV (w.map D.int) (some s) none
 let x4:=fV (w.map D.int) none (some 1)
 let x5:=fV (w.map D.int) (some 1) none
 have q1:Tu 6 x1:=tw.cut
 have q2:Tu 6 x2:=tw.cut
 have q3:Tu 6 x3:=tw.cut
 have q4:Tu 6 x4:=tw.cut
 have q5:Tu 6 x5:=tw.cut
 have f1:∀ μ,bq (.tup x1) (.tup [odd]) μ=.ok (.tup (x1++[odd])) μ:=fun μ=>kF q1 t1 (by decide)
 have f2:∀ μ,bq (.tup (x1++[odd])) (.tup x2) μ=.ok (.tup (x1++[odd]++x2)) μ:=fun μ=>kF (q1.app t1) q2 (by decide)
 have f3:∀ μ,bq (.tup (x1++[odd])) (.tup x3) μ=.ok (.tup (x1++[odd]++x3)) μ:=fun μ=>kF (q1.app t1) q3 (by decide)
 have f4:∀ μ,bq (.tup x1) (.tup x2) μ=.ok (.tup (x1++x2)) μ:=fun μ=>kF q1 q2 (by decide)
 have f5:∀ μ,bq (.tup x5) (.tup x4) μ=.ok (.tup (x5++x4)) μ:=fun μ=>kF q5 q4 (by decide)
 have k1:∀ μ,qg (aU w) none (some s) μ=.ok (.tup x1) μ:=fun μ=>rfl
 have k2:∀ μ,qg (aU w) (some (s+1)) none μ=.ok (.tup x2) μ:=fun μ=>rfl
 have k3:∀ μ,qg (aU w) (some s) none μ=.ok (.tup x3) μ:=fun μ=>rfl
 have k4:∀ μ,qg (aU w) none (some 1) μ=.ok (.tup x4) μ:=fun μ=>rfl
 have k5:∀ μ,qg (aU w) (some 1) none μ=.ok (.tup x5) μ:=fun μ=>rfl
 have k6:∀ μ,nN [aU w] μ=.ok (.obj μ.length) (μ++[.lst (w.map D.int)]):=fun μ=>rfl
 have k7:∀ μ,nN [.tup [.str "ring",aU w]] μ=.ok (.obj μ.length) (μ++[.lst [.str "ring",aU w]]):=fun μ=>rfl
 have k8:∀ μ,bQ (.tup [.str "ring",aU w]) (.int 1) μ=.ok (aU w) μ:=fun μ=>rfl
 have k0:∀ μ,bQ (.tup [.str "ring",aU w]) (.int 0) μ=.ok (.str "ring") μ:=fun μ=>rfl
 have kq:∀ μ,fv false (.str "ring") (.str "ring") μ=.ok (.bl true) μ:=fun μ=>by
  rw [(nV (kA jl) jl).1,show nz "ring" (.str "ring")=true from by unfold nz;exact NM rfl]
 let R:D:=.str "ring"
 let La:List D:=[.tup [R,.tup (x1++[odd]++x2)],.tup [R,.tup (x1++[odd]++x3)]]
 let M4:=M3++[O.lst La]
 let Lb:List D:=[.tup [R,.tup (x1++x2)],.tup [R,.tup (x5++x4)],.tup [R,.obj M4.length]]
 let M5:=M4++[O.lst (w.map D.int)]++[O.lst Lb]
 let M6:=M5++[O.lst (La++Lb)]
 let Lc:List D:=[.tup [word,aU w],.tup [R,aU w,.int 0],.tup [R],.obj M6.length,aU w]
 let M7:=M6++[O.lst [R,aU w]]++[O.lst Lc]
 let M8:=M7++[O.lst (La++Lb++Lc)]
 have P8:Pn μ i M8:=by
  show Pn μ i (M3++[O.lst La]++[O.lst (w.map D.int)]++[O.lst Lb]++[O.lst (La++Lb)]++[O.lst [R,aU w]]++[O.lst Lc]++[O.lst (La++Lb++Lc)])
  exact ((((((P3.app).app).app).app).app).app).app
 obtain ⟨z,a4,b4,c4,z0,z1,ez,P9⟩:=P8.draw (m:=10) hi (by decide) (by decide)
 obtain ⟨d,ed,hd⟩:=qH (xs:=La++Lb++Lc) z0 (by simpa [La,Lb,Lc] using z1)
 have l3:μ.length<=M3.length:=P3.len
 have l4:μ.length<=M4.length:=by show _<=(M3++[O.lst La]).length;rw [Nb];omega
 have l6:μ.length<=M6.length:=by
  show _<=(M4++[O.lst (w.map D.int)]++[O.lst Lb]++[O.lst (La++Lb)]).length
  simp only [Nb];omega
 have l7:μ.length<=M7.length:=by
  show _<=(M6++[O.lst [R,aU w]]++[O.lst Lc]).length
  simp only [Nb];omega
 have g10:(M8.set i (aL a4 b4 c4))[M7.length]?=some (.lst (La++Lb++Lc)):=bL ar (by omega)
 have gW:Ls (M8.set i (aL a4 b4 c4)) μ.length M4.length:=by
  refine ⟨l4,_,bL (o':=.lst (w.map D.int)) ?_ (by omega)⟩
  show (M4++[O.lst (w.map D.int)]++[O.lst Lb]++[O.lst (La++Lb)]++[O.lst [R,aU w]]++[O.lst Lc]++[O.lst (La++Lb++Lc)])[M4.length]?=_
  exact aC (aC (aC (aC (aC ar))))
 have gB:Ls (M8.set i (aL a4 b4 c4)) μ.length M6.length:=by
  refine ⟨l6,_,bL (o':=.lst [R,aU w]) ?_ (by omega)⟩
  show (M6++[O.lst [R,aU w]]++[O.lst Lc]++[O.lst (La++Lb++Lc)])[M6.length]?=_
  exact aC (aC ar)
 have hR:Hd R:=kA jl
 have eR:∀ L,El L R:=fun L=>⟨nofun,nofun⟩
 have hB:Bt (Ls (M8.set i (aL a4 b4 c4)) μ.length) d:=by
  simp only [La,Lb,Lc,Me,Mc,N8,N9] at hd
  rcases hd with (((rfl|rfl) | (rfl|rfl|rfl)) | (rfl|rfl|rfl|rfl|rfl))
  ·exact Bt.two hR (eR _) (El.tup ((q1.app t1).app q2) (by decide))
  ·exact Bt.two hR (eR _) (El.tup ((q1.app t1).app q3) (by decide))
  ·exact Bt.two hR (eR _) (El.tup (q1.app q2) (by decide))
  ·exact Bt.two hR (eR _) (El.tup (q5.app q4) (by decide))
  ·exact Bt.two hR (eR _) (El.obj gW)
  ·exact Bt.two (nP hwd).2.1 ((nP hwd).2.2 _) (El.tup tw (by decide))
  ·exact ke hR (eR _) (El.tup tw (by decide)) ⟨nofun,nofun⟩
  ·exact Bt.one hR (eR _)
  ·exact Bt.obj gB
  ·refine ⟨nofun, fun ys e => ?_⟩
   cases e
   refine ⟨fun x hx=>?_,by rw [Nd];omega,fun x hx=>?_⟩
   ·obtain ⟨n, _, rfl⟩ := Ol.mp hx
    exact ⟨nofun,nofun⟩
   ·cases w with
    | nil=>cases hx
    | cons n w=>cases hx;exact .inr (.inl ⟨n,rfl⟩)
 have run:cJ [.tup [.str "ring",aU w],.obj i] μ=qw μ (.ok d (M8.set i (aL a4 b4 c4))):=by
  rw [run1]
  have n1:∀ x:D,([x]:List D).length<=sizeLine:=fun x=>sY (n:=1) rfl
  have n2:∀ x y:D,([x,y]:List D).length<=sizeLine:=fun x y=>sY (n:=2) rfl
  have n3:∀ x y z:D,([x,y,z]:List D).length<=sizeLine:=fun x y z=>sY (n:=3) rfl
  have n5:Lc.length<=sizeLine:=sY (n:=5) rfl
  simp only [aM,bC,bT,az,ah,aj,aR,aa,k0,kq,aQ,ae,Nn,aV,k8,bH,Qo,Qp,aF,aD,aq,ay,eZ,Nd,fR,es]
  simp only [cO,bO,aq,ay,az,nM,lH,gG,aj,ah,aR,aa,kC,fR,k1,k2,k3,LU (n1 _),LU (n2 _ _),f1,f2,f3,ae,bH,Qo,Qp,aF,aM,aV]
  simp only [f4,k4,k5,k6,f5,aD,aq,ay,aj,ah,aa,LU (n2 _ _),LU (n3 _ _ _)]
  rw [show bq (.obj M3.length) (.obj (M4++[O.lst (w.map D.int)]).length) M5=.ok (.obj M5.length) M6 from rY (aC (aC ar)) ar (show (5:Nat)<=1000 by decide)]
  simp only [ae,bH,Qo,Qp,aF,aT,az,cO,bO,aD,aq,ay,aR,aj,ah,aa,LU (n1 _),LU (n2 _ _),LU (n3 _ _ _),k7]
  rw [LU n5]
  simp only [aa]
  rw [show bq (.obj M5.length) (.obj (M6++[O.lst [R,aU w]]).length) M7=.ok (.obj M7.length) M8 from rY (aC (aC ar)) ar (show (10:Nat)<=1000 by decide)]
  simp only [aa]
  rw [ez]
  simp only [aa]
  rw [cU g10 ed]
  simp only [ae,cB,aI]
 obtain ⟨a',b',c',g',e1,e2⟩:=xI P9 hB
 exact ⟨d,a',b',c',g',run.trans e1,e2⟩
theorem CL {μ:aG}{i:Nat}{a b c x y:Int} (hp:μ[i]?=some (aL a b c)):∃ d a' b' c' g,cJ [.tup [.str "apart",.int x,.int y],.obj i] μ=.ok d (μ.set i (aL a' b' c')++g)/\Bt (Ls (μ.set i (aL a' b' c')++g) μ.length) d:=by
 have hi:i<μ.length:=(Mg.mp hp).1
 obtain ⟨odd,word,M2,ho,hwd,P2,run0⟩:=xH hp (bar:=.tup [.str "apart",.int x,.int y])
 have run1:=run0 _ rfl
 obtain ⟨v,a1,b1,c1,v0,v1,es,P3⟩:=P2.draw (m:=2) hi (by decide) (by decide)
 generalize hM3:M2.set i (aL a1 b1 c1)=M3 at es P3
 have no:=(rk ho).1
 let R:D:=.str "apart"
 let B:List D:=[R,.int x,.int y]
 have tB:Tu 3 B:=⟨fun z hz=>by simp only [B,Mc,N8,N9] at hz;rcases hz with rfl|rfl|rfl <;> exact nofun,by simp [B]⟩
 have tI:Tu 2 [D.int x,D.int y]:=⟨fun z hz=>by simp only [Mc,N8,N9] at hz;rcases hz with rfl|rfl <;> exact nofun,by simp⟩
 have t1:Tu 1 [odd]:=Tu.one no
 have tw:Tu 1 [word]:=Tu.one (nP hwd).1
 have hR:Hd R:=kA ki
 have eR:∀ L,El L R:=fun L=>⟨nofun,nofun⟩
 have eI:∀ (L:Nat->Prop) (n:Int),El L (.int n):=fun L n=>⟨nofun,nofun⟩
 obtain ⟨x1,x2,k1,k2,q1,q2,hA⟩:∃ x1 x2:List D,(∀ μ,qg (.tup [.str "apart",.int x,.int y]) none (some (1+v)) μ=.ok (.tup x1) μ)/\(∀ μ,qg (.tup [.str "apart",.int x,.int y]) (some (1+v+1)) none μ=.ok (.tup x2) μ)/\Tu 3 x1/\Tu 3 x2/\∀ L,Bt L (.tup (x1++[odd]++x2)):=by
  have:v=0\/v=1:=by omega
  rcases this with rfl|rfl
  ·exact ⟨[R],[.int y],fun μ=>rfl,fun μ=>rfl,⟨fun z hz=>by simp at hz;subst hz;exact nofun,by simp⟩,⟨fun z hz=>by simp at hz;subst hz;exact nofun,by simp⟩,fun L=>ke hR (eR _) ((rk ho).2 _) (eI _ _)⟩
  ·exact ⟨[R,.int x],[],fun μ=>rfl,fun μ=>rfl,⟨fun z hz=>by simp at hz;rcases hz with rfl|rfl <;> exact nofun,by simp⟩,⟨fun z hz=>(nomatch hz),by simp⟩,fun L=>ke hR (eR _) (eI _ _) ((rk ho).2 _)⟩
 have f1:∀ μ,bq (.tup x1) (.tup [odd]) μ=.ok (.tup (x1++[odd])) μ:=fun μ=>kF q1 t1 (by decide)
 have f2:∀ μ,bq (.tup (x1++[odd])) (.tup x2) μ=.ok (.tup (x1++[odd]++x2)) μ:=fun μ=>kF (q1.app t1) q2 (by decide)
 have f3:∀ μ,bq (.tup [.str "apart",.int x,.int y]) (.tup [odd]) μ=.ok (.tup [.str "apart",.int x,.int y,odd]) μ:=fun μ=>kF tB t1 (by decide)
 have f4:∀ μ,bq (.tup [word]) (.tup [.int x,.int y]) μ=.ok (.tup [word,.int x,.int y]) μ:=fun μ=>kF tw tI (by decide)
 have k3:∀ μ,qg (.tup [.str "apart",.int x,.int y]) none (some 2) μ=.ok (.tup [.str "apart",.int x]) μ:=fun μ=>rfl
 have k4:∀ μ,qg (.tup [.str "apart",.int x,.int y]) (some 1) none μ=.ok (.tup [.int x,.int y]) μ:=fun μ=>rfl
 have k6:∀ μ,nN [.tup [.str "apart",.int x,.int y]] μ=.ok (.obj μ.length) (μ++[.lst [.str "apart",.int x,.int y]]):=fun μ=>rfl
 have k0:∀ μ,bQ (.tup [.str "apart",.int x,.int y]) (.int 0) μ=.ok (.str "apart") μ:=fun μ=>rfl
 have k7:∀ μ,bQ (.tup [.str "apart",.int x,.int y]) (.int 1) μ=.ok (.int x) μ:=fun μ=>rfl
 have k8:∀ μ,bQ (.tup [.str "apart",.int x,.int y]) (.int 2) μ=.ok (.int y) μ:=fun μ=>rfl
 have kq:∀ μ,fv false (.str "apart") (.str "ring") μ=.ok (.bl false) μ:=fun μ=>by
  rw [(nV hR jl).1,show nz "ring" R=false from by unfold nz;exact LR (by decide +kernel)]
 let La:List D:=[.tup (x1++[odd]++x2),.tup [R,.int x],.tup [R,.int x,.int y,odd],.tup [word,.int x,.int y],.obj M3.length,.tup [.int x,.int y]]
 let M4:=M3++[O.lst B]++[O.lst La]
 let Lb:List D:=[.tup [R,.int y,.int x],.tup [R,.tup [.int x,.int y]],.non,.tup []]
 let M5:=M4++[O.lst Lb]
 let M6:=M5++[O.lst (La++Lb)]
 have P6:Pn μ i M6:=by
  show Pn μ i (M3++[O.lst B]++[O.lst La]++[O.lst Lb]++[O.lst (La++Lb)])
  exact (((P3.app).app).app).app
 obtain ⟨z,a4,b4,c4,z0,z1,ez,P9⟩:=P6.draw (m:=10) hi (by decide) (by decide)
 obtain ⟨d,ed,hd⟩:=qH (xs:=La++Lb) z0 (by simpa [La,Lb] using z1)
 have l3:μ.length<=M3.length:=P3.len
 have l5:μ.length<=M5.length:=by
  show _<=(M3++[O.lst B]++[O.lst La]++[O.lst Lb]).length
  simp only [Nb];omega
 have g10:(M6.set i (aL a4 b4 c4))[M5.length]?=some (.lst (La++Lb)):=bL ar (by omega)
 have gW:Ls (M6.set i (aL a4 b4 c4)) μ.length M3.length:=by
  refine ⟨l3,_,bL (o':=.lst B) ?_ (by omega)⟩
  show (M3++[O.lst B]++[O.lst La]++[O.lst Lb]++[O.lst (La++Lb)])[M3.length]?=_
  exact aC (aC (aC ar))
 have hB:Bt (Ls (M6.set i (aL a4 b4 c4)) μ.length) d:=by
  simp only [La,Lb,Me,Mc,N8,N9] at hd
  rcases hd with ((rfl|rfl|rfl|rfl|rfl|rfl) | (rfl|rfl|rfl|rfl))
  ·exact hA _
  ·exact Bt.two hR (eR _) (eI _ _)
  ·refine ⟨nofun, fun ys e => ?_⟩
   cases e
   refine ⟨fun u hu=>?_,by simp,fun u hu=>by cases hu;exact hR⟩
   simp only [Mc,N8,N9] at hu
   rcases hu with rfl|rfl|rfl|rfl
   ·exact eR _
   ·exact eI _ _
   ·exact eI _ _
   ·exact (rk ho).2 _
  ·exact ke (nP hwd).2.1 ((nP hwd).2.2 _) (eI _ _) (eI _ _)
  ·exact Bt.obj gW
  ·exact Bt.two (.inr (.inl ⟨x,rfl⟩)) (eI _ _) (eI _ _)
  ·exact ke hR (eR _) (eI _ _) (eI _ _)
  ·exact Bt.two hR (eR _) (El.tup tI (by decide))
  ·exact ⟨nofun,nofun⟩
  ·exact ⟨nofun,fun ys e=>by cases e;exact ⟨fun u hu=>(nomatch hu),by simp,fun u hu=>(nomatch hu)⟩⟩
 have run:cJ [.tup [.str "apart",.int x,.int y],.obj i] μ=qw μ (.ok d (M6.set i (aL a4 b4 c4))):=by
  rw [run1]
  have n0:([]:List D).length<=sizeLine:=NZ _
  have n1:∀ x:D,([x]:List D).length<=sizeLine:=fun x=>sY (n:=1) rfl
  have n2:∀ x y:D,([x,y]:List D).length<=sizeLine:=fun x y=>sY (n:=2) rfl
  have n3:∀ x y z:D,([x,y,z]:List D).length<=sizeLine:=fun x y z=>sY (n:=3) rfl
  have n6:La.length<=sizeLine:=sY (n:=6) rfl
  have n4:Lb.length<=sizeLine:=sY (n:=4) rfl
  simp only [aM,bC,bT,az,ah,aj,aR,aa]
  simp only [k0,aa,kq,aQ,ae,NP,Nl,bD,aF,aM,aV,az,aR,aD,aq,ay,ah,aj,es,fR,bH,Qo,Qp]
  simp only [cO,bO,aq,ay,az,nM,lH,gG,aD,aj,ah,aR,aa,kC,fR,k1,k2,k3,k4,k6,LU (n1 _),f1,f2,f3,f4]
  rw [LU (show ([.tup (x1++[odd]++x2),.tup [.str "apart",.int x],.tup [.str "apart",.int x,.int y,odd],.tup [word,.int x,.int y],.obj M3.length,.tup [.int x,.int y]]:List D).length<=sizeLine from n6)]
  simp only [ae,aF,aT,cO,bO,aq,ay,az,nM,lH,gG,aD,aj,ah,aR,aa,kC,k4,k7,k8,LU (n2 _ _),LU (n3 _ _ _),LU n0]
  rw [LU (show ([.tup [.str "apart",.int y,.int x],.tup [.str "apart",.tup [.int x,.int y]],.non,.tup []]:List D).length<=sizeLine from n4)]
  simp only [aa]
  rw [show bq (.obj (M3++[O.lst B]).length) (.obj M4.length) M5=.ok (.obj M5.length) M6 from rY (aC ar) ar (show (10:Nat)<=1000 by decide)]
  simp only [aa]
  rw [ez]
  simp only [aa]
  rw [cU g10 ed]
  simp only [ae,cB,aI]
 obtain ⟨a',b',c',g',e1,e2⟩:=xI P9 hB
 exact ⟨d,a',b',c',g',run.trans e1,e2⟩
theorem En {μ:aG}{i:Nat}{a b c:Int}{d0:D} (hp:μ[i]?=some (aL a b c)) (h:Ga d0):∃ d a' b' c' g,cJ [d0,.obj i] μ=.ok d (μ.set i (aL a' b' c')++g)/\Bt (Ls (μ.set i (aL a' b' c')++g) μ.length) d:=by
 rcases h with ⟨w,rfl,hw⟩ | ⟨x,y,rfl⟩
 ·exact CK hp hw
 ·exact CL hp
theorem K3 {M:aG}{i:Nat}{a b c:Int} (hi:i<M.length) (hp:M[i]?=some (aL a b c)):M=M.set i (aL a b c):=by
 apply Pc
 intro j
 by_cases e:i=j
 ·subst e;rw [fP hi,hp]
 ·rw [Mj e]
theorem Dq {M:aG}{i T:Nat}{a b c:Int}{ws:List D} (hp:M[i]?=some (aL a b c)) (hT:M[T]?=some (.lst ws)) (hne:i≠T) (hw:∀ w∈ws,Ga w) (hl:ws.length<=200000) :
  ∃ ys a' b' c' s,compLoop (.own T ws) M.length (ai 0) bI qJ ws [none,some (.obj i)] (M++[.lst []])=.ok (.obj M.length) (M.set i (aL a' b' c')++.lst ys::s)/\ys.length<=200000 /\
   ∀ y∈ys,Bt (Ls (M.set i (aL a' b' c')++.lst ys::s) (M.length+1)) y:=by
 have hi:i<M.length:=(Mg.mp hp).1
 obtain ⟨ys,ρ',μ1,s,⟨a',b',c',o,e2,e3,e4,e5,e6⟩,run⟩:=jm (src:=.own T ws) (g:=ai 0) (t:=bI) (e:=qJ) (n:=M.length)
  (fun xs ys ρ μ1 s=>∃ (a b c:Int) (o:Option D),(∀ w∈xs,Ga w)/\μ1=M.set i (aL a b c)/\ys.length+xs.length<=200000/\ρ=[o,some (.obj i)]/\∀ y∈ys,Bt (fun n=>∃ j,n=M.length+1+j/\∃ xs,s[j]?=some (.lst xs)) y)
  (fun ys ρ μ1 s hJJ => by
   obtain ⟨_,_,_,_,_,e,_⟩:=hJJ
   rw [e]
   exact ⟨NB,by show (_++_)[T]?=_;exact aC (bL hT hne)⟩)
  (fun x r ys ρ μ1 s hJJ => by
   obtain ⟨a,b,c,o,e2,e3,e4,e5,e6⟩:=hJJ
   subst e3 e5
   have ln:(M.set i (aL a b c)).length=M.length:=NB
   have gp:(M.set i (aL a b c)++.lst ys::s)[i]?=some (aL a b c):=aC (fP hi)
   obtain ⟨d,a2,b2,c2,g,eb,hb⟩:=En gp (e2 x Ma)
   have st:(M.set i (aL a b c)++O.lst ys::s).set i (aL a2 b2 c2)++g=M.set i (aL a2 b2 c2)++O.lst ys::(s++g):=by
    rw [kG (by rw [ln];exact hi),Qq,NG];rfl
   rw [st] at eb hb
   simp only [NQ] at e4
   refine ⟨ln,by show (_++_)[T]?=_;exact aC (bL hT hne),[some x,some (.obj i)],M.set i (aL a b c),s,true,M.set i (aL a b c),s,rfl,rfl,fun _=>⟨d,M.set i (aL a2 b2 c2),s++g,?_,LY (by omega) B9,NB,a2,b2,c2,some x,fun v hv=>e2 v (Mb _ hv),rfl,by simp;omega,rfl,?_⟩,nofun⟩
   ·unfold qJ
    simp only [aD,aq,ay,aj,ah,aa]
    exact eb
   ·intro y hy
    rcases Me.mp hy with z | z
    ·exact (e6 y z).mono fun n ⟨j,z1,xs,z2⟩=>⟨j,z1,xs,aC z2⟩
    ·simp at z
     subst z
     refine hb.mono fun n ⟨z2,xs,z3⟩=>?_
     simp only [Nb,NQ,ln] at z2
     refine ⟨n - M.length - 1,by omega,xs,?_⟩
     rw [MX (by rw [NB];omega),NB] at z3
     rw [show n - M.length=(n - M.length - 1)+1 from by omega,Pz] at z3
     exact z3)
  (xs:=ws) (ys:=[]) (ρ:=[none,some (.obj i)]) (μ1:=M) (s:=[])
  ⟨a,b,c,none,hw,K3 hi hp,by simpa using hl,rfl,nofun⟩
 subst e3
 have ln:(M.set i (aL a' b' c')).length=M.length:=NB
 exact ⟨ys,a',b',c',s,run,by omega,fun y hy=>(e6 y hy).mono fun n ⟨j,z1,xs,z2⟩=>⟨by omega,xs,by
  subst z1
  rw [MX (by omega),ln,show M.length+1+j - M.length=j+1 from by omega,Pz];exact z2⟩⟩
def qj (i:Nat) (μ:aG) (a m:Nat) (ks:List (List Int)):Prop:=∃ (bs:List Nat) (T:Int->Int->Option Nat),i≠a/\(∀ b∈bs,i≠b)/\μ[a]?=some (.lst (bs.map D.obj))/\bs.length=m/\(∀ (p b:Nat),bs[p]?=some b->μ[b]?=some (.lst (dH m (T p))))/\∀ p:Int,0<=p->p<m->qi (mO ks) p (fun q=>0<=q/\q<m) (T p)
theorem qj.at {i:Nat}{μ:aG}{a m:Nat}{ks:List (List Int)} (h:qj i μ a m ks):lB μ a m ks:=let ⟨bs,T,_,_,h⟩:=h;⟨bs,T,h⟩
theorem qj.pn {i:Nat}{μ μ':aG}{a m:Nat}{ks:List (List Int)} (h:qj i μ a m ks) (P:Pn μ i μ'):qj i μ' a m ks:=by
 obtain ⟨bs,T,n1,n2,h1,h2,h3,h4⟩:=h
 obtain ⟨x,y,z,g,rfl⟩:=P
 exact ⟨bs,T,n1,n2,aC (bL h1 n1),h2,fun p b e=>aC (bL (h3 p b e) (n2 b (Na e))),h4⟩
theorem Ek {μ:aG}{i m:Nat}{ks:List (List Int)} (h:bu (.tup [.int m,.tup (ks.map ao)]) m ks) (hi:i<μ.length):∃ a g,eP [.tup [.int m,.tup (ks.map ao)]] μ=.ok (.obj a) (μ++g)/\qj i (μ++g) a m ks:=by
 obtain ⟨a,μ',T,e1,e2,e3⟩:=zJ (μ:=μ) h
 obtain ⟨g,rfl⟩:=e2.pre
 obtain ⟨l1,_,bs,_,h3,h4,h5⟩:=e2
 exact ⟨a,g,e1,bs,T,by omega,fun b hb=>by
  obtain ⟨p,hp,e⟩:=Pw hb
  have:=(h5 p b (by rw [Pp hp,e])).1
  omega,h3,h4,fun p b e=>(h5 p b e).2.2,e3⟩
theorem AV {M:aG}{m a:Nat}{ks:List (List Int)}{t:Nat}{xs:List D} (h:bu (.tup [.int m,.tup (ks.map ao)]) m ks) (hf:lB M a m ks) (ht:M[t]?=some (.lst xs)) (hx:∀ x∈xs,wg M x) {o0 o1 o2 o3 o4 o7 o8 o9 oA oB:Option D} :
  ∃ oA' oB',d9 (.own t xs) (ai 10) nY xs [o0,o1,o2,o3,o4,some (.tup [.int m,.tup (ks.map ao)]),some (.obj a),o7,o8,o9,oA,oB] M=.next [o0,o1,o2,o3,o4,some (.tup [.int m,.tup (ks.map ao)]),some (.obj a),o7,o8,o9,oA',oB'] M:=by
 obtain ⟨ρ',μ',⟨oA',oB',e1,e2,e3⟩,run⟩:=dP (src:=.own t xs) (g:=ai 10) (fb:=nY)
  (fun ys ρ μ1=>∃ oA oB:Option D,(∀ y∈ys,wg M y)/\μ1=M/\ρ=[o0,o1,o2,o3,o4,some (.tup [.int m,.tup (ks.map ao)]),some (.obj a),o7,o8,o9,oA,oB])
  (fun ρ μ1 ⟨_,_,_,e,_⟩=>by rw [e];exact ht)
  (fun y ys ρ μ1 hJJ => by
   obtain ⟨oA,oB,e1,e2,e3⟩:=hJJ
   subst e2 e3
   have g1:=yN h (e1 y Ma)
   have g2:=wO h hf (e1 y Ma)
   generalize jg m ks y=b at g1 g2
   refine ⟨ht,_,μ1,[o0,o1,o2,o3,o4,some (.tup [.int m,.tup (ks.map ao)]),some (.obj a),o7,o8,o9,some y,some (.bl b)],μ1,rfl,?_,some y,some (.bl b),fun z hz=>e1 z (Mb _ hz),rfl,rfl⟩
   show nY [o0,o1,o2,o3,o4,some (.tup [.int m,.tup (ks.map ao)]),some (.obj a),o7,o8,o9,some y,oB] μ1=_
   unfold nY
   simp only [aM,aV,aD,aq,ay,aj,ah,aa,g1,ae,bH,Qo,Qp,aF,bC,kB,jK,iP,jF]
   rw [show jy "bool" (.bl b) μ1=.ok (.bl true) μ1 from rfl]
   simp only [aa,eY,OM,NP,Nl,bT,az,aD,aq,ay,aj,ah,g2,u3,Nn,NO,aQ,ae,bD])
  (xs:=xs) (ρ:=[o0,o1,o2,o3,o4,some (.tup [.int m,.tup (ks.map ao)]),some (.obj a),o7,o8,o9,oA,oB]) (μ:=M) ⟨oA,oB,hx,rfl,rfl⟩
 subst e2 e3
 exact ⟨oA',oB',run⟩
def FZ (w:List Int):PyData:=.tuple (w.map PyData.int)
theorem ph {μ:aG}:∀ fs:List Int,toPs μ (fs.map D.int)=some (fs.map PyData.int)
 | []=>by simp only [Ny,toPs]
 | x::fs=>by simp only [Nz,toPs,yp,ph fs];rfl
theorem zD {μ:aG}:∀ ws:List (List Int),ij μ (ws.map aU)=some (ws.map FZ)
 | []=>rfl
 | x::ws=>by simp only [Nz,ij,zD ws,Am,yp,ph];rfl
theorem zE:∀ ws:List (List Int),PyData.canLayAll0 (ws.map FZ)=true/\PyData.depthAll (ws.map FZ)<=1
 | []=>by simp [PyData.canLayAll0,PyData.depthAll]
 | x::ws=>by
  have h:=zE ws
  have g:=lN x
  simp only [Nz,PyData.canLayAll0,PyData.depthAll,FZ,PyData.canLay0,PyData.depth,g.1,g.2,Qw]
  refine ⟨h.1,?_⟩
  have:=h.2
  omega
theorem IU {M:aG}{R N:Nat}{ws:List (List Int)} (h:M[R]?=some (.lst (ws.map aU))) (g:M[N]?=some (.lst [])):fv false (.obj R) (.obj N) M=.ok (.bl ws.isEmpty) M:=by
 have e1:kT M (.obj R)=some (.list (ws.map FZ)):=by
  unfold kT;dsimp only;rw [h];dsimp only;rw [zD];rfl
 have e2:kT M (.obj N)=some (.list []):=by
  unfold kT;dsimp only;rw [g];rfl
 have f1:dJ (.list (ws.map FZ))=true:=by
  have:=zE ws
  simp only [dJ,PyData.canLay0,this.1,PyData.depth,Qw]
  exact NM (by omega)
 unfold fv
 rw [e1,e2]
 dsimp only
 rw [LU ⟨f1,by decide +kernel⟩]
 cases ws <;> rfl
def Ao:Option Nat->PyData
 | none=>.none
 | some n=>.int n
theorem zM {μ:aG}{f:Nat->Option Nat}:∀ l:List Nat,ij μ (l.map fun q=>lh (f q))=some (l.map fun q=>Ao (f q))
 | []=>rfl
 | x::l=>by
  simp only [Nz,ij,zM l]
  cases f x <;> rfl
theorem zN {f:Nat->Option Nat}:∀ l:List Nat,PyData.canLayAll0 (l.map fun q=>Ao (f q))=true/\PyData.depthAll (l.map fun q=>Ao (f q))=0
 | []=>by simp [PyData.canLayAll0,PyData.depthAll]
 | x::l=>by
  have h:=zN (f:=f) l
  simp only [Nz,PyData.canLayAll0,PyData.depthAll,h.1,h.2]
  cases f x <;> exact ⟨rfl,rfl⟩
theorem IK {M:aG}{b m:Nat}{f:Int->Option Nat} (h:M[b]?=some (.lst (dH m f))):qh true .non (.obj b) M=.ok (.bl ((List.range m).all fun q=>(f q).isSome)) M:=by
 have e2:kT M (.obj b)=some (.list ((List.range m).map fun q:Nat=>Ao (f q))):=by
  unfold kT;dsimp only;rw [h];dsimp only;unfold dH;rw [zM (f:=fun q=>f q)];rfl
 have f2:dJ (.list ((List.range m).map fun q:Nat=>Ao (f q)))=true:=by
  have:=zN (f:=fun q=>f q) (List.range m)
  simp only [dJ,PyData.canLay0,this.1,PyData.depth,this.2,Qw]
  rfl
 unfold qh
 rw [show kT M .non=some .none from rfl,e2]
 dsimp only [rl]
 rw [LU ⟨rfl,f2⟩,LU rfl,Qx]
 congr 2
 generalize List.range m=l
 induction l with
 | nil=>rfl
 | cons x l ih=>
  rw [List.any_cons,PJ,Bool.not_or,ih]
  congr 1
  show (!PyData.eqv (Ao (f x)) .none)=_
  cases f x <;> rfl
theorem As {m:Nat}{ks:List (List Int)}{f:Int->Option Nat} (h:qi (mO ks) 0 (fun q=>0<=q/\q<(m:Int)) f):((List.range m).all fun q=>(f q).isSome)=lD m ks:=by
 unfold lD rg
 rw [PL]
 apply Qg.mpr
 rw [OK,OK]
 have key:∀ q∈List.range m,(f (q:Nat)).isSome=rB ks 0 (Int.ofNat q):=fun q hq=>by
  have:=mC h (q:=(q:Int)) ⟨by omega,by have:=L4.mp hq;omega⟩
  rw [show Int.ofNat q=(q:Int) from rfl]
  cases c:f (q:Int) with
  | none=>rw [c] at this;simp at this;rw [this];rfl
  | some n=>rw [c] at this;simp at this;rw [this];rfl
 exact ⟨fun z q hq=>by show rB ks 0 (Int.ofNat q)=true;rw [<- key q hq];exact z q hq,fun z q hq=>by rw [key q hq];exact z q hq⟩
theorem rW {m:Nat}{ks:List (List Int)} (h:bu (.tup [.int m,.tup (ks.map ao)]) m ks):lj m ks=.non\/Ga (lj m ks):=by
 have hm6:m<=6:=by have:=h.2.2.1;omega
 unfold lj
 split
 ·exact .inr (.inr ⟨_,_,rfl⟩)
 ·split
  ·rename_i w e
   refine .inr (.inl ⟨w,rfl,?_⟩)
   obtain ⟨s,s1,s2⟩:=Qa.mp (List.mem_of_find?_eq_some e)
   have:=(cZ (L1.mp s2).1).len
   have:=qy hm6 s1
   omega
  ·exact .inl rfl
theorem xJ {μ:aG}{d:D} (h:d=.non\/Ga d):fv true d d μ=.ok (.bl false) μ:=by
 have:∃ p,kT μ d=some p/\dJ p=true:=by
  rcases h with rfl | ⟨w,rfl,_⟩ | ⟨x,y,rfl⟩
  ·exact ⟨.none,rfl,rfl⟩
  ·refine ⟨.tuple [.str "ring", FZ w], ?_, ?_⟩
   ·simp only [kT,ij,Am,yp,ph];rfl
   ·have := lN w
    simp only [dJ,FZ,PyData.canLay0,PyData.canLayAll0,PyData.depth,PyData.depthAll,this.1,this.2]
    decide +kernel
  ·refine ⟨.tuple [.str "apart", .int x, .int y], rfl, ?_⟩
   have hs:PyData.strOk (Str.ofString "apart")=true:=by have:=ki;unfold dJ at this;rw [Nw] at this;exact this.1
   simp only [dJ,PyData.canLay0,PyData.canLayAll0,PyData.depth,PyData.depthAll,hs]
   rfl
 obtain ⟨p,e,f⟩:=this
 unfold fv
 rw [e]
 dsimp only
 rw [LU ⟨f,f⟩,LU rfl,SeqAt.eqv_refl p (cQ f)]
 rfl
theorem Pn.put {μ0 μ:aG}{i t:Nat}{o:O} (h:Pn μ0 i μ) (ht:μ0.length<=t):Pn μ0 i (μ.set t o):=by
 obtain ⟨a,b,c,g,rfl⟩:=h
 refine ⟨a,b,c,g.set (t - μ0.length) o,?_⟩
 rw [List.set_append_right _ _ (by rw [NB];exact ht),NB]
theorem Pn.trans {M0 M1 M2:aG}{i:Nat} (hi:i<M0.length) (h:Pn M0 i M1) (k:Pn M1 i M2):Pn M0 i M2:=by
 obtain ⟨a,b,c,g,rfl⟩:=h
 obtain ⟨a',b',c',g',rfl⟩:=k
 exact ⟨a',b',c',g++g',by rw [kG (by simpa using hi),Qq,NG]⟩
theorem Ac {α β:Type}{f:α->β}{xs:List α}{lo hi:Option Int}:fV (xs.map f) lo hi=(fV xs lo hi).map f:=by
 unfold fV
 rw [Nd,Ov,Ow]
theorem JT {μ:aG}{a:Nat}{xs:List (List Int)}{lo hi:Option Int} (h:μ[a]?=some (.lst (xs.map aU))):qg (.obj a) lo hi μ=.ok (.obj μ.length) (μ++[.lst ((fV xs lo hi).map aU)]):=by
 unfold qg
 dsimp only
 rw [h]
 dsimp only
 rw [Ac]
theorem Fv {M:aG}{i m a R:Nat}{ks:List (List Int)} (h:bu (.tup [.int m,.tup (ks.map ao)]) m ks) (hf:qj i M a m ks) (hR:M[R]?=some (.lst ((b9 m ks (m - 1)).map aU))) {o0 o1 o2 o3 o4 o9 oA oB:Option D} :
  kx (oO (gA (au (fv true) (au (m7 false) (ag 8) (cC .non)) (fE (au (fv false) (ag 7) (eF (av))) (au (qh true) (cC .non) (au bQ (ag 6) (cC (.int 0))))))) (gA (au (fv true) (aA jn (af (ag 5) (av))) (ag 8)))) (bX (cC (.bl false))) (cS)
   [o0,o1,o2,o3,o4,some (.tup [.int m,.tup (ks.map ao)]),some (.obj a),some (.obj R),some (lj m ks),o9,oA,oB] M =
  .next [o0,o1,o2,o3,o4,some (.tup [.int m,.tup (ks.map ao)]),some (.obj a),some (.obj R),some (lj m ks),o9,oA,oB] (M++[O.lst []]):=by
 have hm1:1<=m:=by have:=h.2.1;omega
 have n0:([]:List D).length<=sizeLine:=NZ _
 have e1:fv false (.obj R) (.obj M.length) (M++[O.lst []])=.ok (.bl (b9 m ks (m - 1)).isEmpty) (M++[O.lst []]):=IU (aC hR) ar
 obtain ⟨bs,T,_,_,h1,h2,h3,h4⟩:=hf
 have hl:0<bs.length:=by omega
 have x0:bQ (.obj a) (.int 0) (M++[O.lst []])=.ok (.obj bs[0]) (M++[O.lst []]):=cU (aC h1) (kE (PR _) (by show (bs.map D.obj)[0]?=_;rw [MZ,Pp hl];rfl))
 have x1:qh true .non (.obj bs[0]) (M++[O.lst []])=.ok (.bl (lD m ks)) (M++[O.lst []]):=by
  rw [IK (aC (h3 0 bs[0] (Pp hl)))]
  exact Mo (fun b=>ak.ok (D.bl b) (M++[O.lst []])) (As (h4 0 (PR _) (by omega)))
 have bn:=FW h
 have b2:=wR (μ:=M++[O.lst []]) h
 simp only [bC,kB,bT,az,aj,ah,aR,aa,lJ,NP,Nl,ff,cO,ay,LU n0]
 rw [e1]
 simp only [aa,aQ]
 cases c:(b9 m ks (m - 1)).isEmpty with
 | false=>
  rw [c,My] at bn
  simp only [NP,Nl,aa,bn,u3,Nn,NO,OM,aQ,aD,aq,ay,aj,ah,b2,xJ (rW h),ae,bD]
 | true=>
  rw [c,Qw] at bn
  simp only [Nn,x0,x1,aa,bn,u3,NO,OM,aQ,NP,Nl,aD,aq,ay,aj,ah,b2,xJ (rW h),ae,bD]
theorem Fu {M:aG}{m a:Nat}{ks:List (List Int)} (h:bu (.tup [.int m,.tup (ks.map ao)]) m ks) (hf:lB M a m ks) {o0 o1 o2 o3 o4 o7 o9 oA oB:Option D} :
  kx (jG (gA (au (m7 true) (ag 8) (cC .non))) (jh (jz (aA eS (af (ag 5) (af (ag 6) (af (ag 8) (av)))))))) (bX (cC (.bl false))) (cS)
   [o0,o1,o2,o3,o4,some (.tup [.int m,.tup (ks.map ao)]),some (.obj a),o7,some (lj m ks),o9,oA,oB] M =
  .next [o0,o1,o2,o3,o4,some (.tup [.int m,.tup (ks.map ao)]),some (.obj a),o7,some (lj m ks),o9,oA,oB] M:=by
 simp only [bC,fQ,bT,az,aj,ah,aR,aa,lJ,Nn,aQ]
 cases c:(lj m ks).isNon with
 | true=>simp only [OM,NP,Nl,ae,bD]
 | false=>
  have hb:wg M (lj m ks):=by
   rcases rW h with z | z
   ·rw [z] at c;cases c
   ·exact (z.bt (L:=fun _=>False)).ok nofun
  have g:=wO h hf hb
  rw [yj h c] at g
  simp only [OU,Nn,jK,iP,aD,aq,ay,aj,ah,aa,g,eY,OM,NP,Nl,ae,bD]
def mQ (w:List Int):D:=.tup [.str "ring",aU w]
theorem FM {m j:Nat}{ks:List (List Int)}{w:List Int} (h:bu (.tup [.int m,.tup (ks.map ao)]) m ks) (hw:w∈b9 m ks j):w.length<=6:=by
 have hm6:m<=6:=by have:=h.2.2.1;omega
 obtain ⟨t,ht,h2⟩:=Qa.mp hw
 have hW:=cZ (L1.mp h2).1
 have:=hW.nd.length_le_of_subset (show w ⊆ rg m from fun p hp=>cT.mpr (hW.rng p hp))
 rw [iN] at this
 omega
theorem Iq {M:aG}{i m:Nat}{a b c:Int}{ks:List (List Int)} (h:bu (.tup [.int m,.tup (ks.map ao)]) m ks) (hp:M[i]?=some (aL a b c)) {o0 o1 o2 o3 o6 o7 o8 o9 oA oB:Option D} :
  ∃ o6' o7' o8' o9' oA' oB' M',mr [o0,o1,o2,o3,some (.obj i),some (.tup [.int m,.tup (ks.map ao)]),o6,o7,o8,o9,oA,oB] M=.next [o0,o1,o2,o3,some (.obj i),some (.tup [.int m,.tup (ks.map ao)]),o6',o7',o8',o9',oA',oB'] M'/\Pn M i M':=by
 have hm6:m<=6:=by have:=h.2.2.1;omega
 have hm1:1<=m:=by have:=h.2.1;omega
 have hi:i<M.length:=(Mg.mp hp).1
 obtain ⟨A,g1,f1,F1⟩:=Ek (μ:=M) h hi
 have P1:Pn M i (M++g1):=(Pn.self hp).app
 generalize hM1:M++g1=M1 at f1 F1 P1
 obtain ⟨R,g2,f2,r2,lR⟩:=xQ (μ:=M1) h
 have P2:Pn M i (M1++g2):=P1.app
 have P12:Pn M1 i (M1++g2):=by
  obtain ⟨x,y,z,hz⟩:=P1.get hi
  exact (Pn.self hz).app
 have F2:=F1.pn P12
 have lR':M.length<=R:=L5 P1.len lR
 generalize hM2:M1++g2=M2 at f2 r2 P2 F2
 have f3:=wR (μ:=M2) h
 have t1:=Fv h F2 r2 (o0:=o0) (o1:=o1) (o2:=o2) (o3:=o3) (o4:=some (.obj i)) (o9:=o9) (oA:=oA) (oB:=oB)
 have P3:Pn M i (M2++[O.lst []]):=P2.app
 have r3:(M2++[O.lst []])[R]?=some (.lst ((b9 m ks (m - 1)).map aU)):=aC r2
 have F3:qj i (M2++[O.lst []]) A m ks:=F2.pn (by
  obtain ⟨x,y,z,hz⟩:=P2.get hi
  exact (Pn.self hz).app)
 generalize hM3:M2++[O.lst []]=M3 at t1 P3 r3 F3
 have t2:=Fu h F3.at (o0:=o0) (o1:=o1) (o2:=o2) (o3:=o3) (o4:=some (.obj i)) (o7:=some (.obj R)) (o9:=o9) (oA:=oA) (oB:=oB)
 obtain ⟨u,a4,b4,c4,u0,u1,eu,P4⟩:=P3.draw (m:=(m:Int)) hi (by omega) (by omega)
 have r4:(M3.set i (aL a4 b4 c4))[R]?=some (.lst ((b9 m ks (m - 1)).map aU)):=bL r3 (by omega)
 have F4:qj i (M3.set i (aL a4 b4 c4)) A m ks:=F3.pn ⟨a4,b4,c4,[],by rw [MM]⟩
 generalize hM4:M3.set i (aL a4 b4 c4)=M4 at eu P4 r4 F4
 obtain ⟨v,a5,b5,c5,v0,v1,ev,P5⟩:=P4.draw (m:=(m:Int)) hi (by omega) (by omega)
 have r5:(M4.set i (aL a5 b5 c5))[R]?=some (.lst ((b9 m ks (m - 1)).map aU)):=bL r4 (by omega)
 have F5:qj i (M4.set i (aL a5 b5 c5)) A m ks:=F4.pn ⟨a5,b5,c5,[],by rw [MM]⟩
 generalize hM5:M4.set i (aL a5 b5 c5)=M5 at ev P5 r5 F5
 let La:List D:=[.tup [.str "apart",.int u,.int v],.tup [.str "apart",.int 0,.int ((m:Int) - 1)]]
 have P6:Pn M i (M5++[O.lst La]):=P5.app
 have lT:M.length<=M5.length:=P5.len
 obtain ⟨x6,y6,z6,hp6⟩:=P6.get hi
 obtain ⟨ns,a7,b7,c7,n1,n2,n3,en⟩:=wN (m:=(m:Int)) hp6 (by omega) (by omega)
 have P7:Pn M i ((M5++[O.lst La]).set i (aL a7 b7 c7)):=P6.set hi
 have PP:Pn M5 i ((M5++[O.lst La]).set i (aL a7 b7 c7)):=by
  obtain ⟨x,y,z,hz⟩:=P5.get hi
  exact ((Pn.self hz).app).set (by omega)
 have gT7:((M5++[O.lst La]).set i (aL a7 b7 c7))[M5.length]?=some (.lst La):=bL ar (by omega)
 let q4:=fV ns none (some 4)
 have lq:q4.length<=6:=L5 (nX (xs:=ns)).2 (by omega)
 let L3:List D:=La++[mQ q4]
 have r7:(((M5++[O.lst La]).set i (aL a7 b7 c7)).set M5.length (.lst L3))[R]?=some (.lst ((b9 m ks (m - 1)).map aU)):=by
  have hR5:R<M5.length:=(Mg.mp r5).1
  exact bL (bL (aC r5) (by omega)) (by omega)
 have F7:qj i (((M5++[O.lst La]).set i (aL a7 b7 c7)).set M5.length (.lst L3)) A m ks:=F5.pn (PP.put (MD _))
 have P8:Pn M i (((M5++[O.lst La]).set i (aL a7 b7 c7)).set M5.length (.lst L3)):=P7.put lT
 have gT8:(((M5++[O.lst La]).set i (aL a7 b7 c7)).set M5.length (.lst L3))[M5.length]?=some (.lst L3):=fP (by rw [NB,Nb];simp)
 have ap:fj (.obj M5.length) [mQ q4] ((M5++[O.lst La]).set i (aL a7 b7 c7))=.ok .non (((M5++[O.lst La]).set i (aL a7 b7 c7)).set M5.length (.lst L3)):=by
  unfold fj
  dsimp only
  rw [gT7]
  dsimp only
  rw [LU (show La.length<sizeLine from LY (show (2:Nat)<1000 by decide) bA)]
 generalize hM8:((M5++[O.lst La]).set i (aL a7 b7 c7)).set M5.length (.lst L3)=M8 at ap r7 F7 P8 gT8
 let y1:=fV (b9 m ks (m - 1)) none (some 2)
 have s1:qg (.obj R) none (some 2) M8=.ok (.obj M8.length) (M8++[O.lst (y1.map aU)]):=JT r7
 have hy6:∀ w∈y1,w.length<=6:=fun w hw=>FM h (nX.1 w hw)
 have hyl:y1.length<=300000:=L5 nX.2 (L5 (pj hm6 (show m - 1<=5 by omega)) (by
  have:m - 1<=5:=by omega
  exact L5 (Qd _ this) (by decide)))
 have hyl2:y1.length<=2:=by
  show (fV (b9 m ks (m - 1)) none (some 2)).length<=2
  unfold fV
  rw [MV]
  have h6:HT.sIx (b9 m ks (m - 1)).length (b9 m ks (m - 1)).length (some 2)=min 2 (b9 m ks (m - 1)).length:=HT.sIx_nat _ _ 2
  have h7:HT.sIx (b9 m ks (m - 1)).length 0 none=0:=rfl
  omega
 let M9:=M8++[O.lst (y1.map aU)]
 have cm:=dA (U:=List Int) (en:=aU) (src:=.own M8.length (y1.map aU)) (g:=ai 0) (t:=bI) (e:=qK) (μ1:=M9) (q:=fun _=>true) (h:=mQ)
  (fun ρ=>∃ o,ρ=[o]) (fun _=>aC ar) (us:=y1) (acc:=[]) (ρ:=[none]) ⟨_,rfl⟩
  (by rw [Of];exact L5 (by omega) bA)
  (fun w hw a ρ hJJ => by
   obtain ⟨o,e⟩:=hJJ
   subst e
   refine ⟨[some (aU w)],⟨_,rfl⟩,rfl,rfl,fun _=>?_⟩
   unfold qK
   have l2:([D.str "ring",aU w]:List D).length<=sizeLine:=sY (n:=2) rfl
   simp only [bO,aq,ay,aR,ah,aa,LU l2]
   rfl)
 rw [gF,NL] at cm
 let M10:=M9++[O.lst (y1.map mQ)]
 let ws:List D:=L3++y1.map mQ
 let M11:=M10++[O.lst ws]
 have ad1:bq (.obj M5.length) (.obj M9.length) M10=.ok (.obj M10.length) M11:=mq (aC (aC gT8)) ar (by rw [Nd];exact L5 (show L3.length+y1.length<=5 from by show 3+y1.length<=5;omega) (by decide))
 have P11:Pn M i M11:=by
  show Pn M i (M8++[O.lst (y1.map aU)]++[O.lst (y1.map mQ)]++[O.lst ws])
  exact ((P8.app).app).app
 have P811:Pn M8 i M11:=by
  obtain ⟨x,y,z,hz⟩:=P8.get hi
  show Pn M8 i (M8++[O.lst (y1.map aU)]++[O.lst (y1.map mQ)]++[O.lst ws])
  exact (((Pn.self hz).app).app).app
 have F11:qj i M11 A m ks:=F7.pn P811
 have l8:M.length<=M8.length:=P8.len
 have l10:M.length<=M10.length:=by
  show _<=(M8++[O.lst (y1.map aU)]++[O.lst (y1.map mQ)]).length
  simp only [Nb];omega
 have gT11:M11[M10.length]?=some (.lst ws):=ar
 have hws:∀ x∈ws,Ga x:=fun x hx=>by
  simp only [ws,L3,La,Me,Mc,N8,N9] at hx
  rcases hx with ((rfl|rfl) | rfl) | z
  ·exact .inr ⟨_,_,rfl⟩
  ·exact .inr ⟨_,_,rfl⟩
  ·exact .inl ⟨q4,rfl,lq⟩
  ·obtain ⟨w, hw, rfl⟩ := Ol.mp z
   exact .inl ⟨w,rfl,hy6 w hw⟩
 have hwl:ws.length<=10:=by
  show (L3++y1.map mQ).length<=10
  rw [Nb,Nd]
  have:L3.length=3:=rfl
  omega
 obtain ⟨x11,y11,z11,hp11⟩:=P11.get hi
 obtain ⟨ys,a12,b12,c12,s,cb,yl,hy⟩:=Dq hp11 gT11 (by omega) hws (by omega)
 have P12':Pn M11 i (M11.set i (aL a12 b12 c12)++.lst ys::s):=⟨_,_,_,_,rfl⟩
 have P1112:=P11.trans hi P12'
 have F12:=F11.pn P12'
 have ln11:(M11.set i (aL a12 b12 c12)).length=M11.length:=NB
 have gT12:(M11.set i (aL a12 b12 c12)++.lst ys::s)[M10.length]?=some (.lst ws):=aC (bL gT11 (by omega))
 have gY12:(M11.set i (aL a12 b12 c12)++.lst ys::s)[M11.length]?=some (.lst ys):=by rw [<- ln11];exact ar
 generalize hM12:M11.set i (aL a12 b12 c12)++.lst ys::s=M12 at cb hy P12' P1112 F12 gT12 gY12
 let M13:=M12++[O.lst (ws++ys)]
 have ad2:bq (.obj M10.length) (.obj M11.length) M12=.ok (.obj M12.length) M13:=mq gT12 gY12 (by omega)
 let Lz:List D:=[.non,.int 0,.str "ring"]
 let M14:=M13++[O.lst Lz]
 let zs:=ws++ys++Lz
 let M15:=M14++[O.lst zs]
 have ad3:bq (.obj M12.length) (.obj M13.length) M14=.ok (.obj M14.length) M15:=mq (aC ar) ar (by rw [Nb];show ws.length+ys.length+3<=1000000;omega)
 have gZ:M15[M14.length]?=some (.lst zs):=ar
 have P15:Pn M i M15:=by
  show Pn M i (M12++[O.lst (ws++ys)]++[O.lst Lz]++[O.lst zs])
  exact ((P1112.app).app).app
 have F15:lB M15 A m ks:=by
  show lB (M12++[O.lst (ws++ys)]++[O.lst Lz]++[O.lst zs]) A m ks
  exact ((F12.at.app).app).app
 have hz:∀ z∈zs,wg M15 z:=fun z hz=>by
  simp only [zs,Lz,Me,Mc,N8,N9] at hz
  rcases hz with (z1 | z1) | rfl|rfl|rfl
  ·exact ((hws z z1).bt (L:=fun _=>False)).ok nofun
  ·refine (hy z z1).ok fun n ⟨_, xs, e⟩ => ⟨xs, ?_⟩
   show (M12++[O.lst (ws++ys)]++[O.lst Lz]++[O.lst zs])[n]?=_
   exact aC (aC (aC e))
  ·exact ⟨nofun,nofun⟩
  ·exact ⟨nofun,nofun⟩
  ·exact ⟨nofun,nofun⟩
 obtain ⟨oA',oB',run⟩:=AV h F15 gZ hz (o0:=o0) (o1:=o1) (o2:=o2) (o3:=o3) (o4:=some (.obj i)) (o7:=some (.obj R)) (o8:=some (lj m ks)) (o9:=some (.obj M10.length)) (oA:=oA) (oB:=oB)
 refine ⟨some (.obj A),some (.obj R),some (lj m ks),some (.obj M10.length),oA',oB',M15,?_,P15⟩
 unfold mr
 have n2':∀ x y:D,([x,y]:List D).length<=sizeLine:=fun x y=>sY (n:=2) rfl
 have n3':∀ x y z:D,([x,y,z]:List D).length<=sizeLine:=fun x y z=>sY (n:=3) rfl
 have sbI:gC (.int (m:Int)) (.int 1) M5=.ok (.int ((m:Int) - 1)) M5:=rfl
 have sl4:∀ μ,qg (.tup (ns.map D.int)) none (some 4) μ=.ok (aU q4) μ:=fun μ=>by
  show ak.ok (D.tup (fV (ns.map D.int) none (some 4))) μ=_
  rw [Ac]
 have iL:Bo (.obj M5.length) (M5++[O.lst La])=true:=xp
 simp only [aM,aV,aD,aq,ay,aj,ah,aa,f1,f2,f3,ae,bH,Qo,Qp,aF]
 rw [t1]
 simp only [aF,aM]
 rw [t2]
 simp only [aF,aM,aV,cO,bO,aD,aq,ay,aR,az,aj,ah,aa,bG,eu,ev,sbI,LU (n3' _ _ _),LU (n2' _ _),ae,bH,Qo,Qp]
 rw [show O.lst [D.tup [D.str (Str.ofString "apart"),D.int u,D.int v],D.tup [D.str (Str.ofString "apart"),D.int 0,D.int ((m:Int) - 1)]]=O.lst La from rfl]
 simp only [aF,aM,nU,zw,aj,ah,aa,iL,Nn,aD,aq,ay,bO,aR,nM,lH,gG,az,bG,en,kC,sl4,LU (n2' _ _)]
 rw [show fj (.obj M5.length) [.tup [.str "ring",aU q4]] _=_ from ap]
 simp only [ae,aF,aM,aV,az,aj,ah,aa,bP,bY,nM,lH,gG,aR,kC,s1]
 rw [dm ar]
 simp only [aa,b8]
 rw [show eE [none] _=[none] from rfl,show compLoop (nA.own M8.length (y1.map aU)) (M8++[O.lst (y1.map aU)]).length (ai 0) bI qK (y1.map aU) [none] (M8++[O.lst (y1.map aU)]++[O.lst []])=_ from cm]
 simp only [aa]
 rw [show bq (.obj M5.length) (.obj M9.length) (M9++[O.lst (y1.map mQ)])=_ from ad1]
 simp only [ae,bH,Qo,Qp,aF,dO,bY,az,aj,ah,aa,bP]
 rw [dm gT11]
 simp only [aa,b8]
 rw [show eE [none,some 4] _=[none,some (.obj i)] from rfl,cb]
 simp only [aa]
 rw [ad2]
 simp only [aa,cO,aq,ay,aR,LU (n3' _ _ _)]
 rw [show bq (.obj M12.length) (.obj M13.length) (M13++[O.lst [D.non,D.int 0,D.str "ring"]])=_ from ad3]
 simp only [aa]
 rw [dm gZ]
 simp only [ae,b8]
 exact run
theorem Em {μ:aG}{ns:List Int}:∃ x:Int,eU [.frz (ns.map D.int),.int 0] μ=.ok (.int x) μ:=by
 unfold eU
 rw [cV]
 cases ns with
 | nil=>
  refine ⟨0,?_⟩
  simp only [jv,Ny,List.replicate,aM,bC,bT,az,aj,ah,aD,aq,ay,z9,Of,aa,dr]
  rw [show cW .Lt 0 ((0:Nat):Int)=false from rfl]
  simp only [aQ,ae,NP,Nl,bD,aF,aT,aR,aI]
  exact bg (by simp)
 | cons x r=>
  refine ⟨x,?_⟩
  simp only [jv,Nz,List.replicate,aM,bC,bT,az,aj,ah,aD,aq,ay,z9,NQ,aa,dr]
  rw [show cW .Lt 0 (((r.map D.int).length+1:Nat):Int)=true from NM (by omega)]
  simp only [aQ,ae,Nn,aT,az,aj,ah,aa]
  rw [IS wG]
  simp only [ae,cB,aI]
  exact bg (by simp)
theorem FI {d:D}{m:Int}{ks:List (List Int)} (h:bu d m ks):∃ n:Nat,m=(n:Int)/\d=.tup [.int n,.tup (ks.map ao)]/\bu (.tup [.int n,.tup (ks.map ao)]) n ks:=by
 obtain ⟨n,rfl⟩:∃ n:Nat,m=(n:Int):=⟨m.toNat,by have:=h.2.1;omega⟩
 have hd:=h.1
 subst hd
 exact ⟨n,rfl,rfl,h⟩
theorem Ft {M:aG}{i:Nat}{a b c m:Int}{d:D}{ks:List (List Int)} (h:bu d m ks) (hp:M[i]?=some (aL a b c)) {o0 o1 o2 o3 o6 o7 o8 o9 oA oB:Option D} :
  ∃ o6' o7' o8' o9' oA' oB' M',mr [o0,o1,o2,o3,some (.obj i),some d,o6,o7,o8,o9,oA,oB] M=.next [o0,o1,o2,o3,some (.obj i),some d,o6',o7',o8',o9',oA',oB'] M'/\Pn M i M':=by
 obtain ⟨n,rfl,rfl,h'⟩:=FI h
 exact Iq h' hp
def bU:D:=.tup [.int 4,.tup [.tup [.int 0,.int 1],.tup [.int 0,.int 3],.tup [.int 1,.int 2],.tup [.int 2,.int 3]]]
def iK:D:=.tup [.int 6,.tup [.tup [.int 0,.int 1],.tup [.int 0,.int 5],.tup [.int 1,.int 2],.tup [.int 2,.int 3],.tup [.int 3,.int 4],.tup [.int 4,.int 5]]]
theorem xP:bu bU 4 [[0,1],[0,3],[1,2],[2,3]]:=by
 refine ⟨rfl,by decide,by decide,?_,?_⟩
 ·decide
 ·intro k hk
  simp only [Mc,N8,N9] at hk
  rcases hk with rfl|rfl|rfl|rfl <;> exact ⟨_,_,rfl,by decide,by decide,by decide⟩
theorem CO:bu iK 6 [[0,1],[0,5],[1,2],[2,3],[3,4],[4,5]]:=by
 refine ⟨rfl,by decide,by decide,?_,?_⟩
 ·decide
 ·intro k hk
  simp only [Mc,N8,N9] at hk
  rcases hk with rfl|rfl|rfl|rfl|rfl|rfl <;> exact ⟨_,_,rfl,by decide,by decide,by decide⟩
theorem Fw {M:aG}{x:Int}{o0 o4 o5 o6 o7 o8 o9 oA oB:Option D}:∃ o4' o5' o6' o7' o8' o9' oA' oB' g,qI [o0,some bU,some iK,some (.int x),o4,o5,o6,o7,o8,o9,oA,oB] M=.next [o0,some bU,some iK,some (.int x),o4',o5',o6',o7',o8',o9',oA',oB'] (M++g):=by
 obtain ⟨a,b,c,ep⟩:=G6 (μ:=M) x
 have hp:(M++[aL a b c])[M.length]?=some (aL a b c):=ar
 obtain ⟨d,m,ks,a',b',c',g,ew⟩:=CD hp
 have hs:(M++[aL a b c]).set M.length (aL a' b' c')=M++[aL a' b' c']:=iH
 rw [hs] at ew
 have hp':(M++[aL a' b' c'])[M.length]?=some (aL a' b' c'):=ar
 obtain ⟨d2,m2,ks2,a2,b2,c2,g2,ew2⟩:=t7 hp'
 have hs2:(M++[aL a' b' c']).set M.length (aL a2 b2 c2)=M++[aL a2 b2 c2]:=iH
 rw [hs2] at ew2
 let M0:=M++[aL a2 b2 c2]++[O.lst [bU,iK]]
 have hi0:M.length<M0.length:=by show _<(M++[aL a2 b2 c2]++[O.lst [bU,iK]]).length;simp only [Nb,NQ,Of];omega
 have hp0:M0[M.length]?=some (aL a2 b2 c2):=aC ar
 obtain ⟨v,a3,b3,c3,v0,v1,ev,P3⟩:=(Pn.self hp0).draw (m:=2) hi0 (by decide) (by decide)
 have hs3:M0.set M.length (aL a3 b3 c3)=M++[aL a3 b3 c3]++[O.lst [bU,iK]]:=by
  show (M++[aL a2 b2 c2]++[O.lst [bU,iK]]).set M.length (aL a3 b3 c3)=_
  rw [NG,NG]
  exact iH
 rw [hs3] at ev
 have gL:(M++[aL a3 b3 c3]++[O.lst [bU,iK]])[(M++[aL a2 b2 c2]).length]?=some (.lst [bU,iK]):=by
  rw [show (M++[aL a2 b2 c2]).length=(M++[aL a3 b3 c3]).length from by simp only [Nb,NQ,Of]]
  exact ar
 obtain ⟨d3,m3,ks3,e3,g3⟩:∃ d3 m3 ks3,atI [bU,iK] v=some d3/\bu d3 m3 ks3:=by
  have:v=0\/v=1:=by omega
  rcases this with rfl|rfl
  ·exact ⟨bU,_,_,rfl,xP⟩
  ·exact ⟨iK,_,_,rfl,CO⟩
 let M1:=M++[aL a3 b3 c3]++[O.lst [bU,iK]]++[O.lst [d,d2,d3]]
 let T:=(M++[aL a3 b3 c3]++[O.lst [bU,iK]]).length
 have hT:M1[T]?=some (.lst [d,d2,d3]):=ar
 have iT:M.length≠T:=by show M.length≠(M++[aL a3 b3 c3]++[O.lst [bU,iK]]).length;simp only [Nb,NQ,Of];omega
 have hi:M.length<M1.length:=by show _<(M++[aL a3 b3 c3]++[O.lst [bU,iK]]++[O.lst [d,d2,d3]]).length;simp only [Nb,NQ,Of];omega
 have hp1:M1[M.length]?=some (aL a3 b3 c3):=aC (aC ar)
 obtain ⟨ρ',μ',⟨_,hP,o5',o6',o7',o8',o9',oA',oB',eρ⟩,run⟩:=dP (src:=.own T [d,d2,d3]) (g:=ai 5) (fb:=mr)
  (fun xs ρ μ1=>(∀ y∈xs,∃ m ks,bu y m ks)/\Pn M1 M.length μ1/\∃ o5 o6 o7 o8 o9 oA oB,ρ=[o0,some bU,some iK,some (.int x),some (.obj M.length),o5,o6,o7,o8,o9,oA,oB])
  (fun ρ μ1 hJJ => by
   obtain ⟨_,hP,_⟩:=hJJ
   obtain ⟨a,b,c,g,rfl⟩:=hP
   show (_++_)[T]?=_
   exact aC (bL hT iT))
  (fun y ys ρ μ1 hJJ => by
   obtain ⟨hy,hP,o5,o6,o7,o8,o9,oA,oB,e⟩:=hJJ
   subst e
   obtain ⟨m,ks,gw⟩:=hy y Ma
   obtain ⟨a,b,c,gp⟩:=hP.get hi
   obtain ⟨o6',o7',o8',o9',oA',oB',M',e1,P1⟩:=Ft gw gp (o0:=o0) (o1:=some bU) (o2:=some iK) (o3:=some (.int x)) (o6:=o6) (o7:=o7) (o8:=o8) (o9:=o9) (oA:=oA) (oB:=oB)
   refine ⟨?_,_,μ1,_,M',rfl,e1,fun z hz=>hy z (Mb _ hz),Pn.trans hi hP P1,_,_,_,_,_,_,_,rfl⟩
   obtain ⟨a,b,c,g,rfl⟩:=hP
   show (_++_)[T]?=_
   exact aC (bL hT iT))
  (xs:=[d,d2,d3]) (ρ:=[o0,some bU,some iK,some (.int x),some (.obj M.length),o5,o6,o7,o8,o9,oA,oB]) (μ:=M1)
  ⟨fun y hy => by
   simp only [Mc,N8,N9] at hy
   rcases hy with rfl|rfl|rfl
   ·exact ⟨_,_,g⟩
   ·exact ⟨_,_,g2⟩
   ·exact ⟨_,_,g3⟩,Pn.self hp1,_,_,_,_,_,_,_,rfl⟩
 subst eρ
 obtain ⟨a4,b4,c4,g4,rfl⟩:=hP
 refine ⟨some (.obj M.length),o5',o6',o7',o8',o9',oA',oB',[aL a4 b4 c4]++[O.lst [bU,iK]]++[O.lst [d,d2,d3]]++g4,?_⟩
 unfold qI
 have l2':([bU,iK]:List D).length<=sizeLine:=sY (n:=2) rfl
 have l3':([d,d2,d3]:List D).length<=sizeLine:=sY (n:=3) rfl
 simp only [aM,aV,aD,aq,ay,aj,ah,aa,ep,ae,bH,Qo,Qp,aF,dO,bY,cO,ew,ew2,az,aR,LU l2']
 rw [show aJ [.obj M.length,.int 2] (M++[aL a2 b2 c2]++[O.lst [bU,iK]])=_ from ev]
 simp only [aa]
 rw [cU gL e3]
 simp only [aa,LU l3']
 rw [dm hT]
 simp only [ae,b8]
 rw [show d9 (nA.own T [d,d2,d3]) (ai 5) mr [d,d2,d3] _ _=_ from run]
 congr 1
 show (M++[aL a3 b3 c3]++[O.lst [bU,iK]]++[O.lst [d,d2,d3]]).set M.length (aL a4 b4 c4)++g4=_
 rw [NG,NG,NG]
 show (M++aL a3 b3 c3::_).set M.length (aL a4 b4 c4)++g4=_
 rw [iH,NG]
 rfl
theorem G7 (ns:List Int):∃ μ',wH [.frz (ns.map D.int)] []=.ok (.bl true) μ':=by
 obtain ⟨x0,ex0⟩:=Em (μ:=[]) (ns:=ns)
 obtain ⟨xs,hxs,hxl⟩:∃ xs:List Int,fV (ns.map D.int) (some 1) (some 6)=xs.map D.int/\xs.length<=6:=by
  refine ⟨(ns.drop (HT.sIx ns.length 0 (some 1))).take (HT.sIx ns.length ns.length (some 6) - HT.sIx ns.length 0 (some 1)),?_,?_⟩
  ·unfold fV
   rw [Nd,Ov,Ow]
  ·rw [MV]
   have h6:HT.sIx ns.length ns.length (some 6)=min 6 ns.length:=HT.sIx_nat _ _ 6
   omega
 obtain ⟨L,hL⟩:∃ L:List Int,L=x0::xs:=⟨_,rfl⟩
 let M5:aG:=([O.lst [.int x0]]++[O.lst (xs.map D.int)])++[O.lst (L.map D.int)]
 have h5:M5[2]?=some (.lst (L.map D.int)):=rfl
 obtain ⟨ρ3,M6,_,run3⟩:=dP (src:=.own 2 (L.map D.int)) (g:=ai 3) (fb:=qI)
  (fun zs ρ μ=>(∃ g,μ=M5++g)/\(∃ rs:List Int,zs=rs.map D.int)/\∃ o0 o3 o4 o5 o6 o7 o8 o9 oA oB,ρ=[o0,some bU,some iK,o3,o4,o5,o6,o7,o8,o9,oA,oB])
  (fun ρ μ ⟨⟨g,e⟩,_⟩=>by rw [e];exact aC h5)
  (fun x r ρ μ hJJ => by
   obtain ⟨⟨g,e⟩,⟨rs,er⟩,o0,o3,o4,o5,o6,o7,o8,o9,oA,oB,eρ⟩:=hJJ
   subst eρ
   cases rs with
   | nil=>cases er
   | cons y rs=>
    injection er with ex er
    subst ex er
    obtain ⟨o4',o5',o6',o7',o8',o9',oA',oB',g',e1⟩:=Fw (M:=μ) (x:=y) (o0:=o0) (o4:=o4) (o5:=o5) (o6:=o6) (o7:=o7) (o8:=o8) (o9:=o9) (oA:=oA) (oB:=oB)
    exact ⟨by rw [e];exact aC h5,_,μ,_,_,rfl,e1,⟨g++g',by rw [e,NG]⟩,⟨rs,rfl⟩,_,_,_,_,_,_,_,_,_,_,rfl⟩)
  (xs:=L.map D.int) (ρ:=[some (.frz (ns.map D.int)),some bU,some iK,none,none,none,none,none,none,none,none,none]) (μ:=M5)
  ⟨⟨[],by rw [MM]⟩,⟨L,rfl⟩,_,_,_,_,_,_,_,_,_,_,rfl⟩
 have hend:∃ μ',qw [] (.ok (.bl true) M6)=.ok (.bl true) μ':=by
  rcases Ck (μ:=[]) (d:=.bl true) (μ':=M6) with e | ⟨e,_⟩ <;> exact ⟨_,e⟩
 obtain ⟨μ',hend⟩:=hend
 refine ⟨μ',?_⟩
 unfold wH
 rw [ji]
 unfold Gu
 have l1:([.int x0]:List D).length<=sizeLine:=sY (n:=1) rfl
 have n2:∀ x y:D,([x,y]:List D).length<=sizeLine:=fun x y=>sY (n:=2) rfl
 have n4:∀ x y z u:D,([x,y,z,u]:List D).length<=sizeLine:=fun x y z u=>sY (n:=4) rfl
 have n6:∀ x y z u v w:D,([x,y,z,u,v,w]:List D).length<=sizeLine:=fun x y z u v w=>sY (n:=6) rfl
 have sl:∀ μ,qg (.frz (ns.map D.int)) (some 1) (some 6) μ=.ok (.obj μ.length) (μ++[.lst (xs.map D.int)]):=fun μ=>by
  unfold qg;dsimp only;rw [hxs]
 have ad:bq (.obj 0) (.obj 1) ([O.lst [.int x0]]++[O.lst (xs.map D.int)])=.ok (.obj 2) M5:=by
  have:=mq (μ:=[O.lst [.int x0]]++[O.lst (xs.map D.int)]) (a:=0) (b:=1) rfl rfl (show ([.int x0]:List D).length+(xs.map D.int).length<=1000000 by rw [Nd];simp only [NQ,Of];omega)
  rw [this]
  simp only [M5,hL]
  rfl
 simp only [List.replicate]
 simp only [aM,aV,bO,aq,ay,aR,aa,LU (n2 _ _),LU (n4 _ _ _ _),LU (n6 _ _ _ _ _ _),ae,bH,Qo,Qp,aF]
 rw [dO,bY,az,cO,aq,aD,aq,ah,aa,aq,aR,aa,ay,aa,aa,aa,ex0,aa,ay,aa,aa]
 simp only [LU l1,aa,nM,ah,gG,aR,kC]
 rw [sl,aa]
 rw [show bq (.obj ([]:aG).length) (.obj (([]:aG)++[O.lst [.int x0]]).length) (([]:aG)++[O.lst [.int x0]]++[O.lst (xs.map D.int)])=_ from ad]
 rw [aa,dm h5,ae,b8]
 unfold bU iK at run3
 rw [run3,aF,aT,aR,ae,aI]
 exact hend
end Lw
namespace Lw
open PySem PySem.Spec PyProof.Rows L2 RS
theorem cq (P:Params) (f:Addr) (n m:Str) (t:Tok) (c:Addr) (st:Stmt) (l:(Kz P).lookup f=some (fo n st m t c)) (q:W.codeIn (Kz P) (.ref c) n=true):iS (Kz P) n n st f (W.fnOf n n (fg st) (c8 st) (aw st) .none .none .none (.str m t) none (.ref c) .none):=IP l q (by unfold W.keepIn;dsimp only;rw [l];rfl)
theorem Ja {l:W.OpenLaw}{w:World}{h:Heap}{mg:Str->Option Value}{fa:Addr} (X:(Kz w.params).In h) (G:h.Ns mainGlobals mg) (hfa:mg "law" = some (.ref fa)) :
  ∃ fd:FuncData,(∀ (s:Shared) (v:Value),BindsTo s fd ⟨[v],[]⟩ [("_law_script",v)])/\∀ base:Heap,(Kz w.params).In base->base.Ns mainGlobals mg->tp l.prog w (Kz w.params) mg base By 8 fa fd ["_law_script"] (Gw (di (Kz w.params) w) 1 wH):=by
 have e:=hfa.symm.trans (W.mg_of X G (v:=.ref 254) (by kernel_rfl))
 cases e
 have nm:Nm mg:=⟨W.mg_none_of X G (by kernel_rfl),W.mg_none_of X G (by kernel_rfl),W.mg_none_of X G (by kernel_rfl),W.mg_none_of X G (by kernel_rfl),W.mg_none_of X G (by kernel_rfl),W.mg_none_of X G (by kernel_rfl),W.mg_none_of X G (by kernel_rfl),W.mg_none_of X G (by kernel_rfl),W.mg_none_of X G (by kernel_rfl),W.mg_none_of X G (by kernel_rfl),W.mg_none_of X G (by kernel_rfl),W.mg_none_of X G (by kernel_rfl),W.mg_none_of X G (by kernel_rfl),W.mg_none_of X G (by kernel_rfl)⟩
 have c_LEAST_RING:=W.mg_of X G (n:="LEAST_RING") (v:=(.int 3 322)) (by kernel_rfl)
 have c_LEAST_BARE:=W.mg_of X G (n:="LEAST_BARE") (v:=(.int 4 338)) (by kernel_rfl)
 have F:=cq w.params 254 "law" "law_rootwebs_k35_tree_bars" 380 253 kz (by kernel_rfl) (by kernel_rfl)
 refine ⟨W.fnOf "law" "law" (fg kz) (c8 kz) (aw kz) .none .none .none (.str "law_rootwebs_k35_tree_bars" 380) none (.ref 253) .none,fun s v=>.of_eq rfl,fun base _ _=>?_⟩
 have d_is_whole:=x8 (P:=l.prog) (w:=w) (base:=base) nm (cq w.params 46 "is_whole" "rootwebs.kinds" 223 45 jM (by kernel_rfl) (by kernel_rfl)) (W.mg_of X G (by kernel_rfl))
 have d_is_whole_from:=pF (P:=l.prog) (w:=w) (base:=base) nm (cq w.params 53 "is_whole_from" "rootwebs.kinds" 223 52 fq (by kernel_rfl) (by kernel_rfl)) (W.mg_of X G (by kernel_rfl)) d_is_whole
 have d_is_place:=x9 (P:=l.prog) (w:=w) (base:=base) nm (cq w.params 60 "is_place" "rootwebs.kinds" 223 59 jN (by kernel_rfl) (by kernel_rfl)) (W.mg_of X G (by kernel_rfl)) d_is_whole_from
 have d_is_places:=vM (P:=l.prog) (w:=w) (base:=base) nm (cq w.params 65 "is_places" "rootwebs.kinds" 223 64 gJ (by kernel_rfl) (by kernel_rfl)) (W.mg_of X G (by kernel_rfl)) d_is_place
 have d_is_headed:=vN (P:=l.prog) (w:=w) (base:=base) nm (cq w.params 72 "is_headed" "rootwebs.kinds" 223 71 iX (by kernel_rfl) (by kernel_rfl)) (W.mg_of X G (by kernel_rfl))
 have d_check_place:=sP (P:=l.prog) (w:=w) (base:=base) nm (cq w.params 79 "check_place" "rootwebs.webs" 264 78 gS (by kernel_rfl) (by kernel_rfl)) (W.mg_of X G (by kernel_rfl)) d_is_place
 have d_is_tied:=yZ (P:=l.prog) (w:=w) (base:=base) nm (cq w.params 86 "is_tied" "rootwebs.webs" 264 85 kI (by kernel_rfl) (by kernel_rfl)) (W.mg_of X G (by kernel_rfl))
 have d_next_places:=sN (P:=l.prog) (w:=w) (base:=base) nm (cq w.params 103 "next_places" "rootwebs.webs" 264 102 dB (by kernel_rfl) (by kernel_rfl)) (W.mg_of X G (by kernel_rfl))
 have d_fars_from:=vO (P:=l.prog) (w:=w) (base:=base) nm (cq w.params 98 "fars_from" "rootwebs.webs" 264 97 gK (by kernel_rfl) (by kernel_rfl)) (W.mg_of X G (by kernel_rfl)) d_next_places
 have d_far_of:=AR (P:=l.prog) (w:=w) (base:=base) nm (cq w.params 93 "far_of" "rootwebs.webs" 264 92 mv (by kernel_rfl) (by kernel_rfl)) (W.mg_of X G (by kernel_rfl)) d_check_place d_fars_from
 have d_star_of:=yY (P:=l.prog) (w:=w) (base:=base) nm (cq w.params 110 "star_of" "rootwebs.webs" 264 109 kH (by kernel_rfl) (by kernel_rfl)) (W.mg_of X G (by kernel_rfl)) d_check_place d_next_places
 have d_pieces_of:=vL (P:=l.prog) (w:=w) (base:=base) nm (cq w.params 115 "pieces_of" "rootwebs.looks" 312 114 gI (by kernel_rfl) (by kernel_rfl)) (W.mg_of X G (by kernel_rfl)) d_fars_from
 have d_ring_good:=vK (P:=l.prog) (w:=w) (base:=base) nm (cq w.params 120 "ring_good" "rootwebs.rings" 320 119 gH (by kernel_rfl) (by kernel_rfl)) (W.mg_of X G (by kernel_rfl)) ⟨_,c_LEAST_RING⟩ d_is_places d_is_tied
 have d_rings_of:=xZ (P:=l.prog) (w:=w) (base:=base) nm (cq w.params 125 "rings_of" "rootwebs.rings" 320 124 dE (by kernel_rfl) (by kernel_rfl)) (W.mg_of X G (by kernel_rfl)) d_star_of
 have d_is_apart:=ya (P:=l.prog) (w:=w) (base:=base) nm (cq w.params 139 "is_apart" "rootwebs.trees" 336 138 jO (by kernel_rfl) (by kernel_rfl)) (W.mg_of X G (by kernel_rfl)) d_is_places d_far_of
 have d_is_bare:=y0 (P:=l.prog) (w:=w) (base:=base) nm (cq w.params 151 "is_bare" "rootwebs.trees" 336 150 jo (by kernel_rfl) (by kernel_rfl)) (W.mg_of X G (by kernel_rfl))
 have d_is_bar_ring:=sO (P:=l.prog) (w:=w) (base:=base) nm (cq w.params 146 "is_bar_ring" "rootwebs.trees" 336 145 gR (by kernel_rfl) (by kernel_rfl)) (W.mg_of X G (by kernel_rfl)) ⟨_,c_LEAST_BARE⟩ d_ring_good d_is_bare
 have d_bar_good:=yb (P:=l.prog) (w:=w) (base:=base) nm (cq w.params 132 "bar_good" "rootwebs.trees" 336 131 jP (by kernel_rfl) (by kernel_rfl)) (W.mg_of X G (by kernel_rfl)) d_is_headed d_is_apart d_is_bar_ring
 have d_bar_of:=AS (P:=l.prog) (w:=w) (base:=base) nm (cq w.params 158 "bar_of" "rootwebs.trees" 336 157 mw (by kernel_rfl) (by kernel_rfl)) (W.mg_of X G (by kernel_rfl)) ⟨_,c_LEAST_BARE⟩ d_pieces_of d_rings_of d_is_bare
 have d__law_cell_at:=qm (P:=l.prog) (w:=w) (base:=base) nm (cq w.params 165 "_law_cell_at" "law_rootwebs_k35_tree_bars" 380 164 fS (by kernel_rfl) (by kernel_rfl)) (W.mg_of X G (by kernel_rfl))
 have d__law_next:=vP (P:=l.prog) (w:=w) (base:=base) nm (cq w.params 172 "_law_next" "law_rootwebs_k35_tree_bars" 380 171 iY (by kernel_rfl) (by kernel_rfl)) (W.mg_of X G (by kernel_rfl))
 have d__law_pen_of:=sR (P:=l.prog) (w:=w) (base:=base) nm (cq w.params 179 "_law_pen_of" "law_rootwebs_k35_tree_bars" 380 178 gU (by kernel_rfl) (by kernel_rfl)) (W.mg_of X G (by kernel_rfl))
 have d__law_draw:=vR (P:=l.prog) (w:=w) (base:=base) nm (cq w.params 186 "_law_draw" "law_rootwebs_k35_tree_bars" 380 185 iZ (by kernel_rfl) (by kernel_rfl)) (W.mg_of X G (by kernel_rfl)) d__law_next
 have d__law_whole:=tH (P:=l.prog) (w:=w) (base:=base) nm (cq w.params 193 "_law_whole" "law_rootwebs_k35_tree_bars" 380 192 iz (by kernel_rfl) (by kernel_rfl)) (W.mg_of X G (by kernel_rfl))
 have d__law_named:=tL (P:=l.prog) (w:=w) (base:=base) nm (cq w.params 198 "_law_named" "law_rootwebs_k35_tree_bars" 380 197 d7 (by kernel_rfl) (by kernel_rfl)) (W.mg_of X G (by kernel_rfl))
 have d__law_names_by:=pG (P:=l.prog) (w:=w) (base:=base) nm (cq w.params 203 "_law_names_by" "law_rootwebs_k35_tree_bars" 380 202 dC (by kernel_rfl) (by kernel_rfl)) (W.mg_of X G (by kernel_rfl)) d__law_draw
 have d__law_far:=yc (P:=l.prog) (w:=w) (base:=base) nm (cq w.params 208 "_law_far" "law_rootwebs_k35_tree_bars" 380 207 iI (by kernel_rfl) (by kernel_rfl)) (W.mg_of X G (by kernel_rfl))
 have d__law_steps:=tJ (P:=l.prog) (w:=w) (base:=base) nm (cq w.params 213 "_law_steps" "law_rootwebs_k35_tree_bars" 380 212 fI (by kernel_rfl) (by kernel_rfl)) (W.mg_of X G (by kernel_rfl)) d__law_far
 have d__law_sparse_by:=oI (P:=l.prog) (w:=w) (base:=base) nm (cq w.params 218 "_law_sparse_by" "law_rootwebs_k35_tree_bars" 380 217 br (by kernel_rfl) (by kernel_rfl)) (W.mg_of X G (by kernel_rfl)) d__law_draw d__law_named d__law_names_by
 have d__law_web_by:=sQ (P:=l.prog) (w:=w) (base:=base) nm (cq w.params 225 "_law_web_by" "law_rootwebs_k35_tree_bars" 380 224 gT (by kernel_rfl) (by kernel_rfl)) (W.mg_of X G (by kernel_rfl)) d__law_sparse_by d__law_draw d__law_steps
 have d__law_bare:=vT (P:=l.prog) (w:=w) (base:=base) nm (cq w.params 232 "_law_bare" "law_rootwebs_k35_tree_bars" 380 231 i3 (by kernel_rfl) (by kernel_rfl)) (W.mg_of X G (by kernel_rfl))
 have d__law_good:=vQ (P:=l.prog) (w:=w) (base:=base) nm (cq w.params 237 "_law_good" "law_rootwebs_k35_tree_bars" 380 236 fm (by kernel_rfl) (by kernel_rfl)) (W.mg_of X G (by kernel_rfl)) d__law_whole d__law_bare
 have d__law_rings:=tK (P:=l.prog) (w:=w) (base:=base) nm (cq w.params 242 "_law_rings" "law_rootwebs_k35_tree_bars" 380 241 d6 (by kernel_rfl) (by kernel_rfl)) (W.mg_of X G (by kernel_rfl)) d__law_bare
 have d__law_bent:=vS (P:=l.prog) (w:=w) (base:=base) nm (cq w.params 249 "_law_bent" "law_rootwebs_k35_tree_bars" 380 248 i0 (by kernel_rfl) (by kernel_rfl)) (W.mg_of X G (by kernel_rfl)) d__law_draw
 exact IQ nm F d__law_cell_at d__law_pen_of d__law_web_by d__law_sparse_by d__law_draw d__law_far d__law_rings d_bar_of d__law_good d__law_names_by d__law_bent d_bar_good
theorem KM {l:W.OpenLaw}{q:Program}{loose:List Str}{XP:(Str->Option Value)->Heap->Prop}{d:DefRec} (hn:l.most=some 63) (hdf:d.params.defaults=[]) (hd:d.name = "law") :
  W.WalkO q loose XP (W.Hook.says Hz) l.row.toRowW d [] (fun f vs=>PySem.call f vs):=
 L2.walk_of (K:=Kz) (n:=63) (k:=8) (x:="_law_script") (CX:=fun _=>By) (sp:=fun w=>Gw (di (Kz w.params) w) 1 wH) hn (by decide) hdf ⟨rfl,by decide,by decide,rfl⟩ (fun _ _ Y=>W.kIn_of Y) (fun _ _ _ _ X G e=>Ja X G (hd ▸ e)) (fun w H a ns hl hO hS=>Dr (G7 ns) hO hS) fun _ _ _ _ _ z=>z
end Lw
open PySem PySem.W PyProof.Rows Lw
set_option maxRecDepth 100000 in
set_option maxHeartbeats 0 in
theorem PySem.Challenge.cw_rootwebs_k35_tree_bars_holds : PySem.Challenge.rw_rootwebs_k35_tree_bars.Holds := by
 w_on;refine holds_law GL fun said=>?_
 exact holds_open (Xt:=Xz) (XP:=XL Qz []) (YP:=Hook.says Hz) GM (Hook.of Hz) (Hook.keeps Hz) (fun s e=>xl_of s (Bool.and_eq_true_iff.mp e).1) XL.keeps (by rfl) (by rfl) (by rfl) (fun s e=>recFacts_of (Bool.and_eq_true_iff.mp e).2) (by rfl) said (by decide +kernel) ⟨rfl,rfl,rfl,rfl,rfl,by decide +kernel⟩ (by w_witness2) (KM rfl rfl rfl)
