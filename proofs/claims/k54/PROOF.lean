import PyProof.Rows.All
import Wide.All
import OpenK.AllK
import Wide.FinOn
import PyProof.EqAt
import PyProof.EqKinds
import PyProof.TupleCall
import PyProof.P3In
import PyProof.NeData
import PyProof.ConsumeS
import PyProof.WalksMore
import PyProof.ReprRoads
import PyProof.ReprLen
import PyProof.Draws
import PyProof.EnumMake
import PyProof.EnumFor
import PyProof.CallFns
import PyProof.Rows.CallKwBuiltin
import Lean
import PySem.Challenge.RW_rootwebs_k54_roots_by_looked_at
set_option Elab.async false
set_option linter.all false
set_option maxHeartbeats 1000000
set_option maxHeartbeats 2000000
set_option maxHeartbeats 400000
set_option maxHeartbeats 4000000
set_option maxRecDepth 100000
abbrev Ll:=@PySem.Value.isInt_shape
abbrev Lm:=@decide_eq_false
abbrev Ln:=@beq_eq_false_iff_ne
abbrev Lo:=@PySem.wpAny_eqBool_int
abbrev Lp:=@if_pos
abbrev Lq:=@if_neg
abbrev Lr:=@Option.some.inj
abbrev Ls:=@PySem.Heap.lt_size
abbrev Lu:=@Nat.lt_of_lt_of_le
abbrev Lx:=@Nat.lt_irrefl
abbrev Ly:=@Nat.ne_of_lt
abbrev Lz:=@List.mem_filter
abbrev LA:=@List.mem_range
abbrev LB:=@Nat.le_trans
abbrev LC:=@Nat.le_of_lt
abbrev LD:=@List.filterMap_cons
abbrev LF:=@List.mem_cons_self
abbrev LG:=@List.mem_cons_of_mem
abbrev LH:=@List.mem_cons
abbrev LI:=@Ne.symm
abbrev LJ:=@List.mem_append
abbrev LK:=@List.mem_append_left
abbrev LL:=@List.getElem?_eq_some_iff
abbrev LM:=@List.getElem_inj
abbrev LN:=@List.getElem?_set_self
abbrev LO:=@List.getElem?_set_ne
abbrev LP:=@PySem.wpAny_mono
abbrev LQ:=@PySem.wpAny_truthy_bool
abbrev LR:=@Array.length_toList
abbrev LS:=@congrArg
abbrev LU:=@PySem.wpAny_execs_nil
abbrev LV:=@PySem.wpAny_bind
abbrev LW:=@PySem.wpAny_holding
abbrev LX:=@PySem.wpAny_standAt
abbrev LY:=@PySem.wpAny_passesOwn
abbrev LZ:=@Bool.false_ne_true
abbrev L3:=@Nat.ne_of_gt
abbrev L4:=@PySem.wpAny_pure
abbrev L5:=@PySem.wpAny_load
abbrev L6:=@Bool.false_and
abbrev L7:=@PySem.Heap.get?_push_of_some
abbrev L8:=@PySem.Heap.get?_push_size
abbrev L9:=@Nat.le_refl
abbrev Ma:=@PyProof.Rows.callWith_type1
abbrev Mb:=@List.mem_filterMap
abbrev Mc:=@List.mem_append_right
abbrev Md:=@Bool.eq_iff_iff
abbrev Me:=@PySem.sizeLine_eq
abbrev Mf:=@List.size_toArray
abbrev Mg:=@List.append_nil
abbrev Mh:=@PySem.codeAny_mono
abbrev Mi:=@PySem.wpAny_Call_Name_kw
abbrev Mj:=@List.nodup_cons
abbrev Ml:=@List.of_mem_zip
abbrev Mm:=@Option.isSome_iff_exists
abbrev Mn:=@List.length_take
abbrev Mo:=@PySem.mem_of_lookup
abbrev Mp:=@List.getElem?_append_right
abbrev Mq:=@List.getElem?_replicate
abbrev Mr:=@List.getElem?_append_left
abbrev Ms:=@List.getElem?_map
abbrev Mt:=@List.getElem?_take_of_lt
abbrev Mu:=@List.mem_of_getElem?
abbrev Mv:=@List.length_append
abbrev Mw:=@List.length_map
abbrev Mx:=@PySem.noFill_tuple_add
abbrev My:=@PySem.F.slot_tuple_add
abbrev Mz:=@PySem.F.entry_tuple_add
abbrev MC:=@PySem.F.args_tuple_add_2
abbrev MD:=@Int.toNat_natCast
abbrev MF:=@Nat.min_le_right
abbrev MH:=@if_false
abbrev MJ:=@if_true
abbrev MK:=@PyProof.Rows.slicePart_none
abbrev ML:=@PySem.wpAny_field
abbrev MM:=@List.filterMap_map
abbrev MN:=@List.length_drop
abbrev MP:=@PySem.wpAny_sequenceKey
abbrev MQ:=@PySem.wpAny_callSpecial?_slot
abbrev MR:=@PyProof.Rows.slot_tuple_getitem
abbrev MU:=@PySem.wpAny_call_entry
abbrev MV:=@PyProof.Rows.entry_tuple_getitem
abbrev MW:=@PyProof.Rows.args_tuple_getitem
abbrev MX:=@PySem.wpAny_typeOf
abbrev MY:=@Bool.and_eq_true
abbrev MZ:=@PySem.wpAny_newObj_type
abbrev Na:=@List.map_nil
abbrev Nb:=@List.map_cons
abbrev Nd:=@PySem.Heap.IsSliceOf.new
abbrev Nf:=@PySem.slot_list_getitem
abbrev Ng:=@PySem.Heap.get?_update_self
abbrev Nh:=@List.length_set
abbrev Ni:=@List.all_cons
abbrev Nj:=@List.reverse_cons
abbrev Nk:=@List.replicate_succ
abbrev Nl:=@List.flatten_cons
abbrev Np:=@List.append_assoc
abbrev Nq:=@List.foldl_cons
abbrev Nr:=@PySem.call_meets
abbrev Nt:=@List.length_singleton
abbrev Nu:=@Bool.and_false
abbrev Nv:=@Nat.succ_mul
abbrev Nx:=@Nat.add_comm
abbrev Ny:=@List.nil_append
abbrev Nz:=@decide_eq_true
abbrev NA:=@List.lookup_cons
abbrev NB:=@beq_self_eq_true
abbrev NC:=@Bool.false_eq_true
abbrev ND:=@List.length_cons
abbrev NF:=@Nat.lt_succ_self
abbrev NG:=@Nat.lt_succ_of_lt
abbrev NH:=@PySem.Heap.size_push
abbrev NI:=@PySem.pushCells_keeps
abbrev NJ:=@Option.bind_some
abbrev NK:=@PySem.codeAny_of_tree
abbrev NL:=@PySem.wpAny_askSetting
abbrev NM:=@PySem.wpAny_rule
abbrev NN:=@Nat.zero_le
abbrev NO:=@List.mem_singleton
abbrev NP:=@List.range_succ_eq_map
abbrev NQ:=@List.map_map
abbrev NR:=@List.map_congr_left
abbrev NS:=@List.length_range
abbrev NT:=@List.length_nil
abbrev NU:=@List.cons.inj
abbrev NV:=@List.cons_append
abbrev NW:=@List.pairwise_iff_getElem
abbrev NX:=@Array.getElem?_eq_some_iff
abbrev NY:=@List.take_of_length_le
abbrev NZ:=@Array.getElem?_toList
abbrev N0:=@List.mem_map
abbrev N1:=@Classical.byContradiction
abbrev N2:=@List.nodup_range
abbrev N3:=@List.getElem?_of_mem
abbrev N4:=@List.mem_map_of_mem
abbrev N5:=@List.take_append_drop
abbrev N6:=@List.pairwise_cons
abbrev N7:=@List.map_append
abbrev N8:=@List.map_take
abbrev N9:=@List.map_drop
abbrev Oa:=@Array.getD_eq_getD_getElem?
abbrev Ob:=@Option.getD_some
abbrev Oc:=@List.getElem?_drop
abbrev Od:=@List.mem_of_mem_take
abbrev Oe:=@List.mem_of_mem_drop
abbrev Of:=@Array.getElem?_eq_none_iff
abbrev Og:=@List.nodup_nil
abbrev Oh:=@Nat.sub_self
abbrev Oi:=@List.pairwise_lt_range
abbrev Oj:=@Array.getElem?_eq_getElem
abbrev Ol:=@List.all_eq_true
abbrev Om:=@Int.toNat_of_nonneg
abbrev On:=@Bool.not_true
abbrev Oo:=@PySem.wpAny_forIn_list
abbrev Oq:=@PySem.wpAny_setState_of
abbrev Os:=@Bool.and_self
abbrev Ot:=@Array.mem_toList_iff
abbrev Ou:=@List.nodup_append
abbrev Ov:=@PySem.wpAny_storeSet_of
abbrev Ow:=@PySem.putSet_of
abbrev Ox:=@PySem.Heap.SameBut.update
abbrev Oy:=@Bool.not_false
abbrev Oz:=@List.foldl_append
abbrev OA:=@PySem.codeAny_builtin
abbrev OB:=@PySem.Around.under_plainId
abbrev OC:=@PyProof.Rows.F.plain_set_update_loop
abbrev OD:=@PySem.wpAny_of_eq
abbrev OE:=@PySem.isSubtype_type
abbrev OF:=@PySem.F.called_set
abbrev OG:=@PySem.Code.quiet_builtin
abbrev OH:=@PySem.codeAny_call_builtin
abbrev OI:=@PySem.wpAny_pyIter_list
abbrev OJ:=@PySem.wpAny_runValue
abbrev OK:=@List.not_mem_nil
abbrev OL:=@or_false
abbrev OM:=@PySem.wpAny_pyIter_tuple
abbrev ON:=@List.take_add_one
abbrev OO:=@Nat.le_add_right
abbrev OP:=@List.take_length
abbrev OQ:=@PySem.W.KasT.kasWp_bind
abbrev OR:=@decide_eq_decide
abbrev OS:=@List.getD_eq_getElem?_getD
abbrev OT:=@List.ext_getElem?
abbrev OU:=@List.getElem?_range
abbrev OV:=@List.getElem?_eq_none
abbrev OW:=@List.pairwise_map
abbrev OX:=@PyProof.Rows.listUpdate_at
abbrev OY:=@PyProof.Rows.get?_update_seq
abbrev OZ:=@PySem.wpAny_newList
abbrev O0:=@PyProof.Rows.size_push'
abbrev O1:=@PySem.Heap.size_update
abbrev O2:=@PySem.Heap.get?_update_ne
abbrev O3:=@bne_self_eq_false
abbrev O4:=@List.getElem_mem
abbrev O5:=@List.getElem?_eq_getElem
abbrev O6:=@PySem.wpAny_setEntries_of
abbrev O7:=@PySem.wpAny_setField_rec
abbrev O8:=@PySem.Calls.call_function_entry
abbrev O9:=@PyProof.Rows.entry_list_sort
abbrev Pb:=@beq_iff_eq
abbrev Pc:=@of_eq_true
abbrev Pd:=@eq_self
abbrev Pe:=@decide_eq_true_eq
abbrev Pf:=@PySem.AutoSeq1.sub_tuple_tuple
abbrev Pg:=@List.zip_nil_left
abbrev Ph:=@List.zip_nil_right
abbrev Pi:=@List.zip_cons_cons
abbrev Pj:=@PySem.richCompare_meets_room
abbrev Pk:=@List.eq_nil_of_length_eq_zero
abbrev Pl:=@PyProof.Rows.boot_isinstance
abbrev Pm:=@List.all_map
abbrev Po:=@Int.le_antisymm
abbrev Pp:=@List.take_append_of_le_length
abbrev Pq:=@List.set_append_right
abbrev Pr:=@List.filter_cons
abbrev Pt:=@PySem.F.slot_list_iadd
abbrev Pu:=@List.length_reverse
abbrev Pv:=@PySem.PassesOwn.never
abbrev Pw:=@List.Pairwise.imp_of_mem
abbrev Px:=@Int.emod_nonneg
abbrev Py:=@Int.emod_lt_of_pos
abbrev Pz:=@List.set_cons_succ
abbrev PB:=@List.set_cons_zero
abbrev PD:=@List.mem_flatMap
abbrev PF:=@List.length_filter_le
abbrev PH:=@List.filter_map
abbrev PJ:=@List.range_succ
abbrev PL:=@List.flatMap_append
abbrev PM:=@List.flatMap_cons
abbrev PN:=@List.flatMap_nil
abbrev PQ:=@Bool.true_and
abbrev PR:=@of_decide_eq_true
abbrev PU:=@Bool.and_true
abbrev PV:=@List.cons.injEq
abbrev PX:=@List.filter_eq_self
abbrev PY:=@Function.comp_def
abbrev PZ:=@Nat.mul_le_mul_right
abbrev P0:=@Int.min_eq_left
abbrev Qa:=@Int.max_eq_right
abbrev Qb:=@PyProof.Rows.gt_int
namespace L2
open PySem PySem.Spec PyProof.Rows
abbrev qu:=Sum Int Str
def EY:qu->Value->Bool
 | .inl k,v=>Value.isInt k v
 | .inr x,v=>Value.isStrOf x v
def Ky (w:World):qu->Int
 | .inl k=>hashInt k
 | .inr x=>hashStr w x
theorem cB:∀ {k:qu}{v:Value},EY k v=true->(∃ i t,k=Sum.inl i/\v=Value.int i t)\/(∃ x t,k=Sum.inr x/\v=Value.str x t)
 | .inl i,v,h=>by
  obtain ⟨t,e⟩:=Ll (k:=i) (v:=v) h
  exact .inl ⟨i,t,rfl,e⟩
 | .inr x,v,h=>by
  obtain ⟨t,e⟩:=Value.isStrOf_shape (x:=x) (v:=v) h
  exact .inr ⟨x,t,rfl,e⟩
theorem Hx (a b:Int):decide ((Sum.inl a:qu)=Sum.inl b)=(a == b):=by
 by_cases e:a=b
 ·subst e;simp
 ·have h : ¬ (Sum.inl a : qu) = Sum.inl b := fun q => e (Sum.inl.inj q)
  rw [Lm h]
  exact (Ln.mpr e).symm
theorem Hu (a b:Str):decide ((Sum.inr a:qu)=Sum.inr b)=decide (a=b):=by
 by_cases e:a=b
 ·subst e;simp
 ·have h : ¬ (Sum.inr a : qu) = Sum.inr b := fun q => e (Sum.inr.inj q)
  rw [Lm h,Lm e]
theorem Hw (a:Int) (b:Str):decide ((Sum.inl a:qu)=Sum.inr b)=false:=Lm (fun q=>nomatch q)
theorem Hv (a:Str) (b:Int):decide ((Sum.inr a:qu)=Sum.inl b)=false:=Lm (fun q=>nomatch q)
def oj (prog:Program) (w:World):PySem.KeyKind prog w qu where
 is:=EY
 hash:=Ky w
 inj:=fun v a b ha hb=>by
  rcases cB ha with ⟨i,t,rfl,rfl⟩ | ⟨x,t,rfl,rfl⟩
  ·rcases cB hb with ⟨j, u, rfl, e⟩ | ⟨y, u, rfl, e⟩
   ·injection e with e1 _;rw [e1]
   ·exact nomatch e
  ·rcases cB hb with ⟨j, u, rfl, e⟩ | ⟨y, u, rfl, e⟩
   ·exact nomatch e
   ·injection e with e1 _;rw [e1]
 byValue:=fun k v h=>by
  rcases cB h with ⟨i,t,rfl,rfl⟩ | ⟨x,t,rfl,rfl⟩ <;> rfl
 pyHash:=fun hv h=>by
  rcases cB hv with ⟨i,t,rfl,rfl⟩ | ⟨x,t,rfl,rfl⟩
  ·exact wpAny_pyHash_int h
  ·exact wpAny_pyHash_str h
 eqBool:=fun hu hv h=>by
  rcases cB hu with ⟨i,t,rfl,rfl⟩ | ⟨x,t,rfl,rfl⟩
  ·rcases cB hv with ⟨j, u, rfl, rfl⟩ | ⟨y, u, rfl, rfl⟩
   ·rw [Hx] at h;exact Lo h
   ·rw [Hw] at h;exact SeqAt.EqAt.int_str i t y u _ _ _ _ h
  ·rcases cB hv with ⟨j, u, rfl, rfl⟩ | ⟨y, u, rfl, rfl⟩
   ·rw [Hv] at h;exact SeqAt.EqAt.str_int x t j u _ _ _ _ h
   ·rw [Hu] at h;exact wpAny_eqBool_str h
 «strs»:=fun k x t v h=>by
  rcases cB h with ⟨i,u,rfl,e⟩ | ⟨y,u,rfl,e⟩
  ·exact nomatch e
  ·injection e with e1 _
   subst e1
   cases v <;> rfl
end L2
namespace L2
open PySem PySem.Spec PyProof.Rows
inductive V where
 | non | bl (b:Bool) | int (i:Int) | str (x:Str) | byt (b:Array UInt8) | flt (b:UInt64) | ref (a:Addr) | ty (n:String)
 deriving DecidableEq
def bL:V->Value->Prop
 | .non,u=>u=Value.none
 | .bl b,u=>u=Value.bool b
 | .int i,u=>∃ t,u=Value.int i t
 | .str x,u=>∃ t,u=Value.str x t
 | .byt b,u=>∃ t,u=Value.bytes b t
 | .flt b,u=>∃ t,u=Value.float b t
 | .ref a,u=>u=Value.ref a
 | .ty n,u=>u=Value.type n
abbrev ba:List V->List Value->Prop:=Paired bL
theorem ba.length {xs:List V}{us:List Value} (r:ba xs us):xs.length=us.length:=Paired.length r
theorem ba.get:∀ {xs:List V}{us:List Value}{i:Nat}{x:V},ba xs us->xs[i]?=some x->∃ u,us[i]?=some u/\bL x u
 | _,_,_,_,.nil,e=>by simp at e
 | _,_,0,_,.cons r _,e=>by simp at e;subst e;exact ⟨_,rfl,r⟩
 | _,_,i+1,x,.cons _ t,e=>by
  obtain ⟨u,h1,h2⟩:=ba.get (i:=i) (x:=x) t (by simpa using e)
  exact ⟨u,by simpa using h1,h2⟩
theorem ba.set {x:V}{u:Value} (r:bL x u):∀ {xs:List V}{us:List Value} (i:Nat),ba xs us->ba (xs.set i x) (us.set i u)
 | _,_,_,.nil=>.nil
 | _,_,0,.cons _ t=>.cons r t
 | _,_,i+1,.cons q t=>.cons q (ba.set r i t)
theorem ba.append:∀ {xs ys:List V}{us ws:List Value},ba xs us->ba ys ws->ba (xs++ys) (us++ws)
 | _,_,_,_,.nil,s=>s
 | _,_,_,_,.cons r t,s=>.cons r (ba.append t s)
theorem ba.take:∀ {xs:List V}{us:List Value} (n:Nat),ba xs us->ba (xs.take n) (us.take n)
 | _,_,0,_=>.nil
 | _,_,_+1,.nil=>.nil
 | _,_,n+1,.cons r t=>.cons r (ba.take n t)
theorem ba.drop:∀ {xs:List V}{us:List Value} (n:Nat),ba xs us->ba (xs.drop n) (us.drop n)
 | _,_,0,r=>r
 | _,_,_+1,.nil=>.nil
 | _,_,n+1,.cons _ t=>ba.drop n t
def IQ:Option V->Option Value->Prop
 | some v,some u=>bL v u
 | none,none=>True
 | _,_=>False
def KV {κ:Type}:List (κ × V)->List (κ × Value)->Prop:=Paired fun (p:κ × V) (q:κ × Value)=>p.1=q.1/\bL p.2 q.2
def kV:qu->V
 | .inl i=>.int i
 | .inr x=>.str x
inductive HO where
 | lst (xs:List V)
 | tup (xs:List V)
 | dK (kvs:List (qu × V)) | dT (kvs:List (List qu × V))
 | set (S:Int->Bool) (n:Nat)
 | ins (C dx:Addr) (fs:List (Str × V))
 | own (x:Addr)
 | xd (fs:List (Str × V))
 | met (f x:Addr)
 | rng (lo hi:Int)
 | frz (o:Obj) (u:HO)
 | tbl (ps:Array Value)
 | ext (φ:Heap->Prop)
abbrev Hp:=Addr->Option HO
def cI (H:Hp) (a:Addr) (o:HO):Hp:=fun b=>if b=a then some o else H b
theorem cg {H:Hp}{a:Addr}{o:HO}:cI H a o a=some o:=by unfold cI;rw [Lp rfl]
theorem bx {H:Hp}{a b:Addr}{o:HO} (h:b≠a):cI H a o b=H b:=by unfold cI;rw [Lq h]
theorem Af {H:Hp}{a b:Addr}{o u:HO} (h:H a=some o) (h':H b=some u) (d:o≠u):a≠b:=by
 intro e;subst e;rw [h] at h';exact d (Lr h')
theorem bN {H:Hp}{a b:Addr}{o:HO} (h:H a=some o) (h':H b=none):a≠b:=by
 intro e;subst e;rw [h] at h';cases h'
section
variable (P:Program) (w:World)
def d9 (H:Hp) (h:Heap) (a:Addr):HO->Prop
 | .lst xs=>xs.length<=sizeLine/\∃ (its:List Value) (n:Nat),ba xs its/\h.get? a=some { cls:=.type "list",data:=.seq its.toArray n }
 | .tup xs=>xs.length<=sizeLine/\∃ its:List Value,ba xs its/\IsTup h a its.toArray
 | .dK kvs=>kvs.length<=sizeLine/\(a == sysModules)=false/\∃ vs,KV kvs vs/\h.DictOf (oj P w) a vs
 | .dT kvs=>kvs.length<=sizeLine/\(a == sysModules)=false/\∃ xs:List (List qu × Addr × Value),
   Paired (fun (p:List qu × V) (q:List qu × Addr × Value)=>p.1=q.1/\H q.2.1=some (.tup (p.1.map kV))/\bL p.2 q.2.2) kvs xs /\
   ∃ o es ep,h.get? a=some o/\o.ExactDict/\o.data=.dict es ep/\es.toList=xs.map (entryOfKey (tupleKind (oj P w)))/\(xs.map (·.1)).Nodup
 | .set S n=>h.SetOf (intKind P w) a S n
 | .ins C dx fs=>H dx=some (.own a)/\fs.length<=1000/\dx≠a/\h.get? a=some (W.instObj C dx) /\
   ∃ mA,h.Ns1 dx mA/\(∀ f,IQ (fs.lookup f) (mA f))/\PySem.Within mA (fs.map (·.1))
 | .own _=>∃ o,h.get? a=some o
 | .xd fs=>∃ mA,h.Ns1 a mA/\∀ f,IQ (fs.lookup f) (mA f)
 | .rng lo hi=>∃ t u v,h.get? a=some { cls:=.type "range",data:=.fields #[.int lo t,.int hi u,.int 1 v] }
 | .frz o u=>h.get? a=some o/\d9 H h a u
 | .tbl ps=>h.get? a=some { cls:=.none,data:=.fields ps }
 | .met f x=>h.get? a=some (W.methodObj (.ref f) (.ref x))
 | .ext φ=>φ h/\(∃ o,h.get? a=some o)/\∀ h1 h2:Heap,φ h1->(∀ o,h1.get? a=some o->h2.get? a=some o)->φ h2
def mx (H:Hp) (h:Heap):Prop:=∀ a o,H a=some o->d9 P w H h a o
end
section
variable {P:Program}{w:World}{H H':Hp}{h h':Heap}{a:Addr}{o:HO}
theorem d9.lt (x:d9 P w H h a o):a<h.objs.size:=by
 cases o with
 | lst xs=>obtain ⟨_,_,_,_,e⟩:=x;exact Ls e
 | tup xs=>obtain ⟨_,_,_,p⟩:=x;exact p.lt
 | dK kvs=>obtain ⟨_,_,_,_,o,_,_,e,_⟩:=x;exact Ls e
 | dT kvs=>obtain ⟨_,_,_,_,o,_,_,e,_⟩:=x;exact Ls e
 | set S n=>obtain ⟨o,_,_,_,e,_⟩:=x;exact Ls e
 | ins C dx fs=>obtain ⟨_,_,_,e,_⟩:=x;exact Ls e
 | own y=>obtain ⟨_,e⟩:=x;exact Ls e
 | xd fs=>obtain ⟨_,⟨_,_,_,e,_⟩,_⟩:=x;exact Ls e
 | rng lo hi=>obtain ⟨_,_,_,e⟩:=x;exact Ls e
 | frz ob u=>obtain ⟨e,_⟩:=x;exact Ls e
 | tbl ps=>exact Ls (show h.get? a=some _ from x)
 | met f y=>exact Ls (show h.get? a=some _ from x)
 | ext φ=>obtain ⟨_,⟨_,e⟩,_⟩:=x;exact Ls e
theorem nI {α β:Type}{F G:α->β->Prop}:∀ {l₁:List α}{l₂:List β},Paired F l₁ l₂->(∀ a b,F a b->G a b)->Paired G l₁ l₂
 | _,_,.nil,_=>.nil
 | _,_,.cons r t,f=>.cons (f _ _ r) (nI t f)
theorem d9.stay (x:d9 P w H h a o) (k:∀ b u,(b=a\/H b=some (.own a))->h.get? b=some u->h'.get? b=some u)
  (ho:∀ b,H b=some (.own a)->H' b=some (.own a)) (ht:∀ b xs,H b=some (.tup xs)->H' b=some (.tup xs)):d9 P w H' h' a o:=by
 induction o with
 | lst xs=>obtain ⟨z,its,n,r,e⟩:=x;exact ⟨z,its,n,r,k _ _ (.inl rfl) e⟩
 | tup xs=>obtain ⟨z,its,r,ob,e,c⟩:=x;exact ⟨z,its,r,ob,k _ _ (.inl rfl) e,c⟩
 | dK kvs=>obtain ⟨z,y,vs,r,ob,es,ep,e,c⟩:=x;exact ⟨z,y,vs,r,ob,es,ep,k _ _ (.inl rfl) e,c⟩
 | dT kvs=>
  obtain ⟨z,y,xs,r,ob,es,ep,e,c⟩:=x
  exact ⟨z,y,xs,nI r fun p q z=>⟨z.1,ht _ _ z.2.1,z.2.2⟩,ob,es,ep,k _ _ (.inl rfl) e,c⟩
 | set S n=>obtain ⟨ob,es,ep,t,e,c⟩:=x;exact ⟨ob,es,ep,t,k _ _ (.inl rfl) e,c⟩
 | ins C dx fs=>
  obtain ⟨d,z,ne,e,mA,⟨od,es,ep,e2,c⟩,r⟩:=x
  exact ⟨ho _ d,z,ne,k _ _ (.inl rfl) e,mA,⟨od,es,ep,k _ _ (.inr d) e2,c⟩,r⟩
 | own y=>obtain ⟨ob,e⟩:=x;exact ⟨ob,k _ _ (.inl rfl) e⟩
 | xd fs=>obtain ⟨mA,⟨od,es,ep,e,c⟩,r⟩:=x;exact ⟨mA,⟨od,es,ep,k _ _ (.inl rfl) e,c⟩,r⟩
 | rng lo hi=>obtain ⟨t,u,v,e⟩:=x;exact ⟨t,u,v,k _ _ (.inl rfl) e⟩
 | frz ob u ih=>obtain ⟨e,q⟩:=x;exact ⟨k _ _ (.inl rfl) e,ih q⟩
 | tbl ps=>
  have e:h.get? a=some { cls:=.none,data:=.fields ps }:=x
  show h'.get? a=some { cls:=.none,data:=.fields ps }
  exact k a _ (.inl rfl) e
 | met f y=>
  have e:h.get? a=some (W.methodObj (.ref f) (.ref y)):=x
  show h'.get? a=some (W.methodObj (.ref f) (.ref y))
  exact k a _ (.inl rfl) e
 | ext φ=>obtain ⟨p,⟨o,e⟩,st⟩:=x;exact ⟨st _ _ p fun o q=>k _ _ (.inl rfl) q,⟨o,k _ _ (.inl rfl) e⟩,st⟩
theorem mx.lt (x:mx P w H h) (e:H a=some o):a<h.objs.size:=(x a o e).lt
theorem mx.fresh (x:mx P w H h) (e:h.objs.size<=a):H a=none:=by
 cases q:H a with
 | none=>rfl
 | some u=>exact absurd (Lu (x.lt q) e) (Lx _)
theorem mx.kept (x:mx P w H h) (k:∀ b u,h.get? b=some u->h'.get? b=some u):mx P w H h':=fun a o e=>
 (x a o e).stay (fun b u _ q=>k b u q) (fun _ q=>q) fun _ _ q=>q
theorem mx.laid (x:mx P w H h) (k:∀ b u,h.get? b=some u->h'.get? b=some u) (hp:h.objs.size<=a) (new:d9 P w (cI H a o) h' a o):mx P w (cI H a o) h':=fun b u e=>by
 have hn:=x.fresh hp
 by_cases hb:b=a
 ·subst hb;rw [cg] at e;cases e;exact new
 ·rw [bx hb] at e
  exact (x b u e).stay (fun c v _ q=>k c v q) (fun c q=>by rw [bx (bN q hn)];exact q) fun c xs q=>by rw [bx (bN q hn)];exact q
end
def Rd (H:Hp) (a:Addr) (u:HO):Prop:=H a=some u\/∃ o,H a=some (.frz o u)
theorem Rd.ok {P:Program}{w:World}{H:Hp}{h:Heap}{a:Addr}{u:HO} (r:Rd H a u) (x:mx P w H h):d9 P w H h a u:=by
 rcases r with r | ⟨o,r⟩
 ·exact x a u r
 ·obtain ⟨_, q⟩ := x a _ r
  exact q
def J6:Option HO->Prop
 | some (.lst _)=>True
 | some (.dK _)=>True
 | some (.dT _)=>True
 | some (.set _ _)=>True
 | some (.ins _ _ _)=>True
 | some (.ext _)=>True
 | _=>False
section
variable {P:Program}{w:World}{H:Hp}{h h':Heap}{x e:Addr}{o':HO}
theorem mx.write (ok:mx P w H h) (mu:J6 (H x)) (he:e=x\/H e=some (.own x)) (k:∀ b u,b≠e->h.get? b=some u->h'.get? b=some u) (heo:∃ u,h'.get? e=some u)
  (new:d9 P w (cI H x o') h' x o'):mx P w (cI H x o') h':=fun b u q=>by
 have nown:∀ c y,H c=some (.own y)->c≠x:=fun c y r z=>by subst z;rw [r] at mu;exact mu
 have ntup:∀ c xs,H c=some (.tup xs)->c≠x:=fun c xs r z=>by subst z;rw [r] at mu;exact mu
 by_cases hb:b=x
 ·subst hb;rw [cg] at q;cases q;exact new
 ·rw [bx hb] at q
  by_cases hbe:b=e
  ·have q':H b=some (.own x):=by
    rcases he with z | z
    ·exact absurd (hbe.trans z) hb
    ·rw [hbe];exact z
   rw [q] at q';cases q'
   obtain ⟨v,hv⟩:=heo
   exact ⟨v,by rw [hbe];exact hv⟩
  ·refine (ok b u q).stay (fun c v hc r => k c v ?_ r) (fun c r => by rw [bx (nown c b r)]; exact r) fun c xs r => by rw [bx (ntup c xs r)]; exact r
   rcases hc with rfl | hc
   ·exact hbe
   ·rintro rfl
    rcases he with z | z
    ·exact nown c b hc z
    ·rw [hc] at z;cases z;exact hb rfl
end
structure Un (fs ex:List Addr) (H H':Hp) (h h':Heap):Prop where
 keep:∀ b o,h.get? b=some o->H b=none->b ∉ fs->b ∉ ex->h'.get? b=some o
 slot:∀ b o,h.get? b=some o->H b=none->b∈fs->b ∉ ex->∃ sl,h'.get? b=some { o with slots:=sl }
 free:∀ b o,h.get? b=some o->H b=none->b ∉ ex->H' b=none
 there:∀ b o,h.get? b=some o->b ∉ ex->∃ o',h'.get? b=some o'
 tups:∀ b xs,H b=some (.tup xs)->H' b=some (.tup xs)
 frzs:∀ b o u,H b=some (.frz o u)->H' b=some (.frz o u)
 tbls:∀ b ps,H b=some (.tbl ps)->∃ more,H' b=some (.tbl (ps++more))
section
variable {fs fs' ex ex':List Addr}{H H1 H2:Hp}{h h1 h2 h':Heap}{a x e:Addr}{o:HO}
theorem Un.any (u:Un fs ex H H1 h h1) {b:Addr}{ob:Obj} (q:h.get? b=some ob) (n:H b=none) (hx:b ∉ ex):∃ sl,h1.get? b=some { ob with slots:=sl }:=by
 by_cases hb:b∈fs
 ·exact u.slot b ob q n hb hx
 ·exact ⟨ob.slots,u.keep b ob q n hb hx⟩
theorem Un.kept (k:∀ b u,h.get? b=some u->h'.get? b=some u):Un fs ex H H h h':=
 ⟨fun b ob q _ _ _=>k b ob q,fun b ob q _ _ _=>⟨ob.slots,k b ob q⟩,fun _ _ _ n _=>n,fun b ob q _=>⟨ob,k b ob q⟩,fun _ _ q=>q,fun _ _ _ q=>q,fun _ ps q=>⟨#[],by rw [q];simp⟩⟩
theorem Un.refl:Un fs ex H H h h:=Un.kept fun _ _ q=>q
theorem Un.laid (k:∀ b u,h.get? b=some u->h'.get? b=some u) (hp:h.objs.size<=a) (hn:H a=none):Un fs ex H (cI H a o) h h' where
 keep:=fun b u q _ _ _=>k b u q
 slot:=fun b u q _ _ _=>⟨u.slots,k b u q⟩
 free:=fun b u q n _=>by rw [bx (Ly (Lu (Ls q) hp))];exact n
 there:=fun b u q _=>⟨u,k b u q⟩
 tups:=fun b xs q=>by rw [bx (bN q hn)];exact q
 frzs:=fun b u xs q=>by rw [bx (bN q hn)];exact q
 tbls:=fun b ps q=>⟨#[],by rw [bx (bN q hn),q];simp⟩
theorem Un.write (mu:J6 (H x)) (he:e=x\/H e=some (.own x)) (k:∀ b u,b≠e->h.get? b=some u->h'.get? b=some u) (heo:∃ u,h'.get? e=some u):Un fs ex H (cI H x o) h h':=by
 have hx:∀ b,H b=none->b≠x:=fun b n z=>by subst z;rw [n] at mu;exact mu
 have hb:∀ b,H b=none->b≠e:=fun b n z=>by
  subst z
  rcases he with r | r
  ·exact hx b n r
  ·rw [n] at r;cases r
 have hm:∀ b u,H b=some u->¬ J6 (some u)->b≠x:=fun b u q nm z=>by subst z;rw [q] at mu;exact nm mu
 refine ⟨fun b u q n _ _=>k b u (hb b n) q,fun b u q n _ _=>⟨u.slots,k b u (hb b n) q⟩,fun b u q n _=>by rw [bx (hx b n)];exact n,fun b u q _=>?_,
  fun b xs q=>by rw [bx (hm b _ q fun z=>z)];exact q,fun b u xs q=>by rw [bx (hm b _ q fun z=>z)];exact q,fun b ps q=>⟨#[],by rw [bx (hm b _ q fun z=>z),q];simp⟩⟩
 by_cases hbe:b=e
 ·subst hbe;exact heo
 ·exact ⟨u,k b u hbe q⟩
end
def JY (h:Heap) (H:Hp):List Addr:=(List.range h.objs.size).filter fun a=>(H a).isSome
def rR (h:Heap) (H:Hp):Heap:=W.hideAll h (JY h H)
theorem zc (h:Heap) (H:Hp):(rR h H).objs.size=h.objs.size:=W.hideAll_size _ _
theorem BX {h:Heap}{H:Hp}{b:Addr}{o:Obj} (e:h.get? b=some o) (n:H b=none):(rR h H).get? b=some o:=
 W.hideAll_get _ e fun hm=>by
  have q:(H b).isSome=true:=(Lz.mp hm).2
  rw [n] at q;simp at q
theorem DT {h:Heap}{H:Hp}{b:Addr}{o:Obj} (e:(rR h H).get? b=some o):h.get? b=some o/\H b=none:=by
 have e':h.get? b=some o:=W.of_hideAll (JY h H) e
 refine ⟨e',?_⟩
 cases q:H b with
 | none=>rfl
 | some x=>
  have hm:b∈JY h H:=Lz.mpr ⟨LA.mpr (Ls e'),by simp [q]⟩
  have z:(rR h H).get? b=none:=W.hideAll_none (JY h H) hm
  rw [z] at e;cases e
end L2
namespace L2
open PySem PySem.Spec PyProof.Rows
structure Mod (K:W.Frag) (mg:Str->Option Value) (base:Heap):Prop where
 kin:K.In base
 glob:base.Ns mainGlobals mg
 blt:∃ mb,base.Ns builtinsNs mb/\∀ x:Str,x ≠ "__name__" -> mb x=bootBuiltins x
 nolimit:base.NoLimit
structure Cx where
 prog:Program
 w:World
 K:W.Frag
 mg:Str->Option Value
 base:Heap
 A:Around
 N:List Str
 s₀:Shared
 H₀:Hp
 env:Env
 outer:List Env
 stack:List Env
 ex:List Addr
 fn:Str->Bool
 calm:Bool
 pn:List (Addr × Obj)
 xe:Value->Shared->Prop
def nk (l:List Env):List Addr:=l.filterMap (·.frame)
abbrev Cx.fs (X:Cx):List Addr:=nk X.outer
def J2 (sc:Scope) (x:Str):Prop:=sc.names.lookup x=some .local\/sc.names.lookup x=some .cell\/sc.names.lookup x=some .free
def yg (sc:Scope) (x:Str):Prop:=sc.names.lookup x=some .local\/sc.names.lookup x=some .cell
def KN (env:Env) (h:Heap) (m:Str->Option Value) (x:Str) (u:Value):Prop:=
 (env.kindOf x=some .local/\m x=some u)\/((env.kindOf x=some .cell\/env.kindOf x=some .free)/\∃ c,env.cells.lookup x=some c/\h.IsCell c (some u))
structure Cx.Ok (X:Cx):Prop where
 mod:Mod X.K X.mg X.base
 kind:X.env.scope.kind=.function
 glob:X.env.globals=mainGlobals
 blt:X.env.builtins=builtinsNs
 above:X.s₀.heap.objs.size<=X.env.locals
 inj:∀ x y c,X.env.cells.lookup x=some c->X.env.cells.lookup y=some c->x=y
 has:∀ x,(X.env.kindOf x=some .cell\/X.env.kindOf x=some .free)->∃ c,X.env.cells.lookup x=some c
 cab:∀ x c,X.fn x=true->X.env.cells.lookup x=some c->X.s₀.heap.objs.size<=c
 hd:X.calm=true->X.A.handled=none
 frames:X.A.frames=some X.stack
 stk:X.stack=X.outer\/(X.stack=X.env::X.outer/\X.env.frame=some X.env.locals)
 exf:∀ b∈X.ex,b≠X.env.locals/\∀ x c,X.env.cells.lookup x=some c->c≠b
 bs:∀ b o,X.base.get? b=some o->X.s₀.heap.get? b=some o/\X.H₀ b=none
 bsz:X.base.objs.size<=X.s₀.heap.objs.size
 noex:∀ b o,X.base.get? b=some o->b ∉ X.ex
 exfs:∀ b∈X.ex,b ∉ X.fs
 funs:X.s₀.heap.FunFrames X.base X.outer
 frf:∀ b∈X.fs,X.H₀ b=none
structure aV (X:Cx) (pins:List (Addr × Obj)) (σ:List (Option V)) (H:Hp) (s:Shared):Prop where
 ok:X.Ok
 os:s.os=X.s₀.os
 bare:AllBare s.gens
 base:Un X.fs X.ex X.H₀ H X.s₀.heap s.heap
 loc:∃ m,s.heap.Ns X.env.locals m/\∀ (i:Nat) (x:Str) (v:V),X.N[i]?=some x->σ[i]?=some (some v)->J2 X.env.scope x->∃ u,bL v u/\KN X.env s.heap m x u
 cell:∀ x c,X.env.cells.lookup x=some c->∃ v,s.heap.IsCell c v
 free:H X.env.locals=none
 freeC:∀ x c,X.env.cells.lookup x=some c->H c=none
 pin:∀ p∈X.pn++pins,s.heap.get? p.1=some p.2/\H p.1=none/\p.1≠X.env.locals/\p.1 ∉ X.fs/\∀ v,p.2.data≠.cell v
 hok:mx X.prog X.w H s.heap
 len:σ.length=X.N.length
section
variable {X:Cx}{pins:List (Addr × Obj)}{σ:List (Option V)}{H H':Hp}{s:Shared}{h':Heap}
theorem Cx.Ok.nofr (ok:X.Ok) {b:Addr}{o:Obj} (e:X.base.get? b=some o):b ∉ X.fs:=fun hb=>by
 have:=(ok.funs.mem hb).1
 rw [e] at this;cases this
theorem aV.bs (I:aV X pins σ H s):∀ b o,X.base.get? b=some o->s.heap.get? b=some o/\H b=none:=fun b o e=>
 ⟨I.base.keep b o (I.ok.bs b o e).1 (I.ok.bs b o e).2 (I.ok.nofr e) (I.ok.noex b o e),I.base.free b o (I.ok.bs b o e).1 (I.ok.bs b o e).2 (I.ok.noex b o e)⟩
theorem aV.bk (I:aV X pins σ H s):∀ b o,X.base.get? b=some o->s.heap.get? b=some o:=fun b o e=>(I.bs b o e).1
theorem aV.mod (I:aV X pins σ H s):Mod X.K X.mg X.base:=I.ok.mod
theorem aV.kIn (I:aV X pins σ H s):X.K.In s.heap:=I.ok.mod.kin.keeps I.bk
theorem aV.lt (I:aV X pins σ H s):X.env.locals<s.heap.objs.size:=let ⟨_,hn,_⟩:=I.loc;hn.lt
theorem aV.sz (I:aV X pins σ H s):X.s₀.heap.objs.size<=s.heap.objs.size:=LB I.ok.above (LC I.lt)
theorem aV.nofs (I:aV X pins σ H s) {a:Addr} (h:s.heap.objs.size<=a):a ∉ X.fs:=fun hb=>by
 obtain ⟨_,o,ho,_⟩:=I.ok.funs.mem hb
 exact absurd (Lu (Ls ho) (LB I.sz h)) (Lx _)
theorem aV.cne (I:aV X pins σ H s):∀ x c,X.env.cells.lookup x=some c->c≠X.env.locals:=fun x c e z=>by
 obtain ⟨v,o,ho,hd⟩:=I.cell x c e
 obtain ⟨m,⟨o',es,ep,ho',hd',_⟩,_⟩:=I.loc
 rw [z,ho'] at ho;cases ho;rw [hd'] at hd;cases hd
theorem aV.funs (I:aV X pins σ H s):s.heap.FunFrames X.base X.outer:=by
 have all:∀ (l:List Env),(∀ b∈nk l,b∈X.fs)->X.s₀.heap.FunFrames X.base l->s.heap.FunFrames X.base l:=by
  intro l
  induction l with
  | nil=>intro _ _;trivial
  | cons env r ih=>
   intro hs hl
   obtain ⟨hk,⟨L,o,hf,hn,ho,hd⟩,hr⟩:=hl
   have hL:L∈X.fs:=hs L (by unfold nk;rw [LD,hf];exact LF)
   obtain ⟨sl,e⟩:=I.base.slot L o ho (I.ok.frf L hL) hL fun z=>I.ok.exfs L z hL
   exact ⟨hk,⟨L,_,hf,hn,e,hd⟩,ih (fun b hb=>hs b (by unfold nk;rw [LD,hf];exact LG _ hb)) hr⟩
 exact all X.outer (fun _ hb=>hb) I.ok.funs
theorem aV.stack (I:aV X pins σ H s):s.heap.FunFrames X.base X.stack:=by
 rcases I.ok.stk with e | ⟨e,hf⟩
 ·rw [e];exact I.funs
 ·rw [e]
  obtain ⟨m,hn,_⟩:=I.loc
  refine .cons (by rw [I.ok.kind];decide) hf hn ?_ I.funs
  exact Heap.get?_none_of_le (LB I.ok.bsz I.ok.above)
theorem aV.stkSub (I:aV X pins σ H s):∀ b∈nk X.stack,b∈X.env.locals::X.fs:=fun b hb=>by
 rcases I.ok.stk with e | ⟨e,hf⟩
 ·rw [e] at hb;exact LG _ hb
 ·rw [e] at hb
  unfold nk at hb
  rw [LD,hf] at hb
  exact hb
theorem aV.stkFree (I:aV X pins σ H s):∀ b∈nk X.stack,H b=none:=fun b hb=>by
 rcases LH.mp (I.stkSub b hb) with e | hb
 ·rw [e];exact I.free
 ·obtain ⟨_, o, ho, _⟩ := I.ok.funs.mem hb
  exact I.base.free b o ho (I.ok.frf b hb) fun z=>I.ok.exfs b z hb
theorem aV.step {g':Array GenState}{t':Nat}{d':Drawn}{ch:List Addr} (I:aV X pins σ H s)
  (hch:∀ b∈ch,(b∈X.ex\/X.s₀.heap.objs.size<=b)/\b≠X.env.locals/\(∀ x c,X.env.cells.lookup x=some c->c≠b)/\∀ p∈X.pn++pins,p.1≠b)
  (keep:∀ b o,b≠X.env.locals->b ∉ X.fs->b ∉ ch->s.heap.get? b=some o->H b=none->h'.get? b=some o)
  (slot:∀ b o,b≠X.env.locals->b∈X.fs->b ∉ ch->s.heap.get? b=some o->H b=none->∃ sl,h'.get? b=some { o with slots:=sl }) (free:∀ b o,b ∉ ch->s.heap.get? b=some o->H b=none->H' b=none)
  (there:∀ b o,b ∉ ch->s.heap.get? b=some o->∃ o',h'.get? b=some o')
  (tups:∀ b xs,H b=some (.tup xs)->H' b=some (.tup xs)) (frzs:∀ b o u,H b=some (.frz o u)->H' b=some (.frz o u)) (tbls:∀ b ps,H b=some (.tbl ps)->∃ more,H' b=some (.tbl (ps++more)))
  (ns:∀ m,s.heap.Ns X.env.locals m->h'.Ns X.env.locals m) (hok:mx X.prog X.w H' h') (hg:AllBare g') :
  aV X pins σ H' { s with heap:=h',gens:=g',drawn:=d',toks:=t' }:=by
 have neL:∀ b o,X.s₀.heap.get? b=some o->b≠X.env.locals:=fun b o e=>Ly (Lu (Ls e) I.ok.above)
 have neC:∀ b o,X.s₀.heap.get? b=some o->b ∉ X.ex->b ∉ ch:=fun b o e hx hb=>by
  rcases (hch b hb).1 with z | z
  ·exact hx z
  ·exact absurd (Lu (Ls e) z) (Lx _)
 have cellK:∀ x c,X.env.cells.lookup x=some c->∀ v,s.heap.IsCell c v->h'.IsCell c v:=fun x c e v ⟨o,ho,hd⟩=>by
  have nch:c ∉ ch:=fun z=>(hch c z).2.2.1 x c e rfl
  by_cases hc:c∈X.fs
  ·obtain ⟨sl, q⟩ := slot c o (I.cne x c e) hc nch ho (I.freeC x c e)
   exact ⟨_,q,hd⟩
  ·exact ⟨o,keep c o (I.cne x c e) hc nch ho (I.freeC x c e),hd⟩
 refine ⟨I.ok,I.os,hg,⟨fun b o e n hb hx=>?_,fun b o e n hb hx=>?_,fun b o e n hx=>?_,fun b o e hx=>?_,fun b xs e=>tups b xs (I.base.tups b xs e),fun b o xs e=>frzs b o xs (I.base.frzs b o xs e),fun b ps e=>?_⟩,?_,fun x c e=>?_,?_,fun x c e=>?_,fun p hp=>?_,hok,I.len⟩
 ·exact keep b o (neL b o e) hb (neC b o e hx) (I.base.keep b o e n hb hx) (I.base.free b o e n hx)
 ·obtain ⟨sl, e1⟩ := I.base.slot b o e n hb hx
  obtain ⟨sl',e2⟩:=slot b _ (neL b o e) hb (neC b o e hx) e1 (I.base.free b o e n hx)
  exact ⟨sl',e2⟩
 ·obtain ⟨o', e1⟩ := I.base.there b o e hx
  exact free b o' (neC b o e hx) e1 (I.base.free b o e n hx)
 ·obtain ⟨o', e1⟩ := I.base.there b o e hx
  exact there b o' (neC b o e hx) e1
 ·obtain ⟨m1, e1⟩ := I.base.tbls b ps e
  obtain ⟨m2,e2⟩:=tbls b _ e1
  exact ⟨m1++m2,by rw [e2,Array.append_assoc]⟩
 ·obtain ⟨m, hn, hl⟩ := I.loc
  refine ⟨m,ns m hn,fun i x v e1 e2 e3=>?_⟩
  obtain ⟨u,r,l⟩:=hl i x v e1 e2 e3
  refine ⟨u,r,?_⟩
  rcases l with l | ⟨k,c,e,z⟩
  ·exact .inl l
  ·exact .inr ⟨k,c,e,cellK x c e _ z⟩
 ·obtain ⟨v, z⟩ := I.cell x c e
  exact ⟨v,cellK x c e v z⟩
 ·obtain ⟨m, ⟨o, _, _, ho, _⟩, _⟩ := I.loc
  exact free _ o (fun z=>(hch _ z).2.1 rfl) ho I.free
 ·obtain ⟨v, o, ho, hd⟩ := I.cell x c e
  exact free c o (fun z=>(hch c z).2.2.1 x c e rfl) ho (I.freeC x c e)
 ·obtain ⟨e, n, ne, nf, d⟩ := I.pin p hp
  have nch:p.1 ∉ ch:=fun z=>(hch p.1 z).2.2.2 p hp rfl
  exact ⟨keep p.1 p.2 ne nf nch e n,free p.1 p.2 nch e n,ne,nf,d⟩
theorem aV.un {t':Nat} (I:aV X pins σ H s) (u:Un X.fs [] H H' s.heap h') (hok:mx X.prog X.w H' h'):aV X pins σ H' { s with heap:=h',toks:=t' }:=by
 obtain ⟨m,⟨o,es,ep,ho,r⟩,_⟩:=id I.loc
 obtain ⟨sl,hL⟩:=u.any ho I.free (by simp)
 exact I.step (g':=s.gens) (d':=s.drawn) (ch:=[]) (fun _ z=>nomatch z) (fun b o _ hb _ e n=>u.keep b o e n hb (by simp)) (fun b o _ hb _ e n=>u.slot b o e n hb (by simp)) (fun b o _ e n=>u.free b o e n (by simp)) (fun b o _ e=>u.there b o e (by simp)) u.tups u.frzs u.tbls (fun m' hm=>by
  obtain ⟨o',es',ep',ho',r'⟩:=hm
  rw [ho] at ho';cases ho'
  exact ⟨_,es',ep',hL,r'⟩) hok I.bare
theorem aV.call {g':Array GenState}{t':Nat}{d':Drawn}{ch:List Addr} (I:aV X pins σ H s) (u:Un (nk X.stack) ch H H' s.heap h') (hok:mx X.prog X.w H' h') (hg:AllBare g')
  (hch:∀ b∈ch,(b∈X.ex\/X.s₀.heap.objs.size<=b)/\b≠X.env.locals/\(∀ x c,X.env.cells.lookup x=some c->c≠b)/\∀ p∈X.pn++pins,p.1≠b) :
  aV X pins σ H' { s with heap:=h',gens:=g',drawn:=d',toks:=t' }:=by
 obtain ⟨m,⟨o,es,ep,ho,r⟩,_⟩:=id I.loc
 obtain ⟨sl,hL⟩:=u.any ho I.free fun z=>(hch _ z).2.1 rfl
 exact I.step (ch:=ch) hch (fun b o hL hb hc e n=>u.keep b o e n (fun z=>(LH.mp (I.stkSub b z)).elim hL hb) hc) (fun b o _ _ hc e n=>u.any e n hc) (fun b o hc e n=>u.free b o e n hc) (fun b o hc e=>u.there b o e hc) u.tups u.frzs u.tbls (fun m' hm=>by
  obtain ⟨o',es',ep',ho',r'⟩:=hm
  rw [ho] at ho';cases ho'
  exact ⟨_,es',ep',hL,r'⟩) hok hg
theorem aV.turned {t':Nat}{it:Addr} (I:aV X pins σ H s) (k:∀ b o,b≠it->s.heap.get? b=some o->h'.get? b=some o) (hn:H it=none) (hL:it≠X.env.locals)
  (h1:it∈X.ex\/X.s₀.heap.objs.size<=it) (h2:∀ x c,X.env.cells.lookup x=some c->c≠it) (h3:∀ p∈X.pn++pins,p.1≠it):aV X pins σ H { s with heap:=h',toks:=t' }:=by
 have nit:∀ b u,H b=some u->b≠it:=fun b u e z=>by rw [z,hn] at e;cases e
 refine I.step (g':=s.gens) (d':=s.drawn) (ch:=[it]) (fun b hb=>?_) (fun b o _ _ hc e _=>k b o (fun z=>hc (by simp [z])) e) (fun b o _ _ hc e _=>⟨o.slots,k b o (fun z=>hc (by simp [z])) e⟩) (fun _ _ _ _ n=>n)
  (fun b o hc e=>⟨o,k b o (fun z=>hc (by simp [z])) e⟩) (fun _ _ e=>e) (fun _ _ _ e=>e) (fun b ps e=>⟨#[],by rw [e];simp⟩) (fun m hm=>?_) (fun b u e=>?_) I.bare
 ·have e : b = it := by simpa using hb
  subst e
  exact ⟨h1,hL,h2,h3⟩
 ·obtain ⟨o, es, ep, ho, r⟩ := hm
  exact ⟨o,es,ep,k _ o (LI hL) ho,r⟩
 ·refine (I.hok b u e).stay (fun c v hc q => k c v ?_ q) (fun _ q => q) fun _ _ q => q
  rcases hc with z | z
  ·rw [z];exact nit b u e
  ·exact nit c _ z
theorem aV.tok (I:aV X pins σ H s) (t:Nat):aV X pins σ H { s with toks:=t }:=I.un (h':=s.heap) (t':=t) Un.refl I.hok
theorem aV.kept {t':Nat} (I:aV X pins σ H s) (k:∀ b u,s.heap.get? b=some u->h'.get? b=some u):aV X pins σ H { s with heap:=h',toks:=t' }:=I.un (Un.kept k) (I.hok.kept k)
theorem aV.laid {a:Addr}{o:HO}{t':Nat} (I:aV X pins σ H s) (k:∀ b u,s.heap.get? b=some u->h'.get? b=some u) (hp:s.heap.objs.size<=a) (new:d9 X.prog X.w (cI H a o) h' a o) :
  aV X pins σ (cI H a o) { s with heap:=h',toks:=t' }:=I.un (Un.laid k hp (I.hok.fresh hp)) (I.hok.laid k hp new)
theorem aV.write {x e:Addr}{o:HO}{t':Nat} (I:aV X pins σ H s) (mu:J6 (H x)) (he:e=x\/H e=some (.own x)) (k:∀ b u,b≠e->s.heap.get? b=some u->h'.get? b=some u) (heo:∃ u,h'.get? e=some u)
  (new:d9 X.prog X.w (cI H x o) h' x o):aV X pins σ (cI H x o) { s with heap:=h',toks:=t' }:=I.un (Un.write mu he k heo) (I.hok.write mu he k heo new)
theorem aV.pins_of {pins':List (Addr × Obj)} (I:aV X pins σ H s) (h:∀ p∈pins',s.heap.get? p.1=some p.2/\H p.1=none/\p.1≠X.env.locals/\p.1 ∉ X.fs/\∀ v,p.2.data≠.cell v):aV X pins' σ H s:=
 ⟨I.ok,I.os,I.bare,I.base,I.loc,I.cell,I.free,I.freeC,fun p hp=>(LJ.mp hp).elim (fun z=>I.pin p (LK _ z)) (h p),I.hok,I.len⟩
theorem uN {N:List Str} (hN:N.Nodup) {i j:Nat}{x:Str} (a:N[i]?=some x) (b:N[j]?=some x):i=j:=by
 obtain ⟨h1,e1⟩:=LL.mp a
 obtain ⟨h2,e2⟩:=LL.mp b
 exact (LM hN).mp (e1.trans e2.symm)
theorem qU {M:Model}{A:Around}{E:Value->Shared->Prop}{i:Nat}{x:Str}{v:V}{u:Value}{Q:Unit->Shared->Prop} (I:aV X pins σ H s) (hN:X.N.Nodup) (hi:X.N[i]?=some x) (hx:yg X.env.scope x) (r:bL v u)
  (h:∀ s',aV X pins (σ.set i (some v)) H s'->(∃ a,Heap.SameBut a s.heap s'.heap/\(a=X.env.locals\/X.env.cells.lookup x=some a))->Q () s') (hf:X.fn x=true\/X.env.scope.names.lookup x=some .local:=by first | exact .inl rfl | exact .inr rfl | assumption):wpAny M A (storeName X.env x u) Q E s:=by
 obtain ⟨m,hn,hl⟩:=id I.loc
 have hcls:(X.env.scope.kind == .class || (X.env.scope.kind == .module && X.env.locals != X.env.globals))=false:=by rw [I.ok.kind];rfl
 have hiσ:i<σ.length:=by rw [I.len];exact (LL.mp hi).1
 have cne:=I.cne
 have tracked:∀ {a:Addr}{h':Heap},(∃ o,s.heap.get? a=some o/\H a=none)->Heap.SameBut a s.heap h'->mx X.prog X.w H h':=fun {a h'} ha hs b ob e=>by
  obtain ⟨_,_,hfree⟩:=ha
  refine (I.hok b ob e).stay (fun c w' hc q=>(hs.2 c ?_).trans q) (fun _ q=>q) fun _ _ q=>q
  rintro rfl
  rcases hc with rfl | hc
  ·rw [hfree] at e;cases e
  ·rw [hfree] at hc;cases hc
 rcases hx with hk | hk
 ·refine wpAny_storeName_local hk hn (fun h' hn' hs => ?_) hcls
  obtain ⟨oL,_,_,hoL,_⟩:=id hn
  refine h _ ⟨I.ok,I.os,I.bare,⟨fun b o e n hb hx=>?_,fun b o e n hb hx=>?_,I.base.free,fun b o e hx=>?_,I.base.tups,I.base.frzs,I.base.tbls⟩,⟨_,hn',fun j y v' e1 e2 e3=>?_⟩,fun y c e=>?_,I.free,I.freeC,fun p hp=>?_,tracked ⟨oL,hoL,I.free⟩ hs,by simpa using I.len⟩ ⟨_,hs,.inl rfl⟩
  ·exact (hs.2 b (Ly (Lu (Ls e) I.ok.above))).trans (I.base.keep b o e n hb hx)
  ·obtain ⟨sl, e1⟩ := I.base.slot b o e n hb hx
   exact ⟨sl,(hs.2 b (Ly (Lu (Ls e) I.ok.above))).trans e1⟩
  ·obtain ⟨o', e1⟩ := I.base.there b o e hx
   exact ⟨o',(hs.2 b (Ly (Lu (Ls e) I.ok.above))).trans e1⟩
  ·by_cases hj : j = i
   ·subst hj
    rw [hi] at e1;cases e1
    rw [LN hiσ] at e2
    cases e2
    exact ⟨u,r,.inl ⟨hk,by simp⟩⟩
   ·rw [LO (LI hj)] at e2
    obtain ⟨u',r',q⟩:=hl j y v' e1 e2 e3
    refine ⟨u',r',?_⟩
    rcases q with ⟨k,e⟩ | ⟨k,c,e,z⟩
    ·refine .inl ⟨k, ?_⟩
     have:y≠x:=fun e=>hj (uN hN e1 (e ▸ hi))
     simp [this,e]
    ·exact .inr ⟨k,c,e,z.sameBut hs (cne y c e)⟩
  ·obtain ⟨w', z⟩ := I.cell y c e
   exact ⟨w',z.sameBut hs (cne y c e)⟩
  ·obtain ⟨e, n, ne, nf, d⟩ := I.pin p hp
   exact ⟨(hs.2 p.1 ne).trans e,n,ne,nf,d⟩
 ·have hfn:X.fn x=true:=by
   rcases hf with z | z
   ·exact z
   ·rw [z] at hk;cases hk
  obtain ⟨c,hc⟩:=I.ok.has x (.inl hk)
  obtain ⟨w',z⟩:=I.cell x c hc
  refine wpAny_storeName_cell I.ok.kind hk hc z (fun h' hc' hs=>?_)
  obtain ⟨oc,hoc,hocd⟩:=id z
  refine h { s with heap:=h' } ⟨I.ok,I.os,I.bare,⟨fun b o e n hb hx=>?_,fun b o e n hb hx=>?_,I.base.free,fun b o e hx=>?_,I.base.tups,I.base.frzs,I.base.tbls⟩,⟨m,hn.sameBut hs (LI (cne x c hc)),fun j y v' e1 e2 e3=>?_⟩,fun y c' e=>?_,I.free,I.freeC,fun p hp=>?_,tracked ⟨oc,hoc,I.freeC x c hc⟩ hs,by simpa using I.len⟩ ⟨c,hs,.inr hc⟩
  ·exact (hs.2 b (Ly (Lu (Ls e) (I.ok.cab x c hfn hc)))).trans (I.base.keep b o e n hb hx)
  ·obtain ⟨sl, e1⟩ := I.base.slot b o e n hb hx
   exact ⟨sl,(hs.2 b (Ly (Lu (Ls e) (I.ok.cab x c hfn hc)))).trans e1⟩
  ·obtain ⟨o', e1⟩ := I.base.there b o e hx
   exact ⟨o',(hs.2 b (Ly (Lu (Ls e) (I.ok.cab x c hfn hc)))).trans e1⟩
  ·by_cases hj : j = i
   ·subst hj
    rw [hi] at e1;cases e1
    rw [LN hiσ] at e2
    cases e2
    exact ⟨u,r,.inr ⟨.inl hk,c,hc,hc'⟩⟩
   ·rw [LO (LI hj)] at e2
    obtain ⟨u',r',q⟩:=hl j y v' e1 e2 e3
    refine ⟨u',r',?_⟩
    rcases q with q | ⟨k,c',e,z'⟩
    ·exact .inl q
    ·refine .inr ⟨k, c', e, z'.sameBut hs ?_⟩
     rintro rfl
     exact hj (uN hN e1 (I.ok.inj _ _ _ e hc ▸ hi))
  ·by_cases hcc : c' = c
   ·subst hcc;exact ⟨_,hc'⟩
   ·obtain ⟨w2, z2⟩ := I.cell y c' e
    exact ⟨w2,z2.sameBut hs hcc⟩
  ·obtain ⟨e, n, ne, nf, d⟩ := I.pin p hp
   refine ⟨(hs.2 p.1 ?_).trans e,n,ne,nf,d⟩
   intro q
   rw [q,hoc] at e
   have q':oc=p.2:=Lr e
   exact d w' (by rw [<- q'];exact hocd)
theorem lT {M:Model}{A:Around}{E:Value->Shared->Prop}{i:Nat}{x:Str}{v:V}{u:Value}{Q:Unit->Shared->Prop} (I:aV X pins σ H s) (hN:X.N.Nodup) (hi:X.N[i]?=some x) (hx:yg X.env.scope x) (r:bL v u)
  (h:∀ s',aV X pins (σ.set i (some v)) H s'->Q () s') (hf:X.fn x=true\/X.env.scope.names.lookup x=some .local:=by first | exact .inl rfl | exact .inr rfl | assumption):wpAny M A (storeName X.env x u) Q E s:=
 qU I hN hi hx r (fun s' I' _=>h s' I') hf
theorem aV.call' {s':Shared}{ch:List Addr} (I:aV X pins σ H s) (ho:s'.os=s.os) (u:Un (nk X.stack) ch H H' s.heap s'.heap) (hok:mx X.prog X.w H' s'.heap) (hg:AllBare s'.gens)
  (hch:∀ b∈ch,(b∈X.ex\/X.s₀.heap.objs.size<=b)/\b≠X.env.locals/\(∀ x c,X.env.cells.lookup x=some c->c≠b)/\∀ p∈X.pn++pins,p.1≠b):aV X pins σ H' s':=by
 obtain ⟨h',g',d',t',o'⟩:=s'
 have e:o'=s.os:=ho
 subst e
 exact I.call (g':=g') (t':=t') (d':=d') u hok hg hch
end
abbrev XK:=Value->Option Addr->Hp->Prop
abbrev St:=List (Option V)
abbrev VK:=V->Hp->Prop
abbrev TE:=St->Hp->VK->Prop
abbrev TT:=St->Hp->(Bool->Hp->Prop)->Prop
abbrev TA:=St->Hp->(List V->Hp->Prop)->Prop
structure mC where
 nx:St->Hp->Prop
 rt:VK
 bk:St->Hp->Prop:=fun _ _=>False
 ct:St->Hp->Prop:=fun _ _=>False
abbrev TS:=mC->St->Hp->Prop
def EP (X:Cx) (pins:List (Addr × Obj)) (σ:St) (Q:VK) (u:Value) (s':Shared):Prop:=∃ v H',aV X pins σ H' s'/\bL v u/\Q v H'
def TP (X:Cx) (pins:List (Addr × Obj)) (σ:St) (Q:Bool->Hp->Prop) (b:Bool) (s':Shared):Prop:=∃ H',aV X pins σ H' s'/\Q b H'
def AP (X:Cx) (pins:List (Addr × Obj)) (σ:St) (Q:List V->Hp->Prop) (us:List Value) (s':Shared):Prop:=∃ vs H',aV X pins σ H' s'/\ba vs us/\Q vs H'
def SP (X:Cx) (pins:List (Addr × Obj)) (D:mC) (f:Flow) (s':Shared):Prop:=
 match f with
 | .next=>∃ σ' H',aV X pins σ' H' s'/\D.nx σ' H'
 | .brk=>∃ σ' H',aV X pins σ' H' s'/\D.bk σ' H'
 | .cont=>∃ σ' H',aV X pins σ' H' s'/\D.ct σ' H'
 | .ret u=>∃ v σ' H',aV X pins σ' H' s'/\bL v u/\D.rt v H'
def PE (X:Cx) (e:Expr) (t:TE):Prop:=
 ∀ (pins:List (Addr × Obj)) (s:Shared) (σ:St) (H:Hp) (Q:VK),aV X pins σ H s->t σ H Q->wpAny (model X.prog X.w) X.A (eval e X.env) (EP X pins σ Q) X.xe s
def PT (X:Cx) (e:Expr) (t:TT):Prop:=
 ∀ (pins:List (Addr × Obj)) (s:Shared) (σ:St) (H:Hp) (Q:Bool->Hp->Prop),aV X pins σ H s->t σ H Q->wpAny (model X.prog X.w) X.A (isTrue e X.env (eval e X.env)) (TP X pins σ Q) X.xe s
def PW (X:Cx) (e:Expr) (t:TT):Prop:=
 ∀ (whole:Sem Value) (pins:List (Addr × Obj)) (s:Shared) (σ:St) (H:Hp) (Q:Bool->Hp->Prop),aV X pins σ H s->t σ H Q->wpAny (model X.prog X.w) X.A (isTrue e X.env whole) (TP X pins σ Q) X.xe s
theorem PW.pt {X:Cx}{e:Expr}{t:TT} (h:PW X e t):PT X e t:=h _
def PA (X:Cx) (es:List Expr) (t:TA):Prop:=
 ∀ (pos:Pos) (pins:List (Addr × Obj)) (s:Shared) (σ:St) (H:Hp) (Q:List V->Hp->Prop),aV X pins σ H s->t σ H Q->wpAny (model X.prog X.w) X.A (spliced (backTo pos (starEach es X.env))) (AP X pins σ Q) X.xe s
def PS (X:Cx) (st:Stmt) (t:TS):Prop:=
 ∀ (pins:List (Addr × Obj)) (s:Shared) (σ:St) (H:Hp) (D:mC),aV X pins σ H s->t D σ H->wpAny (model X.prog X.w) X.A (exec st X.env) (SP X pins D) X.xe s
def iU (X:Cx) (st:List Stmt) (t:TS):Prop:=
 ∀ (pins:List (Addr × Obj)) (s:Shared) (σ:St) (H:Hp) (D:mC),aV X pins σ H s->t D σ H->wpAny (model X.prog X.w) X.A (execs st X.env) (SP X pins D) X.xe s
theorem cQ {α:Type}{t:Sem α}{Q Q':α->Shared->Prop}{M:Model}{A:Around}{E:Value->Shared->Prop}{s:Shared} (h:wpAny M A t Q E s) (hQ:∀ a s,Q a s->Q' a s):wpAny M A t Q' E s:=LP h hQ fun _ _ x=>x
end L2
namespace L2
open PySem PySem.Spec PyProof.Rows
section
variable {X:Cx}
def Iv (i:Nat):TE:=fun σ H Q=>∃ v,σ[i]?=some (some v)/\Q v H
def tC (v:V):TE:=fun _ H Q=>Q v H
theorem GF {i:Nat}{x:Str}{pos:Pos} (hN:X.N[i]?=some x) (hv:J2 X.env.scope x) (hd:(x == ("__debug__" : Str))=false:=by decide) (hcd:(x == ("__classdict__" : Str))=false:=by decide):PE X (.Name x pos) (Iv i):=by
 intro pins s σ H Q I h
 obtain ⟨v,e,h⟩:=h
 obtain ⟨m,hn,hl⟩:=I.loc
 obtain ⟨u,r,l⟩:=hl i x v hN e hv
 have fin:EP X pins σ Q u s:=⟨v,H,I,r,h⟩
 rcases l with ⟨hk,hm⟩ | ⟨hk,c,hc,hcell⟩
 ·exact wpAny_Name (wpAny_loadName_local I.ok.kind hk hn hm fin) hd
 ·rcases hk with hk | hk
  ·exact wpAny_Name (wpAny_loadName_cell I.ok.kind hk hc hcell fin) hd
  ·exact wpAny_Name (wpAny_loadName_free I.ok.kind hk hc hcell fin hcd) hd
theorem GM {i j pos}:PE X (.Constant (.int i) j pos) (tC (.int i)):=fun _ _ _ H _ I h=>wpAny_Constant_int ⟨.int i,H,I.tok _,⟨_,rfl⟩,h⟩
theorem Jy {b j pos}:PE X (.Constant (.bool b) j pos) (tC (.bl b)):=fun _ _ _ H _ I h=>Constant_bool ⟨.bl b,H,I,rfl,h⟩
theorem GK {j pos}:PE X (.Constant .none j pos) (tC .non):=fun _ _ _ H _ I h=>Constant_none ⟨.non,H,I,rfl,h⟩
theorem GH {x j pos}:PE X (.Constant (.str x) j pos) (tC (.str x)):=fun _ _ _ H _ I h=>Calls.Constant_str ⟨.str x,H,I.tok _,⟨_,rfl⟩,h⟩
def Gl (X:Cx) (x:Str):Prop:=X.env.kindOf x=some .globalImplicit
theorem lJ {E:Value->Shared->Prop}{pins:List (Addr × Obj)}{s:Shared}{σ:St}{H:Hp}{x:Str}{u:Value}{pos:Pos}{Q:Value->Shared->Prop} (I:aV X pins σ H s) (hg:Gl X x) (hm:X.mg x=some u) (h:Q u s)
  (hd:(x == ("__debug__" : Str))=false:=by decide):wpAny (model X.prog X.w) X.A (eval (.Name x pos) X.env) Q E s:=
 Calls.Name_function_global I.ok.kind hg (Calls.loadGlobal_global (by rw [I.ok.glob];exact I.mod.glob.keeps I.bk) hm h) hd
theorem o9 {E:Value->Shared->Prop}{pins:List (Addr × Obj)}{s:Shared}{σ:St}{H:Hp}{x:Str}{u:Value}{pos:Pos}{Q:Value->Shared->Prop} (I:aV X pins σ H s) (hg:Gl X x) (hm:X.mg x=none) (hv:bootBuiltins x=some u) (h:Q u s)
  (hn:x ≠ "__name__" := by decide) (hd:(x == ("__debug__" : Str))=false:=by decide):wpAny (model X.prog X.w) X.A (eval (.Name x pos) X.env) Q E s:=by
 obtain ⟨mb,h1,h2⟩:=I.mod.blt
 exact Calls.Name_function_global I.ok.kind hg (Calls.loadGlobal_builtin (by rw [I.ok.glob];exact I.mod.glob.keeps I.bk) hm (by rw [I.ok.blt];exact h1.keeps I.bk) ((h2 x hn).trans hv) h) hd
theorem xI {x:Str}{v:V}{u:Value}{pos:Pos} (hg:Gl X x) (hm:X.mg x=some u) (r:bL v u) (hd:(x == ("__debug__" : Str))=false:=by decide):PE X (.Name x pos) (tC v):=
 fun _ _ _ H _ I h=>lJ I hg hm ⟨v,H,I,r,h⟩ hd
theorem xJ {x:Str}{v:V}{u:Value}{pos:Pos} (hg:Gl X x) (hm:X.mg x=none) (hv:bootBuiltins x=some u) (r:bL v u) (hn:x ≠ "__name__" := by decide) (hd:(x == ("__debug__" : Str))=false:=by decide):PE X (.Name x pos) (tC v):=
 fun _ _ _ H _ I h=>o9 I hg hm hv ⟨v,H,I,r,h⟩ hn hd
variable {a b:Expr}{ta tb:TE}{pos:Pos}
variable {tA tB':TT}{rest:List Expr}
def Ku (t u:TT):TT:=fun σ H Q=>t σ H fun c H1=>if c=true then u σ H1 Q else Q false H1
def K9 (t u:TT):TT:=fun σ H Q=>t σ H fun c H1=>if c=true then Q true H1 else u σ H1 Q
def Km (t:TT):TT:=fun σ H Q=>t σ H fun c H1=>Q (!c) H1
theorem Dr (ha:PT X a tA):PW X (.BoolOp .And [a] pos) tA:=by
 intro wh pins s σ H Q I h
 refine isTrue_and (cQ (ha pins s σ H Q I h) fun c s1 e=>?_)
 cases c with
 | true=>exact isTrue_and_nil e
 | false=>exact e
theorem Gs (ha:PT X a tA):PW X (.BoolOp .Or [a] pos) tA:=by
 intro wh pins s σ H Q I h
 refine isTrue_or (cQ (ha pins s σ H Q I h) fun c s1 e=>?_)
 cases c with
 | false=>exact isTrue_or_nil e
 | true=>exact e
theorem Gu (ha:PT X a tA) (hb:PW X (.BoolOp .And (b::rest) pos) tB'):PW X (.BoolOp .And (a::b::rest) pos) (Ku tA tB'):=by
 intro wh pins s σ H Q I h
 refine isTrue_and (cQ (ha pins s σ H _ I h) fun c s1 ⟨H1,I1,q1⟩=>?_)
 cases c with
 | true=>exact hb wh pins s1 σ H1 Q I1 q1
 | false=>exact ⟨H1,I1,q1⟩
theorem Jr (ha:PT X a tA) (hb:PW X (.BoolOp .Or (b::rest) pos) tB'):PW X (.BoolOp .Or (a::b::rest) pos) (K9 tA tB'):=by
 intro wh pins s σ H Q I h
 refine isTrue_or (cQ (ha pins s σ H _ I h) fun c s1 ⟨H1,I1,q1⟩=>?_)
 cases c with
 | true=>exact ⟨H1,I1,q1⟩
 | false=>exact hb wh pins s1 σ H1 Q I1 q1
theorem Gv (ha:PT X a tA):PT X (.UnaryOp .Not a pos) (Km tA):=by
 intro pins s σ H Q I h
 exact isTrue_not (ha pins s σ H (fun c H1=>Q (!c) H1) I h)
def Jh (ta tb:TE):TE:=fun σ H Q=>ta σ H fun x H1=>∃ c,x=.bl c/\if c=true then tb σ H1 Q else Q (.bl false) H1
def Jc (ta:TE):TE:=fun σ H Q=>ta σ H fun x H1=>∃ c,x=.bl c/\Q (.bl (!c)) H1
theorem GI {op}{t:TE} (h:PE X a t):PE X (.BoolOp op [a] pos) t:=fun pins s σ H Q I hw=>BoolOp_one (h pins s σ H Q I hw)
theorem GN (ha:PE X a ta) (hb:PE X (.BoolOp .And (b::rest) pos) tb):PE X (.BoolOp .And (a::b::rest) pos) (Jh ta tb):=by
 intro pins s σ H Q I h
 refine BoolOp_and (cQ (ha pins s σ H _ I h) fun v s1 ⟨x,H1,I1,r1,q1⟩=>?_)
 obtain ⟨c,rfl,q1⟩:=q1
 cases r1
 refine LQ ?_
 cases c with
 | true=>exact hb pins s1 σ H1 Q I1 q1
 | false=>exact ⟨.bl false,H1,I1,rfl,q1⟩
theorem GJ (ha:PE X a ta):PE X (.UnaryOp .Not a pos) (Jc ta):=by
 intro pins s σ H Q I h
 refine UnaryOp_ (cQ (ha pins s σ H _ I h) fun v s1 ⟨x,H1,I1,r1,q1⟩=>?_)
 obtain ⟨c,rfl,q1⟩:=q1
 cases r1
 exact not_of (LQ ⟨.bl (!c),H1,I1,rfl,q1⟩)
end
end L2
namespace L2
open PySem PySem.Spec PyProof.Rows
def f7 (K:W.Frag) (H:Hp) (a:Addr) (xs:List V):Prop:=
 Rd H a (.lst xs) \/
  ∃ (o:Obj) (its:Array Value) (n:Nat),K.lookup a=some o/\o.cls=.type "list" /\ o.dict=none/\o.data=.seq its n/\its.size<=sizeLine/\ba xs its.toList
def gy (K:W.Frag) (H:Hp) (a:Addr) (xs:List V):Prop:=
 Rd H a (.tup xs) \/
  ∃ (o:Obj) (its:Array Value) (n:Nat),K.lookup a=some o/\o.cls=.type "tuple" /\ o.data=.seq its n/\its.size<=sizeLine/\ba xs its.toList
def KL:Value->Option V
 | .none=>some .non
 | .bool b=>some (.bl b)
 | .int i _=>some (.int i)
 | .str x _=>some (.str x)
 | .bytes b _=>some (.byt b)
 | .float b _=>some (.flt b)
 | .ref a=>some (.ref a)
 | .type n=>some (.ty n)
 | _=>none
theorem bL.abs {x:V}{u:Value} (r:bL x u):KL u=some x:=by
 cases x with
 | non=>cases r;rfl
 | bl _=>cases r;rfl
 | int _=>obtain ⟨t,rfl⟩:=r;rfl
 | str _=>obtain ⟨t,rfl⟩:=r;rfl
 | byt _=>obtain ⟨t,rfl⟩:=r;rfl
 | flt _=>obtain ⟨t,rfl⟩:=r;rfl
 | ref _=>cases r;rfl
 | ty _=>cases r;rfl
theorem bL.inj {x y:V}{u:Value} (r:bL x u) (q:bL y u):x=y:=Lr (r.abs.symm.trans q.abs)
theorem ba.inj:∀ {xs ys:List V}{us:List Value},ba xs us->ba ys us->xs=ys
 | _,_,_,.nil,.nil=>rfl
 | _,_,_,.cons r t,.cons r' t'=>by rw [r.inj r',ba.inj t t']
section
variable {X:Cx}{pins:List (Addr × Obj)}{σ:St}{H:Hp}{s:Shared}{a:Addr}{xs ys:List V}
theorem f7.of {K:W.Frag} (h:H a=some (.lst xs)):f7 K H a xs:=.inl (.inl h)
theorem gy.of {K:W.Frag} (h:H a=some (.tup xs)):gy K H a xs:=.inl (.inl h)
theorem aV.list (I:aV X pins σ H s) (h:f7 X.K H a xs):∃ its:List Value,ba xs its/\PlainL s.heap a its.toArray/\xs.length<=sizeLine:=by
 rcases h with h | ⟨o,its,n,hk,hc,hd,hs,hz,r⟩
 ·obtain ⟨z, its, n, r, e⟩ := h.ok I.hok
  exact ⟨its,r,⟨_,n,e,rfl,rfl,rfl⟩,z⟩
 ·refine ⟨its.toList, r, ⟨o, n, I.kIn a o hk, hc, hd, by simpa using hs⟩, ?_⟩
  have e:=r.length
  simp only [LR] at e
  omega
theorem aV.tuple (I:aV X pins σ H s) (h:gy X.K H a xs):∃ its:List Value,ba xs its/\IsTup s.heap a its.toArray/\xs.length<=sizeLine:=by
 rcases h with h | ⟨o,its,n,hk,hc,hs,hz,r⟩
 ·obtain ⟨z, its, r, p⟩ := h.ok I.hok
  exact ⟨its,r,p,z⟩
 ·refine ⟨its.toList, r, ⟨o, I.kIn a o hk, hc, n, by simpa using hs⟩, ?_⟩
  have e:=r.length
  simp only [LR] at e
  omega
theorem aV.list_inj (I:aV X pins σ H s) (h:f7 X.K H a xs) (h':f7 X.K H a ys):xs=ys:=by
 obtain ⟨its,r,⟨o,n,e,_,_,d⟩,_⟩:=I.list h
 obtain ⟨its',r',⟨o',n',e',_,_,d'⟩,_⟩:=I.list h'
 rw [e] at e';cases e'
 rw [d] at d'
 injection d' with d1 _
 have:its=its':=by simpa using LS Array.toList d1
 subst this
 exact r.inj r'
theorem aV.tuple_inj (I:aV X pins σ H s) (h:gy X.K H a xs) (h':gy X.K H a ys):xs=ys:=by
 obtain ⟨its,r,⟨o,e,_,n,d⟩,_⟩:=I.tuple h
 obtain ⟨its',r',⟨o',e',_,n',d'⟩,_⟩:=I.tuple h'
 rw [e] at e';cases e'
 rw [d] at d'
 injection d' with d1 _
 have:its=its':=by simpa using LS Array.toList d1
 subst this
 exact r.inj r'
end
abbrev Cx.wish (X:Cx) (E:Value->Shared->Prop):Cx:={ X with xe:=E }
abbrev Cx.nox (X:Cx):Cx:=X.wish fun _ _=>False
theorem Cx.Ok.wish {X:Cx} (ok:X.Ok) (E:Value->Shared->Prop):(X.wish E).Ok:=
 ⟨ok.mod,ok.kind,ok.glob,ok.blt,ok.above,ok.inj,ok.has,ok.cab,ok.hd,ok.frames,ok.stk,ok.exf,ok.bs,ok.bsz,ok.noex,ok.exfs,ok.funs,ok.frf⟩
theorem Cx.Ok.unwish {X:Cx}{E:Value->Shared->Prop} (ok:(X.wish E).Ok):X.Ok:=
 ⟨ok.mod,ok.kind,ok.glob,ok.blt,ok.above,ok.inj,ok.has,ok.cab,ok.hd,ok.frames,ok.stk,ok.exf,ok.bs,ok.bsz,ok.noex,ok.exfs,ok.funs,ok.frf⟩
section
variable {X:Cx}{pins:List (Addr × Obj)}{σ:St}{H:Hp}{s:Shared}{E:Value->Shared->Prop}
theorem aV.wish (I:aV X pins σ H s) (E:Value->Shared->Prop):aV (X.wish E) pins σ H s:=⟨I.ok.wish E,I.os,I.bare,I.base,I.loc,I.cell,I.free,I.freeC,I.pin,I.hok,I.len⟩
theorem aV.unwish (I:aV (X.wish E) pins σ H s):aV X pins σ H s:=⟨I.ok.unwish,I.os,I.bare,I.base,I.loc,I.cell,I.free,I.freeC,I.pin,I.hok,I.len⟩
theorem SP.unwish {D:mC}{f:Flow}{s':Shared} (h:SP (X.wish E) pins D f s'):SP X pins D f s':=by
 cases f with
 | next=>obtain ⟨σ',H',I,q⟩:=h;exact ⟨σ',H',I.unwish,q⟩
 | brk=>obtain ⟨σ',H',I,q⟩:=h;exact ⟨σ',H',I.unwish,q⟩
 | cont=>obtain ⟨σ',H',I,q⟩:=h;exact ⟨σ',H',I.unwish,q⟩
 | ret u=>obtain ⟨v,σ',H',I,r,q⟩:=h;exact ⟨v,σ',H',I.unwish,r,q⟩
theorem iU.nox {st:List Stmt}{t:TS} (h:iU X.nox st t):iU X st t:=fun pins s σ H D I hw=>
 LP (h pins s σ H D (I.wish _) hw) (fun _ _ q=>q.unwish) fun _ _ z=>False.elim z
end
section
variable {X:Cx}{st:Stmt}{rest:List Stmt}{t u:TS}{e:Expr}{te:TE}{pos:Pos}
def Jd:TS:=fun D σ H=>D.nx σ H
def Kk (t u:TS):TS:=fun D σ H=>t { D with nx:=u D } σ H
theorem Dw:iU X [] Jd:=fun _ _ σ H _ I h=>LU ⟨σ,H,I,h⟩
theorem Bs (h1:PS X st t) (h2:iU X rest u):iU X (st::rest) (Kk t u):=by
 intro pins s σ H D I h
 refine wpAny_execs_cons (cQ (h1 pins s σ H { D with nx:=u D } I h) fun f s1 q=>?_)
 cases f with
 | next=>
  obtain ⟨σ',H',I',q⟩:=q
  exact h2 pins s1 σ' H' D I' q
 | ret v=>exact q
 | brk=>exact q
 | cont=>exact q
theorem Dv (h1:PS X st t):iU X [st] t:=by
 intro pins s σ H D I h
 refine wpAny_execs_cons (cQ (h1 pins s σ H D I h) fun f s1 q=>?_)
 cases f with
 | next=>exact LU q
 | ret v=>exact q
 | brk=>exact q
 | cont=>exact q
theorem aV.quiet {pins:List (Addr × Obj)}{σ:St}{H:Hp}{s:Shared} (I:aV X pins σ H s):interactive X.env=false:=by simp [interactive,I.ok.kind]
def Je (te:TE):TS:=fun D σ H=>te σ H fun _ H1=>D.nx σ H1
theorem Dy (he:PE X e te) (hs:swapsWith e none pos.line X.env=pure false:=by rfl):PS X (.Expr e pos) (Je te):=by
 intro pins s σ H D I h
 exact wpAny_Expr_any (cQ (he pins s σ H _ I h) fun v s1 ⟨x,H1,I1,r1,q1⟩=>⟨σ,H1,I1,q1⟩) I.quiet hs
def Kl (te:TE):TS:=fun D σ H=>te σ H D.rt
theorem Gy (he:PE X e te):PS X (.Return (some e) pos) (Kl te):=by
 intro pins s σ H D I h
 exact wpAny_Return_some (cQ (he pins s σ H _ I h) fun v s1 ⟨x,H1,I1,r1,q1⟩=>⟨x,σ,H1,I1,r1,q1⟩)
def Kr (c:TT) (t u:TS):TS:=fun D σ H=>c σ H fun b H1=>if b=true then t D σ H1 else u D σ H1
theorem Js {c:Expr}{a b:List Stmt}{tc:TT} (hc:PT X c tc) (ha:iU X a t) (hb:iU X b u):PS X (.If c a b pos) (Kr tc t u):=by
 intro pins s σ H D I h
 refine wpAny_If (cQ (hc pins s σ H _ I h) fun d s1 ⟨H1,I1,q1⟩=>?_)
 cases d with
 | true=>exact ha pins s1 σ H1 D I1 q1
 | false=>exact hb pins s1 σ H1 D I1 q1
end
abbrev TG:=V->St->Hp->(St->Hp->Prop)->Prop
abbrev Co:=List V->St->Hp->(St->Hp->Prop)->Prop
def PG (X:Cx) (target:Expr) (t:TG):Prop:=
 ∀ (pins:List (Addr × Obj)) (s:Shared) (σ:St) (H:Hp) (v:V) (u:Value) (Q:St->Hp->Prop),aV X pins σ H s->bL v u->t v σ H Q ->
  wpAny (model X.prog X.w) X.A (assign target X.env u) (fun _ s'=>∃ σ' H',aV X pins σ' H' s'/\Q σ' H') X.xe s
def vP (X:Cx) (ts:List Expr) (t:Co):Prop:=
 ∀ (pins:List (Addr × Obj)) (s:Shared) (σ:St) (H:Hp) (vs:List V) (us:List Value) (Q:St->Hp->Prop),aV X pins σ H s->ba vs us->t vs σ H Q ->
  wpAny (model X.prog X.w) X.A (assignInOrder ((assignEach ts X.env).map (·.2)) us) (fun _ s'=>∃ σ' H',aV X pins σ' H' s'/\Q σ' H') X.xe s
abbrev Fv:=V->V->V->Hp->(Hp->Prop)->Prop
def IR (X:Cx) (t:Fv):Prop:=
 ∀ (pins:List (Addr × Obj)) (s:Shared) (σ:St) (H:Hp) (o i v:V) (ov iv u:Value) (Q:Hp->Prop),aV X pins σ H s->bL o ov->bL i iv->bL v u->t o i v H Q ->
  wpAny (model X.prog X.w) X.A (setItem ov iv u) (fun _ s'=>∃ H',aV X pins σ H' s'/\Q H') X.xe s
abbrev Ip:=V->V->Hp->VK->Prop
def J4 (X:Cx) (op:Operator) (t:Ip):Prop:=
 ∀ (pins:List (Addr × Obj)) (s:Shared) (σ:St) (H:Hp) (x y:V) (v u:Value) (Q:VK),aV X pins σ H s->bL x v->bL y u->t x y H Q ->
  wpAny (model X.prog X.w) X.A (inplaceOp op v u) (EP X pins σ Q) X.xe s
section
variable {X:Cx}{pos:Pos}
def ue (i:Nat):TG:=fun v σ H Q=>Q (σ.set i (some v)) H
theorem DC {i:Nat}{x:Str} (hN:X.N.Nodup) (hi:X.N[i]?=some x) (hx:yg X.env.scope x) (hf:X.fn x=true\/X.env.scope.names.lookup x=some .local:=by first | exact .inl rfl | exact .inr rfl | assumption):PG X (.Name x pos) (ue i):=by
 intro pins s σ H v u Q I r h
 exact wpAny_assign_Name (lT I hN hi hx r (fun s' I'=>⟨_,H,I',h⟩) hf)
def KG:Co:=fun vs σ H Q=>vs=[]/\Q σ H
def JN (t:TG) (u:Co):Co:=fun vs σ H Q=>∃ v r,vs=v::r/\t v σ H fun σ' H'=>u r σ' H' Q
theorem DB:vP X [] KG:=by
 intro pins s σ H vs us Q I r h
 obtain ⟨e,h⟩:=h
 subst e
 cases r
 exact assignInOrder_nil ⟨σ,H,I,h⟩
theorem Bz {e:Expr}{es:List Expr}{t:TG}{u:Co} (h1:PG X e t) (h2:vP X es u)
  (hs:(assignEach (e::es) X.env).map (·.2)=assign e X.env::(assignEach es X.env).map (·.2):=by rfl):vP X (e::es) (JN t u):=by
 intro pins s σ H vs us Q I r h
 obtain ⟨v,vr,e1,h⟩:=h
 subst e1
 cases r with
 | cons r rr=>
  rw [hs]
  refine assignInOrder_cons (cQ (h1 pins s σ H _ _ _ I r h) fun _ s1 ⟨σ1,H1,I1,q1⟩=>?_)
  exact h2 pins s1 σ1 H1 _ _ Q I1 rr q1
def KD (K:W.Frag) (n:Nat) (t:Co):TG:=fun v σ H Q=>∃ a xs,v=.ref a/\gy K H a xs/\xs.length=n/\t xs σ H Q
theorem GD {es:List Expr}{k:Nat}{t:Co}{n:Nat} (hc:X.calm=true) (h:vP X es t)
  (hn:(assignEach es X.env).length=n:=by rfl) (hst:(assignEach es X.env).findIdx? (·.1)=none:=by rfl):PG X (.Tuple es k pos) (KD X.K n t):=by
 intro pins s σ H v u Q I r hw
 obtain ⟨a,xs,e1,hq,hl,hw⟩:=hw
 subst e1
 cases r
 obtain ⟨its,rv,ht,hz⟩:=I.tuple hq
 refine assign_Tuple_tuple (I.ok.hd hc) ht (by simp [hn,<- hl,rv.length]) hst fun h' hx=>?_
 have I1:aV X pins σ H { s with heap:=h' }:=I.kept (t':=s.toks) fun b o e=>hx b o (Ly (Ls e)) e
 exact h pins _ σ H xs _ Q I1 (by simpa using rv) hw
def KE (to ti:TE) (t:Fv):TG:=fun v σ H Q=>to σ H fun o H1=>ti σ H1 fun i H2=>t o i v H2 fun H3=>Q σ H3
theorem GE {o i:Expr}{to ti:TE}{t:Fv} (ho:PE X o to) (hi:PE X i ti) (hs:IR X t)
  (ha : ∀ v, assign (.Subscript o i pos) X.env v = (do
   let ov <- holding [v] (eval o X.env)
   let iv <- holding [v,ov] (eval i X.env)
   standAt pos
   holding [v,ov,iv] (setItem ov iv v)
   release [v,ov,iv] []):=by intro _;rfl):PG X (.Subscript o i pos) (KE to ti t):=by
 intro pins s σ H v u Q I r h
 rw [ha]
 refine LV (LW (cQ (ho pins s σ H _ I h) fun ov s1 ⟨x,H1,I1,r1,q1⟩=>?_))
 refine LV (LW (cQ (hi pins s1 σ H1 _ I1 q1) fun iv s2 ⟨y,H2,I2,r2,q2⟩=>?_))
 refine LV (LX (LV (LW (cQ (hs pins s2 σ H2 x y v ov iv u _ I2 r1 r2 r q2) fun _ s3 ⟨H3,I3,q3⟩=>?_))))
 exact wpAny_release ⟨σ,H3,I3,q3⟩
def zJ (te:TE) (g:TG):TS:=fun D σ H=>te σ H fun x H1=>g x σ H1 D.nx
theorem GB {tg e:Expr}{te:TE}{g:TG} (he:PE X e te) (hg:PG X tg g) (hs:swapsWithSole [tg] e pos.line X.env=pure false:=by rfl) (hw:swappedStores [tg] e X.env=pure none:=by rfl)
  (h1:(assignEach [tg] X.env).map (·.2)=[assign tg X.env]:=by rfl):PS X (.Assign [tg] e pos) (zJ te g):=by
 intro pins s σ H D I h
 refine wpAny_Assign_stores (cQ (he pins s σ H _ I h) fun v s1 ⟨x,H1,I1,r1,q1⟩=>?_) hs hw
 rw [h1]
 exact cQ (hg pins s1 σ H1 x v _ I1 r1 q1) fun _ s2 q=>q
theorem Gx {i:Nat}{x:Str}{e:Expr}{te:TE}{pos':Pos} (hN:X.N.Nodup) (hi:X.N[i]?=some x) (hx:yg X.env.scope x) (he:PE X e te) (hs:swapsWith e (some (.Name x pos')) pos.line X.env=pure false:=by rfl) (hf:X.fn x=true\/X.env.scope.names.lookup x=some .local:=by first | exact .inl rfl | exact .inr rfl | assumption) :
  PS X (.Assign [.Name x pos'] e pos) (zJ te (ue i)):=by
 intro pins s σ H D I h
 refine wpAny_Assign_Name (cQ (he pins s σ H _ I h) fun v s1 ⟨y,H1,I1,r1,q1⟩=>?_) hs
 exact lT I1 hN hi hx r1 (fun s2 I2=>⟨_,H1,I2,q1⟩) hf
def Kt (i:Nat) (te:TE) (ti:Ip):TS:=fun D σ H=>∃ x,σ[i]?=some (some x)/\te σ H fun y H1=>ti x y H1 fun z H2=>D.nx (σ.set i (some z)) H2
theorem GA {i:Nat}{x:Str}{e:Expr}{te:TE}{op:Operator}{ti:Ip}{pos':Pos} (hN:X.N.Nodup) (hi:X.N[i]?=some x) (hx:yg X.env.scope x) (he:PE X e te) (ho:J4 X op ti) (hf:X.fn x=true\/X.env.scope.names.lookup x=some .local:=by first | exact .inl rfl | exact .inr rfl | assumption) :
  PS X (.AugAssign (.Name x pos') op e pos) (Kt i te ti):=by
 intro pins s σ H D I h
 obtain ⟨v,e1,h⟩:=h
 obtain ⟨m,hn,hl⟩:=I.loc
 have vis:J2 X.env.scope x:=by rcases hx with k | k;exact .inl k;exact .inr (.inl k)
 obtain ⟨u,r,l⟩:=hl i x v hi e1 vis
 refine wpAny_AugAssign_Name ?_
 have go:wpAny (model X.prog X.w) X.A (eval e X.env) (fun w s₂=>wpAny (model X.prog X.w) X.A (inplaceOp op u w) (fun r s₃=>wpAny (model X.prog X.w) X.A (storeName X.env x r) (fun _=>SP X pins D .next) X.xe s₃) X.xe s₂) X.xe s:=by
  refine cQ (he pins s σ H _ I h) fun w s1 ⟨y,H1,I1,r1,q1⟩=>?_
  refine cQ (ho pins s1 σ H1 v y u w _ I1 r r1 q1) fun z s2 ⟨zv,H2,I2,r2,q2⟩=>?_
  exact lT I2 hN hi hx r2 (fun s3 I3=>⟨_,H2,I3,q2⟩) hf
 rcases l with ⟨hk,hm⟩ | ⟨hk,c,hc,hcell⟩
 ·exact wpAny_loadName_local I.ok.kind hk hn hm go
 ·rcases hk with hk | hk
  ·exact wpAny_loadName_cell I.ok.kind hk hc hcell go
  ·rcases hx with k | k
   ·have : X.env.scope.names.lookup x = some .free := hk
    rw [k] at this;cases this
   ·have : X.env.scope.names.lookup x = some .free := hk
    rw [k] at this;cases this
def Lb (f:Int->Int->Int):Ip:=fun x y H Q=>∃ i j,x=.int i/\y=.int j/\Q (.int (f i j)) H
theorem HF:J4 X .Add (Lb fun i j=>i+j):=by
 intro pins s σ H x y v u Q I r1 r2 h
 obtain ⟨i,j,e1,e2,q⟩:=h
 subst e1;subst e2
 obtain ⟨t,rfl⟩:=r1
 obtain ⟨t',rfl⟩:=r2
 exact iadd_int ⟨.int _,H,I.tok _,⟨_,rfl⟩,q⟩
end
section
variable {X:Cx}{pos:Pos}
def FP (c:TT) (tb:TS):TS:=fun D σ H=>∃ W:Nat->St->Hp->Prop,(∃ m,W m σ H)/\∀ m σ H,W m σ H ->
 c σ H fun b H1=>if b=true then ∃ N:St->Hp->Prop,(∀ σ' H',N σ' H'->∃ m',m'<m/\W m' σ' H')/\tb { D with nx:=N,ct:=N,bk:=D.nx } σ H1 else D.nx σ H1
theorem Bu {c:Expr}{body:List Stmt}{tc:TT}{tb:TS} (hp:PassesOwn (model X.prog X.w) X.A X.env X.xe) (hc:PT X c tc) (hb:iU X body tb):PS X (.While c body [] pos) (FP tc tb):=by
 intro pins s σ H D I h
 obtain ⟨W,⟨m0,w0⟩,turn⟩:=h
 refine wpAny_While (codeAny_whileLoop (fun n s'=>∃ σ' H',aV X pins σ' H' s'/\W n σ' H') ?_ m0 ⟨σ,H,I,w0⟩)
 rintro n s1 ⟨σ1,H1,I1,w1⟩
 refine LY hp (cQ (hc pins s1 σ1 H1 _ I1 (turn n σ1 H1 w1)) fun b s2 ⟨H2,I2,q2⟩=>?_)
 cases b with
 | true=>
  obtain ⟨N,hN,q2⟩:=q2
  rw [Lp rfl]
  refine LY hp (cQ (hb pins s2 σ1 H2 _ I2 q2) fun f s3 q3=>?_)
  cases f with
  | next=>
   obtain ⟨σ3,H3,I3,n3⟩:=q3
   obtain ⟨m',hm,w3⟩:=hN σ3 H3 n3
   exact ⟨m',hm,σ3,H3,I3,w3⟩
  | cont=>
   obtain ⟨σ3,H3,I3,n3⟩:=q3
   obtain ⟨m',hm,w3⟩:=hN σ3 H3 n3
   exact ⟨m',hm,σ3,H3,I3,w3⟩
  | brk=>exact q3
  | ret v=>exact q3
 | false=>
  rw [Lq LZ]
  exact LU ⟨σ1,H2,I2,q2⟩
end
structure It where
 go:Nat->Hp->Prop
 yld:Nat->Hp->V->Hp->Prop
 stop:Nat->Hp->Prop
def nP (X:Cx) (pins:List (Addr × Obj)) (H:Hp) (b:Addr):Prop:=
 H b=none/\b≠X.env.locals/\b ∉ X.fs/\(b∈X.ex\/X.s₀.heap.objs.size<=b)/\(∀ x c,X.env.cells.lookup x=some c->c≠b)/\∀ p∈X.pn++pins,p.1≠b
theorem aV.fpOk {X:Cx}{pins:List (Addr × Obj)}{σ:St}{H H':Hp}{s:Shared}{b:Addr} (I:aV X pins σ H s) (hb:s.heap.objs.size<=b) (hn:H' b=none):nP X pins H' b:=by
 refine ⟨hn,L3 (Lu I.lt hb),I.nofs hb,.inr (LB I.sz hb),fun x c e z=>?_,fun p hp z=>?_⟩
 ·obtain ⟨v, q⟩ := I.cell x c e
  exact absurd (Lu q.lt (by rw [z];exact hb)) (Lx _)
 ·exact absurd (Lu (Ls (I.pin p hp).1) (by rw [z];exact hb)) (Lx _)
structure zT (P:Program) (w:World) (K:W.Frag) (tg:Expr) (J:It) (fp:List Addr) (it:Addr) (tn:Nat->Heap->Prop):Prop where
 mem:it∈fp
 obj:∀ i h,tn i h->∀ b∈fp,∃ o,h.get? b=some o/\∀ v,o.data≠.cell v
 keep:∀ i h h',tn i h->(∀ b∈fp,∀ o,h.get? b=some o->h'.get? b=some o)->tn i h'
 item:∀ (X:Cx),X.prog=P->X.w=w->X.K=K->X.calm=true->∀ (i:Nat) (pins:List (Addr × Obj)) (s:Shared) (σ:St) (H:Hp) (E:Value->Shared->Prop),aV X pins σ H s->(∀ b∈fp,nP X pins H b)->tn i s.heap->J.go i H ->
  wpAny (model P w) X.A (pyNext (.ref it)) (fun r s1=>∃ u,r=some u /\
   wpAny (model P w) X.A (letOwnedTupleGo tg (.ref it) u) (fun _ s2=>∃ x H',aV X pins σ H' s2/\bL x u/\J.yld i H x H'/\tn (i+1) s2.heap/\∀ b∈fp,H' b=none) E s1) E s
 done:∀ (X:Cx),X.prog=P->X.w=w->X.K=K->X.calm=true->∀ (i:Nat) (pins:List (Addr × Obj)) (s:Shared) (σ:St) (H:Hp) (E:Value->Shared->Prop),aV X pins σ H s->(∀ b∈fp,nP X pins H b)->tn i s.heap->J.stop i H ->
  wpAny (model P w) X.A (pyNext (.ref it)) (fun r s1=>r=none/\aV X pins σ H s1) E s
 self:∀ (A:Around) (i:Nat) (s:Shared) (Q:Value->Shared->Prop) (E:Value->Shared->Prop),tn i s.heap->Q (.ref it) s->wpAny (model P w) A (pyIter (.ref it)) Q E s
abbrev TI:=St->Hp->(It->Hp->Prop)->Prop
def KZ (X:Cx) (pins:List (Addr × Obj)) (σ:St) (tg:Expr) (R:It->Hp->Prop) (itv:Value) (s2:Shared):Prop:=
 ∃ (it:Addr) (fp:List Addr) (tn:Nat->Heap->Prop) (J:It) (H':Hp),itv=.ref it/\aV X pins σ H' s2/\zT X.prog X.w X.K tg J fp it tn/\tn 0 s2.heap/\(∀ b∈fp,nP X pins H' b)/\R J H'
def PI (X:Cx) (tg iter:Expr) (wi:TI):Prop:=
 ∀ (pins:List (Addr × Obj)) (s:Shared) (σ:St) (H:Hp) (R:It->Hp->Prop),aV X pins σ H s->wi σ H R ->
  wpAny (model X.prog X.w) X.A (eval iter X.env) (fun v s1=>wpAny (model X.prog X.w) X.A (pyIter v) (KZ X pins σ tg R) X.xe s1) X.xe s
theorem Ag {M:Model}{A:Around}{E:Value->Shared->Prop}{s:Shared}{tg:Expr}{it:Addr}{u:Value}{o:Obj}{n:String}{vs:Array Value}{Q:Unit->Shared->Prop} (ho:s.heap.get? it=some o) (hc:o.cls=.type n) (hd:o.data=.fields vs)
  (hn:["enumerate", "zip", "dict_itemiterator", "dict_reverseitemiterator", "odict_iterator", "itertools.zip_longest", "itertools.pairwise"].contains n=false) (hQ:Q () s):wpAny M A (letOwnedTupleGo tg (.ref it) u) Q E s:=by
 unfold letOwnedTupleGo
 cases tg <;> first
  | exact L4 hQ
  | (cases u <;> first
    | exact L4 hQ
    | (refine LV (L5 ho ?_)
       rw [hc,hd]
       show wpAny M A (if (["enumerate", "zip", "dict_itemiterator", "dict_reverseitemiterator", "odict_iterator", "itertools.zip_longest", "itertools.pairwise"].contains n && vs[0]? == some (rawInt _))=true then _ else _) Q E s
       rw [Lq (by intro h;rw [hn,L6] at h;cases h)]
       exact L4 hQ))
def J8 (K:W.Frag) (a:Addr):It:=
 ⟨fun i H=>∃ xs x,f7 K H a xs/\xs[i]?=some x,fun i H x H'=>H'=H/\∀ xs,f7 K H a xs->xs[i]?=some x,fun i H=>∃ xs,f7 K H a xs/\xs.length<=i⟩
def Kg (K:W.Frag) (a:Addr):It:=
 ⟨fun i H=>∃ xs x,gy K H a xs/\xs[i]?=some x,fun i H x H'=>H'=H/\∀ xs,gy K H a xs->xs[i]?=some x,fun i H=>∃ xs,gy K H a xs/\xs.length<=i⟩
def Ij (lo:Int) (n:Nat):It:=⟨fun i _=>i<n,fun i H x H'=>H'=H/\x=.int (lo+i),fun i _=>n<=i⟩
theorem yo {P:Program}{w:World}{K:W.Frag}{tg:Expr} (a it:Addr):zT P w K tg (J8 K a) [it] it (fun i h=>h.IsListIter it a i) where
 mem:=by simp
 obj:=fun i h st b hb=>by
  have e:b=it:=by simpa using hb
  subst e
  obtain ⟨o,e,c,d⟩:=st
  exact ⟨o,e,fun v z=>by rw [d] at z;cases z⟩
 keep:=fun i h h' st k=>st.at fun o e=>k it (by simp) o e
 item:=by
  intro X hP hw hK hc i pins s σ H E I hf st hg
  subst hP hw hK
  obtain ⟨xs,x,hq,hx⟩:=hg
  obtain ⟨its,rv,p,hz⟩:=I.list hq
  obtain ⟨u,hu,ru⟩:=rv.get hx
  obtain ⟨f0,f1,f2,f3,f4,f5⟩:=hf it (by simp)
  refine wpAny_pyNext_list_item st p.isList (x:=u) (by simpa using hu) fun h' st' sb=>?_
  have I1:aV X pins σ H { s with heap:=h' }:=I.turned (t':=s.toks) (fun b o hb e=>(sb.2 b hb).trans e) f0 f1 f3 f4 f5
  obtain ⟨o,e,c,d⟩:=id st'
  exact ⟨u,rfl,Ag (s:={ s with heap:=h' }) e c d (by decide) ⟨x,H,I1,ru,⟨rfl,fun ys hy=>by rw [I.list_inj hy hq];exact hx⟩,st',fun b hb=>(hf b hb).1⟩⟩
 done:=by
  intro X hP hw hK hc i pins s σ H E I hf st hg
  subst hP hw hK
  obtain ⟨xs,hq,hx⟩:=hg
  obtain ⟨its,rv,p,hz⟩:=I.list hq
  obtain ⟨f0,f1,f2,f3,f4,f5⟩:=hf it (by simp)
  have hl:=rv.length
  exact wpAny_pyNext_list_end (I.ok.hd hc) st p.isList (by simp;omega) fun h' eb=>⟨rfl,I.turned (t':=s.toks) (fun b o hb e=>eb b o hb e) f0 f1 f3 f4 f5⟩
 self:=fun _ _ _ _ _ st h=>wpAny_pyIter_listiter st h
theorem wy {P:Program}{w:World}{K:W.Frag}{tg:Expr} (a it:Addr):zT P w K tg (Kg K a) [it] it (fun i h=>h.IsTupleIter it a i) where
 mem:=by simp
 obj:=fun i h st b hb=>by
  have e:b=it:=by simpa using hb
  subst e
  obtain ⟨o,e,c,d⟩:=st
  exact ⟨o,e,fun v z=>by rw [d] at z;cases z⟩
 keep:=fun i h h' st k=>st.at fun o e=>k it (by simp) o e
 item:=by
  intro X hP hw hK hc i pins s σ H E I hf st hg
  subst hP hw hK
  obtain ⟨xs,x,hq,hx⟩:=hg
  obtain ⟨its,rv,p,hz⟩:=I.tuple hq
  obtain ⟨u,hu,ru⟩:=rv.get hx
  obtain ⟨f0,f1,f2,f3,f4,f5⟩:=hf it (by simp)
  refine wpAny_pyNext_tuple_item st (show s.heap.IsTuple a its.toArray from p) (x:=u) (by simpa using hu) fun h' st' sb=>?_
  have I1:aV X pins σ H { s with heap:=h' }:=I.turned (t':=s.toks) (fun b o hb e=>(sb.2 b hb).trans e) f0 f1 f3 f4 f5
  obtain ⟨o,e,c,d⟩:=id st'
  exact ⟨u,rfl,Ag (s:={ s with heap:=h' }) e c d (by decide) ⟨x,H,I1,ru,⟨rfl,fun ys hy=>by rw [I.tuple_inj hy hq];exact hx⟩,st',fun b hb=>(hf b hb).1⟩⟩
 done:=by
  intro X hP hw hK hc i pins s σ H E I hf st hg
  subst hP hw hK
  obtain ⟨xs,hq,hx⟩:=hg
  obtain ⟨its,rv,p,hz⟩:=I.tuple hq
  obtain ⟨f0,f1,f2,f3,f4,f5⟩:=hf it (by simp)
  have hl:=rv.length
  exact wpAny_pyNext_tuple_end (I.ok.hd hc) st (show s.heap.IsTuple a its.toArray from p) (by simp;omega) fun h' eb=>⟨rfl,I.turned (t':=s.toks) (fun b o hb e=>eb b o hb e) f0 f1 f3 f4 f5⟩
 self:=fun _ _ _ _ _ st h=>wpAny_pyIter_tupleiter st h
theorem wz {P:Program}{w:World}{K:W.Frag}{tg:Expr} (it:Addr) (lo:Int) (n:Nat):zT P w K tg (Ij lo n) [it] it (fun i h=>IsRangeIter h it (lo+(i:Nat) * 1) ((n:Int) - (i:Nat)) 1) where
 mem:=by simp
 obj:=fun i h st b hb=>by
  have e:b=it:=by simpa using hb
  subst e
  exact ⟨_,st,fun v z=>by
   have z':Data.fields _=Data.cell v:=z
   cases z'⟩
 keep:=fun i h h' st k=>k it (by simp) _ st
 item:=by
  intro X hP hw hK hc i pins s σ H E I hf st hg
  subst hP hw hK
  obtain ⟨f0,f1,f2,f3,f4,f5⟩:=hf it (by simp)
  have W:=Walks.range (prog:=X.prog) (w:=X.w) (I.ok.hd hc) it lo 1 n
  refine W.item i s _ _ hg st fun v h' tk hv st' kk=>?_
  obtain ⟨t,rfl⟩:=hv
  have I1:aV X pins σ H { s with heap:=h',toks:=tk }:=I.turned (fun b o hb e=>kk b o (by simpa using hb) e) f0 f1 f3 f4 f5
  refine ⟨_,rfl,Ag (s:={ s with heap:=h',toks:=tk }) (n:="range_iterator") st' rfl rfl (by decide) ⟨.int (lo+i),H,I1,⟨t,?_⟩,⟨rfl,rfl⟩,st',fun b hb=>(hf b hb).1⟩⟩
  rw [Int.mul_one]
 done:=by
  intro X hP hw hK hc i pins s σ H E I hf st hg
  subst hP hw hK
  obtain ⟨f0,f1,f2,f3,f4,f5⟩:=hf it (by simp)
  exact wpAny_pyNext_range_end (I.ok.hd hc) st (by have:n<=i:=hg;omega) fun h' eb=>⟨rfl,I.turned (t':=s.toks) (fun b o hb e=>eb b o hb e) f0 f1 f3 f4 f5⟩
 self:=fun _ _ _ _ _ st h=>wpAny_pyIter_rangeiter st h
end L2
namespace L2
open PySem PySem.Spec PyProof.Rows
section
variable {X:Cx}{tg:Expr}
theorem uF {pins:List (Addr × Obj)}{σ:St}{H:Hp}{s:Shared}{R:It->Hp->Prop}{E:Value->Shared->Prop}{lo hi:Int}{t u v:Tok}{tk:Nat} (I:aV X pins σ H s) (h1:-(2 ^ 62)<=lo) (h2:lo<2 ^ 62) (h3:-(2 ^ 62)<=hi) (h4:hi<2 ^ 62)
  (q:R (Ij lo (hi - lo).toNat) H):wpAny (model X.prog X.w) X.A (pyIter (.ref s.heap.objs.size)) (KZ X pins σ tg R) E { s with heap:=s.heap.push { cls:=.type "range",data:=.fields #[.int lo t,.int hi u,.int 1 v] },toks:=tk }:=by
 refine wpAny_pyIter_range (IsRange.new ..) (small_one h1 h2 h3 h4) ?_
 have I1:aV X pins σ H { s with heap:=s.heap.push { cls:=.type "range",data:=.fields #[.int lo t,.int hi u,.int 1 v] },toks:=tk }:=I.kept fun b o e=>L7 _ e
 refine ⟨(s.heap.push { cls:=.type "range",data:=.fields #[.int lo t,.int hi u,.int 1 v] }).objs.size,[(s.heap.push { cls:=.type "range",data:=.fields #[.int lo t,.int hi u,.int 1 v] }).objs.size],_,_,H,rfl,
  I1.kept (t':=tk) fun b o e=>L7 _ e,wz _ lo (hi - lo).toNat,?_,fun b hb=>?_,q⟩
 ·have e1 : lo + ((0 : Nat) : Int) * 1 = lo := by simp
  have e2:(((hi - lo).toNat:Nat):Int) - ((0:Nat):Int)=Builtin.Range.rangeSize lo hi 1:=by rw [rangeSize_one];split <;> omega
  show IsRangeIter _ _ (lo+((0:Nat):Int) * 1) ((((hi - lo).toNat:Nat):Int) - ((0:Nat):Int)) 1
  rw [e1,e2]
  exact L8 _ rfl
 ·have e : b = (s.heap.push { cls := .type "range", data := .fields #[.int lo t, .int hi u, .int 1 v] }).objs.size := by simpa using hb
  subst e
  exact I1.fpOk (L9 _) (I1.hok.fresh (L9 _))
def JL (ta:TA):TI:=fun σ H R=>ta σ H fun vs H1=>∃ j:Int,vs=[.int j]/\-(2 ^ 62)<=j/\j<2 ^ 62/\R (Ij 0 j.toNat) H1
def JK (ta:TA):TI:=fun σ H R=>ta σ H fun vs H1=>∃ i j:Int,vs=[.int i,.int j]/\(-(2 ^ 62)<=i/\i<2 ^ 62/\-(2 ^ 62)<=j/\j<2 ^ 62)/\R (Ij i (j - i).toNat) H1
theorem yN {a:Expr}{ta:TA}{p pos:Pos} (hg:Gl X "range") (hm:X.mg "range" = none) (ha:PA X [a] ta) (hs:starEach [a] X.env=[(false,eval a X.env)]:=by rfl):PI X tg (.Call (.Name "range" p) [a] [] pos) (JL ta):=by
 intro pins s σ H R I h
 refine Call_ (o9 I hg hm boot_range (Ma (cQ (ha pos pins s σ H _ I h) fun us s1 ⟨vs,H1,I1,r1,q1⟩=>?_) hs rfl))
 obtain ⟨j,e,q1,q2,q⟩:=q1
 subst e
 cases r1 with
 | cons r rr=>
  cases rr
  obtain ⟨t,rfl⟩:=r
  exact call_range_1 (uF I1 (by omega) (by omega) q1 q2 (by simpa using q))
theorem yM {a b:Expr}{ta:TA}{p pos:Pos} (hg:Gl X "range") (hm:X.mg "range" = none) (ha:PA X [a,b] ta) (hs:starEach [a,b] X.env=[(false,eval a X.env),(false,eval b X.env)]:=by rfl) (hs2:starEach [b] X.env=[(false,eval b X.env)]:=by rfl) :
  PI X tg (.Call (.Name "range" p) [a,b] [] pos) (JK ta):=by
 intro pins s σ H R I h
 refine Call_ (o9 I hg hm boot_range (Ma (cQ (ha pos pins s σ H _ I h) fun us s1 ⟨vs,H1,I1,r1,q1⟩=>?_) (by rw [hs,hs2]) (by rw [hs2];rfl)))
 obtain ⟨i,j,e,⟨q1,q2,q3,q4⟩,q⟩:=q1
 subst e
 cases r1 with
 | cons r rr=>
  cases rr with
  | cons r' rr=>
   cases rr
   obtain ⟨t,rfl⟩:=r
   obtain ⟨t',rfl⟩:=r'
   exact call_range_2 (uF I1 q1 q2 q3 q4 q)
def Ks (wi:TI) (g:TG) (tb:TS):TS:=fun D σ H=>wi σ H fun J H1=>∃ W:Nat->Nat->St->Hp->Prop,(∃ m,W 0 m σ H1)/\∀ i m σ H,W i m σ H ->
 (J.stop i H/\D.nx σ H)\/(J.go i H/\∃ N:St->Hp->Prop,(∀ σ' H',N σ' H'->∃ m',m'<m/\W (i+1) m' σ' H')/\∀ x H',J.yld i H x H'->g x σ H' fun σ2 H2=>tb { D with nx:=N,ct:=N,bk:=D.nx } σ2 H2)
def o8 (fp:List Addr) (h:Heap):List (Addr × Obj):=fp.filterMap fun b=>(h.get? b).map fun o=>(b,o)
theorem jr {fp:List Addr}{h:Heap}{b:Addr}{o:Obj} (hb:b∈fp) (e:h.get? b=some o):(b,o)∈o8 fp h:=Mb.mpr ⟨b,hb,by rw [e];rfl⟩
theorem yU {fp:List Addr}{h:Heap}{p:Addr × Obj} (hp:p∈o8 fp h):p.1∈fp/\h.get? p.1=some p.2:=by
 obtain ⟨b,hb,e⟩:=Mb.mp hp
 cases q:h.get? b with
 | none=>rw [q] at e;cases e
 | some o=>
  rw [q] at e
  have e':(b,o)=p:=Lr e
  subst e'
  exact ⟨hb,q⟩
theorem aV.pinned {pins:List (Addr × Obj)}{σ:St}{H:Hp}{s:Shared}{fp:List Addr} (I:aV X pins σ H s) (hf:∀ b∈fp,nP X pins H b) (ho:∀ b∈fp,∃ o,s.heap.get? b=some o/\∀ v,o.data≠.cell v):aV X (pins++o8 fp s.heap) σ H s:=
 I.pins_of fun p hp=>(LJ.mp hp).elim (fun z=>I.pin p (Mc _ z)) fun z=>by
  obtain ⟨hb,e⟩:=yU z
  obtain ⟨f0,f1,f2,_⟩:=hf p.1 hb
  obtain ⟨o,e',d⟩:=ho p.1 hb
  rw [e] at e';cases e'
  exact ⟨e,f0,f1,f2,d⟩
theorem aV.unpinned {pins pl:List (Addr × Obj)}{σ:St}{H:Hp}{s:Shared} (I:aV X (pins++pl) σ H s):aV X pins σ H s:=I.pins_of fun p hp=>I.pin p (Mc _ (LK _ hp))
theorem Gz {iter:Expr}{body:List Stmt}{wi:TI}{g:TG}{tb:TS}{pos:Pos} (hp:PassesOwn (model X.prog X.w) X.A X.env X.xe) (hc:X.calm=true) (hi:PI X tg iter wi) (hg:PG X tg g) (hb:iU X body tb)
  (hs:∀ x,foldedSetIterable iter X.env x=pure x:=by intro _;rfl):PS X (.For tg iter body [] pos) (Ks wi g tb):=by
 intro pins s σ H D I h
 refine wpAny_For (cQ (hi pins s σ H _ I h) fun v s1 h1=>cQ h1 fun itv s2 h2=>?_) hs
 obtain ⟨it,fp,tn,J,H2,e,I2,T,st2,f2,W,⟨m0,w0⟩,turn⟩:=h2
 subst e
 have stat:∀ {H':Hp},(∀ b∈fp,H' b=none)->∀ b∈fp,nP X pins H' b:=fun hn b hb=>⟨hn b hb,(f2 b hb).2⟩
 refine codeAny_forLoop_any (fun n s'=>∃ i σ' H',aV X pins σ' H' s'/\tn i s'.heap/\(∀ b∈fp,H' b=none)/\W i n σ' H') ?_ m0 ⟨0,σ,H2,I2,st2,fun b hb=>(f2 b hb).1,w0⟩
 rintro n s3 ⟨i,σ3,H3,I3,st3,fr3,w3⟩
 rcases turn i n σ3 H3 w3 with ⟨stop,qn⟩ | ⟨go,N,hN,step⟩
 ·refine LY hp (cQ (T.done X rfl rfl rfl hc i pins s3 σ3 H3 X.xe I3 (stat fr3) st3 stop) fun r s4 ⟨hr, I4⟩ => ?_)
  subst hr
  exact LU ⟨σ3,H3,I4,qn⟩
 ·refine LY hp (cQ (T.item X rfl rfl rfl hc i pins s3 σ3 H3 X.xe I3 (stat fr3) st3 go) fun r s4 ⟨u, hr, h4⟩ => ?_)
  subst hr
  refine LY hp (cQ h4 fun _ s5 ⟨x,H5,I5,r5,y5,st5,fr5⟩=>?_)
  have I5':=I5.pinned (stat fr5) (T.obj _ _ st5)
  refine LY hp (cQ (hg _ s5 σ3 H5 x u _ I5' r5 (step x H5 y5)) fun _ s6 ⟨σ6,H6,I6,q6⟩=>?_)
  refine LY hp (cQ (hb _ s6 σ6 H6 _ I6 q6) fun f s7 q7=>?_)
  have again:∀ {σ7:St}{H7:Hp},aV X (pins++o8 fp s5.heap) σ7 H7 s7->N σ7 H7->∃ m,m<n/\∃ i σ' H',aV X pins σ' H' s7/\tn i s7.heap/\(∀ b∈fp,H' b=none)/\W i m σ' H':=fun {σ7 H7} I7 n7=>by
   obtain ⟨m',hm,w7⟩:=hN σ7 H7 n7
   refine ⟨m',hm,i+1,σ7,H7,I7.unpinned,T.keep _ _ _ st5 fun b hb o e=>(I7.pin (b,o) (Mc _ (Mc _ (jr hb e)))).1,fun b hb=>?_,w7⟩
   obtain ⟨o,e,d⟩:=T.obj _ _ st5 b hb
   exact (I7.pin (b,o) (Mc _ (Mc _ (jr hb e)))).2.1
  cases f with
  | next=>obtain ⟨σ7,H7,I7,n7⟩:=q7;exact again I7 n7
  | cont=>obtain ⟨σ7,H7,I7,n7⟩:=q7;exact again I7 n7
  | brk=>obtain ⟨σ7,H7,I7,q7⟩:=q7;exact ⟨σ7,H7,I7.unpinned,q7⟩
  | ret v=>obtain ⟨x7,σ7,H7,I7,r7,q7⟩:=q7;exact ⟨x7,σ7,H7,I7.unpinned,r7,q7⟩
end
end L2
namespace L2
open PySem PySem.Spec PyProof.Rows
abbrev R2:=V->V->Hp->VK->Prop
def gS (X:Cx) (f:Value->Value->Sem Value) (r:R2):Prop:=
 ∀ (pins:List (Addr × Obj)) (s:Shared) (σ:St) (H:Hp) (x y:V) (v u:Value) (Q:VK),aV X pins σ H s->bL x v->bL y u->r x y H Q ->
  wpAny (model X.prog X.w) X.A (f v u) (EP X pins σ Q) X.xe s
def J3 (X:Cx) (f:Value->Sem Value) (r:V->Hp->VK->Prop):Prop:=
 ∀ (pins:List (Addr × Obj)) (s:Shared) (σ:St) (H:Hp) (x:V) (v:Value) (Q:VK),aV X pins σ H s->bL x v->r x H Q ->
  wpAny (model X.prog X.w) X.A (f v) (EP X pins σ Q) X.xe s
def cH (X:Cx) (f:Value) (r:List V->Hp->VK->Prop):Prop:=
 ∀ (pins:List (Addr × Obj)) (s:Shared) (σ:St) (H:Hp) (xs:List V) (us:List Value) (Q:VK),aV X pins σ H s->ba xs us->r xs H Q ->
  wpAny (model X.prog X.w) X.A (call f us) (EP X pins σ Q) X.xe s
def KM (X:Cx) (r:V->Hp->(Bool->Hp->Prop)->Prop):Prop:=
 ∀ (pins:List (Addr × Obj)) (s:Shared) (σ:St) (H:Hp) (x:V) (v:Value) (Q:Bool->Hp->Prop),aV X pins σ H s->bL x v->r x H Q ->
  wpAny (model X.prog X.w) X.A (truthy v) (TP X pins σ Q) X.xe s
def JZ (r:R2) (ta tb:TE):TE:=fun σ H Q=>ta σ H fun x H1=>tb σ H1 fun y H2=>r x y H2 Q
def K7 (r:V->Hp->VK->Prop) (ta:TE):TE:=fun σ H Q=>ta σ H fun x H1=>r x H1 Q
def rI (C:Int->Int->Prop) (g:Int->Int->V):R2:=fun x y H Q=>∃ i j,x=.int i/\y=.int j/\C i j/\Q (g i j) H
def E7 (g:Int->Int->V):R2:=fun x y H Q=>∃ i j,x=.int i/\y=.int j/\Q (g i j) H
def rU (g:Int->V):V->Hp->VK->Prop:=fun x H Q=>∃ i,x=.int i/\Q (g i) H
section
variable {X:Cx}{a b c:Expr}{ta tb tc:TE}{pos:Pos}
theorem Fq (ha:PE X a ta) (hb:PE X b tb) {pins:List (Addr × Obj)}{s:Shared}{σ:St}{H:Hp}{R:V->V->Hp->Prop} (I:aV X pins σ H s)
  (h:ta σ H fun x H1=>tb σ H1 fun y H2=>R x y H2) {Q:Value->Shared->Prop}{f:Value->Value->Sem Value}
  (hf:∀ v u s2 x y H2,aV X pins σ H2 s2->bL x v->bL y u->R x y H2->wpAny (model X.prog X.w) X.A (f v u) Q X.xe s2) :
  wpAny (model X.prog X.w) X.A (eval a X.env) (fun v s₁=>wpAny (model X.prog X.w) X.A (eval b X.env) (fun u s₂=>wpAny (model X.prog X.w) X.A (f v u) Q X.xe s₂) X.xe s₁) X.xe s:=by
 refine cQ (ha pins s σ H _ I h) fun v s1 ⟨x,H1,I1,r1,q1⟩=>?_
 refine cQ (hb pins s1 σ H1 _ I1 q1) fun u s2 ⟨y,H2,I2,r2,q2⟩=>?_
 exact hf v u s2 x y H2 I2 r1 r2 q2
theorem Jv {op:Operator}{r:R2} (ho:gS X (binaryOp op) r) (ha:PE X a ta) (hb:PE X b tb):PE X (.BinOp a op b pos) (JZ r ta tb):=by
 intro pins s σ H Q I h
 exact wpAny_BinOp (Fq ha hb I h fun v u s2 x y H2 I2 rx ry q=>ho pins s2 σ H2 x y v u Q I2 rx ry q)
theorem Ju {op:UnaryOp}{r:V->Hp->VK->Prop} (ho:J3 X (unaryOp op) r) (ha:PE X a ta):PE X (.UnaryOp op a pos) (K7 r ta):=by
 intro pins s σ H Q I h
 exact UnaryOp_ (cQ (ha pins s σ H _ I h) fun v s1 ⟨x,H1,I1,r1,q1⟩=>ho pins s1 σ H1 x v Q I1 r1 q1)
theorem Ih {f:Value->Value->Sem Value}{C:Int->Int->Prop}{g:Int->Int->Int}
  (rule:∀ (i j:Int) (t u:Tok) (s:Shared) (Q:Value->Shared->Prop) (E:Value->Shared->Prop),C i j->Q (.int (g i j) s.toks) { s with toks:=s.toks+1 }->wpAny (model X.prog X.w) X.A (f (.int i t) (.int j u)) Q E s) :
  gS X f (rI C fun i j=>.int (g i j)):=by
 intro pins s σ H x y v u Q I rx ry h
 obtain ⟨i,j,rfl,rfl,hc,q⟩:=h
 obtain ⟨t,rfl⟩:=rx
 obtain ⟨t',rfl⟩:=ry
 exact rule i j t t' s _ _ hc ⟨.int (g i j),H,I.tok _,⟨_,rfl⟩,q⟩
theorem Cu {f:Value->Value->Sem Value}{g:Int->Int->Int}
  (rule:∀ (i j:Int) (t u:Tok) (s:Shared) (Q:Value->Shared->Prop) (E:Value->Shared->Prop),Q (.int (g i j) s.toks) { s with toks:=s.toks+1 }->wpAny (model X.prog X.w) X.A (f (.int i t) (.int j u)) Q E s) :
  gS X f (E7 fun i j=>.int (g i j)):=by
 intro pins s σ H x y v u Q I rx ry h
 obtain ⟨i,j,rfl,rfl,q⟩:=h
 obtain ⟨t,rfl⟩:=rx
 obtain ⟨t',rfl⟩:=ry
 exact rule i j t t' s _ _ ⟨.int (g i j),H,I.tok _,⟨_,rfl⟩,q⟩
def CB (i j:Int):Prop:=0<j/\j<1073741824
def qy (i j:Int):Prop:=0<=j/\j<=1000000/\i.natAbs<2 ^ 64
def tZ (i j:Int):Prop:=(-(2 ^ 64)<i/\i<2 ^ 64)\/(-(2 ^ 64)<j/\j<2 ^ 64)
theorem tZ.ok {i j:Int} (h:tZ i j):IntMulOk i j:=by
 rcases h with ⟨h1,h2⟩ | ⟨h1,h2⟩
 ·exact .of_left (intBits_le_64 h1 h2)
 ·exact .of_right (intBits_le_64 h1 h2)
theorem wx (k:Nat):(0:Int)<=2 ^ k:=by
 rw [two_pow_cast]
 exact Int.natCast_nonneg _
theorem G5:gS X (binaryOp .Add) (E7 fun i j=>.int (i+j)):=Cu fun _ _ _ _ _ _ _ q=>add_int q
theorem GQ:gS X (binaryOp .Sub) (E7 fun i j=>.int (i - j)):=Cu fun _ _ _ _ _ _ _ q=>sub_int q
theorem GY:gS X (binaryOp .Mult) (rI tZ fun i j=>.int (i * j)):=Ih fun _ _ _ _ _ _ _ hc q=>mul_int q hc.ok
theorem DL:gS X (binaryOp .FloorDiv) (rI CB fun i j=>.int (i / j)):=Ih fun i j _ _ _ _ _ hc q=>by
 have h1:(0:Int)<j:=hc.1
 have h2:j<1073741824:=hc.2
 exact floordiv_int (by omega) (by rw [Int.fdiv_eq_ediv_of_nonneg i (by omega)];exact q) (.inl (PyProof.noPylong_small (by omega)))
theorem GZ:gS X (binaryOp .Mod) (rI (fun _ j=>0<j) fun i j=>.int (i % j)):=Ih fun i j _ _ _ _ _ hc q=>by
 have h1:(0:Int)<j:=hc
 exact mod_int' (by omega) (by rw [Int.fmod_eq_emod_of_nonneg i (by omega)];exact q)
theorem GV:gS X (binaryOp .Pow) (rI qy fun i j=>.int (i ^ j.toNat)):=Ih fun _ _ _ _ _ _ _ hc q=>pow_int_small hc.1 hc.2.1 hc.2.2 q
theorem GS:gS X (binaryOp .LShift) (rI qy fun i j=>.int (i * 2 ^ j.toNat)):=Ih fun _ _ _ _ _ _ _ hc q=>lshift_int_small hc.1 hc.2.1 hc.2.2 q
theorem GR:gS X (binaryOp .RShift) (rI (fun _ j=>0<=j) fun i j=>.int (i / 2 ^ j.toNat)):=Ih fun i j _ _ _ _ _ hc q=>
 rshift_int hc (by rw [Int.fdiv_eq_ediv_of_nonneg i (wx _)];exact q)
theorem G4:gS X (binaryOp .BitAnd) (E7 fun i j=>.int (Builtin.bitAnd i j)):=Cu fun _ _ _ _ _ _ _ q=>and_int q
theorem JA:gS X (binaryOp .BitOr) (E7 fun i j=>.int (Builtin.bitOr i j)):=Cu fun _ _ _ _ _ _ _ q=>or_int q
theorem K6 {f:Value->Sem Value}{g:Int->Int}
  (rule:∀ (i:Int) (t:Tok) (s:Shared) (Q:Value->Shared->Prop) (E:Value->Shared->Prop),Q (.int (g i) s.toks) { s with toks:=s.toks+1 }->wpAny (model X.prog X.w) X.A (f (.int i t)) Q E s) :
  J3 X f (rU fun i=>.int (g i)):=by
 intro pins s σ H x v Q I rx h
 obtain ⟨i,rfl,q⟩:=h
 obtain ⟨t,rfl⟩:=rx
 exact rule i t s _ _ ⟨.int (g i),H,I.tok _,⟨_,rfl⟩,q⟩
theorem FG:J3 X (unaryOp .USub) (rU fun i=>.int (-i)):=K6 fun _ _ _ _ _ q=>neg_int q
end
def Kw:V->V->Bool
 | .non,.non=>true | .non,.int _=>true | .int _,.non=>true | .non,.bl _=>true | .bl _,.non=>true | .non,.str _=>true | .str _,.non=>true
 | .int _,.int _=>true | .bl _,.bl _=>true | .str _,.str _=>true | .byt _,.byt _=>true
 | .int _,.str _=>true | .str _,.int _=>true | .bl _,.str _=>true | .str _,.bl _=>true
 | _,_=>false
def Ke:R2:=fun x y H Q=>Kw x y=true/\Q (.bl (decide (x=y))) H
theorem En {i j:Int}:decide (V.int i=V.int j)=(i == j):=by
 rw [Md]
 simp
theorem Ie {i j:Bool}:decide (V.bl i=V.bl j)=(i == j):=by
 rw [Md]
 simp
theorem Em {i j:Str}:decide (V.str i=V.str j)=(i == j):=by
 rw [Md]
 simp
theorem Eo {i j:Array UInt8}:decide (V.byt i=V.byt j)=(i.toList == j.toList):=by
 rw [Md]
 cases i
 cases j
 simp
section
variable {X:Cx}{a b c:Expr}{ta tb tc:TE}{pos:Pos}
theorem dG {pins:List (Addr × Obj)}{σ:St}{H:Hp}{s:Shared}{Q:VK}{k k':Bool} (I:aV X pins σ H s) (q:Q (.bl k) H) (e:k=k'):EP X pins σ Q (.bool k') s:=by
 subst e
 exact ⟨.bl k,H,I,rfl,q⟩
theorem JB:gS X (compareOp .Eq) Ke:=by
 intro pins s σ H x y v u Q I rx ry h
 obtain ⟨hs,q⟩:=h
 cases x with
 | non=>
  cases rx
  cases y with
  | non=>cases ry;exact PySem.EqNone.eq_none_none (dG I q (by simp))
  | bl j=>cases ry;exact PySem.EqNone.eq_none_bool (dG I q (by simp))
  | int j=>obtain ⟨t',rfl⟩:=ry;exact PySem.EqNone.eq_none_int (dG I q (by simp))
  | str j=>obtain ⟨t',rfl⟩:=ry;exact PySem.EqNone.eq_none_str (dG I q (by simp))
  | _=>exact absurd (show false=true from hs) LZ
 | bl i=>
  cases rx
  cases y with
  | non=>cases ry;exact PySem.EqNone.eq_bool_none (dG I q (by simp))
  | bl j=>cases ry;exact eq_bool (dG I q Ie)
  | str j=>obtain ⟨t',rfl⟩:=ry;exact PySem.EqMixed.eq_bool_str (dG I q (by simp))
  | _=>exact absurd (show false=true from hs) LZ
 | int i=>
  obtain ⟨t,rfl⟩:=rx
  cases y with
  | non=>cases ry;exact PySem.EqNone.eq_int_none (dG I q (by simp))
  | int j=>obtain ⟨t',rfl⟩:=ry;exact eq_int (dG I q En)
  | str j=>obtain ⟨t',rfl⟩:=ry;exact PySem.EqMixed.eq_int_str (dG I q (by simp))
  | _=>exact absurd (show false=true from hs) LZ
 | str i=>
  obtain ⟨t,rfl⟩:=rx
  cases y with
  | non=>cases ry;exact PySem.EqNone.eq_str_none (dG I q (by simp))
  | bl j=>cases ry;exact PySem.EqMixed.eq_str_bool (dG I q (by simp))
  | int j=>obtain ⟨t',rfl⟩:=ry;exact PySem.EqMixed.eq_str_int (dG I q (by simp))
  | str j=>obtain ⟨t',rfl⟩:=ry;exact eq_str (dG I q Em)
  | _=>exact absurd (show false=true from hs) LZ
 | byt i=>
  obtain ⟨t,rfl⟩:=rx
  cases y with
  | byt j=>obtain ⟨t',rfl⟩:=ry;exact W.eq_bytes (dG I q Eo)
  | _=>exact absurd (show false=true from hs) LZ
 | _=>cases y <;> exact absurd (show false=true from hs) LZ
theorem G0:gS X (compareOp .Is) (fun x y H Q=>y=.non/\Q (.bl (decide (x=.non))) H):=by
 intro pins s σ H x y v u Q I rx ry h
 obtain ⟨rfl,q⟩:=h
 cases ry
 refine is_none_gen (dG I q ?_)
 cases x <;> first
  | (cases rx;rfl)
  | (obtain ⟨t,rfl⟩:=rx;rfl)
theorem DJ:gS X (compareOp .IsNot) (fun x y H Q=>y=.non/\Q (.bl (!decide (x=.non))) H):=by
 intro pins s σ H x y v u Q I rx ry h
 obtain ⟨rfl,q⟩:=h
 cases ry
 refine isnot_none_gen (dG I q ?_)
 cases x <;> first
  | (cases rx;rfl)
  | (obtain ⟨t,rfl⟩:=rx;rfl)
theorem gS.or {f:Value->Value->Sem Value}{r r':R2} (h:gS X f r) (h':gS X f r'):gS X f (fun x y H Q=>r x y H Q\/r' x y H Q):=by
 intro pins s σ H x y v u Q I rx ry q
 rcases q with q | q
 ·exact h pins s σ H x y v u Q I rx ry q
 ·exact h' pins s σ H x y v u Q I rx ry q
theorem DG {op:CmpOp}{r:R2} (ho:gS X (compareOp op) r) (ha:PE X a ta) (hb:PE X b tb) (hm:behindInMarks op b=false):PE X (.Compare a [op] [b] pos) (JZ r ta tb):=by
 intro pins s σ H Q I h
 exact wpAny_Compare1 (Fq ha hb I h fun v u s2 x y H2 I2 rx ry q=>ho pins s2 σ H2 x y v u Q I2 rx ry q) hm
def xm (t:TE):TT:=fun σ H Q=>t σ H fun x H'=>∃ k,x=.bl k/\Q k H'
theorem Du {op:CmpOp}{r:R2} (ho:gS X (compareOp op) r) (ha:PE X a ta) (hb:PE X b tb) (hm:behindInMarks op b=false):PT X (.Compare a [op] [b] pos) (xm (JZ r ta tb)):=by
 intro pins s σ H Q I h
 refine wpAny_isTrue_Compare1 (cQ (ha pins s σ H _ I h) fun v s1 ⟨x,H1,I1,r1,q1⟩=>cQ (hb pins s1 σ H1 _ I1 q1) fun u s2 ⟨y,H2,I2,r2,q2⟩=>
  cQ (ho pins s2 σ H2 x y v u _ I2 r1 r2 q2) fun c s3 ⟨z,H3,I3,r3,k,e,q3⟩=>?_) hm
 subst e
 cases r3
 exact LQ ⟨H3,I3,q3⟩
def v3 (r r':R2) (ta tb tc:TE):TE:=fun σ H Q=>ta σ H fun x H1=>tb σ H1 fun y H2=>r x y H2 fun z H3=>∃ k,z=.bl k /\
 (if k=true then tc σ H3 fun w' H4=>r' y w' H4 Q else Q (.bl false) H3)
theorem BC {op op':CmpOp}{r r':R2} (ho:gS X (compareOp op) r) (ho':gS X (compareOp op') r') (ha:PE X a ta) (hb:PE X b tb) (hc:PE X c tc)
  (hm:lastMarks [op,op'] [b,c]=false:=by with_unfolding_all rfl):PE X (.Compare a [op,op'] [b,c] pos) (v3 r r' ta tb tc):=by
 intro pins s σ H Q I h
 refine Compare_chain (cQ (ha pins s σ H _ I h) fun v s1 ⟨x,H1,I1,r1,q1⟩=>chain_link (cQ (hb pins s1 σ H1 _ I1 q1) fun u s2 ⟨y,H2,I2,r2,q2⟩=>
  cQ (ho pins s2 σ H2 x y v u _ I2 r1 r2 q2) fun d s3 ⟨z,H3,I3,r3,k,e,q3⟩=>?_)) hm
 subst e
 cases r3
 refine LQ ?_
 cases k with
 | false=>exact ite_ff ⟨.bl false,H3,I3,rfl,q3⟩
 | true=>exact ite_tt (chain_last (cQ (hc pins s3 σ H3 _ I3 q3) fun w' s4 ⟨z',H4,I4,r4,q4⟩=>ho' pins s4 σ H4 y z' u w' Q I4 r2 r4 q4))
theorem Br {op op':CmpOp}{r r':R2} (ho:gS X (compareOp op) r) (ho':gS X (compareOp op') r') (ha:PE X a ta) (hb:PE X b tb) (hc:PE X c tc)
  (hm:lastMarks [op,op'] [b,c]=false:=by with_unfolding_all rfl):PT X (.Compare a [op,op'] [b,c] pos) (xm (v3 r r' ta tb tc)):=by
 intro pins s σ H Q I h
 refine isTrue_chain (cQ (ha pins s σ H _ I h) fun v s1 ⟨x,H1,I1,r1,q1⟩=>test_link (cQ (hb pins s1 σ H1 _ I1 q1) fun u s2 ⟨y,H2,I2,r2,q2⟩=>
  cQ (ho pins s2 σ H2 x y v u _ I2 r1 r2 q2) fun d s3 ⟨z,H3,I3,r3,k,e,q3⟩=>?_)) hm
 subst e
 cases r3
 refine LQ ?_
 cases k with
 | false=>
  obtain ⟨k',e',q'⟩:=q3
  cases e'
  exact ite_ff ⟨H3,I3,q'⟩
 | true=>
  refine ite_tt (test_last (cQ (hc pins s3 σ H3 _ I3 q3) fun w' s4 ⟨z',H4,I4,r4,q4⟩=>cQ (ho' pins s4 σ H4 y z' u w' _ I4 r2 r4 q4) fun d' s5 ⟨z2,H5,I5,r5,k2,e2,q5⟩=>?_))
  subst e2
  cases r5
  exact LQ ⟨H5,I5,q5⟩
def Fu (K:W.Frag) (x:V) (H:Hp) (k:Bool):Prop:=
 match x with
 | .non=>k=false
 | .bl b=>k=b
 | .int i=>k=(i != 0)
 | .str y=>y.length<=sizeLine/\k=((y.length:Int) != 0)
 | .byt y=>y.size<=sizeLine/\k=((y.size:Int) != 0)
 | .ref p=>(∃ xs,f7 K H p xs/\k=!xs.isEmpty)\/(∃ xs,gy K H p xs/\k=!xs.isEmpty)\/∃ kvs,H p=some (.dK kvs)/\k=!kvs.isEmpty
 | _=>False
theorem wW {κ:Type}{kvs:List (κ × V)}{vs:List (κ × Value)} (r:KV kvs vs):(!vs.isEmpty)=!kvs.isEmpty:=by
 cases r <;> rfl
theorem pX {xs:List V}{its:List Value} (r:ba xs its):(!its.toArray.isEmpty)=!xs.isEmpty:=by
 cases r <;> simp
theorem mE:(sizeLine:Nat)<2 ^ 63:=by rw [Me];decide
theorem FK:KM X (fun x H Q=>∃ k,Fu X.K x H k/\Q k H):=by
 intro pins s σ H x v Q I rx h
 obtain ⟨k,e,q⟩:=h
 have hl:=mE
 have hs:sizeLine=16777216:=Me
 cases x with
 | non=>
  cases rx
  have e':k=false:=e
  subst e'
  exact truthy_none ⟨H,I,q⟩
 | bl b=>
  cases rx
  have e':k=b:=e
  subst e'
  exact LQ ⟨H,I,q⟩
 | int i=>
  obtain ⟨t,rfl⟩:=rx
  have e':k=(i != 0):=e
  subst e'
  exact PySem.P.truthy_int ⟨H,I,q⟩
 | str y=>
  obtain ⟨t,rfl⟩:=rx
  obtain ⟨hy,e'⟩:y.length<=sizeLine/\k=((y.length:Int) != 0):=e
  subst e'
  exact PySem.P.truthy_str (by omega) ⟨H,I.tok _,q⟩
 | byt y=>
  obtain ⟨t,rfl⟩:=rx
  obtain ⟨hy,e'⟩:y.size<=sizeLine/\k=((y.size:Int) != 0):=e
  subst e'
  exact W.truthy_bytes (by omega) ⟨H,I.tok _,q⟩
 | ref p=>
  cases rx
  have e':(∃ xs,f7 X.K H p xs/\k=!xs.isEmpty)\/(∃ xs,gy X.K H p xs/\k=!xs.isEmpty)\/∃ kvs,H p=some (.dK kvs)/\k=!kvs.isEmpty:=e
  rcases e' with ⟨xs,hx,e'⟩ | ⟨xs,hx,e'⟩ | ⟨kvs,hx,e'⟩
  ·subst e'
   obtain ⟨its,r,pl,hz⟩:=I.list hx
   have hlen:=r.length
   exact wpAny_truthy_list pl.isList (by simp only [Mf];omega) ⟨H,I.tok _,by rw [pX r];exact q⟩
  ·subst e'
   obtain ⟨its,r,pl,hz⟩:=I.tuple hx
   have hlen:=r.length
   exact truthy_tuple pl (by simp only [Mf];omega) ⟨H,I.tok _,by rw [pX r];exact q⟩
  ·subst e'
   obtain ⟨hz,hS,vs,r,m⟩:kvs.length<=sizeLine/\(p == sysModules)=false/\∃ vs,KV kvs vs/\s.heap.DictOf (oj X.prog X.w) p vs:=I.hok p _ hx
   have hlen:kvs.length=vs.length:=Paired.length r
   exact wpAny_truthy_dict hS m (by omega) ⟨H,I.tok _,by rw [wW r];exact q⟩
 | _=>exact (show False from e).elim
theorem Bq (ha:PE X a ta) (he:∀ whole,isTrue a X.env whole=(do let v <- whole;standAt a.pos;holding [v] (truthy v))) :
  PT X a (fun σ H Q=>ta σ H fun x H'=>∃ k,Fu X.K x H' k/\Q k H'):=by
 intro pins s σ H Q I h
 exact isTrue_plain (cQ (ha pins s σ H _ I h) fun v s1 ⟨x,H1,I1,r1,q1⟩=>FK pins s1 σ H1 x v Q I1 r1 q1) (he _)
theorem wN:gS X (binaryOp .Add) (fun x y H Q=>∃ i j,x=.str i/\y=.str j/\i.length+j.length<=sizeLine/\Q (.str (i++j)) H):=by
 intro pins s σ H x y v u Q I rx ry h
 obtain ⟨i,j,rfl,rfl,hz,q⟩:=h
 obtain ⟨t,rfl⟩:=rx
 obtain ⟨t',rfl⟩:=ry
 exact add_str (fun t' tk=>⟨.str (i++j),H,I.tok _,⟨_,rfl⟩,q⟩) hz
theorem fq {x:V}{us:List Value} (r:ba [x] us):∃ u,us=[u]/\bL x u:=by
 cases r with
 | cons r1 r2=>cases r2;exact ⟨_,rfl,r1⟩
theorem zZ {x y:V}{us:List Value} (r:ba [x,y] us):∃ u w',us=[u,w']/\bL x u/\bL y w':=by
 cases r with
 | cons r1 r2=>
  cases r2 with
  | cons r3 r4=>cases r4;exact ⟨_,_,rfl,r1,r3⟩
theorem zq (hc:X.calm=true):cH X (.builtin "max") (fun xs H Q=>∃ i j,xs=[.int i,.int j]/\Q (.int (if j > i then j else i)) H):=by
 intro pins s σ H xs us Q I r h
 obtain ⟨i,j,rfl,q⟩:=h
 obtain ⟨u,w',rfl,⟨t,rfl⟩,⟨t',rfl⟩⟩:=zZ r
 refine max_two_ints (I.ok.hd hc) fun h' tk k=>⟨_,H,I.kept k,?_,q⟩
 by_cases hj:j > i
 ·rw [Lp hj,Lp hj];exact ⟨_,rfl⟩
 ·rw [Lq hj,Lq hj];exact ⟨_,rfl⟩
theorem zo (hc:X.calm=true):cH X (.builtin "min") (fun xs H Q=>∃ i j,xs=[.int i,.int j]/\Q (.int (if j<i then j else i)) H):=by
 intro pins s σ H xs us Q I r h
 obtain ⟨i,j,rfl,q⟩:=h
 obtain ⟨u,w',rfl,⟨t,rfl⟩,⟨t',rfl⟩⟩:=zZ r
 refine min_two_ints (I.ok.hd hc) fun h' tk k=>⟨_,H,I.kept k,?_,q⟩
 by_cases hj:j<i
 ·rw [Lp hj,Lp hj];exact ⟨_,rfl⟩
 ·rw [Lq hj,Lq hj];exact ⟨_,rfl⟩
theorem zw:cH X (.type "int") (fun xs H Q=>(∃ i,xs=[.int i]/\Q (.int i) H)\/∃ k,xs=[.bl k]/\Q (.int (if k then 1 else 0)) H):=by
 intro pins s σ H xs us Q I r h
 rcases h with ⟨i,rfl,q⟩ | ⟨k,rfl,q⟩
 ·obtain ⟨u, rfl, t, rfl⟩ := fq r
  exact call_int_int ⟨.int i,H,I,⟨_,rfl⟩,q⟩
 ·obtain ⟨u, rfl, r1⟩ := fq r
  cases r1
  exact call_int_bool ⟨.int (if k then 1 else 0),H,I.tok _,⟨_,rfl⟩,q⟩
def Fw (K:W.Frag) (x:V) (H:Hp) (n:Nat):Prop:=
 match x with
 | .str y=>y.length<=sizeLine/\n=y.length
 | .byt y=>y.size<=sizeLine/\n=y.size
 | .ref p=>(∃ xs,f7 K H p xs/\n=xs.length)\/∃ xs,gy K H p xs/\n=xs.length
 | _=>False
theorem B8:cH X (.builtin "len") (fun xs H Q=>∃ x n,xs=[x]/\Fw X.K x H n/\Q (.int n) H):=by
 intro pins s σ H xs us Q I r h
 obtain ⟨x,n,rfl,e,q⟩:=h
 obtain ⟨u,rfl,rx⟩:=fq r
 have hl:=mE
 have hs:sizeLine=16777216:=Me
 cases x with
 | str y=>
  obtain ⟨t,rfl⟩:=rx
  obtain ⟨hy,e'⟩:y.length<=sizeLine/\n=y.length:=e
  subst e'
  exact len_str (by omega) ⟨.int _,H,I.tok _,⟨_,rfl⟩,q⟩
 | byt y=>
  obtain ⟨t,rfl⟩:=rx
  obtain ⟨hy,e'⟩:y.size<=sizeLine/\n=y.size:=e
  subst e'
  exact W.len_bytes (by omega) ⟨.int _,H,I.tok _,⟨_,rfl⟩,q⟩
 | ref p=>
  cases rx
  have e':(∃ xs,f7 X.K H p xs/\n=xs.length)\/∃ xs,gy X.K H p xs/\n=xs.length:=e
  rcases e' with ⟨xs,hx,e'⟩ | ⟨xs,hx,e'⟩
  ·subst e'
   obtain ⟨its,r',pl,hz⟩:=I.list hx
   have hlen:=r'.length
   exact Calls.call_len_list pl.isList (by simp only [Mf];omega) ⟨.int xs.length,H,I.tok _,⟨_,by simp only [Mf];rw [hlen]⟩,q⟩
  ·subst e'
   obtain ⟨its,r',pl,hz⟩:=I.tuple hx
   have hlen:=r'.length
   exact len_tuple pl (by simp only [Mf];omega) ⟨.int xs.length,H,I.tok _,⟨_,by simp only [Mf];rw [hlen]⟩,q⟩
 | _=>exact (show False from e).elim
end
end L2
namespace L2
open PySem PySem.Spec PyProof.Rows
structure Lh (h:Heap) (x dx C:Addr) (mA:Str->Option Value):Prop where
 obj:h.get? x=some (W.instObj C dx)
 ns:h.Ns1 dx mA
 ne:dx≠x
section
variable {prog:Program}{w:World}{A:Around}{E:Value->Shared->Prop}{s:Shared}{K:W.Frag}{x dx C f:Addr}{mA:Str->Option Value}{name:Str}{v:Value}
end
section
variable {P:Program}{w:World}{H H':Hp}{h h':Heap}{a C dx:Addr}{fs fs':List (Str × V)}
end
structure Le (K:W.Frag) (C:Addr):Prop where
 pg:W.plainGet K C Str.empty=true
 hd:W.hasDictIn K C=true
 po:W.plainOver K C=true
 sa:W.findIn K (.ref C) "__setattr__" = some (some (.builtin "object.__setattr__"))
structure Lk (K:W.Frag) (C:Addr) (f:Str) (v:V) (u:Value):Prop where
 at_:W.findIn K (.ref C) f=some (some u)
 rel:bL v u
 get:W.specialIn K u "__get__" = some none
 cp:W.copiedNames.contains f=false
structure Li (K:W.Frag) (C:Addr) (m:Str) (f:Addr):Prop where
 at_:W.findIn K (.ref C) m=some (some (.ref f))
 fn:W.isFn K (.ref f)=true
 kp:W.keepIn K (.ref f)=true
section
variable {X:Cx}{pins:List (Addr × Obj)}{σ:St}{H:Hp}{s:Shared}{a C dx:Addr}{fs:List (Str × V)}{f:Str}{v:V}{A:Around}{E:Value->Shared->Prop}
end
section
variable {X:Cx}{o e value:Expr}{f:Str}{pos pos' tpos:Pos}{ta tv:TE}
end
section
variable {X:Cx}{pins:List (Addr × Obj)}{σ:St}{H:Hp}{s:Shared}{A:Around}{E:Value->Shared->Prop}{Q:Value->Shared->Prop}{c:Value}{b:Bool}
inductive oK (K:W.Frag) (H:Hp):V->Value->Prop where
 | non:oK K H .non (.type "NoneType")
 | bl (x:Bool):oK K H (.bl x) (.type "bool")
 | int (i:Int):oK K H (.int i) (.type "int")
 | str (x:Str):oK K H (.str x) (.type "str")
 | flt (x:UInt64):oK K H (.flt x) (.type "float")
 | lst {a:Addr}{xs:List V} (e:H a=some (.lst xs)):oK K H (.ref a) (.type "list")
 | frz {a:Addr}{o:Obj}{xs:List V} (e:H a=some (.frz o (.lst xs))):oK K H (.ref a) (.type "list")
 | tup {a:Addr}{xs:List V} (e:H a=some (.tup xs)):oK K H (.ref a) (.type "tuple")
 | dK {a:Addr}{kvs:List (qu × V)} (e:H a=some (.dK kvs)):oK K H (.ref a) (.type "dict")
 | dT {a:Addr}{kvs:List (List qu × V)} (e:H a=some (.dT kvs)):oK K H (.ref a) (.type "dict")
 | ins {a C dx:Addr}{fs:List (Str × V)} (e:H a=some (.ins C dx fs)) (cl:Le K C) (ha:W.findIn K (.ref C) "__class__" = some (some (.builtin "object.__class__")))
   (hn:W.specialIn K (.builtin "object.__class__") "__get__" = some (some (.builtin "getset_descriptor.__get__"))) (htk:W.takesIn K (.builtin "object.__class__")=some true)
   (hm:W.mroIn K C (.type "object")=some true):oK K H (.ref a) (.ref C)
end
end L2
namespace L2
open PySem PySem.Spec PyProof.Rows
structure fX (k:Nat) (A:Around):Prop where
 hd:A.handled=none
 dp:A.depth+3 * k+5<recursionLimit
 un:A.units+16 * k+200<cLine
 gd:A.guards=some []
theorem fX.mono {j k:Nat}{A:Around} (r:fX k A) (h:j<=k):fX j A:=⟨r.hd,by have:=r.dp;omega,by have:=r.un;omega,r.gd⟩
theorem fX.deeper {k:Nat}{A:Around} (r:fX (k+1) A) (env:Env):fX k (A.deeper env):=
 ⟨r.hd,by have:=r.dp;show A.depth+1+3 * k+5<_;omega,by have:=r.un;show A.units+3+16 * k+200<_;omega,r.gd⟩
theorem fX.depth {k:Nat}{A:Around} (r:fX k A):A.depth<recursionLimit:=by have:=r.dp;omega
theorem fX.units {k:Nat}{A:Around} (r:fX k A):A.units+64<cLine:=by have:=r.un;omega
def Ko:TA:=fun _ H Q=>Q [] H
def Jg (ta:TE) (tr:TA):TA:=fun σ H Q=>ta σ H fun x H1=>tr σ H1 fun xs H2=>Q (x::xs) H2
section
variable {X:Cx}{e:Expr}{es:List Expr}{te:TE}{t:TA}{pos:Pos}
theorem r9:PA X [] Ko:=fun _ _ _ _ H Q I h=>Calls.spliced_nil ⟨[],H,I,.nil,h⟩
theorem jl (ha:PE X e te) (hr:PA X es t) (hs:starEach (e::es) X.env=(false,eval e X.env)::starEach es X.env:=by rfl):PA X (e::es) (Jg te t):=by
 intro pos pins s σ H Q I h
 rw [hs]
 show wpAny _ _ (spliced ((false,eval e X.env)::backTo pos (starEach es X.env))) _ _ s
 refine Calls.spliced_cons (cQ (ha pins s σ H _ I h) fun u s1 ⟨x,H1,I1,r1,q1⟩=>?_)
 exact cQ (hr pos pins s1 σ H1 _ I1 q1) fun us s2 ⟨xs,H2,I2,r2,q2⟩=>⟨x::xs,H2,I2,.cons r1 r2,q2⟩
def Kj (t:TA):TE:=fun σ H Q=>t σ H fun xs H1=>xs.length<=sizeLine/\∀ p,H1 p=none->Q (.ref p) (cI H1 p (.tup xs))
def Kq (t:TA):TE:=fun σ H Q=>t σ H fun xs H1=>xs.length<=sizeLine/\∀ p,H1 p=none->Q (.ref p) (cI H1 p (.lst xs))
theorem GG {x1} (h:PA X es t):PE X (.Tuple es x1 pos) (Kj t):=by
 intro pins s σ H Q I hq
 refine wpAny_Tuple_spliced (cQ (h pos pins s σ H _ I hq) fun us s1 ⟨xs,H1,I1,r,z,q⟩=>⟨by rw [<- r.length];exact z,?_⟩)
 have hf:H1 s1.heap.objs.size=none:=I1.hok.fresh (L9 _)
 refine ⟨.ref s1.heap.objs.size,cI H1 s1.heap.objs.size (.tup xs),I1.laid (t':=s1.toks) (fun b u e=>L7 _ e) (L9 _) ?_,rfl,q _ hf⟩
 exact ⟨z,us,r,⟨_,L8 _ rfl,rfl,_,rfl⟩⟩
theorem GL (h:PA X es t):PE X (.List es pos) (Kq t):=by
 intro pins s σ H Q I hq
 refine wpAny_List_spliced (cQ (h pos pins s σ H _ I hq) fun us s1 ⟨xs,H1,I1,r,z,q⟩=>⟨by rw [<- r.length];exact z,?_⟩)
 have hf:H1 s1.heap.objs.size=none:=I1.hok.fresh (L9 _)
 refine ⟨.ref s1.heap.objs.size,cI H1 s1.heap.objs.size (.lst xs),I1.laid (t':=s1.toks) (fun b u e=>L7 _ e) (L9 _) ?_,rfl,q _ hf⟩
 exact ⟨z,us,0,r,L8 _ rfl⟩
end
abbrev Sp:=List V->Hp->VK->XK->Prop
abbrev tK:=List Env->Hp->Shared->XK->Value->Shared->Prop
structure ym (P:Program) (w:World) (K:W.Frag) (mg:Str->Option Value) (base:Heap) (A:Around) (outer:List Env) (s:Shared) (H:Hp):Prop where
 frames:A.frames=some outer
 mod:Mod K mg base
 bs:∀ b o,base.get? b=some o->s.heap.get? b=some o/\H b=none
 bsz:base.objs.size<=s.heap.objs.size
 funs:s.heap.FunFrames base outer
 frf:∀ b∈nk outer,H b=none
 hok:mx P w H s.heap
 bare:AllBare s.gens
def CE (outer:List Env) (P:Program) (w:World) (H:Hp) (s:Shared) (Q:VK) (u:Value) (s':Shared):Prop:=
 ∃ v H',s'.os=s.os/\AllBare s'.gens/\Un (nk outer) [] H H' s.heap s'.heap/\mx P w H' s'.heap/\bL v u/\Q v H'
def CR (CX:tK) (outer:List Env) (P:Program) (w:World) (H:Hp) (s:Shared) (Q:VK) (E:XK) (r:Result) (s':Shared):Prop:=
 match r with
 | .ok (.ret u)=>CE outer P w H s Q u s'
 | .ok _=>False
 | .error e=>CX outer H s E e s'
structure oN (P:Program) (w:World) (K:W.Frag) (mg:Str->Option Value) (base:Heap) (CX:tK) (k:Nat) (f:Addr) (fd:FuncData) (ps:List Str) (sp:Sp):Prop where
 len:∀ vs H Q E,sp vs H Q E->vs.length=ps.length
 run:∀ (A:Around) (outer:List Env) (s:Shared) (H:Hp) (args:Args) (us:List Value) (vs:List V) (Q:VK) (E:XK),fX k A->ym P w K mg base A outer s H->BindsTo s fd args (ps.zip us)->ba vs us->sp vs H Q E ->
  codeAny (model P w) A (.call (.ref f) args) (CR CX outer P w H s Q E) s
section
variable {X:Cx}{pins:List (Addr × Obj)}{σ:St}{H:Hp}{s s':Shared}
theorem aV.env0 (I:aV X pins σ H s):ym X.prog X.w X.K X.mg X.base X.A X.stack s H:=
 ⟨I.ok.frames,I.ok.mod,I.bs,LB I.ok.bsz I.sz,I.stack,I.stkFree,I.hok,I.bare⟩
theorem aV.after {Q:VK}{u:Value} (I:aV X pins σ H s) (h:CE X.stack X.prog X.w H s Q u s'):EP X pins σ Q u s':=by
 obtain ⟨v,H',os,bare,un,hok,r,q⟩:=h
 obtain ⟨hh,g,d,t,os'⟩:=s'
 obtain rfl:os'=s.os:=os
 exact ⟨v,H',I.call (h':=hh) (g':=g) (d':=d) (t':=t) (ch:=[]) un hok bare (fun b z=>absurd z (by simp)),r,q⟩
end
def EG (sp:Sp) (dvs:List V) (E:XK) (t:TA):TE:=fun σ H Q=>t σ H fun vs H1=>sp (vs++dvs) H1 Q E
def gP (K:W.Frag) (fd:FuncData) (ps:List Str) (ds:List Value):Prop:=
 ∀ (s:Shared) (us:List Value),K.In s.heap->(us++ds).length=ps.length->BindsTo s fd ⟨us,[]⟩ (ps.zip (us++ds))
theorem gP.all {K:W.Frag}{fd:FuncData}{ps:List Str} (h:∀ us:List Value,us.length=ps.length->bindArgs fd ⟨us,[]⟩=pure (ps.zip us)):gP K fd ps []:=fun s us _ hl=>by
 rw [Mg] at hl ⊢
 exact .of_eq (h us hl)
def jW (CX:tK) (X:Cx) (E:XK):Prop:=∀ (pins:List (Addr × Obj)) (σ:St) (H:Hp) (s:Shared) (e:Value) (s':Shared),aV X pins σ H s->CX X.stack H s E e s'->X.xe e s'
section
variable {X:Cx}{CX:tK}{k:Nat}{f C:Addr}{fd:FuncData}{ps:List Str}{sp:Sp}{dvs:List V}{ds:List Value}{E:XK}{x m:Str}{p pos apos:Pos}{e o:Expr}{es:List Expr}{ta:TE}{t:TA}
theorem Gn {pins:List (Addr × Obj)}{σ:St}{H:Hp}{s:Shared}{Q:VK}{us:List Value}{vs:List V} (F:oN X.prog X.w X.K X.mg X.base CX k f fd ps sp) (hr:fX k X.A) (hb:gP X.K fd ps ds) (hd:ba dvs ds) (hx:jW CX X E)
  (I:aV X pins σ H s) (r:ba vs us) (h:sp (vs++dvs) H Q E):wpAny (model X.prog X.w) X.A (call (.ref f) us) (EP X pins σ Q) X.xe s:=by
 have r2:ba (vs++dvs) (us++ds):=r.append hd
 have hl:(us++ds).length=ps.length:=by rw [<- r2.length];exact F.len _ _ _ _ h
 refine wpAny_call (Mh (F.run X.A X.stack s H ⟨us,[]⟩ (us++ds) (vs++dvs) Q E hr I.env0 (hb s us I.kIn hl) r2 h) fun r s' hq=>?_)
 cases r with
 | error e=>exact hx pins σ H s e s' I hq
 | ok fl=>
  cases fl with
  | ret u=>exact I.after hq
  | next=>exact False.elim hq
  | brk=>exact False.elim hq
  | cont=>exact False.elim hq
theorem sy (F:oN X.prog X.w X.K X.mg X.base CX k f fd ps sp) (hr:fX k X.A) (hg:Gl X x) (hm:X.mg x=some (.ref f)) (hk:W.keepIn X.K (.ref f)=true) (hb:gP X.K fd ps ds) (hd:ba dvs ds) (hx:jW CX X E)
  (ha:PA X (e::es) t) (hdb:(x == ("__debug__" : Str))=false:=by decide) (he:starEach (e::es) X.env=(false,eval e X.env)::starEach es X.env:=by rfl) (hpl:(backTo pos (starEach es X.env)).any (·.1)=false:=by rfl) :
  PE X (.Call (.Name x p) (e::es) [] pos) (EG sp dvs E t):=by
 intro pins s σ H Q I h
 refine Mi (lJ I hg hm ?_ hdb)
 refine W.callWith_K (h₀:=X.base) I.ok.mod.kin hk (cQ (ha pos pins s σ H _ I h) fun us s1 ⟨vs,H1,I1,r,q⟩=>⟨I1.kIn,?_⟩) he hpl
 exact Gn F hr hb hd hx I1 r q
structure Mk (K:W.Frag) (C f:Addr):Prop where
 makes:W.makesIn K C=true
 init:W.findIn K (.ref C) "__init__" = some (some (.ref f))
 fn:W.isFn K (.ref f)=true
 kp:W.keepIn K (.ref C)=true
end
section
variable {X:Cx}{CX:tK}{k:Nat}{f C:Addr}{fd:FuncData}{ps ks:List Str}{sp:Sp}{E:XK}{x m:Str}{p pos apos kpos:Pos}{e o:Expr}{es:List Expr}{kws:List Keyword}{te ta:TE}{t tk:TA}{nm:Option Str}
structure KR (K:W.Frag) (fd:FuncData) (ps ks:List Str) (g:List Value->List Value->List Value) (gV:List V->List V->List V):Prop where
 to:∀ (s:Shared) (us ws:List Value),K.In s.heap->(g us ws).length=ps.length->BindsTo s fd ⟨us,ks.zip ws⟩ (ps.zip (g us ws))
 rel:∀ {vs:List V}{us:List Value}{zs:List V}{ws:List Value},ba vs us->ba zs ws->ba (gV vs zs) (g us ws)
variable {g:List Value->List Value->List Value}{gV:List V->List V->List V}
end
structure aU (N P:List Str) (sc:Scope):Prop where
 kind:sc.kind=.function
 co:sc.isCoroutine=false
 gen:sc.isGenerator=false
 nd:N.Nodup
 pre:N.take P.length=P
 par:∀ x∈P,sc.names.lookup x=some .local\/sc.names.lookup x=some .cell
 nofree:∀ y∈sc.names,y.2≠.free
theorem rL {kindOf:Str->Option NameKind}{x:Str}:∀ {binds:List (Str × Value)}{m:Str->Option Value},(∀ v,(x,v) ∉ binds)->bindL kindOf binds m x=m x
 | [],_,_=>rfl
 | (n,v)::r,m,h=>by
  unfold bindL
  rw [rL fun w hw=>h w (LG _ hw)]
  split
  ·have : x ≠ n := by rintro rfl; exact h v LF
   simp [this]
  ·rfl
theorem rM {kindOf:Str->Option NameKind}{x:Str}:∀ {binds:List (Str × Value)}{m:Str->Option Value},(∀ v,(x,v) ∉ binds)->bindC kindOf binds m x=m x
 | [],_,_=>rfl
 | (n,v)::r,m,h=>by
  unfold bindC
  rw [rM fun w hw=>h w (LG _ hw)]
  split
  ·rfl
  ·have : x ≠ n := by rintro rfl; exact h v LF
   simp [this]
theorem mU {kindOf:Str->Option NameKind}{x:Str}{v:Value}:∀ {P:List Str}{vs:List Value}{i:Nat}{m:Str->Option Value},P.Nodup->P[i]?=some x->vs[i]?=some v->kindOf x=some .local ->
  bindL kindOf (P.zip vs) m x=some v
 | [],_,_,_,_,h,_,_=>by simp at h
 | _::_,[],_,_,_,_,h,_=>by simp at h
 | p::P,w::vs,0,m,nd,h1,h2,hk=>by
  simp at h1 h2;subst h1;subst h2
  show bindL kindOf ((p,w)::P.zip vs) m p=_
  unfold bindL
  rw [rL fun v hv=>(Mj.mp nd).1 (Ml hv).1,Lp hk]
  simp
 | p::P,w::vs,i+1,m,nd,h1,h2,hk=>by
  show bindL kindOf ((p,w)::P.zip vs) m x=_
  unfold bindL
  exact mU (i:=i) (Mj.mp nd).2 (by simpa using h1) (by simpa using h2) hk
theorem mV {kindOf:Str->Option NameKind}{x:Str}{v:Value}:∀ {P:List Str}{vs:List Value}{i:Nat}{m:Str->Option Value},P.Nodup->P[i]?=some x->vs[i]?=some v->kindOf x≠some .local ->
  bindC kindOf (P.zip vs) m x=some v
 | [],_,_,_,_,h,_,_=>by simp at h
 | _::_,[],_,_,_,_,h,_=>by simp at h
 | p::P,w::vs,0,m,nd,h1,h2,hk=>by
  simp at h1 h2;subst h1;subst h2
  show bindC kindOf ((p,w)::P.zip vs) m p=_
  unfold bindC
  rw [rM fun v hv=>(Mj.mp nd).1 (Ml hv).1,Lq hk]
  simp
 | p::P,w::vs,i+1,m,nd,h1,h2,hk=>by
  show bindC kindOf ((p,w)::P.zip vs) m x=_
  unfold bindC
  exact mV (i:=i) (Mj.mp nd).2 (by simpa using h1) (by simpa using h2) hk
def start (N:List Str) (vs:List V):St:=vs.map some++List.replicate (N.length - vs.length) none
def oJ (CX:tK) (P:Program) (w:World) (K:W.Frag) (mg:Str->Option Value) (base:Heap) (N:List Str) (qual:Str) (scope:Scope) (f:Addr) (cd:Value) (A:Around) (outer:List Env) (s:Shared) (H:Hp) (E:XK):Cx where
 prog:=P
 w:=w
 K:=K
 mg:=mg
 base:=base
 A:=A.deeper (envOfC qual scope s.heap.objs.size f cd)
 N:=N
 s₀:=s
 H₀:=H
 env:=envOfC qual scope s.heap.objs.size f cd
 outer:=outer
 stack:=envOfC qual scope s.heap.objs.size f cd::outer
 ex:=[]
 calm:=true
 fn:=fun _=>true
 pn:=[]
 xe:=fun e s'=>wpAny (model P w) (A.deeper (envOfC qual scope s.heap.objs.size f cd)) (leaving (envOfC qual scope s.heap.objs.size f cd) e) (fun _ s''=>CX outer H s E e s'') (fun e' s''=>CX outer H s E e' s'') s'
theorem lY {sc:Scope}{n:Nat}{x:Str} (h:sc.names.lookup x=some .cell):∃ c,(cellsFrom n sc.names []).lookup x=some c:=by
 have q:=W.cellsFrom_some sc.names n [] (.inl h)
 exact Mm.mp q
theorem y9 {CX:tK}{P:Program}{w:World}{K:W.Frag}{mg:Str->Option Value}{base:Heap}{N ps:List Str}{qual:Str}{scope:Scope}{f:Addr}{cd:Value}{A:Around}{outer:List Env}{s s1:Shared}{H:Hp}{E:XK}{us:List Value}{vs:List V}
  (S:aU N ps scope) (hd:A.handled=none) (e0:ym P w K mg base A outer s H) (hl:vs.length=ps.length) (r:ba vs us)
  (x:InCallC s s.heap.objs.size (bindL (envOfC qual scope s.heap.objs.size f cd).kindOf (ps.zip us) fun _=>none) (cellsFrom (s.heap.objs.size+1) scope.names []) (bindC (envOfC qual scope s.heap.objs.size f cd).kindOf (ps.zip us) fun _=>none) s1) :
  aV (oJ CX P w K mg base N qual scope f cd A outer s H E) [] (start N vs) H s1:=by
 have hpl:ps.length<=N.length:=by have:=LS List.length S.pre;rw [Mn] at this;omega
 obtain ⟨h1,tk,rfl,hk⟩:=x.done
 have noA:∀ b:Addr,b ∉ (oJ CX P w K mg base N qual scope f cd A outer s H E).ex:=fun b z=>absurd (show b∈([]:List Addr) from z) (by simp)
 refine ⟨⟨e0.mod,S.kind,rfl,rfl,L9 _,fun y z c h1 h2=>?_,fun y hy=>?_,fun y c _ h=>?_,fun _=>hd,Around.frames_deeper e0.frames,.inr ⟨rfl,rfl⟩,fun b z=>absurd z (noA b),e0.bs,e0.bsz,fun b _ _=>noA b,fun b z=>absurd z (noA b),e0.funs,e0.frf⟩,
  rfl,e0.bare,Un.kept hk,⟨_,x.toInCall.ns,fun i y v h1 h2 h3=>?_⟩,fun y c h=>⟨_,x.cell y c h⟩,e0.hok.fresh (L9 _),fun y c h=>?_,fun p hp=>absurd (show p∈([]:List (Addr × Obj)) from hp) (by simp),e0.hok.kept hk,?_⟩
 ·exact name_of_addr x.apart (Mo h1) (Mo h2)
 ·have hy : scope.names.lookup y = some .cell \/ scope.names.lookup y = some .free := hy
  rcases hy with hy | hy
  ·exact lY hy
  ·exact absurd rfl (S.nofree _ (Mo hy))
 ·exact LC (x.above y c (Mo h))
 ·have hi:i<vs.length:=by
   unfold start at h2
   by_cases hi:i<vs.length
   ·exact hi
   ·rw [Mp (by simpa using hi)] at h2
    rw [Mq] at h2
    split at h2 <;> cases h2
  have ha:vs[i]?=some v:=by
   unfold start at h2
   rw [Mr (by simpa using hi),Ms] at h2
   cases e:vs[i]? with
   | none=>rw [e] at h2;cases h2
   | some a=>rw [e] at h2;cases h2;rfl
  obtain ⟨u,hu,rv⟩:=r.get ha
  have hp:ps[i]?=some y:=by
   rw [<- S.pre,Mt (by omega)];exact h1
  have ndP:ps.Nodup:=by rw [<- S.pre];exact S.nd.sublist (List.take_sublist _ _)
  refine ⟨u,rv,?_⟩
  rcases S.par y (Mu hp) with k | k
  ·exact .inl ⟨k,mU ndP hp hu k⟩
  ·obtain ⟨c, e⟩ := lY (n := s.heap.objs.size + 1) k
   refine .inr ⟨.inl k,c,e,?_⟩
   have q:=x.cell y c e
   rw [mV ndP hp hu (by show scope.names.lookup y≠_;rw [k];decide)] at q
   exact q
 ·exact e0.hok.fresh (LC (x.above y c (Mo h)))
 ·unfold start
  show _=N.length
  rw [Mv,Mw,List.length_replicate]
  omega
theorem EZ {CX:tK}{P:Program}{w:World}{K:W.Frag}{mg:Str->Option Value}{base:Heap}{k:Nat}{f:Addr}{name qual:Str}{params:Arguments}{body:List Stmt}{scope:Scope}{dV kV doc pm cdv ct oc:Value}{an od:Option Addr}
  {osl:Array (Option Value)}{N ps:List Str}{sp:Sp} (lk:K.lookup f=some ⟨oc,od,.func (W.fnOf name qual params body scope dV kV doc pm an cdv ct),osl⟩) (hcd:W.codeIn K cdv qual=true) (S:aU N ps scope)
  (len:∀ vs H Q E,sp vs H Q E->vs.length=ps.length)
  (hbody : ∀ (A : Around) (outer : List Env) (s : Shared) (H : Hp) (vs : List V) (Q : VK) (E : XK), fX k (A.deeper (envOfC qual scope s.heap.objs.size f cdv)) -> sp vs H Q E ->
   ∃ t,iU (oJ CX P w K mg base N qual scope f cdv A outer s H E) body t/\t { nx:=fun _ H'=>Q .non H',rt:=Q } (start N vs) H) :
  oN P w K mg base CX (k+1) f (W.fnOf name qual params body scope dV kV doc pm an cdv ct) ps sp:=by
 refine ⟨len,fun A outer s H args us vs Q E hr e0 hb r hsp=>?_⟩
 have hl:=len _ _ _ _ hsp
 have KX:K.In s.heap:=e0.mod.kin.keeps fun b o e=>(e0.bs b o e).1
 have lim:s.heap.NoLimit:=e0.mod.nolimit.keeps fun b o e=>(e0.bs b o e).1
 have hkind:∀ y∈ps.zip us,scope.names.lookup y.1=some .local\/(scope.names.lookup y.1=some .cell/\((cellsFrom (s.heap.objs.size+1) scope.names []).lookup y.1).isSome=true):=fun ⟨n,v⟩ hy=>by
  rcases S.par n (Ml hy).1 with q | q
  ·exact .inl q
  ·exact .inr ⟨q,W.cellsFrom_some _ _ _ (.inl q)⟩
 refine codeAny_call_function hr.depth (KX _ _ lk) rfl S.co S.gen rfl (W.codeRec_of KX hcd) (hb _ _ _ _ ?_)
 refine wpAny_newFunctionEnv_cells S.kind hkind fun env he s1 x=>?_
 subst he
 refine ⟨lim.keeps x.toInCall.keep,codeAny_func ?_⟩
 obtain ⟨t,ht,hq⟩:=hbody A outer s H vs Q E (hr.deeper _) hsp
 have I:aV (oJ CX P w K mg base N qual scope f cdv A outer s H E) [] (start N vs) H s1:=y9 S hr.hd e0 hl r x
 refine LP (ht [] s1 (start N vs) H _ I hq) (fun fl s' hs=>?_) fun e s' hs=>hs
 have fin:∀ {σ':St}{H':Hp}{v:V}{u:Value},aV (oJ CX P w K mg base N qual scope f cdv A outer s H E) [] σ' H' s'->bL v u->Q v H'->CE outer P w H s Q u s':=
  fun {σ' H' v u} J rv q=>⟨v,H',J.os,J.bare,J.base,J.hok,rv,q⟩
 cases fl with
 | ret u=>
  obtain ⟨v,σ',H',J,rv,q⟩:=hs
  exact fin J rv q
 | next=>
  obtain ⟨σ',H',J,q⟩:=hs
  exact fin (v:=V.non) (u:=Value.none) J rfl q
 | brk=>
  obtain ⟨_,_,_,q⟩:=hs
  exact False.elim q
 | cont=>
  obtain ⟨_,_,_,q⟩:=hs
  exact False.elim q
end L2
namespace L2
open PySem PySem.Spec PyProof.Rows
section
variable {X:Cx}{x:Str}{p pos:Pos}{e:Expr}{es:List Expr}{t:TA}{id T:String}{r:List V->Hp->VK->Prop}
def KU (r:List V->Hp->VK->Prop) (t:TA):TE:=fun σ H Q=>t σ H fun vs H1=>r vs H1 Q
theorem lV (hc:cH X (.builtin id) r) (hg:Gl X x) (hm:X.mg x=none) (hv:bootBuiltins x=some (.builtin id)) (ha:PA X (e::es) t) (hn:x ≠ "__name__" := by decide) (hdb:(x == ("__debug__" : Str))=false:=by decide)
  (he:starEach (e::es) X.env=(false,eval e X.env)::starEach es X.env:=by rfl) (hpl:(backTo pos (starEach es X.env)).any (·.1)=false:=by rfl):PE X (.Call (.Name x p) (e::es) [] pos) (KU r t):=by
 intro pins s σ H Q I h
 refine Mi (o9 I hg hm hv ?_ hn hdb)
 exact PyProof.Rows.callWith_builtin1 (cQ (ha pos pins s σ H _ I h) fun us s1 ⟨vs,H1,I1,r1,q1⟩=>hc pins s1 σ H1 vs us Q I1 r1 q1) he hpl
theorem yO (hc:cH X (.type T) r) (hg:Gl X x) (hm:X.mg x=none) (hv:bootBuiltins x=some (.type T)) (ha:PA X (e::es) t) (hn:x ≠ "__name__" := by decide) (hdb:(x == ("__debug__" : Str))=false:=by decide)
  (he:starEach (e::es) X.env=(false,eval e X.env)::starEach es X.env:=by rfl) (hpl:(backTo pos (starEach es X.env)).any (·.1)=false:=by rfl):PE X (.Call (.Name x p) (e::es) [] pos) (KU r t):=by
 intro pins s σ H Q I h
 refine Mi (o9 I hg hm hv ?_ hn hdb)
 exact Ma (cQ (ha pos pins s σ H _ I h) fun us s1 ⟨vs,H1,I1,r1,q1⟩=>hc pins s1 σ H1 vs us Q I1 r1 q1) he hpl
end
end L2
namespace HT
open PySem PyProof.Rows
section
open PySem.SeqAt
open PySem.AutoSeq1 (wpAny_loadPart')
open PySem.MeetsSeq PySem.MeetsSeq2 PySem.MeetsSeq3
end
section
variable {prog:Program}{w:World}{A:Around}{E:Value->Shared->Prop}{s:Shared}
theorem cat_tup {t b:Addr}{vs ws:List Value}{Q:Value->Shared->Prop} (ht:IsTup s.heap t vs.toArray) (hb:IsTup s.heap b ws.toArray) (hv:vs≠[])
  (h1:ws=[]->Q (.ref t) s) (h2:ws≠[]->Q (.ref s.heap.objs.size) { s with heap:=s.heap.push { cls:=.type "tuple",data:=.seq (vs++ws).toArray } })
  (hsz:vs.length+ws.length<=sizeLine):wpAny (model prog w) A (binaryOp .Add (.ref t) (.ref b)) Q E s:=by
 obtain ⟨⟨cls,dd,data,sl⟩,ho,hc,n,hd⟩:=id ht
 obtain ⟨⟨cls2,dd2,data2,sl2⟩,ho2,hc2,n2,hd2⟩:=id hb
 simp only at hc hd hc2 hd2
 subst hc hd hc2 hd2
 have e:vs.toArray++ws.toArray=(vs++ws).toArray:=by simp
 by_cases hw:ws=[]
 ·exact concat_meets ⟨_,ho,rfl⟩ ⟨_,ho2,rfl⟩ Mx seq_tuple_add My Mz (MC _ _)
   (tuple_addW1 t b vs.toArray ws.toArray n n2 dd dd2 sl sl2 (by simpa using hv) (by simp [hw])) ⟨ho,ho2,h1 hw⟩
 ·refine concat_meets ⟨_,ho,rfl⟩ ⟨_,ho2,rfl⟩ Mx seq_tuple_add My Mz (MC _ _)
   (tuple_addW2 t b vs.toArray ws.toArray n n2 dd dd2 sl sl2 (by simpa using hv) (by simpa using hw) (by rw [Mf,Mf];exact hsz)) ⟨ho,ho2,?_⟩
  rw [e]
  exact h2 hw
def sIx (n d:Nat):Option Int->Nat
 | none=>d
 | some v=>if v<0 then (v+(n:Int)).toNat else min v.toNat n
theorem sIx_none (n d:Nat):sIx n d none=d:=rfl
theorem sIx_nat (n d k:Nat):sIx n d (some (k:Int))=min k n:=by
 show (if (k:Int)<0 then ((k:Int)+(n:Int)).toNat else min (k:Int).toNat n)=min k n
 rw [Lq (by omega),MD]
theorem Gm (n d:Nat) (hd:d<=n) (o:Option Int):sIx n d o<=n:=by
 cases o with
 | none=>exact hd
 | some v=>
  show (if v<0 then (v+(n:Int)).toNat else min v.toNat n)<=n
  by_cases hv:v<0
  ·rw [Lp hv];omega
  ·rw [Lq hv];exact MF _ _
theorem x6 (v:Int) (n d:Nat):(if v<0 then max (v+(n:Int)) 0 else min v (n:Int))=((sIx n d (some v):Nat):Int):=by
 show (if v<0 then max (v+(n:Int)) 0 else min v (n:Int))=(((if v<0 then (v+(n:Int)).toNat else min v.toNat n):Nat):Int)
 by_cases hv:v<0
 ·simp only [Lp hv];omega
 ·simp only [Lq hv];omega
theorem xh (lo hi:Option Int) (n:Nat):Builtin.Slice.sliceAdjust lo hi 1 (n:Int)=(((sIx n 0 lo:Nat):Int),((sIx n n hi:Nat):Int)):=by
 have h1:¬ ((1:Int)<0):=by omega
 unfold Builtin.Slice.sliceAdjust
 simp only [h1,MH]
 refine Prod.ext ?_ ?_
 ·cases lo with
  | none=>rfl
  | some v=>exact x6 v n 0
 ·cases hi with
  | none=>rfl
  | some v=>exact x6 v n n
theorem wM (i j:Nat):Builtin.Slice.slicePlaces (i:Int) (j:Int) 1=j - i:=by
 unfold Builtin.Slice.slicePlaces
 have h1:(1:Int) > 0:=by omega
 simp only [h1,MJ,Int.ediv_one]
 split <;> omega
theorem pV {v:Value}{o:Option Int}{Q:Option Int->Shared->Prop} (p:IsPart v o) (h:Q o s):wpAny (model prog w) A (Builtin.Slice.slicePartIndex v) Q E s:=by
 cases p with
 | none=>exact MK h
 | int i t=>exact slicePart_int h
theorem sliceApplied_gen {sl:Addr}{vl vu:Value}{lo hi:Option Int}{n:Nat}{Q:Int × Int × Nat->Shared->Prop} (hs:s.heap.IsSliceOf sl vl vu .none) (pl:IsPart vl lo) (pu:IsPart vu hi)
  (h:Q (((sIx n 0 lo:Nat):Int),1,sIx n n hi - sIx n 0 lo) s):wpAny (model prog w) A (Builtin.Slice.sliceApplied (.ref sl) (pure (n:Int))) Q E s:=by
 obtain ⟨os,hos,hcs,hds⟩:=id hs
 unfold Builtin.Slice.sliceApplied Builtin.Slice.sliceFields
 refine LV (LV (ML hos hds (x:=vl) rfl (LV (ML hos hds (x:=vu) rfl (LV (ML hos hds (x:=.none) rfl (L4 ?_)))))))
 refine LV (MK ?_)
 show wpAny _ _ (if ((1:Int) == 0)=true then _ else _) _ _ s
 rw [Lq (by decide)]
 refine LV (pV pl (LV (pV pu (LV (L4 ?_)))))
 show wpAny _ _ (match Builtin.Slice.sliceAdjust lo hi 1 (n:Int) with | (lo,hi)=>pure (lo,(1:Int),Builtin.Slice.slicePlaces lo hi 1)) _ _ s
 rw [xh lo hi n]
 show wpAny _ _ (pure (((sIx n 0 lo:Nat):Int),(1:Int),Builtin.Slice.slicePlaces ((sIx n 0 lo:Nat):Int) ((sIx n n hi:Nat):Int) 1)) _ _ s
 rw [wM]
 exact L4 h
theorem By (xs:Array Value) (i k:Nat):((List.range k).filterMap fun (m:Nat)=>xs[((i:Int)+(m:Int) * 1).toNat]?).toArray=((xs.toList.drop i).take k).toArray:=by
 have e:(fun (m:Nat)=>xs[((i:Int)+(m:Int) * 1).toNat]?)=fun m=>xs[i+m]?:=by
  funext m
  have:((i:Int)+(m:Int) * 1).toNat=i+m:=by omega
  rw [this]
 rw [e]
 have:=pick_run xs i k
 rw [MM] at this
 have e2:((fun x=>xs[x]?) ∘ fun x=>i+x)=fun m=>xs[i+m]?:=rfl
 rw [e2] at this
 rw [this]
theorem getItem_tuple_cut {t sl:Addr}{items:Array Value}{vl vu:Value}{lo hi:Option Int}{Q:Value->Shared->Prop} (ht:IsTup s.heap t items) (hs:s.heap.IsSliceOf sl vl vu .none) (pl:IsPart vl lo) (pu:IsPart vu hi)
  (hw:¬ (sIx items.size 0 lo=0/\sIx items.size items.size hi=items.size))
  (h:Q (.ref s.heap.objs.size) { s with heap:=s.heap.push { cls:=.type "tuple",data:=.seq ((items.toList.drop (sIx items.size 0 lo)).take (sIx items.size items.size hi - sIx items.size 0 lo)).toArray } })
  (hsz:items.size<=sizeLine):wpAny (model prog w) A (getItem (.ref t) (.ref sl)) Q E s:=by
 have htake:sizeOk (.seq ((items.toList.drop (sIx items.size 0 lo)).take (sIx items.size items.size hi - sIx items.size 0 lo)).toArray):=by
  show ((items.toList.drop (sIx items.size 0 lo)).take (sIx items.size items.size hi - sIx items.size 0 lo)).toArray.size<=sizeLine
  rw [Mf,Mn,MN,LR]
  omega
 have hj:sIx items.size items.size hi<=items.size:=Gm _ _ (L9 _) hi
 obtain ⟨os,hos,hcs,hds⟩:=id hs
 have hTs:s.TypeIs (.ref sl) "slice" := ⟨os,hos,hcs⟩
 unfold getItem
 try with_reducible refine LW ?_
 first | refine LV (L4 ?_) | skip
 refine LV (MP ht.typeIs (by decide) ?_)
 refine LV (MQ (name:=Str.ofString "__getitem__") ht.typeIs MR
  (MU MR ht.typeIs MV ?_ (MW _ _)))
 show wpAny _ _ (Builtin.Tuple.tupleItemsOf (.ref t) >>= _) _ _ s
 refine LV (tupleItemsOf_ ht ?_)
 refine LV (MX hTs ?_)
 rw [Lp (by decide)]
 refine LV (sliceApplied_gen hs pl pu ?_)
 have hno:¬ ((((sIx items.size 0 lo:Nat):Int) == 0 && (1:Int) == 1 && (sIx items.size items.size hi - sIx items.size 0 lo) == items.size)=true):=by
  intro q
  rw [MY,MY] at q
  have q1:((sIx items.size 0 lo:Nat):Int)=0:=eq_of_beq q.1.1
  have q2:sIx items.size items.size hi - sIx items.size 0 lo=items.size:=eq_of_beq q.2
  exact hw ⟨by omega,by omega⟩
 show wpAny _ _ (if (((sIx items.size 0 lo:Nat):Int) == 0 && (1:Int) == 1 && (sIx items.size items.size hi - sIx items.size 0 lo) == items.size)=true then _ else _) _ _ s
 rw [Lq hno,By]
 first
  | exact LV (m:=Builtin.Tuple.tupleExact _) (MZ (L4 ⟨_,rfl,L4 h⟩) htake)
  | exact LV (m:=Builtin.Tuple.tupleExact _) (MZ (LV (L4 (L4 ⟨_,rfl,L4 h⟩))) htake)
  | exact LV (LV (m:=Builtin.Tuple.tupleExact _) (MZ (L4 (L4 ⟨_,rfl,L4 h⟩)) htake))
  | exact LV (LV (m:=Builtin.Tuple.tupleExact _) (MZ (L4 ⟨_,rfl,L4 h⟩) htake))
end
end HT
namespace L2
open PySem PySem.Spec PyProof.Rows
abbrev TO:=St->Hp->(Option Int->Hp->Prop)->Prop
def PO (X:Cx) (e:Option Expr) (t:TO):Prop:=
 ∀ (pins:List (Addr × Obj)) (s:Shared) (σ:St) (H:Hp) (Q:Option Int->Hp->Prop),aV X pins σ H s->t σ H Q ->
  wpAny (model X.prog X.w) X.A (evalPart e X.env) (fun u s'=>∃ o H',aV X pins σ H' s'/\IsPart u o/\Q o H') X.xe s
def CP:TO:=fun _ H Q=>Q none H
def Jb (t:TE):TO:=fun σ H Q=>t σ H fun x H1=>∃ i,x=.int i/\Q (some i) H1
theorem fj {ns:List Int}:∀ {us:List Value},ba (ns.map V.int) us->IntsAre us ns:=by
 induction ns with
 | nil=>intro us r;rw [Na] at r;cases r;exact .nil
 | cons n ns ih=>
  intro us r
  rw [Nb] at r
  cases r with
  | cons r1 r2=>
   obtain ⟨t,e⟩:=r1
   subst e
   exact .cons n t (ih r2)
section
variable {X:Cx}{e:Expr}{te:TE}{lo hi:Option Expr}{tl th:TO}{pos p2:Pos}
theorem DA:PO X none CP:=by
 intro pins s σ H Q I h
 rw [evalPart_none]
 exact L4 ⟨none,H,I,.none,h⟩
theorem Dz (h:PE X e te):PO X (some e) (Jb te):=by
 intro pins s σ H Q I hw
 rw [evalPart_some]
 refine cQ (h pins s σ H _ I hw) fun u s1 ⟨x,H1,I1,r1,q1⟩=>?_
 obtain ⟨i,rfl,q⟩:=q1
 obtain ⟨t,rfl⟩:=r1
 exact ⟨some i,H1,I1,.int i t,q⟩
def Cp (X:Cx) (r:V->Option Int->Option Int->Hp->VK->Prop):Prop:=
 ∀ (pins:List (Addr × Obj)) (s:Shared) (σ:St) (H:Hp) (x:V) (v vl vu:Value) (lo hi:Option Int) (sl:Addr) (Q:VK),aV X pins σ H s->bL x v->s.heap.IsSliceOf sl vl vu .none->IsPart vl lo->IsPart vu hi->r x lo hi H Q ->
  ∃ T id,typeLookup (.type T) "__getitem__" = pure (some (.builtin id))/\s.TypeIs v T/\wpAny (model X.prog X.w) X.A (getItem v (.ref sl)) (EP X pins σ Q) X.xe s
theorem Cp.or {r r':V->Option Int->Option Int->Hp->VK->Prop} (h:Cp X r) (h':Cp X r'):Cp X (fun x lo hi H Q=>r x lo hi H Q\/r' x lo hi H Q):=by
 intro pins s σ H x v vl vu lo hi sl Q I rx hs pl pu q
 rcases q with q | q
 ·exact h pins s σ H x v vl vu lo hi sl Q I rx hs pl pu q
 ·exact h' pins s σ H x v vl vu lo hi sl Q I rx hs pl pu q
def K8 (r:V->Option Int->Option Int->Hp->VK->Prop) (te:TE) (tl th:TO):TE:=fun σ H Q=>te σ H fun x H1=>tl σ H1 fun l H2=>th σ H2 fun u H3=>r x l u H3 Q
theorem BA {r:V->Option Int->Option Int->Hp->VK->Prop} (hr:Cp X r) (he:PE X e te) (hl:PO X lo tl) (hu:PO X hi th):PE X (.Subscript e (.Slice lo hi none p2) pos) (K8 r te tl th):=by
 intro pins s σ H Q I h
 refine Subscript_ (cQ (he pins s σ H _ I h) fun v s1 ⟨x,H1,I1,r1,q1⟩=>?_)
 refine wpAny_Slice (cQ (hl pins s1 σ H1 _ I1 q1) fun vl s2 ⟨l,H2,I2,pl,q2⟩=>cQ (hu pins s2 σ H2 _ I2 q2) fun vu s3 ⟨u,H3,I3,pu,q3⟩=>?_)
 rw [evalPart_none]
 refine L4 ?_
 have I4:aV X pins σ H3 { s3 with heap:=s3.heap.push { cls:=.type "slice",data:=.fields #[vl,vu,.none] } }:=I3.kept (t':=s3.toks) fun b ob q=>L7 _ q
 obtain ⟨T,id,hT,ht,hg⟩:=hr pins { s3 with heap:=s3.heap.push { cls:=.type "slice",data:=.fields #[vl,vu,.none] } } σ H3 x v vl vu l u s3.heap.objs.size Q I4 r1 (Nd ..) pl pu q3
 show wpAny (model X.prog X.w) X.A (subscriptTail e (.Slice lo hi none p2) v (.ref s3.heap.objs.size)) (EP X pins σ Q) X.xe { s3 with heap:=s3.heap.push { cls:=.type "slice",data:=.fields #[vl,vu,.none] } }
 exact tail_any (ops:=[.ref s3.heap.objs.size,v]) ht hT hg (by with_unfolding_all rfl)
def tT (xs:List V) (lo hi:Option Int):List V:=(xs.drop (HT.sIx xs.length 0 lo)).take (HT.sIx xs.length xs.length hi - HT.sIx xs.length 0 lo)
theorem nE (xs:List V) (lo hi:Option Int):(tT xs lo hi).length<=xs.length:=by
 unfold tT
 rw [Mn,MN]
 omega
def Iy (K:W.Frag):V->Option Int->Option Int->Hp->VK->Prop:=fun x lo hi H Q=>∃ a xs,x=.ref a/\gy K H a xs /\
 ¬ (HT.sIx xs.length 0 lo=0/\HT.sIx xs.length xs.length hi=xs.length)/\∀ p,H p=none->Q (.ref p) (cI H p (.tup (tT xs lo hi)))
theorem F7:Cp X (Iy X.K):=by
 intro pins s σ H x v vl vu lo hi sl Q I rx hs pl pu h
 obtain ⟨a,xs,rfl,hx,hw,q⟩:=h
 cases rx
 obtain ⟨its,r,ht,hz⟩:=I.tuple hx
 have hlen:its.toArray.size=xs.length:=by rw [Mf];exact r.length.symm
 refine ⟨"tuple",_,MR.lookup,ht.typeIs,?_⟩
 refine HT.getItem_tuple_cut ht hs pl pu (by rw [hlen];exact hw) ?_ (by rw [hlen];exact hz)
 rw [hlen]
 refine ⟨.ref s.heap.objs.size,_,I.laid (t':=s.toks) (o:=.tup (tT xs lo hi)) (fun b ob q=>L7 _ q) (L9 _) ?_,rfl,q _ (I.hok.fresh (L9 _))⟩
 exact ⟨LB (nE xs lo hi) hz,_,(r.drop (HT.sIx xs.length 0 lo)).take (HT.sIx xs.length xs.length hi - HT.sIx xs.length 0 lo),IsTup.new _ _⟩
def Jq (K:W.Frag):R2:=fun x y H Q=>∃ a b xs ys,x=.ref a/\y=.ref b/\gy K H a xs/\gy K H b ys/\xs≠[]/\xs.length+ys.length<=sizeLine /\
 (ys=[]->Q (.ref a) H)/\(ys≠[]->∀ p,H p=none->Q (.ref p) (cI H p (.tup (xs++ys))))
theorem ba.nil_iff {xs:List V}{us:List Value} (r:ba xs us):us=[]↔xs=[]:=by
 cases r with
 | nil=>simp
 | cons _ _=>simp
theorem DN:gS X (binaryOp .Add) (Jq X.K):=by
 intro pins s σ H x y v u Q I rx ry h
 obtain ⟨a,b,xs,ys,rfl,rfl,ha,hb,hx,hz,q1,q2⟩:=h
 cases rx
 cases ry
 obtain ⟨its,r1,p1,_⟩:=I.tuple ha
 obtain ⟨its2,r2,p2,_⟩:=I.tuple hb
 refine HT.cat_tup p1 p2 (fun z=>hx (r1.nil_iff.mp z)) (fun z=>⟨.ref a,H,I,rfl,q1 (r2.nil_iff.mp z)⟩) (fun z=>?_) (by rw [<- r1.length,<- r2.length];exact hz)
 refine ⟨.ref s.heap.objs.size,_,I.laid (t':=s.toks) (o:=.tup (xs++ys)) (fun b ob q=>L7 _ q) (L9 _) ?_,rfl,q2 (fun w=>z (r2.nil_iff.mpr w)) _ (I.hok.fresh (L9 _))⟩
 exact ⟨by rw [Mv];exact hz,_,r1.append r2,IsTup.new _ _⟩
end
end L2
namespace L2
open PySem PySem.Spec PyProof.Rows
def yf (n:Nat) (i:Int):Option Nat:=if 0<=i then (if i<n then some i.toNat else none) else if -(n:Int)<=i then some (i+n).toNat else none
def atI {α:Type} (xs:List α) (i:Int):Option α:=(yf xs.length i).bind fun j=>xs[j]?
theorem xQ {n:Nat}{i:Int}{j:Nat} (h:yf n i=some j):seqIndex? i n=some j/\j<n/\-(n:Int)<=i/\i<n:=by
 unfold yf at h
 by_cases h0:0<=i
 ·rw [Lp h0] at h
  by_cases h1:i<n
  ·rw [Lp h1] at h
   have e:i.toNat=j:=Lr h
   exact ⟨by rw [seqIndex_of h0 h1,e],by omega,by omega,h1⟩
  ·rw [Lq h1] at h;cases h
 ·rw [Lq h0] at h
  by_cases h1:-(n:Int)<=i
  ·rw [Lp h1] at h
   have e:(i+n).toNat=j:=Lr h
   exact ⟨by rw [seqIndex_neg (by omega) h1,e],by omega,h1,by omega⟩
  ·rw [Lq h1] at h;cases h
theorem sM {α:Type}{xs:List α}{i:Int}{v:α} (h:atI xs i=some v):∃ j,seqIndex? i xs.length=some j/\xs[j]?=some v/\j<xs.length/\-(xs.length:Int)<=i/\i<xs.length:=by
 unfold atI at h
 cases e:yf xs.length i with
 | none=>rw [e] at h;cases h
 | some j=>
  rw [e] at h
  obtain ⟨h1,h2,h3,h4⟩:=xQ e
  exact ⟨j,h1,h,h2,h3,h4⟩
theorem jn {α:Type}{xs:List α}{j:Nat}{v:α} (h:xs[j]?=some v):atI xs (j:Int)=some v:=by
 have hj:j<xs.length:=(LL.mp h).1
 have e:yf xs.length (j:Int)=some j:=by
  unfold yf
  rw [Lp (by omega),Lp (by omega)];simp
 unfold atI;rw [e];exact h
def sN (b:Expr):Prop:=∀ o i,subscripted b false o i=operate [o,i] (getItem o i)
def Cr (X:Cx) (r:R2):Prop:=
 ∀ (value slice:Expr) (pins:List (Addr × Obj)) (s:Shared) (σ:St) (H:Hp) (x y:V) (v u:Value) (Q:VK),aV X pins σ H s->bL x v->bL y u->r x y H Q ->
  subscripted slice false v u=operate [v,u] (getItem v u)->wpAny (model X.prog X.w) X.A (subscriptTail value slice v u) (EP X pins σ Q) X.xe s
def K1 (X:Cx) (id:String) (r:V->List V->Hp->VK->Prop):Prop:=
 ∀ (pins:List (Addr × Obj)) (s:Shared) (σ:St) (H:Hp) (x:V) (xs:List V) (v:Value) (us:List Value) (Q:VK),aV X pins σ H s->bL x v->ba xs us->r x xs H Q ->
  wpAny (model X.prog X.w) X.A (call (.builtin id) (v::us)) (EP X pins σ Q) X.xe s
section
variable {X:Cx}{a b:Expr}{ta tb:TE}{pos:Pos}
theorem Cr.or {r r':R2} (h:Cr X r) (h':Cr X r'):Cr X (fun x y H Q=>r x y H Q\/r' x y H Q):=by
 intro value slice pins s σ H x y v u Q I rx ry q hs
 rcases q with q | q
 ·exact h value slice pins s σ H x y v u Q I rx ry q hs
 ·exact h' value slice pins s σ H x y v u Q I rx ry q hs
theorem Jw {r:R2} (hr:Cr X r) (ha:PE X a ta) (hb:PE X b tb) (hs:sN b):PE X (.Subscript a b pos) (JZ r ta tb):=by
 intro pins s σ H Q I h
 exact Subscript_ (Fq ha hb I h fun v u s2 x y H2 I2 rx ry q=>hr a b pins s2 σ H2 x y v u Q I2 rx ry q (hs _ _))
def IF (K:W.Frag):R2:=fun x y H Q=>∃ p xs i v,x=.ref p/\y=.int i/\f7 K H p xs/\atI xs i=some v/\Q v H
def ID (K:W.Frag):R2:=fun x y H Q=>∃ p xs i v,x=.ref p/\y=.int i/\gy K H p xs/\atI xs i=some v/\Q v H
def IE:R2:=fun x y H Q=>∃ z i c,x=.str z/\y=.int i/\z.length<=sizeLine/\atI z.cps.toList i=some c/\Q (.str ⟨#[c]⟩) H
theorem Ea:Cr X (IF X.K):=by
 intro value slice pins s σ H x y v u Q I rx ry h hs
 obtain ⟨p,xs,i,z,rfl,rfl,hq,he,q⟩:=h
 cases rx
 obtain ⟨t,rfl⟩:=ry
 obtain ⟨its,r,pl,hz⟩:=I.list hq
 obtain ⟨j,h1,h2,h3,h4,h5⟩:=sM he
 obtain ⟨w,ew,rw'⟩:=r.get h2
 have hl:=r.length
 have hn:=mE
 have fin:EP X pins σ Q w s:=⟨z,H,I,rw',q⟩
 by_cases h0:0<=i
 ·have hj:i.toNat=j:=by
   rw [seqIndex_of h0 h5] at h1
   exact Lr h1
  exact item_listR pl.isList h0 (by omega) (by rw [hj];simpa using ew) fin hs
 ·have hj:(i+(its.toArray.size:Int)).toNat=j:=by
   rw [seqIndex_neg (by omega) h4] at h1
   rw [Mf,<- hl]
   exact Lr h1
  exact subscriptTail_builtinR (x:=w) pl.isList.typeIs Nf.lookup
   (wpAny_getItem_list_neg (Q:=fun r s'=>r=w/\EP X pins σ Q r s') pl.isList (by omega) (by rw [Mf] <;> omega) (by omega) (by rw [hj];simpa using ew) ⟨rfl,fin⟩) hs
theorem HA:Cr X (ID X.K):=by
 intro value slice pins s σ H x y v u Q I rx ry h hs
 obtain ⟨p,xs,i,z,rfl,rfl,hq,he,q⟩:=h
 cases rx
 obtain ⟨t,rfl⟩:=ry
 obtain ⟨its,r,pl,hz⟩:=I.tuple hq
 obtain ⟨j,h1,h2,h3,h4,h5⟩:=sM he
 obtain ⟨w,ew,rw'⟩:=r.get h2
 have hl:=r.length
 have hn:=mE
 have fin:EP X pins σ Q w s:=⟨z,H,I,rw',q⟩
 exact subscriptTail_builtinR (x:=w) pl.typeIs slot_tuple_getitem.lookup
  (getItem_tuple (j:=j) (Q:=fun r s'=>r=w/\EP X pins σ Q r s') pl (by omega) (by omega) (by rw [Mf,<- hl];exact h1) (by simpa using ew) ⟨rfl,fin⟩) hs
theorem HB:Cr X IE:=by
 intro value slice pins s σ H x y v u Q I rx ry h hs
 obtain ⟨z,i,c,rfl,rfl,hz,he,q⟩:=h
 obtain ⟨t,rfl⟩:=rx
 obtain ⟨t',rfl⟩:=ry
 obtain ⟨j,h1,h2,h3,h4,h5⟩:=sM he
 have hl:z.cps.toList.length=z.length:=by simp [Str.length]
 rw [hl] at h1 h4 h5
 have hn:=mE
 exact tail_any (typeIs_str s z t) slot_str_getitem.lookup (getItem_str (c:=c) (by
  have e1:decide (i < -(2 ^ 63:Int))=false:=Lm (by omega)
  have e2:decide (i ≥ 2 ^ 63)=false:=Lm (by omega)
  rw [e1,e2,Bool.or_false]) (by rw [h1];simpa using h2) ⟨.str ⟨#[c]⟩,H,I.tok _,⟨_,rfl⟩,q⟩) hs
def KY (K:W.Frag):R2:=fun x y H Q=>IF K x y H Q\/ID K x y H Q\/IE x y H Q
theorem HC:Cr X (KY X.K):=Ea.or (HA.or HB)
theorem wU (its:List Value) (n j:Nat) (u:Value):Obj.mapSeq (·.setIfInBounds j u) { cls:=.type "list",data:=.seq its.toArray n }={ cls:=.type "list",data:=.seq (its.set j u).toArray n }:=by
 simp [Obj.mapSeq]
theorem aV.lst {pins:List (Addr × Obj)}{σ:St}{H:Hp}{s:Shared}{p:Addr}{xs:List V} (I:aV X pins σ H s) (h:H p=some (.lst xs)) :
  ∃ (its:List Value) (n:Nat),ba xs its/\s.heap.get? p=some { cls:=.type "list",data:=.seq its.toArray n }/\xs.length<=sizeLine:=by
 obtain ⟨z,its,n,r,e⟩:=I.hok p _ h
 exact ⟨its,n,r,e,z⟩
theorem aV.lstUpd {pins:List (Addr × Obj)}{σ:St}{H:Hp}{s:Shared}{p:Addr}{xs ys:List V}{its its':List Value}{n n':Nat}{f:Obj->Obj} (I:aV X pins σ H s) (h:H p=some (.lst xs))
  (ho:s.heap.get? p=some { cls:=.type "list",data:=.seq its.toArray n }) (hf:f { cls:=.type "list",data:=.seq its.toArray n }={ cls:=.type "list",data:=.seq its'.toArray n' }) (r:ba ys its') (hz:ys.length<=sizeLine) (t:Nat) :
  aV X pins σ (cI H p (.lst ys)) { s with heap:=s.heap.update p f,toks:=t }:=by
 have e:(s.heap.update p f).get? p=some { cls:=.type "list",data:=.seq its'.toArray n' }:=by
  rw [Ng f ho (by rw [hf] <;> rfl),hf]
 refine I.write (x:=p) (e:=p) (by rw [h];trivial) (.inl rfl) (fun b u hb q=>(Heap.get?_update_other _ _ (LI hb)).trans q) ⟨_,e⟩ ?_
 exact ⟨hz,its',n',r,e⟩
def EK:V->V->V->Hp->(Hp->Prop)->Prop:=fun o i v H Q=>∃ p xs k j,o=.ref p/\i=.int k/\H p=some (.lst xs)/\yf xs.length k=some j/\Q (cI H p (.lst (xs.set j v)))
theorem Bd:IR X EK:=by
 intro pins s σ H o i v ov iv u Q I ro ri rv h
 obtain ⟨p,xs,k,j,rfl,rfl,hp,hj,q⟩:=h
 cases ro
 obtain ⟨t,rfl⟩:=ri
 obtain ⟨its,n,r,ho,hz⟩:=I.lst hp
 obtain ⟨h1,h2,h3,h4⟩:=xQ hj
 have hl:=r.length
 have hn:=mE
 have I':aV X pins σ (cI H p (.lst (xs.set j v))) { s with heap:=s.heap.update p (Obj.mapSeq (·.setIfInBounds j u)) }:=
  I.lstUpd hp ho (wU its n j u) (r.set rv j) (by rw [Nh];exact hz) s.toks
 by_cases h0:0<=k
 ·have hk:k.toNat=j:=by
   rw [seqIndex_of h0 h4] at h1
   exact Lr h1
  exact W.ki_setAt ho h0 (by omega) (by rw [Mf,<- hl];exact h4) (by rw [hk];exact ⟨_,I',q⟩)
 ·have hk:(k+(its.toArray.size:Int)).toNat=j:=by
   rw [seqIndex_neg (by omega) h3] at h1
   rw [Mf,<- hl]
   exact Lr h1
  exact W.ki_setBack ho (by omega) (by rw [Mf,<- hl];exact h3) (by omega) (by rw [hk];exact ⟨_,I',q⟩)
theorem sT (lo hi:Option Int) (n:Nat):(sliceBounds lo hi none n).1=((HT.sIx n 0 lo:Nat):Int)/\(sliceBounds lo hi none n).2.1=((HT.sIx n n hi:Nat):Int)/\(sliceBounds lo hi none n).2.2=1:=by
 refine ⟨?_,?_,rfl⟩
 ·cases lo with
  | none=>simp [sliceBounds,HT.sIx]
  | some i=>
   simp only [sliceBounds,HT.sIx,Option.getD_none,show (1:Int) > 0 by decide,MJ]
   by_cases h:i<0
   ·simp only [h,MJ] <;> omega
   ·simp only [h,MH] <;> omega
 ·cases hi with
  | none=>simp [sliceBounds,HT.sIx]
  | some i=>
   simp only [sliceBounds,HT.sIx,Option.getD_none,show (1:Int) > 0 by decide,MJ]
   by_cases h:i<0
   ·simp only [h,MJ] <;> omega
   ·simp only [h,MH] <;> omega
theorem qC (its:List Value) (lo hi:Option Int):slicePick its.toArray lo hi none=((its.drop (HT.sIx its.length 0 lo)).take (HT.sIx its.length its.length hi - HT.sIx its.length 0 lo)).toArray:=by
 obtain ⟨h1,h2,h3⟩:=sT lo hi its.toArray.size
 unfold slicePick
 rw [h1,h2,h3]
 simp only [sliceRange_one,pick_run,Mf] <;> rfl
def Iz (K:W.Frag):V->Option Int->Option Int->Hp->VK->Prop:=fun x lo hi H Q=>∃ a xs,x=.ref a/\f7 K H a xs/\∀ p,H p=none->Q (.ref p) (cI H p (.lst (tT xs lo hi)))
theorem Dd:Cp X (Iz X.K):=by
 intro pins s σ H x v vl vu lo hi sl Q I rx hs pl pu h
 obtain ⟨a,xs,rfl,hx,q⟩:=h
 cases rx
 obtain ⟨its,r,ht,hz⟩:=I.list hx
 have hlen:=r.length
 refine ⟨"list",_,Nf.lookup,ht.isList.typeIs,?_⟩
 refine wpAny_getItem_list_slice ht.isList hs pl pu .none (by simp) ?_ (by rw [Mf] <;> omega)
 rw [qC,<- hlen]
 refine ⟨.ref s.heap.objs.size,_,I.laid (t':=s.toks) (o:=.lst (tT xs lo hi)) (fun b ob q=>L7 _ q) (L9 _) ?_,rfl,q _ (I.hok.fresh (L9 _))⟩
 exact ⟨LB (nE xs lo hi) hz,_,0,(r.drop (HT.sIx xs.length 0 lo)).take (HT.sIx xs.length xs.length hi - HT.sIx xs.length 0 lo),L8 _ rfl⟩
def jS:V->Bool
 | .non=>true
 | .bl _=>true
 | .int _=>true
 | .str _=>true
 | _=>false
def xk:V->V->Bool
 | .non,.non=>true
 | .bl a,.bl b=>a == b
 | .bl a,.int b=>(if a then 1 else 0) == b
 | .int a,.bl b=>a == (if b then 1 else 0)
 | .int a,.int b=>a == b
 | .str a,.str b=>a == b
 | _,_=>false
theorem HW {A:Around}{s:Shared}{y x:V}{u v:Value} (ry:bL y u) (rx:bL x v) (fy:jS y=true) (fx:jS x=true):SeqAt.EqAt A s u v (xk y x):=by
 cases y with
 | non=>
  cases ry
  cases x with
  | non=>cases rx;exact SeqAt.EqAt.same _
  | bl b=>cases rx;exact SeqAt.EqAt.none_bool b
  | int b=>obtain ⟨t,rfl⟩:=rx;exact SeqAt.EqAt.none_int b t
  | str b=>obtain ⟨t,rfl⟩:=rx;exact SeqAt.EqAt.none_str b t
  | _=>exact absurd (show false=true from fx) LZ
 | bl a=>
  cases ry
  cases x with
  | non=>cases rx;exact SeqAt.EqAt.bool_none a
  | bl b=>cases rx;exact SeqAt.EqAt.bool_bool a b
  | int b=>obtain ⟨t,rfl⟩:=rx;exact SeqAt.EqAt.bool_int a b t
  | str b=>obtain ⟨t,rfl⟩:=rx;exact SeqAt.EqAt.bool_str a b t
  | _=>exact absurd (show false=true from fx) LZ
 | int a=>
  obtain ⟨t',rfl⟩:=ry
  cases x with
  | non=>cases rx;exact SeqAt.EqAt.int_none a t'
  | bl b=>cases rx;exact SeqAt.EqAt.int_bool a t' b
  | int b=>obtain ⟨t,rfl⟩:=rx;exact SeqAt.EqAt.int_int a t' b t
  | str b=>obtain ⟨t,rfl⟩:=rx;exact SeqAt.EqAt.int_str a t' b t
  | _=>exact absurd (show false=true from fx) LZ
 | str a=>
  obtain ⟨t',rfl⟩:=ry
  cases x with
  | non=>cases rx;exact SeqAt.EqAt.str_none a t'
  | bl b=>cases rx;exact SeqAt.EqAt.str_bool a t' b
  | int b=>obtain ⟨t,rfl⟩:=rx;exact SeqAt.EqAt.str_int a t' b t
  | str b=>obtain ⟨t,rfl⟩:=rx;exact SeqAt.EqAt.str_str a t' b t
  | _=>exact absurd (show false=true from fx) LZ
 | _=>exact absurd (show false=true from fy) LZ
def Fb (x:V) (u:Value):Bool:=match u with
 | .none=>xk .non x
 | .bool b=>xk (.bl b) x
 | .int i _=>xk (.int i) x
 | .str z _=>xk (.str z) x
 | _=>false
theorem wg {x y:V}{u:Value} (r:bL y u) (f:jS y=true):Fb x u=xk y x:=by
 cases y with
 | non=>cases r;rfl
 | bl b=>cases r;rfl
 | int i=>obtain ⟨t,rfl⟩:=r;rfl
 | str z=>obtain ⟨t,rfl⟩:=r;rfl
 | _=>exact absurd (show false=true from f) LZ
theorem pJ {A:Around}{s:Shared}{x:V}{v:Value} (rx:bL x v) (fx:jS x=true):∀ {xs:List V}{us:List Value},ba xs us->xs.all jS=true->∀ u∈us,SeqAt.EqAt A s u v (Fb x u)
 | _,_,.nil,_=>fun u hu=>by cases hu
 | y::xs,u::us,.cons r t,f=>fun u' hu=>by
  rw [Ni,MY] at f
  rcases LH.mp hu with rfl | hu
  ·rw [wg r f.1];exact HW r rx f.1 fx
  ·exact pJ rx fx t f.2 u' hu
theorem cH.or {f:Value}{r r':List V->Hp->VK->Prop} (h:cH X f r) (h':cH X f r'):cH X f (fun xs H Q=>r xs H Q\/r' xs H Q):=by
 intro pins s σ H xs us Q I rs q
 rcases q with q | q
 ·exact h pins s σ H xs us Q I rs q
 ·exact h' pins s σ H xs us Q I rs q
theorem tE:cH X (.type "list") (fun xs H Q=>∃ p ys,xs=[.ref p]/\(f7 X.K H p ys\/gy X.K H p ys)/\∀ l,H l=none->Q (.ref l) (cI H l (.lst ys))):=by
 intro pins s σ H xs us Q I r h
 obtain ⟨p,ys,rfl,hq,q⟩:=h
 obtain ⟨u,rfl,rx⟩:=fq r
 cases rx
 have fin:∀ (its:List Value),ba ys its->ys.length<=sizeLine->∀ (h':Heap) (c':Nat),(∀ b o',s.heap.get? b=some o'->h'.get? b=some o') ->
   h'.get? s.heap.objs.size=some { cls:=.type "list",dict:=none,data:=.seq its.toArray c',slots:=#[] }->EP X pins σ Q (.ref s.heap.objs.size) { s with heap:=h' }:=fun its r' hz h' c' kp e=>
  ⟨.ref s.heap.objs.size,_,I.laid (t':=s.toks) kp (L9 _) (show d9 X.prog X.w _ h' _ (.lst ys) from ⟨hz,its,c',r',e⟩),rfl,q _ (I.hok.fresh (L9 _))⟩
 rcases hq with hq | hq
 ·obtain ⟨its, r', pl, hz⟩ := I.list hq
  have hlen:=r'.length
  obtain ⟨o,ho,hc,n,hd⟩:=pl.isList
  exact call_list_seq p (.inl rfl) ho hc hd (fun h' c' kp e=>fin its r' hz h' c' kp e) (by simp only [Mf] <;> omega)
 ·obtain ⟨its, r', pl, hz⟩ := I.tuple hq
  have hlen:=r'.length
  obtain ⟨o,ho,hc,n,hd⟩:=pl
  exact call_list_seq p (.inr rfl) ho hc hd (fun h' c' kp e=>fin its r' hz h' c' kp e) (by simp only [Mf] <;> omega)
theorem qJ:cH X (.type "tuple") (fun xs H Q=>∃ p ys,xs=[.ref p]/\((f7 X.K H p ys/\∀ l,H l=none->Q (.ref l) (cI H l (.tup ys)))\/(gy X.K H p ys/\Q (.ref p) H))):=by
 intro pins s σ H xs us Q I r h
 obtain ⟨p,ys,rfl,h⟩:=h
 obtain ⟨u,rfl,rx⟩:=fq r
 cases rx
 rcases h with ⟨hq,q⟩ | ⟨hq,q⟩
 ·obtain ⟨its, r', pl, hz⟩ := I.list hq
  have hlen:=r'.length
  refine call_tuple_list pl.isList (fun h' kp=>?_) (by simp only [Mf] <;> omega)
  have I1:aV X pins σ H { s with heap:=h' }:=I.kept (t':=s.toks) kp
  have I2:aV X pins σ (cI H h'.objs.size (.tup ys)) { s with heap:=h'.push { cls:=.type "tuple",data:=.seq its.toArray } }:=
   I1.laid (t':=s.toks) (fun b o e=>L7 _ e) (L9 _) (show d9 X.prog X.w _ _ _ (.tup ys) from ⟨hz,its,r',IsTup.new _ _⟩)
  exact ⟨.ref h'.objs.size,_,I2,rfl,q _ (I1.hok.fresh (L9 _))⟩
 ·obtain ⟨its, r', pl, hz⟩ := I.tuple hq
  exact call_tuple_same pl ⟨.ref p,H,I,rfl,q⟩
def Kd (K:W.Frag) (T:String) (x:V) (H:Hp):Prop:=match x with
 | .str _=>T = "str"
 | .int _=>T = "int"
 | .ref p=>(T = "list" /\ ∃ xs,f7 K H p xs)\/(T = "tuple" /\ ∃ o,K.lookup p=some o/\o.cls=.type "tuple" /\ o.dict=none) \/
   (T = "dict" /\ ((∃ kvs,H p=some (.dK kvs))\/∃ kvs,H p=some (.dT kvs)))\/(T = "set" /\ ∃ S n,H p=some (.set S n))
 | _=>False
theorem FH {pins:List (Addr × Obj)}{σ:St}{H:Hp}{s:Shared}{T:String}{x:V}{v:Value} (I:aV X pins σ H s) (r:bL x v) (ty:Kd X.K T x H) :
  s.TypeIs v T/\∀ a,v=.ref a->∃ ob,s.heap.get? a=some ob/\ob.dict=none:=by
 cases x with
 | str z=>
  obtain ⟨t,rfl⟩:=r
  cases (show T = "str" from ty)
  exact ⟨typeIs_str s z t,fun _ e=>nomatch e⟩
 | int i=>
  obtain ⟨t,rfl⟩:=r
  cases (show T = "int" from ty)
  exact ⟨typeIs_int s i t,fun _ e=>nomatch e⟩
 | ref p=>
  cases r
  rcases ty with ⟨rfl,xs,hq⟩ | ⟨rfl,o,hk,hc,hd⟩ | ⟨rfl,hk⟩ | ⟨rfl,S,n,hk⟩
  ·obtain ⟨its, _, pl, _⟩ := I.list hq
   refine ⟨pl.isList.typeIs,fun a e=>?_⟩
   cases e
   obtain ⟨o,n,e,c,hd,_⟩:=pl
   exact ⟨o,e,hd⟩
  ·refine ⟨⟨o, I.kIn p o hk, hc⟩, fun a e => ?_⟩
   cases e
   exact ⟨o,I.kIn _ o hk,hd⟩
  ·have z:∃ o,s.heap.get? p=some o/\o.ExactDict:=by
    rcases hk with ⟨kvs,hk⟩ | ⟨kvs,hk⟩
    ·obtain ⟨_, _, _, _, o, _, _, e, ex, _⟩ := I.hok p _ hk
     exact ⟨o,e,ex⟩
    ·obtain ⟨_, _, _, _, o, _, _, e, ex, _⟩ := I.hok p _ hk
     exact ⟨o,e,ex⟩
   obtain ⟨o,e,ex⟩:=z
   refine ⟨⟨o,e,ex.1⟩,fun a e2=>?_⟩
   cases e2
   exact ⟨o,e,ex.2.1⟩
  ·obtain ⟨o, _, _, _, e, ex, _⟩ := I.hok p _ hk
   refine ⟨⟨o,e,ex.1⟩,fun a e2=>?_⟩
   cases e2
   exact ⟨o,e,ex.2.1⟩
 | _=>exact False.elim ty
def La (K:W.Frag) (T:String) (r:V->List V->Hp->VK->Prop) (to:TE) (t:TA):TE:=fun σ H Q=>to σ H fun x H1=>Kd K T x H1/\t σ H1 fun xs H2=>r x xs H2 Q
variable {o e:Expr}{es:List Expr}{to:TE}{t:TA}{name:Str}{apos cpos:Pos}{T id:String}{r:V->List V->Hp->VK->Prop}
theorem Jx (pa:PlainAttrs T) (slot:Slot T name id) (hty:typeOf (.builtin id)=pure (.type "method_descriptor")) (hm:K1 X id r) (ho:PE X o to) (ha:PA X (e::es) t)
  (hbase:attributeBase o name X.env (eval o X.env)=eval o X.env:=by rfl)
  (hfew : ((backTo cpos (starEach (e :: es) X.env)).all (fun x => !x.1) && (backToKw cpos (keywordEach [] X.env)).all (fun x => x.1.isSome)
   && decide ((e::es).length+([]:List Keyword).length+(if ([]:List Keyword).isEmpty then 0 else 1)<30))=true:=by rfl)
  (hline:(apos.endLine == cpos.line)=true:=by rfl) (hs:starEach (e::es) X.env=(false,eval e X.env)::starEach es X.env:=by rfl) (hplain:(backTo cpos (starEach es X.env)).any (·.1)=false:=by rfl) :
  PE X (.Call (.Attribute o name apos) (e::es) [] cpos) (La X.K T r to t):=by
 intro pins s σ H Q I h
 refine wpAny_Call_method_late hbase hfew hline rfl (cQ (ho pins s σ H _ I h) fun v s1 ⟨x,H1,I1,r1,ty,q1⟩=>?_)
 obtain ⟨h1,h2⟩:=FH I1 r1 ty
 refine ⟨T,id,pa,slot,hty,h1,h2,?_⟩
 have hA:=ha cpos pins s1 σ H1 _ I1 q1
 rw [hs] at hA ⊢
 refine Calls.callWith_builtin (by show (false || (backTo cpos (starEach es X.env)).any (·.1))=false;rw [hplain] <;> rfl) (Calls.evalArgs_plain ?_)
 exact cQ hA fun us s2 ⟨vs,H2,I2,r2,q2⟩=>hm pins s2 σ H2 x vs v us Q I2 r1 r2 q2
end
end L2
namespace L2
open PySem PySem.Spec PyProof.Rows
def J7 (X:Cx) (id:String) (r:V->List V->Hp->VK->Prop):Prop:=
 ∀ (pins:List (Addr × Obj)) (s:Shared) (σ:St) (H:Hp) (x:V) (xs:List V) (v:Value) (us:List Value) (Q:VK),aV X pins σ H s->bL x v->ba xs us->r x xs H Q ->
  wpAny (model X.prog X.w) X.A (call (.builtin id) (v::us)) (EP X pins σ Q) X.xe s
theorem ba.one:∀ {x:V}{us:List Value},ba [x] us->∃ u,us=[u]/\bL x u
 | _,_,.cons r .nil=>⟨_,rfl,r⟩
theorem ba.reverse {xs:List V}{us:List Value} (h:ba xs us):ba xs.reverse us.reverse:=by
 induction h with
 | nil=>exact .nil
 | cons r t ih=>rw [Nj,Nj];exact ba.append ih (.cons r .nil)
theorem ba.rep {xs:List V}{us:List Value} (h:ba xs us):∀ k:Nat,ba (List.replicate k xs).flatten (List.replicate k us).flatten
 | 0=>.nil
 | k+1=>by
  rw [Nk,Nk,Nl,Nl]
  exact ba.append h (ba.rep h k)
theorem rG (its:List Value):∀ (k:Nat) (acc:List Value),
  List.foldl (fun x1 x2=>x1++x2) acc.toArray (List.replicate k its.toArray)=(acc++(List.replicate k its).flatten).toArray
 | 0,acc=>by simp
 | k+1,acc=>by
  have e:acc.toArray++its.toArray=(acc++its).toArray:=by simp
  have e2:(acc++its)++(List.replicate k its).flatten=acc++(List.replicate (k+1) its).flatten:=by
   rw [Nk,Nl,Np]
  rw [<- e2,<- rG its k (acc++its),<- e,Nk,Nq]
section
variable {X:Cx}{pins:List (Addr × Obj)}{σ:St}{H:Hp}{s:Shared}{l b:Addr}{xs ys zs:List V}
theorem aV.lset {its its':List Value}{n:Nat}{f:Array Value->Array Value}{t':Nat} (I:aV X pins σ H s) (hH:H l=some (.lst xs))
  (e:s.heap.get? l=some { cls:=.type "list",data:=.seq its.toArray n }) (hf:f its.toArray=its'.toArray) (hv:ba ys its') (hz:ys.length<=sizeLine) :
  aV X pins σ (cI H l (.lst ys)) { s with heap:=s.heap.update l (Obj.mapSeq f),toks:=t' }:=by
 have q:=PySem.IsL.update e f
 rw [hf] at q
 refine I.write (x:=l) (e:=l) (by rw [hH];exact trivial) (.inl rfl) (fun b' u hb hu=>(Heap.get?_update_other s.heap (Obj.mapSeq f) (LI hb)).trans hu) ⟨_,q⟩ ?_
 exact ⟨hz,its',_,hv,q⟩
theorem aV.lnew {its:List Value}{t':Nat} (I:aV X pins σ H s) (hv:ba ys its) (hz:ys.length<=sizeLine) :
  aV X pins σ (cI H s.heap.objs.size (.lst ys)) { s with heap:=s.heap.push { cls:=.type "list",data:=.seq its.toArray },toks:=t' }:=
 I.laid (fun _ _ q=>L7 _ q) (L9 _) ⟨hz,its,0,hv,L8 _ rfl⟩
theorem aV.fresh (I:aV X pins σ H s):H s.heap.objs.size=none:=I.hok.fresh (L9 _)
theorem aV.lstM (I:aV X pins σ H s) (hH:H l=some (.lst xs)):xs.length<=sizeLine/\∃ (its:List Value) (n:Nat),ba xs its/\xs.length=its.length/\s.heap.get? l=some { cls:=.type "list",data:=.seq its.toArray n }:=by
 obtain ⟨z,its,n,r,e⟩:=I.hok l _ hH
 exact ⟨z,its,n,r,r.length,e⟩
theorem pI {n:Nat} (h:n<=sizeLine):Builtin.List.listTooLong n=false:=by
 unfold Builtin.List.listTooLong
 exact Lm (by omega)
end
section
variable {X:Cx}
def xG:V->List V->Hp->VK->Prop:=fun x vs H Q=>∃ l xs y,x=.ref l/\vs=[y]/\H l=some (.lst xs)/\xs.length<sizeLine/\Q .non (cI H l (.lst (xs++[y])))
theorem rk:J7 X "list.append" xG:=by
 intro pins s σ H x vs v us Q I rx rv h
 obtain ⟨l,xs,y,rfl,rfl,hH,hz,q⟩:=h
 cases rx
 obtain ⟨u,rfl,ru⟩:=rv.one
 obtain ⟨z,its,n,r,hl,e⟩:=I.lstM hH
 refine Nr F.slot_list_append ⟨_,e,rfl⟩ F.entry_list_append (F.args_list_append_2 _ _) (PySem.list_append l its.toArray n u (by rw [Mf];omega)) ⟨e,?_⟩
 refine ⟨.non,_,I.lset (its':=its++[u]) hH e (by simp) (r.append (.cons ru .nil)) ?_,rfl,q⟩
 rw [Mv,Nt]
 omega
def xF:V->List V->Hp->VK->Prop:=fun x vs H Q=>∃ l b xs zs,x=.ref l/\vs=[.ref b]/\H l=some (.lst xs)/\H b=some (.lst zs)/\xs.length+zs.length<=sizeLine/\Q .non (cI H l (.lst (xs++zs)))
theorem yX:J7 X "list.extend" xF:=by
 intro pins s σ H x vs v us Q I rx rv h
 obtain ⟨l,b,xs,zs,rfl,rfl,hH,hB,hz,q⟩:=h
 cases rx
 obtain ⟨u,rfl,ru⟩:=rv.one
 cases ru
 obtain ⟨z,its,n,r,hl,e⟩:=I.lstM hH
 obtain ⟨z2,its2,n2,r2,hl2,e2⟩:=I.lstM hB
 have hsz:its.toArray.size+its2.toArray.size<=sizeLine:=by rw [Mf,Mf];omega
 have hlong:¬ (!its.toArray.isEmpty && Builtin.List.listTooLong (its.toArray.size+its2.toArray.size))=true:=by
  rw [pI hsz,Nu]
  exact LZ
 refine Nr F.slot_list_extend ⟨_,e,rfl⟩ F.entry_list_extend (F.args_list_extend_2 _ _)
  (AutoSeq1.list_extend_list_list_0 l its.toArray n b its2.toArray n2 hlong (by rw [Mf];omega) (by omega)) ⟨e,e2,?_⟩
 refine ⟨.non,_,I.lset (its':=its++its2) hH e (by simp) (r.append r2) ?_,rfl,q⟩
 rw [Mv]
 omega
def II:R2:=fun x y H Q=>∃ l b xs zs,x=.ref l/\y=.ref b/\H l=some (.lst xs)/\H b=some (.lst zs)/\xs.length+zs.length<=sizeLine/\∀ p,H p=none->Q (.ref p) (cI H p (.lst (xs++zs)))
theorem G3:gS X (binaryOp .Add) II:=by
 intro pins s σ H x y v u Q I rx ry h
 obtain ⟨l,b,xs,zs,rfl,rfl,hH,hB,hz,q⟩:=h
 cases rx
 cases ry
 obtain ⟨z,its,n,r,hl,e⟩:=I.lstM hH
 obtain ⟨z2,its2,n2,r2,hl2,e2⟩:=I.lstM hB
 refine PySem.P.add_list e e2 ?_ (by rw [Mf,Mf];omega)
 have ea:its.toArray++its2.toArray=(its++its2).toArray:=by simp
 rw [ea]
 exact ⟨.ref _,_,I.lnew (t':=s.toks) (r.append r2) (by rw [Mv];omega),rfl,q _ I.fresh⟩
def IC:R2:=fun x y H Q=>∃ l k xs,x=.ref l/\y=.int k/\H l=some (.lst xs)/\-(2 ^ 63)<=k/\k<2 ^ 63/\xs.length * k.toNat<=sizeLine /\
 ∀ p,H p=none->Q (.ref p) (cI H p (.lst (List.replicate k.toNat xs).flatten))
theorem D7 {α:Type} (xs:List α) (k:Nat):(List.replicate k xs).flatten.length=k * xs.length:=by
 induction k with
 | zero=>simp
 | succ k ih=>rw [Nk,Nl,Mv,ih,Nv,Nx]
theorem GU:gS X (binaryOp .Mult) IC:=by
 intro pins s σ H x y v u Q I rx ry h
 obtain ⟨l,k,xs,rfl,rfl,hH,h1,h2,hz,q⟩:=h
 cases rx
 obtain ⟨t,rfl⟩:=ry
 obtain ⟨z,its,n,r,hl,e⟩:=I.lstM hH
 have hlen:its.toArray.size * k.toNat<=sizeLine:=by rw [Mf,<- hl];exact hz
 have hcap:¬ its.toArray.size * k.toNat > (2 ^ 63 - 1) / 8:=by
  have:(sizeLine:Nat)<=(2 ^ 63 - 1) / 8:=by decide
  omega
 have hfit:¬ (!Builtin.List.listFitsIndex k)=true:=by
  rw [fitsIndex_both h1 h2]
  exact LZ
 have hlong:¬ Builtin.List.listTooLong (its.toArray.size * k.toNat)=true:=by
  rw [pI hlen]
  exact LZ
 have hnew:List.foldl (fun x1 x2=>x1++x2) #[] (List.replicate (if its.toArray.isEmpty=true then 0 else k.toNat) its.toArray)=(List.replicate k.toNat its).flatten.toArray:=by
  have f0:∀ m:Nat,List.foldl (fun x1 x2=>x1++x2) #[] (List.replicate m its.toArray)=(List.replicate m its).flatten.toArray:=fun m=>by
   have:=rG its m []
   rw [Ny] at this
   exact this
  rw [f0]
  cases its with
  | nil=>simp
  | cons a r'=>rw [Lq (by simp)]
 refine wpAny_binaryOp_repeat_ref (T:="list") (U:="int") (by decide) ⟨_,e,rfl⟩ (fun s'=>typeIs_int s' k t) noFill_list_mul F.fills_int_mul F.slot_int_rmul repeat_list F.slot_int_index.lookup
  (Nr F.slot_int_rmul (typeIs_int s k t) F.entry_int_rmul (F.args_int_rmul_2 _ _) (int___rmul___int_list k t l its.toArray n)
   ⟨e,rfl,⟨_,e,rfl⟩,Nr F.slot_list_mul ⟨_,e,rfl⟩ F.entry_list_mul (F.args_list_mul_2 _ _) (AutoListH.list___mul___list_int_3 l its.toArray n k t hfit hcap hlong) ⟨e,?_⟩⟩)
 rw [hnew]
 exact ⟨.ref _,_,I.lnew (t':=s.toks) (r.rep k.toNat) (by rw [D7,Nat.mul_comm];exact hz),rfl,q _ I.fresh⟩
end
section
variable {prog:Program}{w:World}{A:Around}{E:Value->Shared->Prop}{s:Shared}
end
section
variable {X:Cx}
end
end L2
namespace Att
open PySem PySem.W PySem.Calls PyProof.Rows
theorem nZ {P:Params}{h:Heap}:∀ (ns:List Int) (vs:List Value),WellAll P h vs (ns.map WData.int)->IntsAre vs ns:=by
 intro ns
 induction ns with
 | nil=>
  intro vs w
  rw [Na] at w
  cases w
  exact .nil
 | cons n ns ih=>
  intro vs w
  rw [Nb] at w
  cases w with
  | cons a b=>
   cases a
   exact .cons _ _ (ih _ b)
theorem yE {l:OpenLaw}{n:Nat} (hn:l.most=some n) {P:Params}{h:Heap}{args:List WData}{vals:List Value}
  (hpre:l.row.toRowW.claim.pre args=true) (hwl:WellAll P h vals args) :
  ∃ a vs ns,vals=[Value.ref a]/\args=[WData.list (ns.map WData.int)]/\h.get? a=some { cls:=.type "list",data:=.seq vs.toArray }/\IntsAre vs ns/\ns.length<=n:=by
 have hsh:WShape.hasAll [] args [.list .int]=true:=(pre_splitW hpre).1
 have hc:l.pre.holds [] { args:=args }=true:=(pre_splitW hpre).2
 obtain ⟨d,r,rfl,h1,h2⟩:=hasAllW_cons hsh
 obtain rfl:=hasAllW_nil h2
 obtain ⟨xs,rfl,h3⟩:=hasW_list h1
 obtain ⟨ns,rfl⟩:=items_int h3
 have hlen:ns.length<=n:=by
  unfold OpenLaw.pre at hc
  have h4:(WTm.not (.lt (.lit (.int (n:Int))) (.len (.arg 0)))).holds [] { args:=[.list (ns.map .int)] }=true:=by
   have h4:=(holds_andW hc).1
   rw [hn] at h4
   exact h4
  have h5:=condW_of h4 (w_not (w_lt w_lit (w_len_list (w_arg rfl))))
  rw [Mw] at h5
  refine Nat.le_of_not_lt fun q=>?_
  have q':(n:Int)<((ns.length:Nat):Int):=by omega
  first
   | (rw [Nz q'] at h5;exact absurd h5 (by decide))
   | (simp at h5;omega)
 cases hwl with
 | cons w1 w2=>
  cases w2
  cases w1 with
  | list ho hall=>exact ⟨_,_,ns,rfl,rfl,ho,nZ ns _ hall,hlen⟩
theorem yK (l:OpenLaw) (args:List WData):l.row.toRowW.claim.post args (.bool true) args=true:=
 postW_of (r:=l.row.toRowW) (X:=(true == true))
  (show WShape.has [] (.bool true) .bool=true by first | rfl | decide | simp [WShape.has,WShape.arms,WShape.armsAll])
  (show (WTm.eq .res (.lit (.bool true))).value [] { args:=args,res:=some (.bool true),after:=args }=some (.bool (true == true)) from w_eq_bool (w_res rfl) w_lit) rfl
theorem attach_call {l:OpenLaw}{n:Nat}{q:Program}{loose:List Str}{XP:(Str->Option Value)->Heap->Prop}{YP:World->Heap->Prop}{d:DefRec}
  (hn:l.most=some n) (hdf:d.params.defaults=[])
  (call : ∀ (w : World) (s₀ s₁ : Shared) (mg mb : Str -> Option Value) (fa : Addr) (o : Obj) (pm cd doc : Value) (a : Addr) (vs : List Value) (ns : List Int),
   Ground q loose [] XP w s₀ mg mb s₁.heap->YP w s₁.heap ->
   s₁.heap.get? fa=some o->o.data=.func (docDef d.name d.params d.body d.scope pm cd doc)->s₁.heap.CodeRec cd d.name->mg d.name=some (.ref fa) ->
   s₁.heap.get? a=some { cls:=.type "list",data:=.seq vs.toArray }->IntsAre vs ns->ns.length<=n->s₁.gens=#[] ->
   codeAny (model l.prog w) callerA (.call (.ref fa) ⟨[.ref a],[]⟩) (fun r s'=>r=.ok (.ret (.bool true))/\OldK s₁.heap s'.heap/\s'.os=s₁.os/\AllBare s'.gens) s₁) :
  WalkO q loose XP YP l.row.toRowW d [] (fun f vs=>PySem.call f vs):=by
 intro w s₀ s₁ mg mb G Y fa o pm cd doc dV kV ho hd hcd hD hmg hg args vals as hpre hlay hrd hwl hlo
 obtain rfl:dV=.none:=Dflts.none hD hdf
 obtain rfl:kV=.none:=Dflts.noKw hD
 obtain ⟨a,vs,ns,rfl,rfl,hobj,hints,hlen⟩:=yE hn hpre hwl
 refine enter_call (Mh (call w s₀ s₁ mg mb fa o pm cd doc a vs ns G Y ho (fd_plain hd) hcd hmg hobj hints hlen hg) fun r s' hq=>?_)
 obtain ⟨rfl,h2,h3,h4⟩:=hq
 exact ⟨.inl ⟨.bool true,.bool true,[],rfl,fun _=>rfl,.bool true,yK l _,fun _=>⟨List.Pairwise.nil,fun _ hm=>(nomatch hm)⟩⟩,h2,h3,h4⟩
section
variable {prog:Program}{w:World}{A:Around}{E:Value->Shared->Prop}{s:Shared}{K:Frag}
end
end Att
namespace L2
open PySem PySem.Spec PyProof.Rows
theorem qS:∀ {vs:List Value}{ns:List Int},IntsAre vs ns->ba (ns.map V.int) vs
 | _,_,.nil=>.nil
 | _,_,.cons n t h=>.cons ⟨t,rfl⟩ (qS h)
def Cy (H:Hp):Prop:=∀ b,H b=none\/∃ o xs,H b=some (.frz o (.lst xs))
theorem BQ {P:Program}{w:World}{K:W.Frag}{mg mb:Str->Option Value}{CX:tK}{k:Nat}{fa a:Addr}{fd:FuncData}{x:Str}{sp:Sp}{s₁:Shared}{vs:List Value}{ns:List Int}
  (KX:K.In s₁.heap) (hns:s₁.heap.Ns mainGlobals mg) (hb:s₁.heap.Ns builtinsNs mb) (hbb:∀ x:Str,x ≠ "__name__" -> mb x=bootBuiltins x) (hlim:s₁.heap.NoLimit) (hg:s₁.gens=#[])
  (ha:s₁.heap.get? a=some { cls:=.type "list",data:=.seq vs.toArray }) (hi:IntsAre vs ns) (hl:ns.length<=sizeLine) (hr:fX k callerA)
  (F:∀ base:Heap,K.In base->base.Ns mainGlobals mg->oN P w K mg base CX k fa fd [x] sp) (hbind:∀ (s:Shared) (u:Value),BindsTo s fd ⟨[u],[]⟩ [(x,u)])
  (hsp:∀ H:Hp,Cy H->f7 K H a (ns.map V.int)->sp [.ref a] H (fun v _=>v=.bl true) fun _ _ _=>False)
  (hCX:∀ H e s',CX [] H s₁ (fun _ _ _=>False) e s'->False) :
  codeAny (model P w) callerA (.call (.ref fa) ⟨[.ref a],[]⟩) (fun r s'=>r=.ok (.ret (.bool true))/\OldK s₁.heap s'.heap/\s'.os=s₁.os/\AllBare s'.gens) s₁:=by
 have rv:=qS hi
 have lenV:=hi.length
 have core:∀ H:Hp,Cy H->f7 K H a (ns.map V.int)->mx P w H s₁.heap->(∀ b,H b≠none->b=a)->(H a≠none->K.lookup a=none) ->
   codeAny (model P w) callerA (.call (.ref fa) ⟨[.ref a],[]⟩) (fun r s'=>r=.ok (.ret (.bool true))/\OldK s₁.heap s'.heap/\s'.os=s₁.os/\AllBare s'.gens) s₁:=by
  intro H hO hS hok hA hK
  have base_of:∀ {b:Addr}{o:Obj},s₁.heap.get? b=some o->H b=none->(rR s₁.heap H).get? b=some o:=fun e n=>BX e n
  have noA:∀ {b:Addr}{o:Obj}{es:Array DictEntry}{ep:Nat},s₁.heap.get? b=some o->o.data=.dict es ep->H b=none:=fun {b o es ep} e d=>by
   cases q:H b with
   | none=>rfl
   | some u=>
    have e':b=a:=hA b (by rw [q];simp)
    subst e'
    rw [ha] at e;cases e
    have d':Data.seq vs.toArray _=Data.dict es ep:=d
    cases d'
  have nsK:∀ {b:Addr}{m:Str->Option Value},s₁.heap.Ns b m->(rR s₁.heap H).Ns b m:=fun {b m} ⟨o,es,ep,e,d,r⟩=>⟨o,es,ep,base_of e (noA e d),d,r⟩
  have hKb:K.In (rR s₁.heap H):=fun b o e=>base_of (KX b o e) (by
   cases q:H b with
   | none=>rfl
   | some u=>
    have e':b=a:=hA b (by rw [q];simp)
    subst e'
    rw [hK (by rw [q];simp)] at e;cases e)
  have hM:Mod K mg (rR s₁.heap H):=⟨hKb,nsK hns,⟨mb,nsK hb,hbb⟩,let ⟨mc,h1,h2⟩:=hlim;⟨mc,nsK h1,h2⟩⟩
  have e0:ym P w K mg (rR s₁.heap H) callerA [] s₁ H:=⟨rfl,hM,fun b o e=>DT e,Nat.le_of_eq (zc _ _),trivial,fun b hb=>absurd (show b∈([]:List Addr) from hb) (by simp),hok,.of_eq hg⟩
  refine Mh ((F _ hKb (nsK hns)).run callerA [] s₁ H ⟨[.ref a],[]⟩ [.ref a] [.ref a] _ _ hr e0 (hbind s₁ (.ref a)) (.cons rfl .nil) (hsp H hO hS)) fun r s' h=>?_
  cases r with
  | error e=>exact (hCX H e s' h).elim
  | ok fl=>
   cases fl with
   | next=>exact False.elim h
   | brk=>exact False.elim h
   | cont=>exact False.elim h
   | ret u=>
    obtain ⟨v,H',os,bare,un,hok',r',q⟩:=h
    have q':v=.bl true:=q
    subst q'
    obtain rfl:u=Value.bool true:=r'
    refine ⟨rfl,OldK.of_keep fun b o e=>?_,os,bare⟩
    cases q:H b with
    | none=>exact un.keep b o e q (by intro z;exact absurd (show b∈([]:List Addr) from z) (by simp)) (by simp)
    | some u=>
     rcases hO b with z | ⟨ob,xs,z⟩
     ·rw [q] at z;cases z
     ·have z2 := un.frzs b ob _ z
      obtain ⟨e1,_⟩:=hok b _ z
      obtain ⟨e2,_⟩:=hok' b _ z2
      rw [e] at e1;cases e1
      exact e2
 cases hk:K.lookup a with
 | some o=>
  have e:=KX a o hk
  rw [ha] at e
  cases e
  refine core (fun _=>none) (fun _=>.inl rfl) (.inr ⟨_,vs.toArray,_,hk,rfl,rfl,rfl,by rw [Mf,lenV];exact hl,by simpa using rv⟩) (fun b u z=>by have z':(none:Option HO)=some u:=z;cases z') (fun b z=>absurd rfl z) fun z=>absurd rfl z
 | none=>
  refine core (fun b=>if b=a then some (.frz { cls:=.type "list",data:=.seq vs.toArray } (.lst (ns.map V.int))) else none) (fun b=>?_) (.inl (.inr ⟨{ cls:=.type "list",data:=.seq vs.toArray },Lp rfl⟩)) (fun b u z=>?_) (fun b z=>?_) fun _=>hk
  ·by_cases hb : b = a
   ·exact .inr ⟨_,_,Lp hb⟩
   ·exact .inl (Lq hb)
  ·by_cases hb : b = a
   ·have z' := (Lp hb).symm.trans z
    cases z'
    subst hb
    exact ⟨ha,by rw [Mw];exact hl,vs,_,rv,ha⟩
   ·have z' := (Lq hb).symm.trans z
    cases z'
  ·by_cases hb : b = a
   ·exact hb
   ·exact absurd (Lq hb) z
end L2
namespace L2
open PySem PySem.Spec PyProof.Rows
theorem walk_of {l:W.OpenLaw}{n k:Nat}{q:Program}{loose:List Str}{XP:(Str->Option Value)->Heap->Prop}{YP:World->Heap->Prop}{d:DefRec}{K:Params->W.Frag}{CX:World->tK}{sp:World->Sp}{x:Str}
  (hn:l.most=some n) (hn2:n<=sizeLine) (hdf:d.params.defaults=[]) (hr:fX k callerA)
  (hY:∀ (w:World) (h:Heap),YP w h->(K w.params).In h)
  (F : ∀ (w : World) (mg : Str -> Option Value) (fa : Addr) (h : Heap), (K w.params).In h -> h.Ns mainGlobals mg -> mg d.name = some (.ref fa) ->
   ∃ fd:FuncData,(∀ (s:Shared) (u:Value),BindsTo s fd ⟨[u],[]⟩ [(x,u)]) /\
    ∀ base:Heap,(K w.params).In base->base.Ns mainGlobals mg->oN l.prog w (K w.params) mg base (CX w) k fa fd [x] (sp w))
  (hsp:∀ (w:World) (H:Hp) (a:Addr) (ns:List Int),ns.length<=n->Cy H->f7 (K w.params) H a (ns.map V.int)->sp w [.ref a] H (fun v _=>v=.bl true) fun _ _ _=>False)
  (hCX:∀ (w:World) (H:Hp) (s:Shared) (e:Value) (s':Shared),CX w [] H s (fun _ _ _=>False) e s'->False) :
  W.WalkO q loose XP YP l.row.toRowW d [] (fun f vs=>PySem.call f vs):=by
 refine Att.attach_call hn hdf fun w s₀ s₁ mg mb fa o pm cd doc a vs ns G Y ho hd hcd hmg hobj hints hlen hg=>?_
 have KX:=hY w _ Y
 obtain ⟨fd,hb,hF⟩:=F w mg fa _ KX G.T.g hmg
 exact BQ KX G.T.g G.T.b G.T.builtins G.T.nolimit hg hobj hints (LB hlen hn2) hr hF hb (fun H hO hS=>hsp w H a ns hlen hO hS) fun H e s'=>hCX w H s₁ e s'
end L2
namespace L2
open PySem PySem.Spec PyProof.Rows
def dW (s:Stmt):Arguments:=match s with
 | .FunctionDef _ a _ _ _ _ _ _ _ _=>a
 | _=>{ posonlyargs:=[],args:=[],vararg:=none,kwonlyargs:=[],kw_defaults:=[],kwarg:=none,defaults:=[] }
def bR (s:Stmt):List Stmt:=match s with
 | .FunctionDef _ _ b _ _ _ _ _ _ _=>b
 | _=>[]
def av (s:Stmt):Scope:=match s with
 | .FunctionDef _ _ _ _ _ _ sc _ _ _=>sc
 | _=>{ kind:=.function,names:=[],isGenerator:=false,isCoroutine:=false }
abbrev vQ:tK:=fun _ _ _ _ _ _=>False
abbrev E0:XK:=fun _ _ _=>False
theorem Ae {X:Cx}:jW vQ X E0:=fun _ _ _ _ _ _ _ h=>h.elim
structure gT (K:W.Frag) (x qual:Str) (st:Stmt) (f:Addr) (fd:FuncData):Prop where
 ex:∃ (oc:Value) (od:Option Addr) (kV doc pm:Value) (an:Option Addr) (cdv ct:Value) (osl:Array (Option Value)),
  fd=W.fnOf x qual (dW st) (bR st) (av st) .none kV doc pm an cdv ct/\K.lookup f=some ⟨oc,od,.func fd,osl⟩/\W.codeIn K cdv qual=true
 kp:W.keepIn K (.ref f)=true
section
variable {P:Program}{w:World}{K:W.Frag}{mg:Str->Option Value}{base:Heap}
theorem gT.ok {x qual:Str}{st:Stmt}{f:Addr}{fd:FuncData}{N ps:List Str}{k:Nat}{sp:Sp} (F:gT K x qual st f fd) (S:aU N ps (av st)) (len:∀ vs H Q E,sp vs H Q E->vs.length=ps.length)
  (hbody : ∀ (cdv : Value) (A : Around) (outer : List Env) (s : Shared) (H : Hp) (vs : List V) (Q : VK) (E : XK), fX k (A.deeper (envOfC qual (av st) s.heap.objs.size f cdv)) -> sp vs H Q E ->
   ∃ t,iU (oJ vQ P w K mg base N qual (av st) f cdv A outer s H E).nox (bR st) t/\t { nx:=fun _ H'=>Q .non H',rt:=Q } (start N vs) H):oN P w K mg base vQ (k+1) f fd ps sp:=by
 obtain ⟨oc,od,kV,doc,pm,an,cdv,ct,osl,rfl,lk,hcd⟩:=F.ex
 refine EZ lk hcd S len fun A outer s H vs Q E hr hsp=>?_
 obtain ⟨t,h,q⟩:=hbody cdv A outer s H vs Q E hr hsp
 exact ⟨t,h.nox,q⟩
theorem gT.binds {x qual:Str}{st:Stmt}{f:Addr}{fd:FuncData}{ps:List Str} (F:gT K x qual st f fd)
  (h:∀ (kV doc pm:Value) (an:Option Addr) (cdv ct:Value) (us:List Value),us.length=ps.length->bindArgs (W.fnOf x qual (dW st) (bR st) (av st) .none kV doc pm an cdv ct) ⟨us,[]⟩=pure (ps.zip us)):gP K fd ps []:=by
 obtain ⟨oc,od,kV,doc,pm,an,cdv,ct,osl,rfl,lk,hcd⟩:=F.ex
 exact .all (h kV doc pm an cdv ct)
theorem HP {x qual:Str}{st:Stmt}{f:Addr}{oc:Value}{od an:Option Addr}{osl:Array (Option Value)}{kV doc pm cdv ct:Value} (l:K.lookup f=some ⟨oc,od,.func (W.fnOf x qual (dW st) (bR st) (av st) .none kV doc pm an cdv ct),osl⟩)
  (c:W.codeIn K cdv qual=true) (k:W.keepIn K (.ref f)=true):gT K x qual st f (W.fnOf x qual (dW st) (bR st) (av st) .none kV doc pm an cdv ct):=⟨⟨oc,od,kV,doc,pm,an,cdv,ct,osl,rfl,l,c⟩,k⟩
end
section
variable {X:Cx}
end
theorem KB {A B:Prop} (h:B):if false=true then A else B:=by
 rw [Lq LZ]
 exact h
theorem KA {A B:Prop} (h:A):if true=true then A else B:=by
 rw [Lp rfl]
 exact h
end L2
namespace Lw
open PySem PySem.Spec PyProof.Rows L2
def top (i:Nat):Stmt:=PySem.Challenge.pw_rootwebs_k54_roots_by_looked_at.main.body.getD i (.Pass ⟨0,0,0,0⟩)
abbrev iP:Stmt:=top 11
abbrev d3:Stmt:=top 12
abbrev iQ:Stmt:=top 13
abbrev fP:Stmt:=top 14
abbrev fO:Stmt:=top 15
abbrev jq:Stmt:=top 20
abbrev jo:Stmt:=top 23
abbrev kB:Stmt:=top 22
abbrev iz:Stmt:=top 21
abbrev iO:Stmt:=top 19
abbrev cM:Stmt:=top 25
abbrev fQ:Stmt:=top 24
abbrev fN:Stmt:=top 26
abbrev iR:Stmt:=top 29
abbrev eU:Stmt:=top 30
abbrev eX:Stmt:=top 32
abbrev h7:Stmt:=top 33
abbrev fR:Stmt:=top 34
abbrev ia:Stmt:=top 35
abbrev gC:Stmt:=top 36
abbrev eV:Stmt:=top 37
abbrev dO:Stmt:=top 38
abbrev cD:Stmt:=top 39
abbrev c9:Stmt:=top 40
abbrev cN:Stmt:=top 41
abbrev dc:Stmt:=top 42
abbrev d4:Stmt:=top 43
abbrev d5:Stmt:=top 44
abbrev cO:Stmt:=top 45
abbrev hZ:Stmt:=top 46
abbrev eN:Stmt:=top 47
abbrev gD:Stmt:=top 48
abbrev kX:Stmt:=top 49
noncomputable def en (P:Params) (n:Str) (t:Tok) (v:Value):DictEntry:=⟨PyData.keyHash P n,.str n t,v⟩
noncomputable def fo (n:Str) (st:Stmt) (m:Str) (t:Tok) (c:Addr):Obj:=⟨.type "function",none,.func (W.fnOf n n (dW st) (bR st) (av st) .none .none .none (.str m t) none (.ref c) .none),#[]⟩
noncomputable def co (n:Str) (t:Tok) (l k i:Int) (a:Addr) (p:Bool) (u:Nat):Obj:=⟨.type "code",none,.fields #[.str n t,.str n (t+1),.str "/claim/cut.py" (t+2),.int l 0,.int k 0,.int 0 0,.int 0 0,.int 3 0,.ref a,.bool true,.int i 0,.ref (a+1),.none,bif p then .ref (a+2) else .none,bif p then .ref (a+3) else .none,.ref (bif p then a+4 else a+2),.int u 0,.int l 0,.str "/claim/cut.py" (u+1)],#[]⟩
noncomputable def Kz (P:Params):W.Frag:=[(3,⟨.type "dict",none,.dict #[en P "__name__" 165 (.str "law_rootwebs_k54_roots_by_looked_at" 484),en P "__doc__" 166 .none,en P "__package__" 167 .none,en P "__loader__" 168 (.builtin "__main__.__loader__#opaque"),en P "__spec__" 169 .none,en P "__annotations__" 170 (.ref 6),en P "__builtins__" 171 (.ref 4),en P "__file__" 173 (.str "/claim/cut.py" 172),en P "__cached__" 174 .none,en P "RootError" 206 (.ref 24),en P "NoPlace" 222 (.ref 37),en P "NoNumber" 238 (.ref 49),en P "NoLine" 254 (.ref 61),en P "NoRoot" 270 (.ref 73),en P "NoTree" 286 (.ref 85),en P "NoWeb" 311 (.ref 104),en P "NoText" 336 (.ref 123),en P "TooGreat" 363 (.ref 142),en P "is_whole" 372 (.ref 151),en P "is_whole_from" 381 (.ref 158),en P "is_place" 389 (.ref 165),en P "is_places" 395 (.ref 170),en P "is_rising" 401 (.ref 175),en P "MOST_PLACES" 405 (.int 6 404),en P "MOST_STEPS" 407 (.int 6 406),en P "web_good" 416 (.ref 182),en P "is_many" 423 (.ref 189),en P "is_ties" 429 (.ref 194),en P "is_tie" 437 (.ref 201),en P "is_pair" 445 (.ref 208),en P "fars_from" 451 (.ref 213),en P "next_places" 457 (.ref 218),en P "steps_web" 463 (.ref 223),en P "MOST_BY" 467 (.int 5 466),en P "check_by" 474 (.ref 230),en P "root_by_good" 483 (.ref 237),en P "_law_cell_at" 493 (.ref 244),en P "_law_next" 500 (.ref 251),en P "_law_pen_of" 508 (.ref 258),en P "_law_draw" 517 (.ref 265),en P "_law_whole" 524 (.ref 272),en P "_law_kind_of" 532 (.ref 279),en P "_law_web_of" 538 (.ref 284),en P "_law_drawn_web" 544 (.ref 289),en P "_law_near_of" 550 (.ref 294),en P "_law_two_step" 556 (.ref 299),en P "_law_any_web" 562 (.ref 304),en P "_law_web_like" 571 (.ref 311),en P "_law_bent_web" 587 (.ref 318),en P "_law_reach_of" 593 (.ref 323),en P "_law_told" 603 (.ref 330),en P "_law_steps" 609 (.ref 335),en P "_law_right" 621 (.ref 342),en P "law" 635 (.ref 349)] 54,#[]⟩),
 (23,⟨.type "dict",none,.dict #[en P "__module__" 196 (.str "rootwebs.errors" 187),en P "__firstlineno__" 200 (.int 2 199),en P "__static_attributes__" 201 (.ref 22),en P "__weakref__" 203 (.ref 25),en P "__doc__" 204 .none] 3,#[]⟩),
 (24,⟨.type "type",none,.cls ⟨"RootError",[(.type "ValueError")],[(.ref 24),(.type "ValueError"),(.type "Exception"),(.type "BaseException"),(.type "object")],23, "RootError",true,[],[(.ref 37),(.ref 49),(.ref 61),(.ref 73),(.ref 85),(.ref 104),(.ref 123),(.ref 142)],false,none,false⟩,#[some (.ref 15),none,some (.str "RootError" 189),some (.str "RootError" 197),some (.builtin "ValueError.__new__"),some (.bool true)]⟩),
 (36,⟨.type "dict",none,.dict #[en P "__module__" 214 (.str "rootwebs.errors" 187),en P "__firstlineno__" 218 (.int 4 217),en P "__static_attributes__" 219 (.ref 35),en P "__doc__" 220 .none] 2,#[]⟩),
 (37,⟨.type "type",none,.cls ⟨"NoPlace",[(.ref 24)],[(.ref 37),(.ref 24),(.type "ValueError"),(.type "Exception"),(.type "BaseException"),(.type "object")],36, "NoPlace",true,[],[],false,none,false⟩,#[some (.ref 28),none,some (.str "NoPlace" 207),some (.str "NoPlace" 215),some (.builtin "ValueError.__new__"),some (.bool true)]⟩),
 (48,⟨.type "dict",none,.dict #[en P "__module__" 230 (.str "rootwebs.errors" 187),en P "__firstlineno__" 234 (.int 6 233),en P "__static_attributes__" 235 (.ref 47),en P "__doc__" 236 .none] 2,#[]⟩),
 (49,⟨.type "type",none,.cls ⟨"NoNumber",[(.ref 24)],[(.ref 49),(.ref 24),(.type "ValueError"),(.type "Exception"),(.type "BaseException"),(.type "object")],48, "NoNumber",true,[],[],false,none,false⟩,#[some (.ref 40),none,some (.str "NoNumber" 223),some (.str "NoNumber" 231),some (.builtin "ValueError.__new__"),some (.bool true)]⟩),
 (60,⟨.type "dict",none,.dict #[en P "__module__" 246 (.str "rootwebs.errors" 187),en P "__firstlineno__" 250 (.int 8 249),en P "__static_attributes__" 251 (.ref 59),en P "__doc__" 252 .none] 2,#[]⟩),
 (61,⟨.type "type",none,.cls ⟨"NoLine",[(.ref 24)],[(.ref 61),(.ref 24),(.type "ValueError"),(.type "Exception"),(.type "BaseException"),(.type "object")],60, "NoLine",true,[],[],false,none,false⟩,#[some (.ref 52),none,some (.str "NoLine" 239),some (.str "NoLine" 247),some (.builtin "ValueError.__new__"),some (.bool true)]⟩),
 (72,⟨.type "dict",none,.dict #[en P "__module__" 262 (.str "rootwebs.errors" 187),en P "__firstlineno__" 266 (.int 10 265),en P "__static_attributes__" 267 (.ref 71),en P "__doc__" 268 .none] 2,#[]⟩),
 (73,⟨.type "type",none,.cls ⟨"NoRoot",[(.ref 24)],[(.ref 73),(.ref 24),(.type "ValueError"),(.type "Exception"),(.type "BaseException"),(.type "object")],72, "NoRoot",true,[],[],false,none,false⟩,#[some (.ref 64),none,some (.str "NoRoot" 255),some (.str "NoRoot" 263),some (.builtin "ValueError.__new__"),some (.bool true)]⟩),
 (84,⟨.type "dict",none,.dict #[en P "__module__" 278 (.str "rootwebs.errors" 187),en P "__firstlineno__" 282 (.int 12 281),en P "__static_attributes__" 283 (.ref 83),en P "__doc__" 284 .none] 2,#[]⟩),
 (85,⟨.type "type",none,.cls ⟨"NoTree",[(.ref 24)],[(.ref 85),(.ref 24),(.type "ValueError"),(.type "Exception"),(.type "BaseException"),(.type "object")],84, "NoTree",true,[],[],false,none,false⟩,#[some (.ref 76),none,some (.str "NoTree" 271),some (.str "NoTree" 279),some (.builtin "ValueError.__new__"),some (.bool true)]⟩),
 (103,⟨.type "dict",none,.dict #[en P "__module__" 294 (.str "rootwebs.errors" 187),en P "__firstlineno__" 298 (.int 14 297),en P "__init__" 306 (.ref 101),en P "__static_attributes__" 308 (.ref 102),en P "__doc__" 309 .none] 2,#[]⟩),
 (104,⟨.type "type",none,.cls ⟨"NoWeb",[(.ref 24)],[(.ref 104),(.ref 24),(.type "ValueError"),(.type "Exception"),(.type "BaseException"),(.type "object")],103, "NoWeb",true,[],[],false,none,false⟩,#[some (.ref 88),none,some (.str "NoWeb" 287),some (.str "NoWeb" 295),some (.builtin "ValueError.__new__"),some (.bool true)]⟩),
 (122,⟨.type "dict",none,.dict #[en P "__module__" 319 (.str "rootwebs.errors" 187),en P "__firstlineno__" 323 (.int 18 322),en P "__init__" 331 (.ref 120),en P "__static_attributes__" 333 (.ref 121),en P "__doc__" 334 .none] 2,#[]⟩),
 (123,⟨.type "type",none,.cls ⟨"NoText",[(.ref 24)],[(.ref 123),(.ref 24),(.type "ValueError"),(.type "Exception"),(.type "BaseException"),(.type "object")],122, "NoText",true,[],[],false,none,false⟩,#[some (.ref 107),none,some (.str "NoText" 312),some (.str "NoText" 320),some (.builtin "ValueError.__new__"),some (.bool true)]⟩),
 (141,⟨.type "dict",none,.dict #[en P "__module__" 344 (.str "rootwebs.errors" 187),en P "__firstlineno__" 348 (.int 22 347),en P "__init__" 357 (.ref 139),en P "__static_attributes__" 360 (.ref 140),en P "__doc__" 361 .none] 2,#[]⟩),
 (142,⟨.type "type",none,.cls ⟨"TooGreat",[(.ref 24)],[(.ref 142),(.ref 24),(.type "ValueError"),(.type "Exception"),(.type "BaseException"),(.type "object")],141, "TooGreat",true,[],[],false,none,false⟩,#[some (.ref 126),none,some (.str "TooGreat" 337),some (.str "TooGreat" 345),some (.builtin "ValueError.__new__"),some (.bool true)]⟩),
 (150,co "is_whole" 366 28 1 181 145 true 370),
 (151,fo "is_whole" iP "rootwebs.kinds" 364 150),
 (157,co "is_whole_from" 373 30 3 181 152 true 379),
 (158,fo "is_whole_from" d3 "rootwebs.kinds" 364 157),
 (164,co "is_place" 382 32 2 181 159 true 387),
 (165,fo "is_place" iQ "rootwebs.kinds" 364 164),
 (169,co "is_places" 390 34 2 181 166 false 393),
 (170,fo "is_places" fP "rootwebs.kinds" 364 169),
 (174,co "is_rising" 396 36 1 181 171 false 399),
 (175,fo "is_rising" fO "rootwebs.kinds" 364 174),
 (181,co "web_good" 408 41 1 181 176 true 414),
 (182,fo "web_good" iO "rootwebs.webs" 402 181),
 (188,co "is_many" 417 46 1 181 183 true 421),
 (189,fo "is_many" jq "rootwebs.webs" 402 188),
 (193,co "is_ties" 424 48 2 181 190 false 427),
 (194,fo "is_ties" iz "rootwebs.webs" 402 193),
 (200,co "is_tie" 430 50 2 181 195 true 435),
 (201,fo "is_tie" kB "rootwebs.webs" 402 200),
 (207,co "is_pair" 438 52 2 181 202 true 443),
 (208,fo "is_pair" jo "rootwebs.webs" 402 207),
 (212,co "fars_from" 446 54 2 181 209 false 449),
 (213,fo "fars_from" fQ "rootwebs.webs" 402 212),
 (217,co "next_places" 452 66 2 181 214 false 455),
 (218,fo "next_places" cM "rootwebs.webs" 402 217),
 (222,co "steps_web" 458 68 2 181 219 false 461),
 (223,fo "steps_web" fN "rootwebs.webs" 402 222),
 (229,co "check_by" 468 79 1 181 224 true 472),
 (230,fo "check_by" iR "rootwebs.steps" 464 229),
 (236,co "root_by_good" 475 82 3 181 231 true 481),
 (237,fo "root_by_good" eU "rootwebs.steps" 464 236),
 (243,co "_law_cell_at" 486 86 2 181 238 true 491),
 (244,fo "_law_cell_at" eX "law_rootwebs_k54_roots_by_looked_at" 484 243),
 (250,co "_law_next" 494 90 1 181 245 true 498),
 (251,fo "_law_next" h7 "law_rootwebs_k54_roots_by_looked_at" 484 250),
 (257,co "_law_pen_of" 501 93 1 181 252 true 506),
 (258,fo "_law_pen_of" fR "law_rootwebs_k54_roots_by_looked_at" 484 257),
 (264,co "_law_draw" 509 96 2 181 259 true 515),
 (265,fo "_law_draw" ia "law_rootwebs_k54_roots_by_looked_at" 484 264),
 (271,co "_law_whole" 518 103 1 181 266 true 522),
 (272,fo "_law_whole" gC "law_rootwebs_k54_roots_by_looked_at" 484 271),
 (278,co "_law_kind_of" 525 105 1 181 273 true 530),
 (279,fo "_law_kind_of" eV "law_rootwebs_k54_roots_by_looked_at" 484 278),
 (283,co "_law_web_of" 533 111 2 181 280 false 536),
 (284,fo "_law_web_of" dO "law_rootwebs_k54_roots_by_looked_at" 484 283),
 (288,co "_law_drawn_web" 539 113 2 181 285 false 542),
 (289,fo "_law_drawn_web" cD "law_rootwebs_k54_roots_by_looked_at" 484 288),
 (293,co "_law_near_of" 545 120 2 181 290 false 548),
 (294,fo "_law_near_of" c9 "law_rootwebs_k54_roots_by_looked_at" 484 293),
 (298,co "_law_two_step" 551 122 1 181 295 false 554),
 (299,fo "_law_two_step" cN "law_rootwebs_k54_roots_by_looked_at" 484 298),
 (303,co "_law_any_web" 557 129 2 181 300 false 560),
 (304,fo "_law_any_web" dc "law_rootwebs_k54_roots_by_looked_at" 484 303),
 (310,co "_law_web_like" 563 143 1 181 305 true 569),
 (311,fo "_law_web_like" d4 "law_rootwebs_k54_roots_by_looked_at" 484 310),
 (317,co "_law_bent_web" 572 156 2 181 312 true 585),
 (318,fo "_law_bent_web" d5 "law_rootwebs_k54_roots_by_looked_at" 484 317),
 (322,co "_law_reach_of" 588 166 3 181 319 false 591),
 (323,fo "_law_reach_of" cO "law_rootwebs_k54_roots_by_looked_at" 484 322),
 (329,co "_law_told" 594 175 3 181 324 true 601),
 (330,fo "_law_told" hZ "law_rootwebs_k54_roots_by_looked_at" 484 329),
 (334,co "_law_steps" 604 180 2 181 331 false 607),
 (335,fo "_law_steps" eN "law_rootwebs_k54_roots_by_looked_at" 484 334),
 (341,co "_law_right" 610 186 3 181 336 true 619),
 (342,fo "_law_right" gD "law_rootwebs_k54_roots_by_looked_at" 484 341),
 (348,co "law" 622 191 1 181 343 true 633),
 (349,fo "law" kX "law_rootwebs_k54_roots_by_looked_at" 484 348)]
noncomputable def Qz:Program:=W.view PySem.Challenge.pw_rootwebs_k54_roots_by_looked_at [1,2,3,4,5,6,7,8,9,11,12,13,14,15,17,18,19,20,21,22,23,24,25,26,28,29,30,32,33,34,35,36,37,38,39,40,41,42,43,44,45,46,47,48,49]
noncomputable abbrev Hz:W.Hook:=W.kHook Kz [3,23,24,36,37,48,49,60,61,72,73,84,85,103,104,122,123,141,142,150,151,157,158,164,165,169,170,174,175,181,182,188,189,193,194,200,201,207,208,212,213,217,218,222,223,229,230,236,237,243,244,250,251,257,258,264,265,271,272,278,279,283,284,288,289,293,294,298,299,303,304,310,311,317,318,322,323,329,330,334,335,341,342,348,349] fun _=>by kernel_rfl
theorem Fy:PySem.Challenge.rw_rootwebs_k54_roots_by_looked_at.wellSaid=true:=by kernel_rfl
noncomputable abbrev Xz (s:Shared):Bool:=W.xlAt Qz [] s && W.recOk (W.RowW.records (W.OpenRow.toRowW (W.OpenLaw.row PySem.Challenge.rw_rootwebs_k54_roots_by_looked_at))) s
theorem wA {σ α β γ δ ε:Type _}{o:Option σ} (F:σ->α × β × γ × δ) (G:σ->ε) (g:α × β × γ × δ) (v:ε)
  (h1:o.map (fun s=>(F s).1)=some g.1) (h2:o.map (fun s=>((F s).2.1,(F s).2.2.1))=some (g.2.1,g.2.2.1)) (h3:o.map (fun s=>(F s).2.2.2)=some g.2.2.2)
  (h4:o.map G=some v):o.map (fun s=>(F s,G s))=some (g,v):=by
 cases o with
 | none=>cases h4
 | some s=>
  have e1:(F s).1=g.1:=Lr h1
  have e2:((F s).2.1,(F s).2.2.1)=(g.2.1,g.2.2.1):=Lr h2
  have e3:(F s).2.2.2=g.2.2.2:=Lr h3
  have e4:G s=v:=Lr h4
  have e5:(F s).2.1=g.2.1:=(Prod.mk.inj e2).1
  have e6:(F s).2.2.1=g.2.2.1:=(Prod.mk.inj e2).2
  have e:F s=g:=Prod.ext e1 (Prod.ext e5 (Prod.ext e6 e3))
  show some (F s,G s)=some (g,v)
  rw [e,e4]
theorem CG:∀ w,(W.openEnds PySem.treeTable PySem.Challenge.rw_rootwebs_k54_roots_by_looked_at.row.prog w 6162).map (fun s=>(W.openSeen Qz [] (PySem.importedModules PySem.Challenge.rw_rootwebs_k54_roots_by_looked_at.row.prog.main.body) Xz true s).1)=some (W.openGood Qz []).1:=fun w=>by kernel_rfl
theorem CF:∀ w,(W.openEnds PySem.treeTable PySem.Challenge.rw_rootwebs_k54_roots_by_looked_at.row.prog w 6162).map (fun s=>((W.openSeen Qz [] (PySem.importedModules PySem.Challenge.rw_rootwebs_k54_roots_by_looked_at.row.prog.main.body) Xz true s).2.1,(W.openSeen Qz [] (PySem.importedModules PySem.Challenge.rw_rootwebs_k54_roots_by_looked_at.row.prog.main.body) Xz true s).2.2.1))=some ((W.openGood Qz []).2.1,(W.openGood Qz []).2.2.1):=fun w=>by kernel_rfl
theorem CD:∀ w,(W.openEnds PySem.treeTable PySem.Challenge.rw_rootwebs_k54_roots_by_looked_at.row.prog w 6162).map (fun s=>(W.openSeen Qz [] (PySem.importedModules PySem.Challenge.rw_rootwebs_k54_roots_by_looked_at.row.prog.main.body) Xz true s).2.2.2)=some (W.openGood Qz []).2.2.2:=fun w=>by kernel_rfl
theorem CC:∀ w,(W.openEnds PySem.treeTable PySem.Challenge.rw_rootwebs_k54_roots_by_looked_at.row.prog w 6162).map (W.Hook.obs Hz)=some (W.Hook.val Hz w):=fun w=>by kernel_rfl
theorem Fz:W.LeftO PySem.Challenge.rw_rootwebs_k54_roots_by_looked_at.row.prog Qz [] Xz (W.Hook.obs Hz) (W.Hook.val Hz) 6162:=fun w=>wA (W.openSeen Qz [] (PySem.importedModules PySem.Challenge.rw_rootwebs_k54_roots_by_looked_at.row.prog.main.body) Xz true) (W.Hook.obs Hz) (W.openGood Qz []) (W.Hook.val Hz w) (CG w) (CF w) (CD w) (CC w)
end Lw
namespace L2
open PySem PySem.Spec PyProof.Rows
theorem eY {x:Str}:∀ {names:List (Str × NameKind)}{k:NameKind},names.lookup x=some k->(x,k)∈names
 | [],_,h=>by simp at h
 | (n,j)::r,k,h=>by
  rw [NA] at h
  cases hx:x == n with
  | true=>
   rw [hx] at h
   have e:x=n:=eq_of_beq hx
   cases h
   rw [e];exact LF
  | false=>rw [hx] at h;exact LG _ (eY h)
theorem kc {env:Env}{x:Str}:∀ {names:List (Str × NameKind)},
  (names.map fun (n, k) => if (k == NameKind.free && env.scope.kind == .function && env.kindOf n == some .cell) then (n, NameKind.cell) else (n, k)).lookup x =
   (names.lookup x).map fun k=>if (k == NameKind.free && env.scope.kind == .function && env.kindOf x == some .cell) then NameKind.cell else k
 | []=>rfl
 | (n,k)::r=>by
  have ih:=kc (env:=env) (x:=x) (names:=r)
  rw [Nb]
  show List.lookup x ((if (k == NameKind.free && env.scope.kind == .function && env.kindOf n == some .cell)=true then (n,NameKind.cell) else (n,k))::_)=_
  cases hx:x == n with
  | true=>
   have e:x=n:=eq_of_beq hx
   subst e
   by_cases hc:(k == NameKind.free && env.scope.kind == .function && env.kindOf x == some .cell)=true
   ·rw [Lp hc,NA,hx,NA,hx];show some NameKind.cell=some (if _ then _ else _);rw [Lp hc]
   ·rw [Lq hc,NA,hx,NA,hx];show some k=some (if _ then _ else _);rw [Lq hc]
  | false=>
   by_cases hc:(k == NameKind.free && env.scope.kind == .function && env.kindOf n == some .cell)=true
   ·rw [Lp hc,NA,hx,NA,hx];exact ih
   ·rw [Lq hc,NA,hx,NA,hx];exact ih
theorem k9 {env:Env}{f:Str × NameKind->List (Str × Addr)->Sem (ForInStep (List (Str × Addr)))}
  (h1:∀ n c acc,env.cells.lookup n=some c->f (n,.free) acc=pure (.yield ((n,c)::acc))) (h2:∀ n k acc,k≠.free->f (n,k) acc=pure (.yield acc)) :
  ∀ (names:List (Str × NameKind)) (acc:List (Str × Addr)),(∀ y∈names,y.2=.free->∃ c,env.cells.lookup y.1=some c)->(∀ x c,acc.lookup x=some c->env.cells.lookup x=some c) ->
   ∃ cl,forIn names acc f=(pure cl:Sem (List (Str × Addr)))/\(∀ x c,cl.lookup x=some c->env.cells.lookup x=some c)/\(∀ x,(acc.lookup x).isSome=true->(cl.lookup x).isSome=true)/\(∀ y∈names,y.2=.free->(cl.lookup y.1).isSome=true)
 | [],acc,_,ha=>⟨acc,rfl,ha,fun _ h=>h,fun y hy=>by simp at hy⟩
 | (n,k)::r,acc,hn,ha=>by
  by_cases hk:k=.free
  ·subst hk
   obtain ⟨c,hc⟩:=hn (n,.free) LF rfl
   obtain ⟨cl,e1,e2,e3,e4⟩:=k9 h1 h2 r ((n,c)::acc) (fun y hy=>hn y (LG _ hy)) (fun x d h=>by
    rw [NA] at h
    cases hx:x == n with
    | true=>rw [hx] at h;cases h;rw [eq_of_beq hx];exact hc
    | false=>rw [hx] at h;exact ha x d h)
   refine ⟨cl,?_,e2,fun x h=>e3 x ?_,fun y hy hf=>?_⟩
   ·rw [List.forIn_cons,h1 n c acc hc];exact e1
   ·rw [NA];cases hx:x == n <;> simp [h]
   ·rcases LH.mp hy with z | z
    ·subst z;exact e3 n (by simp [NA])
    ·exact e4 y z hf
  ·obtain ⟨cl, e1, e2, e3, e4⟩ := k9 h1 h2 r acc (fun y hy => hn y (LG _ hy)) ha
   refine ⟨cl,?_,e2,e3,fun y hy hf=>?_⟩
   ·rw [List.forIn_cons,h2 n k acc hk];exact e1
   ·rcases LH.mp hy with z | z
    ·subst z;exact absurd hf hk
    ·exact e4 y z hf
theorem vF {env:Env}{n:Str}{c:Addr} (h:env.cells.lookup n=some c):cellOf env n=pure c:=by
 unfold cellOf;rw [h]
def xp (env:Env) (x:Str × NameKind) (r:List (Str × Addr)):Sem (ForInStep (List (Str × Addr))):=
 match x with | (name,kind)=>if kind == .free then do let c <- cellOf env name;pure (.yield ((name,c)::r)) else pure (.yield r)
theorem w9 {scope:Scope}{env:Env} (hn:∀ y∈scope.names,y.2=.free->∃ c,env.cells.lookup y.1=some c) :
  ∃ cl,closureFor scope env=pure cl/\(∀ x c,cl.lookup x=some c->env.cells.lookup x=some c)/\(∀ y∈scope.names,y.2=.free->(cl.lookup y.1).isSome=true):=by
 obtain ⟨cl,e1,e2,_,e4⟩:=k9 (env:=env) (f:=xp env)
  (fun n c acc h=>by unfold xp;simp only [NB,MJ];rw [vF h];rfl)
  (fun n k acc h => by
   unfold xp
   have:(k == NameKind.free)=false:=by simpa using h
   simp only [this,NC,MH]) scope.names [] hn (fun x c h=>by simp at h)
 refine ⟨cl,?_,e2,e4⟩
 show (forIn scope.names [] (xp env) >>= fun s=>pure s)=pure cl
 rw [e1];rfl
def jJ (X:Cx) (Nc:List Str) (scope:Scope) (cl:List (Str × Addr)) (C:Addr) (s:Shared) (H:Hp) (fp:List Addr):Cx where
 prog:=X.prog
 w:=X.w
 K:=X.K
 mg:=X.mg
 base:=X.base
 A:=X.A
 N:=Nc
 s₀:=s
 H₀:=H
 env:=compEnvC scope (cellsFrom (C+1) scope.names cl) C X.env
 outer:=X.stack
 stack:=X.stack
 ex:=fp
 fn:=fun x=>scope.names.lookup x == some .cell
 calm:=X.calm
 pn:=[]
 xe:=fun _ _=>False
def oW (cap:List (Option Nat)) (σ:St):St:=cap.map fun o=>o.bind fun j=>(σ[j]?).join
def f6 (N:List Str) (env:Env) (scope:Scope):List Str->List (Option Nat)->Bool
 | [],[]=>true
 | _::Nc,none::cap=>f6 N env scope Nc cap
 | x::Nc,some j::cap=>(N[j]? == some x) && (scope.names.lookup x == some .free) && f6 N env scope Nc cap
 | _,_=>false
theorem mS {N:List Str}{env:Env}{scope:Scope}:∀ {Nc:List Str}{cap:List (Option Nat)},f6 N env scope Nc cap=true->cap.length=Nc.length
 | [],[],_=>rfl
 | [],_::_,h=>by simp [f6] at h
 | _::_,[],h=>by simp [f6] at h
 | _::Nc,none::cap,h=>by rw [ND,ND,mS (Nc:=Nc) (cap:=cap) h]
 | x::Nc,some j::cap,h=>by
  have h':f6 N env scope Nc cap=true:=by unfold f6 at h;simp only [MY] at h;exact h.2
  rw [ND,ND,mS h']
theorem pP {N:List Str}{env:Env}{scope:Scope}:∀ {Nc:List Str}{cap:List (Option Nat)}{i j:Nat}{x:Str},f6 N env scope Nc cap=true->cap[i]?=some (some j)->Nc[i]?=some x->N[j]?=some x/\scope.names.lookup x=some .free
 | [],_,_,_,_,_,_,e=>by simp at e
 | _::_,[],_,_,_,h,_,_=>by simp [f6] at h
 | y::Nc,none::cap,0,j,x,h,e,_=>by simp at e
 | y::Nc,some k::cap,0,j,x,h,e,e2=>by
  simp at e e2;subst e;subst e2
  unfold f6 at h;simp only [MY] at h
  exact ⟨eq_of_beq h.1.1,eq_of_beq h.1.2⟩
 | y::Nc,none::cap,i+1,j,x,h,e,e2=>pP (Nc:=Nc) (cap:=cap) (i:=i) h (by simpa using e) (by simpa using e2)
 | y::Nc,some k::cap,i+1,j,x,h,e,e2=>by
  have h':f6 N env scope Nc cap=true:=by unfold f6 at h;simp only [MY] at h;exact h.2
  exact pP (Nc:=Nc) (cap:=cap) (i:=i) h' (by simpa using e) (by simpa using e2)
structure cv (N:List Str) (env:Env) (scope:Scope) (Nc:List Str) (cap:List (Option Nat)):Prop where
 kind:scope.kind=.function
 nd:∀ y∈scope.names,scope.names.lookup y.1=some y.2
 free:∀ y∈scope.names,y.2=.free->env.kindOf y.1=some .cell\/env.kindOf y.1=some .free
 cap:f6 N env scope Nc cap=true
theorem kC {n0:Nat}{x:Str}{c:Addr}:∀ {names:List (Str × NameKind)}{cl:List (Str × Addr)}{n:Nat},n0<=n->((x,NameKind.cell)∈names\/∃ c',cl.lookup x=some c'/\n0<=c')->(cellsFrom n names cl).lookup x=some c->n0<=c
 | [],cl,n,_,h,e=>by
  rcases h with z | ⟨c',z1,z2⟩
  ·simp at z
  ·have e' : cl.lookup x = some c := e
   rw [z1] at e';cases e';exact z2
 | (y,k)::r,cl,n,hn,h,e=>by
  unfold cellsFrom at e
  split at e
  ·rename_i hk
   refine kC (n:=n+1) (by omega) ?_ e
   cases hx:x == y with
   | true=>exact .inr ⟨n,by rw [NA,hx],hn⟩
   | false=>
    rcases h with z | ⟨c',z1,z2⟩
    ·rcases LH.mp z with q | q
     ·have : x = y := LS Prod.fst q
      rw [this] at hx;simp at hx
     ·exact .inl q
    ·exact .inr ⟨c',by rw [NA,hx];exact z1,z2⟩
  ·rename_i hk
   refine kC hn ?_ e
   rcases h with z | z
   ·rcases LH.mp z with q | q
    ·have : k = .cell := (LS Prod.snd q).symm
     exact absurd (by rw [this];rfl) hk
    ·exact .inl q
   ·exact .inr z
theorem jd {x:Str}:∀ {names:List (Str × NameKind)}{cl:List (Str × Addr)}{n:Nat},(x,NameKind.cell) ∉ names->(cellsFrom n names cl).lookup x=cl.lookup x
 | [],cl,n,_=>rfl
 | (y,k)::r,cl,n,hn=>by
  unfold cellsFrom
  have hr:(x,NameKind.cell) ∉ r:=fun z=>hn (LG _ z)
  split
  ·rename_i hk
   rw [jd hr,NA]
   cases hx:x == y with
   | true=>exact absurd (by rw [eq_of_beq hx,(eq_of_beq hk:k=.cell)];exact LF) hn
   | false=>rfl
  ·exact jd hr
theorem mR {n0:Nat}:∀ {names:List (Str × NameKind)}{cl:List (Str × Addr)}{n:Nat},n0<=n->(∀ x y c,cl.lookup x=some c->cl.lookup y=some c->n0<=c->x=y)->(∀ x c,cl.lookup x=some c->c<n) ->
  ∀ x y c,(cellsFrom n names cl).lookup x=some c->(cellsFrom n names cl).lookup y=some c->n0<=c->x=y
 | [],cl,n,_,h,_=>h
 | (z,k)::r,cl,n,hn,h,hb=>by
  unfold cellsFrom
  split
  ·refine mR (n := n + 1) (by omega) (fun x y c e1 e2 hc => ?_) (fun x c e => ?_)
   ·rw [NA] at e1 e2
    cases hx:x == z with
    | true=>
     cases hy:y == z with
     | true=>rw [eq_of_beq hx,eq_of_beq hy]
     | false=>
      rw [hx] at e1;rw [hy] at e2
      cases e1
      exact absurd (hb y _ e2) (Lx _)
    | false=>
     cases hy:y == z with
     | true=>
      rw [hx] at e1;rw [hy] at e2
      cases e2
      exact absurd (hb x _ e1) (Lx _)
     | false=>rw [hx] at e1;rw [hy] at e2;exact h x y c e1 e2 hc
   ·rw [NA] at e
    cases hx:x == z with
    | true=>rw [hx] at e;cases e;exact NF _
    | false=>rw [hx] at e;exact NG (hb x c e)
  ·exact mR hn h hb
theorem j5 {x:Str}{c:Addr}:∀ {names:List (Str × NameKind)}{cl:List (Str × Addr)}{h:Heap},(cellsFrom h.objs.size names cl).lookup x=some c->cl.lookup x=some c\/(pushCells h names).IsCell c none
 | [],cl,h,e=>.inl e
 | (y,k)::r,cl,h,e=>by
  unfold cellsFrom at e
  unfold pushCells
  split at e
  ·rename_i hk
   rw [Lp hk]
   have e':(cellsFrom (h.push { cls:=.type "cell",data:=.cell none }).objs.size r ((y,h.objs.size)::cl)).lookup x=some c:=by rw [NH];exact e
   rcases j5 e' with q | q
   ·rw [NA] at q
    cases hx:x == y with
    | true=>
     rw [hx] at q;cases q
     exact .inr ⟨_,NI _ _ _ _ (L8 _ rfl),rfl⟩
    | false=>rw [hx] at q;exact .inl q
   ·exact .inr q
  ·rename_i hk
   rw [Lq hk]
   exact j5 e
theorem za {X:Cx}{pins:List (Addr × Obj)}{σ:St}{H:Hp}{s:Shared}{h':Heap}{t':Nat}{fp:List Addr}{Nc:List Str}{scope:Scope}{cl:List (Str × Addr)}{cap:List (Option Nat)}
  (I:aV X pins σ H s) (hf:∀ b∈fp,nP X pins H b) (hfs:∀ b∈fp,b<s.heap.objs.size) (S:cv X.N X.env scope Nc cap)
  (hcl:∀ x c,cl.lookup x=some c->X.env.cells.lookup x=some c) (hall:∀ y∈scope.names,y.2=.free->(cl.lookup y.1).isSome=true)
  (hn:h'.Ns s.heap.objs.size (fun _=>none)) (hk:∀ b o,s.heap.get? b=some o->h'.get? b=some o) (hce:∀ x c,(cellsFrom (s.heap.objs.size+1) scope.names cl).lookup x=some c->cl.lookup x=some c\/h'.IsCell c none) :
  aV (jJ X Nc scope cl s.heap.objs.size s H fp) [] (oW cap σ) H { s with heap:=h',toks:=t' }:=by
 have hrl:∀ x,(jJ X Nc scope cl s.heap.objs.size s H fp).env.kindOf x=(scope.names.lookup x).map fun k=>if (k == NameKind.free && X.env.scope.kind == .function && X.env.kindOf x == some .cell) then NameKind.cell else k:=fun x=>kc
 have hcf:∀ x,((jJ X Nc scope cl s.heap.objs.size s H fp).env.kindOf x=some .cell\/(jJ X Nc scope cl s.heap.objs.size s H fp).env.kindOf x=some .free)->scope.names.lookup x=some .free\/scope.names.lookup x=some .cell:=fun x hx=>by
  rw [hrl] at hx
  cases e:scope.names.lookup x with
  | none=>rw [e] at hx;rcases hx with z | z <;> cases z
  | some k=>
   rw [e] at hx
   by_cases hkf:k=.free
   ·rw [hkf];exact .inl rfl
   ·have : (k == NameKind.free) = false := by simpa using hkf
    simp only [this,L6,Option.map_some] at hx
    rcases hx with z | z
    ·have z' : k = .cell := by simpa using z
     rw [z'];exact .inr rfl
    ·have z' : k = .free := by simpa using z
     exact absurd z' hkf
 have hclx:∀ x,scope.names.lookup x=some .free->∃ c,cl.lookup x=some c:=fun x e=>Mm.mp (hall (x,.free) (eY e) rfl)
 have hcb:∀ x c,cl.lookup x=some c->c<s.heap.objs.size:=fun x c e=>by
  obtain ⟨v,q⟩:=I.cell x c (hcl x c e)
  exact q.lt
 have hcell:∀ x c,(cellsFrom (s.heap.objs.size+1) scope.names cl).lookup x=some c->(cl.lookup x=some c/\c<s.heap.objs.size)\/(s.heap.objs.size+1<=c/\h'.IsCell c none):=fun x c e=>by
  by_cases hm:(x,NameKind.cell)∈scope.names
  ·have h1 := kC (L9 _) (.inl hm) e
   rcases hce x c e with z | z
   ·have := hcb x c z
    exact absurd (Lu (NG this) h1) (Lx _)
   ·exact .inr ⟨h1,z⟩
  ·rw [jd hm] at e
   exact .inl ⟨e,hcb x c e⟩
 have hinj:∀ x y c,(cellsFrom (s.heap.objs.size+1) scope.names cl).lookup x=some c->(cellsFrom (s.heap.objs.size+1) scope.names cl).lookup y=some c->x=y:=fun x y c e1 e2=>by
  rcases hcell x c e1 with ⟨a1,a2⟩ | ⟨a1,a2⟩
  ·rcases hcell y c e2 with ⟨b1, b2⟩ | ⟨b1, b2⟩
   ·exact I.ok.inj x y c (hcl x c a1) (hcl y c b1)
   ·exact absurd (Lu (NG a2) b1) (Lx _)
  ·exact mR (L9 _) (fun x y c q _ hc=>absurd (Lu (NG (hcb x c q)) hc) (Lx _)) (fun x c q=>NG (hcb x c q)) x y c e1 e2 a1
 refine ⟨⟨I.ok.mod,S.kind,I.ok.glob,I.ok.blt,L9 _,fun x y c e1 e2=>hinj x y c e1 e2,fun x hx=>?_,fun x c e e2=>?_,I.ok.hd,I.ok.frames,.inl rfl,
  fun b hb=>⟨Ly (hfs b hb),fun x c e=>?_⟩,I.bs,LB I.ok.bsz I.sz,fun b o e hb=>?_,fun b hb z=>?_,I.stack,I.stkFree⟩,
  rfl,I.bare,Un.kept hk,⟨_,hn,fun i x v e1 e2 e3=>?_⟩,fun x c e=>?_,I.hok.fresh (L9 _),fun x c e=>?_,fun p hp=>absurd (show p∈([]:List (Addr × Obj)) from hp) (by simp),I.hok.kept hk,?_⟩
 ·rcases hcf x hx with q | q
  ·by_cases hm : (x, NameKind.cell) ∈ scope.names
   ·rcases Mm.mp (W.cellsFrom_some scope.names (s.heap.objs.size + 1) cl (.inl (S.nd (x, .cell) hm))) with ⟨c, e⟩
    exact ⟨c,e⟩
   ·obtain ⟨c, e⟩ := hclx x q
    exact ⟨c,(jd hm).trans e⟩
  ·obtain ⟨c, e⟩ := Mm.mp (W.cellsFrom_some scope.names (s.heap.objs.size + 1) cl (.inl q))
   exact ⟨c,e⟩
 ·have hm : (x, NameKind.cell) ∈ scope.names := eY (eq_of_beq (show (scope.names.lookup x == some .cell) = true from e))
  exact Nat.le_of_succ_le (kC (L9 _) (.inl hm) e2)
 ·rcases hcell x c e with ⟨a1, a2⟩ | ⟨a1, a2⟩
  ·exact (hf b hb).2.2.2.2.1 x c (hcl x c a1)
  ·exact fun z=>absurd (Lu (NG (hfs b hb)) (by rw [<- z];exact a1)) (Lx _)
 ·rcases (hf b hb).2.2.2.1 with z | z
  ·exact I.ok.noex b o e z
  ·exact absurd (Lu (Lu (Ls e) I.ok.bsz) z) (Lx _)
 ·rcases LH.mp (I.stkSub b z) with q | q
  ·exact (hf b hb).2.1 q
  ·exact (hf b hb).2.2.1 q
 ·have e2':∃ j,cap[i]?=some (some j)/\σ[j]?=some (some v):=by
   unfold oW at e2
   rw [Ms] at e2
   cases hc:cap[i]? with
   | none=>rw [hc] at e2;cases e2
   | some o=>
    rw [hc] at e2
    cases o with
    | none=>cases e2
    | some j=>
     refine ⟨j,rfl,?_⟩
     simp only [Option.map_some,NJ] at e2
     cases hj:σ[j]? with
     | none=>rw [hj] at e2;cases e2
     | some q=>
      rw [hj] at e2
      simp only [Option.join_some] at e2
      rw [Lr e2]
  obtain ⟨j,hj,hv⟩:=e2'
  obtain ⟨hN,hx⟩:=pP S.cap hj e1
  have hkx:=S.free (x,.free) (eY hx) rfl
  obtain ⟨m,hm,hl⟩:=I.loc
  obtain ⟨u,r,l⟩:=hl j x v hN hv (hkx.elim (fun z=>.inr (.inl z)) (fun z=>.inr (.inr z)))
  refine ⟨u,r,.inr ⟨?_,?_⟩⟩
  ·rw [hrl, hx]
   show some (if _ then _ else _)=_\/some (if _ then _ else _)=_
   by_cases hc:(NameKind.free == NameKind.free && X.env.scope.kind == .function && X.env.kindOf x == some .cell)=true
   ·rw [Lp hc];exact .inl rfl
   ·rw [Lq hc];exact .inr rfl
  ·obtain ⟨c, ec⟩ := hclx x hx
   have hm:(x,NameKind.cell) ∉ scope.names:=fun z=>by
    have:=S.nd (x,.cell) z
    rw [hx] at this;cases this
   refine ⟨c,(jd hm).trans ec,?_⟩
   rcases l with ⟨k,_⟩ | ⟨k,c',ec',z⟩
   ·rcases hkx with q | q <;> (rw [k] at q;cases q)
   ·have q := hcl x c ec
    rw [ec'] at q;cases q
    obtain ⟨o,ho,hd⟩:=z
    exact ⟨o,hk _ o ho,hd⟩
 ·rcases hcell x c e with ⟨a1, a2⟩ | ⟨a1, a2⟩
  ·obtain ⟨v, o, ho, hd⟩ := I.cell x c (hcl x c a1)
   exact ⟨v,o,hk _ o ho,hd⟩
  ·exact ⟨none,a2⟩
 ·rcases hcell x c e with ⟨a1, a2⟩ | ⟨a1, a2⟩
  ·exact I.freeC x c (hcl x c a1)
  ·exact I.hok.fresh (Nat.le_of_succ_le a1)
 ·show (cap.map _).length = Nc.length
  rw [Mw,mS S.cap]
abbrev zD:Value->Shared->Prop:=fun _ _=>False
def so (ifs:List Expr) (env:Env):Sem Bool:=forIn ifs true fun c r=>if r=true then do let ok <- isTrue c env (eval c env);pure (ForInStep.yield ok) else pure (ForInStep.yield r)
def vK (X:Cx) (ifs:List Expr) (t:TT):Prop:=
 ∀ (pins:List (Addr × Obj)) (s:Shared) (σ:St) (H:Hp) (Q:Bool->Hp->Prop),aV X pins σ H s->t σ H Q->wpAny (model X.prog X.w) X.A (so ifs X.env) (TP X pins σ Q) X.xe s
def I0:TT:=fun _ H Q=>Q true H
theorem Dt {X:Cx}:vK X [] I0:=fun _ _ _ H _ I h=>L4 ⟨H,I,h⟩
theorem Ds {X:Cx}{c:Expr}{t:TT} (h:PT X c t):vK X [c] t:=fun pins s σ H Q I q=>wpAny_tests_one (h pins s σ H Q I q)
def HZ (e:Expr) (acc:Value) (env:Env):Sem Unit:=match e with
 | .ListComp elt _ _ _=>do let _ <- call (.builtin "list.append") [acc,<- eval elt env]
 | .SetComp elt _ _ _=>do let v <- eval elt env;standAt elt.pos;let _ <- call (.builtin "set.add") [acc,v]
 | _=>unsupported "internal:not-a-comprehension"
def pd:Expr->Bool
 | .ListComp ..=>true
 | .SetComp ..=>true
 | _=>false
def nz (M:Model) (A:Around) (e:Expr) (k:Nat) (acc:Value) (env:Env) (C:Shared->Prop) (E:Value->Shared->Prop) (s:Shared):Prop:=match (clausesOf e)[k]? with
 | some g=>wpAny M A (eval g.iter env) (fun x s1=>wpAny M A (foldedSetIterable g.iter env x) (fun x s2=>wpAny M A (pyIter x) (fun it s3=>
   codeAny M A (.compStart e k it acc env) (fun r s4=>(∃ f,r=.ok f)/\C s4) s3) E s2) E s1) E s
 | none=>wpAny M A (HZ e acc env) (fun _ s1=>C s1) E s
theorem ve {M:Model}{A:Around}{e:Expr}{k:Nat}{acc:Value}{env:Env}{C C':Shared->Prop}{E:Value->Shared->Prop}{s:Shared} (hC:∀ s,C s->C' s) (h:nz M A e k acc env C zD s):nz M A e k acc env C' E s:=by
 unfold nz at h ⊢
 split at h
 ·exact LP h (fun _ _ h=>LP h (fun _ _ h=>LP h (fun _ _ h=>Mh h fun _ _ h=>⟨h.1,hC _ h.2⟩) fun _ _ z=>z.elim) fun _ _ z=>z.elim) fun _ _ z=>z.elim
 ·exact LP h (fun _ _ h=>hC _ h) fun _ _ z=>z.elim
theorem CH {M:Model}{A:Around}{E:Value->Shared->Prop}{s:Shared}{e:Expr}{d:Nat}{g:Comprehension}{it acc:Value}{env:Env}{Q:Fin->Shared->Prop} (he:pd e=true) (hz:∀ g∈clausesOf e,g.is_async=0) (hg:(clausesOf e)[d]?=some g)
  (h : wpAny M A (pyNext it) (fun r s₁ => match r with
   | none=>Q (.done .next) s₁
   | some v=>wpAny M A (letOwnedTupleGo g.target it v) (fun _ s₁'=>wpAny M A (assign g.target env v) (fun _ s₂=>wpAny M A (so g.ifs env) (fun ok s₃=>
     if ok=true then nz M A e (d+1) acc env (fun s₄=>wpAny M A (again (.compLoop e d it acc env)) Q E s₄) E s₃ else wpAny M A (again (.compLoop e d it acc env)) Q E s₃) E s₂) E s₁') E s₁) E s) :
  wpAny M A (compTurn e d it acc env) Q E s:=by
 have h0:=hz g (Mu hg)
 have h1:∀ g',(clausesOf e)[d+1]?=some g'->g'.is_async=0:=fun g' h=>hz g' (Mu h)
 unfold compTurn
 cases e <;> first
  | exact absurd (show false=true from he) LZ
  | (rename_i elt gens sc pos
     have hg':gens[d]?=some g:=hg
     have h1':∀ g',gens[d+1]?=some g'->g'.is_async=0:=h1
     dsimp only
     rw [hg']
     dsimp only
     rw [h0]
     refine LV (LX ?_)
     show wpAny M A (pyNext it >>= _) Q E s
     refine LV (LP h (fun r s₁ h₁=>?_) fun _ _ z=>z)
     cases r with
     | none=>exact L4 h₁
     | some v=>
      refine LV (LP h₁ (fun _ s₁' h₁'=>?_) fun _ _ z=>z)
      refine LV (LP h₁' (fun _ s₂ h₂=>?_) fun _ _ z=>z)
      refine LV (LP h₂ (fun ok s₃ h₃=>?_) fun _ _ z=>z)
      cases ok with
      | false=>exact h₃
      | true=>
       simp only [MJ] at h₃ ⊢
       unfold nz at h₃
       dsimp only [clausesOf] at h₃
       cases e2:gens[d+1]? with
       | none=>
        rw [e2] at h₃
        exact LV h₃
       | some g'=>
        rw [e2] at h₃
        have e3:=h1' g' e2
        simp only [e3]
        refine LV (LP h₃ (fun x s₄ h₄=>?_) fun _ _ z=>z)
        refine LV (LX ?_)
        show wpAny M A (foldedSetIterable g'.iter env x >>= _) Q E s₄
        refine LV (LP h₄ (fun x s₅ h₅=>?_) fun _ _ z=>z)
        refine LV (LW ?_)
        show wpAny M A (pyIter x) _ E s₅
        refine LP h₅ (fun it' s₆ h₆=>?_) fun _ _ z=>z
        refine LV (wpAny_runOwn (Mh h₆ fun r s₇ h₇=>?_))
        obtain ⟨⟨f,rfl⟩,hc⟩:=h₇
        exact hc)
section
variable {prog:Program}{w:World}{A:Around}{R:Result->Shared->Prop}{s:Shared}
theorem yp {e:Expr}{k:Nat}{g:Comprehension}{it acc:Value}{env:Env} (he:pd e=true) (hz:∀ g∈clausesOf e,g.is_async=0) (hg:(clausesOf e)[k]?=some g)
  (h0:codeAny (model prog w) A (.compLoop e k it acc env) R s) (h:wpAny (model prog w) A (pyIter it) (fun it' s'=>codeAny (model prog w) A (.compLoop e k it' acc env) R s') zD s) :
  codeAny (model prog w) A (.compStart e k it acc env) R s:=by
 have ha:=hz g (Mu hg)
 cases e <;> first
  | exact absurd (show false=true from he) LZ
  | (refine NK ?_
     show wpAny _ _ ((compStart _ k it acc env).onRaise (fun x=>do noteFrame x env;standAt theWindowsPlace)) _ _ s
     refine wpAny_notedAt ?_
     unfold compStart
     rw [hg]
     have e1:((some g).elim false fun x=>x.is_async != 0)=false:=by show (g.is_async != 0)=false;rw [ha];rfl
     rw [e1]
     simp only [NC,MH]
     refine LV (NL (wpAny_ite ?_))
     split
     ·exact L4 (And.intro rfl h0)
     ·refine LV (NM ?_)
      refine LV (LX ?_)
      exact LV (LP h (fun it' s' h'=>L4 (And.intro rfl h')) fun _ _ z=>z.elim))
theorem yZ {e:Expr}{d:Nat}{g:Comprehension}{it acc:Value}{env:Env} (he:pd e=true) (hz:∀ g∈clausesOf e,g.is_async=0) (hg:(clausesOf e)[d]?=some g) (I:Nat->Shared->Prop)
  (turn : ∀ n s, I n s -> wpAny (model prog w) A (pyNext it) (fun r s₁ => match r with
   | none=>R (.ok .next) s₁
   | some v=>wpAny (model prog w) A (letOwnedTupleGo g.target it v) (fun _ s₁'=>wpAny (model prog w) A (assign g.target env v) (fun _ s₂=>
     wpAny (model prog w) A (so g.ifs env) (fun ok s₃=>
      if ok=true then nz (model prog w) A e (d+1) acc env (fun s₅=>∃ m,m<n/\I m s₅) zD s₃
      else ∃ m,m<n/\I m s₃) zD s₂) zD s₁') zD s₁) zD s)
  (n:Nat) (h:I n s):codeAny (model prog w) A (.compLoop e d it acc env) R s:=by
 refine codeAny_loop (by cases e <;> first | exact absurd (show false=true from he) LZ | rfl) I (fun n s hI=>?_) n h
 cases e <;> first
  | exact absurd (show false=true from he) LZ
  | (show wpAny _ A ((compTurn _ d it acc env).onRaise (fun x => do noteFrame x env; theTreesLotGoes x)) _ _ s
     refine wpAny_noted (CH he hz hg (LP (turn n s hI) (fun r s₁ h₁=>?_) fun _ _ z=>z.elim))
     cases r with
     | none=>exact h₁
     | some v=>
      refine LP h₁ (fun _ s₂ h₂=>LP h₂ (fun _ s₃ h₃=>LP h₃ (fun ok s₄ h₄=>?_) fun _ _ z=>z.elim) fun _ _ z=>z.elim) fun _ _ z=>z.elim
      cases ok with
      | false=>exact L4 ⟨rfl,h₄⟩
      | true=>
       simp only [MJ] at h₄ ⊢
       exact ve (fun s₅ h₅=>L4 ⟨rfl,h₅⟩) h₄)
end
abbrev Fc:=St->Hp->(St->Hp->Prop)->Prop
def Iq (X:Cx) (e:Expr) (k:Nat) (acc:Addr) (t:Fc):Prop:=
 ∀ (pins:List (Addr × Obj)) (s:Shared) (σ:St) (H:Hp) (N:St->Hp->Prop),aV X pins σ H s->t σ H N->nz (model X.prog X.w) X.A e k (.ref acc) X.env (fun s'=>∃ σ' H',aV X pins σ' H' s'/\N σ' H') zD s
def KS (J:It) (g:TG) (tt:TT) (tb:Fc) (N:St->Hp->Prop) (σ:St) (H:Hp):Prop:=∃ W:Nat->Nat->St->Hp->Prop,(∃ m,W 0 m σ H)/\∀ i m σ1 H,W i m σ1 H ->
 (J.stop i H/\N σ1 H)\/(J.go i H/\∃ N':St->Hp->Prop,(∀ σ' H',N' σ' H'->∃ m',m'<m/\W (i+1) m' σ' H')/\∀ x H',J.yld i H x H'->g x σ1 H' fun σ2 H2=>tt σ2 H2 fun b H3=>if b=true then tb σ2 H3 N' else N' σ2 H3)
section
variable {X:Cx}{e:Expr}{d:Nat}{cl:Comprehension}{g:TG}{tt:TT}{tb:Fc}{acc:Addr}
theorem vE {J:It}{fp:List Addr}{it:Addr}{tn:Nat->Heap->Prop}{pins:List (Addr × Obj)}{N:St->Hp->Prop}{σ:St}{H:Hp}{s:Shared} (he:pd e=true) (hz:∀ g∈clausesOf e,g.is_async=0) (hg:(clausesOf e)[d]?=some cl) (hxe:X.xe=zD) (hc:X.calm=true)
  (T:zT X.prog X.w X.K cl.target J fp it tn) (hgc:PG X cl.target g) (htc:vK X cl.ifs tt) (hb:Iq X e (d+1) acc tb) (I:aV X pins σ H s) (st:tn 0 s.heap) (fr:∀ b∈fp,nP X pins H b) (h:KS J g tt tb N σ H) :
  codeAny (model X.prog X.w) X.A (.compLoop e d (.ref it) (.ref acc) X.env) (fun r s'=>r=.ok .next/\∃ σ' H',aV X pins σ' H' s'/\N σ' H') s:=by
 obtain ⟨W,⟨m0,w0⟩,turn⟩:=h
 have stat:∀ {H':Hp},(∀ b∈fp,H' b=none)->∀ b∈fp,nP X pins H' b:=fun hn b hb=>⟨hn b hb,(fr b hb).2⟩
 refine yZ he hz hg (fun n s'=>∃ i σ' H',aV X pins σ' H' s'/\tn i s'.heap/\(∀ b∈fp,H' b=none)/\W i n σ' H') ?_ m0 ⟨0,_,_,I,st,fun b hb=>(fr b hb).1,w0⟩
 rintro n s5 ⟨i,σ5,H5,I5,st5,fr5,w5⟩
 rcases turn i n σ5 H5 w5 with ⟨stop,qn⟩ | ⟨go,N',hN,step⟩
 ·refine cQ (T.done X rfl rfl rfl hc i pins s5 σ5 H5 zD I5 (stat fr5) st5 stop) fun r s6 ⟨hr, I6⟩ => ?_
  subst hr
  exact ⟨rfl,_,_,I6,qn⟩
 ·refine cQ (T.item X rfl rfl rfl hc i pins s5 σ5 H5 zD I5 (stat fr5) st5 go) fun r s6 ⟨u, hr, h6⟩ => ?_
  subst hr
  refine cQ h6 fun _ s7 ⟨x,H7,I7,r7,y7,st7,fr7⟩=>?_
  have I7':=I7.pinned (stat fr7) (T.obj _ _ st7)
  have z1:=hgc _ s7 σ5 H7 x u _ I7' r7 (step x H7 y7)
  rw [hxe] at z1
  refine cQ z1 fun _ s8 ⟨σ8,H8,I8,q8⟩=>?_
  have z2:=htc _ s8 σ8 H8 _ I8 q8
  rw [hxe] at z2
  refine cQ z2 fun b s9 ⟨H9,I9,q9⟩=>?_
  have again:∀ {σa:St}{Ha:Hp}{sa:Shared},aV X (pins++o8 fp s7.heap) σa Ha sa->N' σa Ha->∃ m,m<n/\∃ i σ' H',aV X pins σ' H' sa/\tn i sa.heap/\(∀ b∈fp,H' b=none)/\W i m σ' H':=fun {σa Ha sa} Ia na=>by
   obtain ⟨m',hm,wa⟩:=hN σa Ha na
   refine ⟨m',hm,i+1,σa,Ha,Ia.unpinned,T.keep _ _ _ st7 fun b hb o e=>(Ia.pin (b,o) (Mc _ (Mc _ (jr hb e)))).1,fun b hb=>?_,wa⟩
   obtain ⟨o,e,d⟩:=T.obj _ _ st7 b hb
   exact (Ia.pin (b,o) (Mc _ (Mc _ (jr hb e)))).2.1
  cases b with
  | false=>
   rw [Lq LZ] at q9 ⊢
   exact again I9 q9
  | true=>
   rw [Lp rfl] at q9 ⊢
   exact ve (fun s' ⟨σ',H',I',n'⟩=>again I' n') (hb _ s9 σ8 H9 _ I9 q9)
def EF (te:TE) (acc:Addr):Fc:=fun σ H N=>te σ H fun y H4=>∃ ys,H4 acc=some (.lst ys)/\ys.length<sizeLine/\N σ (cI H4 acc (.lst (ys++[y])))
theorem uI {te:TE}{elt:Expr}{gens:List Comprehension}{scope:Scope}{pos:Pos} (hg:gens[d]?=none) (hxe:X.xe=zD) (hel:PE X elt te):Iq X (.ListComp elt gens scope pos) d acc (EF te acc):=by
 intro pins s σ H N I h
 unfold nz
 show (match gens[d]? with | some g=>_ | none=>_:Prop)
 rw [hg]
 show wpAny _ _ (do let _ <- call (.builtin "list.append") [.ref acc,<- eval elt X.env]) _ _ _
 have z:=hel pins s σ H _ I h
 rw [hxe] at z
 refine LV (cQ z fun v10 s10 ⟨y,H10,I10,r10,ys,hy,hz,nn⟩=>?_)
 have z4:=rk (X:=X) pins s10 σ H10 (.ref acc) [y] (.ref acc) [v10] (fun _ H'=>N σ H') I10 rfl (.cons r10 .nil) ⟨_,ys,y,rfl,rfl,hy,hz,nn⟩
 rw [hxe] at z4
 exact LV (cQ z4 fun v11 s11 ⟨y',H11,I11,r11,n11⟩=>L4 ⟨_,_,I11,n11⟩)
end
theorem B4 {M:Model}{A:Around}{E:Value->Shared->Prop}{s:Shared}{scope:Scope}{cl:List (Str × Addr)}{env:Env}{Q:Env->Shared->Prop}
  (hQ : ∀ h', h'.Ns s.heap.objs.size (fun _ => none) -> (∀ b o, s.heap.get? b = some o -> h'.get? b = some o) -> (∀ x c, (cellsFrom (s.heap.objs.size + 1) scope.names cl).lookup x = some c -> cl.lookup x = some c \/ h'.IsCell c none) ->
   ∀ cenv:Env,({ cenv with scope:=relabel scope env }:Env)=compEnvC scope (cellsFrom (s.heap.objs.size+1) scope.names cl) s.heap.objs.size env->cenv.locals=s.heap.objs.size->Q cenv { s with heap:=h' }) :
  wpAny M A (newFunctionEnv scope env.globals cl [] env.qual none .none (some env)) Q E s:=by
 simp only [newFunctionEnv,Option.isSome_some,MJ]
 refine LV (wpAny_alloc ?_)
 refine LV (wpAny_layCells _ (fun name kind cells=>by cases hkc:kind == NameKind.cell <;> simp [hkc]) _ _ _ _ ?_)
 have hsz:(s.heap.push { cls:=.type "dict",data:=.dict #[] }).objs.size=s.heap.objs.size+1:=NH ..
 refine LV (L4 (L4 ?_))
 show Q _ { s with heap:=pushCells (s.heap.push { cls:=.type "dict",data:=.dict #[] }) scope.names }
 refine hQ _ ((Heap.Ns.new s.heap (.type "dict")).keeps (NI _ _)) (fun b o e=>NI _ _ b o (L7 _ e)) (fun x c e=>?_) _ ?_ rfl
 ·rw [<- hsz] at e
  exact j5 e
 ·show _ = _
  unfold compEnvC
  rw [<- hsz]
def rX (o0:Addr->HO) (wi:TI) (cap:List (Option Nat)) (g:TG) (tt:TT) (tb:Addr->Fc):TE:=fun σ H Q=>wi σ H fun J H1=>∀ acc,H1 acc=none->KS J g tt (tb acc) (fun _ H'=>Q (.ref acc) H') (oW cap σ) (cI H1 acc (o0 acc))
def z9 (wi:TI) (cap:List (Option Nat)) (g:TG) (tt:TT) (te:TE):TE:=rX (fun _=>.lst []) wi cap g tt (EF te)
def K2 (X:Cx) (newAcc:Sem Value) (o0:Addr->HO):Prop:=∀ (pins:List (Addr × Obj)) (s:Shared) (σ:St) (H:Hp) (Q:Value->Shared->Prop),aV X pins σ H s ->
 (∀ s',aV X pins σ (cI H s.heap.objs.size (o0 s.heap.objs.size)) s'->(∀ b o,s.heap.get? b=some o->s'.heap.get? b=some o)->s.heap.objs.size<s'.heap.objs.size->Q (.ref s.heap.objs.size) s')->wpAny (model X.prog X.w) X.A newAcc Q X.xe s
theorem uP {X:Cx}:K2 X (newList []) (fun _=>.lst []):=fun pins s σ H Q I h=>
 MZ (h _ (I.lnew (t':=s.toks) (ys:=[]) (its:=[]) .nil (NN _)) (fun b o e=>L7 _ e) (by rw [NH];exact NF _))
section
variable {X:Cx}{e:Expr}{cl0:Comprehension}{rest:List Comprehension}{scope:Scope}{Nc:List Str}{cap:List (Option Nat)}{wi:TI}{g:TG}{tt:TT}{tb:Addr->Fc}{pos':Pos}{o0:Addr->HO}{newAcc:Sem Value}
theorem rK {use:Option (Value->Sem Unit)}{pins:List (Addr × Obj)}{s:Shared}{σ:St}{H:Hp}{Q:VK}{QQ:Value->Shared->Prop}
  (he:pd e=true) (hz:∀ g∈clausesOf e,g.is_async=0) (hcl0:clausesOf e=cl0::rest) (hmk:K2 X newAcc o0)
  (hc:X.calm=true) (S:cv X.N X.env scope Nc cap) (hi:PI X cl0.target cl0.iter wi)
  (hg:∀ cl C s H fp,PG (jJ X Nc scope cl C s H fp) cl0.target g) (ht:∀ cl C s H fp,vK (jJ X Nc scope cl C s H fp) cl0.ifs tt) (hb:∀ cl C s H fp acc,Iq (jJ X Nc scope cl C s H fp) e 1 acc (tb acc))
  (I:aV X pins σ H s) (h:rX o0 wi cap g tt tb σ H Q)
  (hfin:∀ C acc s' H',aV X pins σ H' s'->nP X pins H' C->(∃ m,s'.heap.Ns C m)->Q (.ref acc) H'->compPost (model X.prog X.w) X.A X.xe use QQ (.ref acc) C (.ok .next) s')
  (hs:∀ x,foldedSetIterable cl0.iter X.env x=pure x) :
  wpAny (model X.prog X.w) X.A (comprehension e scope X.env pos' newAcc false (eval cl0.iter X.env) use) QQ X.xe s:=by
 obtain ⟨cl,hclos,hcl,hall⟩:=w9 (scope:=scope) (env:=X.env) (fun y hy hf=>I.ok.has y.1 (S.free y hy hf))
 have hg0:(clausesOf e)[0]?=some cl0:=by rw [hcl0];rfl
 refine wpAny_comprehension_free hcl0 hs hclos S.kind (fun x hx e=>by rw [S.nd x hx,e]) ?_
 refine cQ (hi pins s σ H _ I h) fun v s1 h1=>cQ h1 fun itv s2 h2=>?_
 obtain ⟨it,fp,tn,J,H2,e',I2,T,st2,f2,rd⟩:=h2
 subst e'
 have rd:=rd _ I2.fresh
 refine hmk pins s2 σ H2 _ I2 fun s3 I3 hk3 hsz3=>?_
 have st3:tn 0 s3.heap:=T.keep _ _ _ st2 fun b _ o e=>hk3 b o e
 have fpn:∀ b∈fp,b≠s2.heap.objs.size:=fun b hb=>by
  obtain ⟨o,eo,_⟩:=T.obj _ _ st2 b hb
  exact Ly (Ls eo)
 have f3:∀ b∈fp,nP X pins (cI H2 s2.heap.objs.size (o0 s2.heap.objs.size)) b:=fun b hb=>⟨by rw [bx (fpn b hb)];exact (f2 b hb).1,(f2 b hb).2⟩
 have hfs:∀ b∈fp,b<s3.heap.objs.size:=fun b hb=>by
  obtain ⟨o,eo,_⟩:=T.obj _ _ st3 b hb
  exact Ls eo
 refine B4 fun h1 hns1 hk1 hce cenv ecenv elc=>?_
 rw [ecenv]
 have IB:aV (jJ X Nc scope cl s3.heap.objs.size s3 (cI H2 s2.heap.objs.size (o0 s2.heap.objs.size)) fp) [] (oW cap σ) (cI H2 s2.heap.objs.size (o0 s2.heap.objs.size)) { s3 with heap:=h1,toks:=s3.toks }:=
  za I3 f3 hfs S hcl hall hns1 hk1 hce
 have stB:tn 0 h1:=T.keep _ _ _ st3 fun b _ o e=>hk1 b o e
 rw [elc]
 have frB:∀ b∈fp,nP (jJ X Nc scope cl s3.heap.objs.size s3 (cI H2 s2.heap.objs.size (o0 s2.heap.objs.size)) fp) [] (cI H2 s2.heap.objs.size (o0 s2.heap.objs.size)) b:=fun b hb=>
  ⟨(f3 b hb).1,(IB.ok.exf b hb).1,IB.ok.exfs b hb,.inl hb,(IB.ok.exf b hb).2,fun p hp=>absurd (show p∈([]:List (Addr × Obj)) from hp) (by simp)⟩
 have loop:=vE (X:=jJ X Nc scope cl s3.heap.objs.size s3 (cI H2 s2.heap.objs.size (o0 s2.heap.objs.size)) fp) he hz hg0 rfl hc T (hg _ _ _ _ _) (ht _ _ _ _ _) (hb _ _ _ _ _ _) IB stB frB rd
 have fin:∀ r s',(r=.ok .next/\∃ σ' H',aV (jJ X Nc scope cl s3.heap.objs.size s3 (cI H2 s2.heap.objs.size (o0 s2.heap.objs.size)) fp) [] σ' H' s'/\Q (.ref s2.heap.objs.size) H')->compPost (model X.prog X.w) X.A X.xe use QQ (.ref s2.heap.objs.size) s3.heap.objs.size r s':=by
  rintro r s' ⟨rfl,σ',H',J',q⟩
  have I5:aV X pins σ H' s':=I3.call' (ch:=fp) J'.os J'.base J'.hok J'.bare fun b hbf=>⟨(f3 b hbf).2.2.2.1,(f3 b hbf).2.1,(f3 b hbf).2.2.2.2.1,(f3 b hbf).2.2.2.2.2⟩
  obtain ⟨mm,hnn,_⟩:=J'.loc
  exact hfin _ _ s' H' I5 (I3.fpOk (L9 _) J'.free) ⟨mm,hnn⟩ q
 exact yp he hz hg0 (Mh loop fin) (T.self _ 0 _ _ _ stB (Mh loop fin))
variable {elt:Expr}{pos:Pos}
theorem BB (hc:X.calm=true) (hz:∀ g∈cl0::rest,g.is_async=0) (S:cv X.N X.env scope Nc cap) (hi:PI X cl0.target cl0.iter wi)
  (hg:∀ cl C s H fp,PG (jJ X Nc scope cl C s H fp) cl0.target g) (ht:∀ cl C s H fp,vK (jJ X Nc scope cl C s H fp) cl0.ifs tt) (hb:∀ cl C s H fp acc,Iq (jJ X Nc scope cl C s H fp) (.ListComp elt (cl0::rest) scope pos) 1 acc (tb acc))
  (hs:∀ x,foldedSetIterable cl0.iter X.env x=pure x):PE X (.ListComp elt (cl0::rest) scope pos) (rX (fun _=>.lst []) wi cap g tt tb):=by
 intro pins s σ H Q I h
 have h0:=hz cl0 LF
 obtain ⟨tg0,it0,if0,as0⟩:=cl0
 have h0':as0=0:=h0
 subst h0'
 rw [arm_eval_ListComp]
 refine rK (e:=.ListComp elt (_::rest) scope pos) (Q:=Q) rfl hz rfl uP hc S hi hg ht hb I h (fun C acc s' H' I' hf hn q=>?_) hs
 obtain ⟨m,hn⟩:=hn
 refine ⟨m,hn,fun h' sb=>⟨.ref acc,H',?_,rfl,q⟩⟩
 exact I'.turned (t':=s'.toks) (it:=C) (fun b o hb e=>(sb.2 b hb).trans e) hf.1 hf.2.1 hf.2.2.2.1 hf.2.2.2.2.1 hf.2.2.2.2.2
theorem Bv {i:Nat}{x:Str}{pos1:Pos}{pos2:Pos} (hc:X.calm=true) (hz:∀ g∈cl0::rest,g.is_async=0) (hN:X.N.Nodup) (hix:X.N[i]?=some x) (hx:X.env.scope.names.lookup x=some .local) (S:cv X.N X.env scope Nc cap) (hi:PI X cl0.target cl0.iter wi)
  (hg:∀ cl C s H fp,PG (jJ X Nc scope cl C s H fp) cl0.target g) (ht:∀ cl C s H fp,vK (jJ X Nc scope cl C s H fp) cl0.ifs tt) (hb:∀ cl C s H fp acc,Iq (jJ X Nc scope cl C s H fp) (.ListComp elt (cl0::rest) scope pos) 1 acc (tb acc))
  (hsw:swapsWith (.ListComp elt (cl0::rest) scope pos) (some (.Name x pos1)) pos2.line X.env=pure true) (hs:∀ x,foldedSetIterable cl0.iter X.env x=pure x) :
  PS X (.Assign [.Name x pos1] (.ListComp elt (cl0::rest) scope pos) pos2) (zJ (rX (fun _=>.lst []) wi cap g tt tb) (ue i)):=by
 intro pins s σ H D I h
 have h0:=hz cl0 LF
 obtain ⟨tg0,it0,if0,as0⟩:=cl0
 have h0':as0=0:=h0
 subst h0'
 rw [exec_Assign_Name_used _ _ _ _ hsw]
 refine LV (LX (LV ?_))
 show wpAny _ X.A (do let _ <- comprehension (.ListComp elt (⟨tg0,it0,if0,0⟩::rest) scope pos) scope X.env _ (newList []) false (eval it0 X.env) (some (assign (.Name x pos1) X.env))) _ _ s
 refine LV (LP (rK (e:=.ListComp elt (_::rest) scope pos) (use:=some (assign (.Name x pos1) X.env)) (Q:=fun v H1=>D.nx (σ.set i (some v)) H1) (QQ:=fun _ s'=>SP X pins D .next s') rfl hz rfl uP hc S hi hg ht hb I h (fun C acc s' H' I' hf hn q=>?_) hs)
  (fun _ s' hq=>L4 (L4 hq)) fun _ _ e=>e)
 obtain ⟨m,hn⟩:=hn
 show wpAny _ X.A (assign (.Name x pos1) X.env (.ref acc)) _ _ _
 refine wpAny_assign_Name (qU I' hN hix (.inl hx) (show bL (.ref acc) (.ref acc) from rfl) (fun s'' I'' hsb=>?_) (.inr hx))
 obtain ⟨a,sb,ha⟩:=hsb
 have hCa:C≠a:=by
  rcases ha with z | z
  ·rw [z];exact hf.2.1
  ·exact fun e=>hf.2.2.2.2.1 x a z e.symm
 refine ⟨m,hn.sameBut sb hCa,fun h' sb'=>⟨_,H',?_,q⟩⟩
 exact I''.turned (t':=s''.toks) (it:=C) (fun b o hb e=>(sb'.2 b hb).trans e) hf.1 hf.2.1 hf.2.2.2.1 hf.2.2.2.2.1 hf.2.2.2.2.2
variable {tg iter:Expr}{ifs:List Expr}{te:TE}
theorem rj:∀ g∈([⟨tg,iter,ifs,0⟩]:List Comprehension),g.is_async=0:=fun g hg=>by rw [NO.mp hg]
theorem DF (hc:X.calm=true) (S:cv X.N X.env scope Nc cap) (hi:PI X tg iter wi)
  (hg:∀ cl C s H fp,PG (jJ X Nc scope cl C s H fp) tg g) (ht:∀ cl C s H fp,vK (jJ X Nc scope cl C s H fp) ifs tt) (he:∀ cl C s H fp,PE (jJ X Nc scope cl C s H fp) elt te)
  (hs:∀ x,foldedSetIterable iter X.env x=pure x:=by intro _;rfl):PE X (.ListComp elt [⟨tg,iter,ifs,0⟩] scope pos) (z9 wi cap g tt te):=
 BB (cl0:=⟨tg,iter,ifs,0⟩) hc rj S hi hg ht (fun cl C s H fp acc=>uI rfl rfl (he cl C s H fp)) hs
theorem Dx {i:Nat}{x:Str}{pos1:Pos}{pos2:Pos} (hc:X.calm=true) (hN:X.N.Nodup) (hix:X.N[i]?=some x) (hx:X.env.scope.names.lookup x=some .local) (S:cv X.N X.env scope Nc cap) (hi:PI X tg iter wi)
  (hg:∀ cl C s H fp,PG (jJ X Nc scope cl C s H fp) tg g) (ht:∀ cl C s H fp,vK (jJ X Nc scope cl C s H fp) ifs tt) (he:∀ cl C s H fp,PE (jJ X Nc scope cl C s H fp) elt te)
  (hsw:swapsWith (.ListComp elt [⟨tg,iter,ifs,0⟩] scope pos) (some (.Name x pos1)) pos2.line X.env=pure true) (hs:∀ x,foldedSetIterable iter X.env x=pure x:=by intro _;rfl) :
  PS X (.Assign [.Name x pos1] (.ListComp elt [⟨tg,iter,ifs,0⟩] scope pos) pos2) (zJ (z9 wi cap g tt te) (ue i)):=
 Bv (cl0:=⟨tg,iter,ifs,0⟩) hc rj hN hix hx S hi hg ht (fun cl C s H fp acc=>uI rfl rfl (he cl C s H fp)) hsw hs
end
end L2
namespace RS
open PySem PySem.W PyProof.Rows
open AutoSeq1 (wpAny_loadPart')
section
variable {prog:Program}{w:World}{A:Around}{E:Value->Shared->Prop}{s:Shared}
end
section
variable {prog:Program}{w:World}{A:Around}{E:Value->Shared->Prop}{s:Shared}
end
end RS
namespace L2
open PySem PySem.Spec PyProof.Rows RS
section
variable {X:Cx}{tg:Expr}
end
end L2
namespace RS
open PySem
def ye (mask:Nat):Nat->Nat->Nat->List Nat
 | 0,_,_=>[]
 | n+1,i,pe=>(List.range (SetTable.runEnd mask i+1 - i)).map (i+·)++ye mask n (SetTable.leap mask i pe).1 (SetTable.leap mask i pe).2
def cz (mask:Nat) (h:Int):List Nat:=ye mask (SetTable.turns mask) (SetTable.bits h % (mask+1)) (SetTable.bits h)
def ip (t:SetTable):Nat->SetTable.Probe->List Nat
 | 0,_=>[]
 | n+1,p=>p.j::ip t n (t.advance p)
def lG (mask i pe:Nat) (d:Option Nat):SetTable.Probe:={ j:=i,more:=SetTable.runEnd mask i - i,i,perturb:=pe,dummy:=d }
theorem ur (t:SetTable):∀ (m n:Nat) (p:SetTable.Probe),p.more=m ->
  ip t (m+1+n) p=(List.range (m+1)).map (p.j+·)++ip t n (lG t.mask (SetTable.leap t.mask p.i p.perturb).1 (SetTable.leap t.mask p.i p.perturb).2 p.dummy)
 | 0,n,p,h=>by
  have e:0+1+n=n+1:=by omega
  rw [e]
  show p.j::ip t n (t.advance p)=_
  have ea:t.advance p=lG t.mask (SetTable.leap t.mask p.i p.perturb).1 (SetTable.leap t.mask p.i p.perturb).2 p.dummy:=by
   unfold SetTable.advance
   rw [Lq (by omega)]
   rfl
  rw [ea]
  simp
 | m+1,n,p,h=>by
  have e:m+1+1+n=(m+1+n)+1:=by omega
  rw [e]
  show p.j::ip t (m+1+n) (t.advance p)=_
  have ea:t.advance p={ p with j:=p.j+1,more:=p.more - 1 }:=by
   unfold SetTable.advance
   rw [Lp (by omega)]
  rw [ea,ur t m n { p with j:=p.j+1,more:=p.more - 1 } (by show p.more - 1=m;omega)]
  rw [NP (n:=m+1),Nb,NQ]
  show p.j::((List.range (m+1)).map (p.j+1+·)++_)=(p.j+0)::(List.map _ _)++_
  rw [Nat.add_zero]
  show p.j::(_++_)=p.j::(_++_)
  congr 2
  apply NR
  intro a _
  show p.j+1+a=p.j+(a+1)
  omega
theorem Ax (mask i:Nat):i<=SetTable.runEnd mask i/\SetTable.runEnd mask i<=i+9:=by
 unfold SetTable.runEnd;split <;> omega
theorem pk (t:SetTable):∀ (n i pe:Nat) (d:Option Nat),ip t (ye t.mask n i pe).length (lG t.mask i pe d)=ye t.mask n i pe
 | 0,_,_,_=>rfl
 | n+1,i,pe,d=>by
  have hr:=Ax t.mask i
  show ip t ((List.range (SetTable.runEnd t.mask i+1 - i)).map (i+·)++_).length _=_
  rw [Mv,Mw,NS]
  have e:SetTable.runEnd t.mask i+1 - i=(SetTable.runEnd t.mask i - i)+1:=by omega
  rw [e,ur t (SetTable.runEnd t.mask i - i) _ (lG t.mask i pe d) rfl]
  show _++ip t (ye t.mask n (SetTable.leap t.mask i pe).1 (SetTable.leap t.mask i pe).2).length (lG t.mask (SetTable.leap t.mask i pe).1 (SetTable.leap t.mask i pe).2 d)=_
  rw [pk t n]
  show _=(List.range (SetTable.runEnd t.mask i+1 - i)).map (i+·)++_
  rw [e];rfl
theorem sr (mask:Nat):∀ (n i pe:Nat),(ye mask n i pe).length<=10 * n
 | 0,_,_=>NN _
 | n+1,i,pe=>by
  have hr:=Ax mask i
  have ih:=sr mask n (SetTable.leap mask i pe).1 (SetTable.leap mask i pe).2
  show ((List.range (SetTable.runEnd mask i+1 - i)).map (i+·)++_).length<=_
  rw [Mv,Mw,NS]
  omega
theorem sF (t:SetTable) (hashAt:Nat->Int) (h:Int):∀ (pre:List Nat) (j:Nat) (post:List Nat) (fuel:Nat) (p:SetTable.Probe),ip t (pre.length+1+post.length) p=pre++j::post->pre.length<fuel->p.dummy=none ->
  (∀ k∈pre,∃ i,t.slot k=.live i/\hashAt i≠h) ->
  (t.slot j=.empty->SetTable.probe.go t hashAt h fuel p=some (.empty j none))/\(∀ i,t.slot j=.live i->hashAt i=h->∃ nx,SetTable.probe.go t hashAt h fuel p=some (.candidate j i nx))
 | [],j,post,0,p,_,hf,_,_=>by simp at hf
 | [],j,post,fuel+1,p,hw,_,hd,_=>by
  have ew:ip t (([]:List Nat).length+1+post.length) p=p.j::ip t post.length (t.advance p):=by
   rw [NT,show 0+1+post.length=post.length+1 from by omega];rfl
  rw [ew,Ny] at hw
  have ej:p.j=j:=(NU hw).1
  refine ⟨fun he=>?_,fun i hl hh=>?_⟩
  ·show (match t.slot p.j with | .empty => _ | .dummy => _ | .live i => _) = _
   rw [ej,he,hd]
  ·refine ⟨t.advance p, ?_⟩
   show (match t.slot p.j with | .empty=>_ | .dummy=>_ | .live i=>_)=_
   rw [ej,hl]
   show (if (hashAt i == h)=true then _ else _)=_
   rw [Lp (by simpa using hh)]
 | x::pre,j,post,0,p,_,hf,_,_=>by simp at hf
 | x::pre,j,post,fuel+1,p,hw,hf,hd,hp=>by
  have ew:ip t ((x::pre).length+1+post.length) p=p.j::ip t (pre.length+1+post.length) (t.advance p):=by
   rw [ND,show pre.length+1+1+post.length=(pre.length+1+post.length)+1 from by omega];rfl
  rw [ew,NV] at hw
  have ej:p.j=x:=(NU hw).1
  have er:=(NU hw).2
  obtain ⟨i,hl,hne⟩:=hp x LF
  have hda:(t.advance p).dummy=none:=by
   unfold SetTable.advance
   split
   ·exact hd
   ·exact hd
  have ih:=sF t hashAt h pre j post fuel (t.advance p) er (by rw [ND] at hf;omega) hda (fun k hk=>hp k (LG _ hk))
  have eg:SetTable.probe.go t hashAt h (fuel+1) p=SetTable.probe.go t hashAt h fuel (t.advance p):=by
   show (match t.slot p.j with | .empty=>_ | .dummy=>_ | .live i=>_)=_
   rw [ej,hl]
   show (if (hashAt i == h)=true then _ else _)=_
   rw [Lq (by simpa using hne)]
  rw [eg]
  exact ih
def Cj (xs:List Nat):Prop:=xs.Pairwise (·<·)
theorem pR (xs:Array Nat) (j:Nat):∀ (fuel lo hi:Nat),lo<=hi->hi<=xs.size->hi - lo<=fuel->(∀ i k,i<k->k<xs.size->xs.getD i j<xs.getD k j)->(∀ i,i<lo->xs.getD i j<j)->(∀ i,hi<=i->i<xs.size->j<=xs.getD i j) ->
  let b:=SetTable.below.go xs j fuel lo hi
  b<=xs.size/\(∀ i,i<b->xs.getD i j<j)/\(∀ i,b<=i->i<xs.size->j<=xs.getD i j)
 | 0,lo,hi,h1,h2,h3,hr,ha,hb=>by
  have e:lo=hi:=by omega
  subst e
  exact ⟨h2,ha,hb⟩
 | fuel+1,lo,hi,h1,h2,h3,hr,ha,hb=>by
  by_cases hlt:lo<hi
  ·simp only [SetTable.below.go, hlt, MJ]
   by_cases hc:xs.getD ((lo+hi) / 2) j<j
   ·rw [Lp hc]
    refine pR xs j fuel _ hi (by omega) h2 (by omega) hr (fun i hi'=>?_) hb
    by_cases e:i=(lo+hi) / 2
    ·rw [e];exact hc
    ·have := hr i ((lo + hi) / 2) (by omega) (by omega)
     omega
   ·rw [Lq hc]
    refine pR xs j fuel lo _ (by omega) (by omega) (by omega) hr ha (fun i hi' hs=>?_)
    by_cases e:i=(lo+hi) / 2
    ·rw [e];omega
    ·have := hr ((lo + hi) / 2) i (by omega) hs
     omega
  ·have e : lo = hi := by omega
   subst e
   simp only [SetTable.below.go,hlt,MH]
   exact ⟨h2,ha,hb⟩
theorem sv {xs:Array Nat} (h:Cj xs.toList) (j:Nat):∀ i k,i<k->k<xs.size->xs.getD i j<xs.getD k j:=fun i k hik hk=>by
 have hi:i<xs.size:=by omega
 have:=NW.mp h i k (by simpa using hi) (by simpa using hk) hik
 simpa [Array.getD,hi,hk] using this
theorem lg {xs:Array Nat} (h:Cj xs.toList) (j:Nat):SetTable.below xs j<=xs.size/\(∀ i,i<SetTable.below xs j->xs.getD i j<j)/\(∀ i,SetTable.below xs j<=i->i<xs.size->j<=xs.getD i j):=
 pR xs j xs.size 0 xs.size (NN _) (L9 _) (by omega) (sv h j) (fun i hi=>by omega) (fun i h1 h2=>by omega)
theorem zz {xs:Array Nat} (h:Cj xs.toList) {i j:Nat} (e:xs[i]?=some j):SetTable.below xs j=i:=by
 obtain ⟨h1,h2,h3⟩:=lg h j
 have hi:i<xs.size:=by
  rcases NX.mp e with ⟨q,_⟩;exact q
 have ei:xs.getD i j=j:=by
  rcases NX.mp e with ⟨q,z⟩
  simp [Array.getD,hi,z]
 by_cases hlt:SetTable.below xs j<i
 ·have a := h3 (SetTable.below xs j) (L9 _) (by omega)
  have b:=sv h j (SetTable.below xs j) i hlt hi
  omega
 ·by_cases hgt : i < SetTable.below xs j
  ·have:=h2 i hgt;omega
  ·omega
theorem jz {α:Type} (xs:Array α) (p:Nat) (x:α):(SetTable.insertAt xs p x).toList=xs.toList.take p++x::xs.toList.drop p:=by
 unfold SetTable.insertAt
 simp [NY]
theorem js {α:Type} (p:α->Prop):∀ (l:List α),(∃ x∈l,p x)->∃ pre x post,l=pre++x::post/\p x/\∀ y∈pre,¬ p y
 | [],h=>by obtain ⟨x,hx,_⟩:=h;simp at hx
 | a::l,h=>by
  by_cases ha:p a
  ·exact ⟨[],a,l,rfl,ha,fun y hy=>by simp at hy⟩
  ·obtain ⟨x, hx, px⟩ := h
   rcases LH.mp hx with z | z
   ·rw [z] at px;exact absurd px ha
   ·obtain ⟨pre, y, post, e, py, hp⟩ := js p l ⟨x, z, px⟩
    refine ⟨a::pre,y,post,by rw [e];rfl,py,fun w hw=>?_⟩
    rcases LH.mp hw with q | q
    ·rw [q];exact ha
    ·exact hp w q
structure qL (t:SetTable) (es:Array (Int × Value)) (Z:List (Nat × Int × Value)):Prop where
 place:t.place.toList=Z.map (·.1)
 ents:es.toList=Z.map (·.2)
 ris:Cj (Z.map (·.1))
 top:∀ z∈Z,z.1<=t.mask
 dum:t.dummies=#[]
 reach:∀ z∈Z,∃ pre post,cz t.mask z.2.1=pre++z.1::post/\∀ k∈pre,k∈Z.map (·.1)
theorem qL.size {t:SetTable}{es:Array (Int × Value)}{Z:List (Nat × Int × Value)} (T:qL t es Z):t.place.size=Z.length/\es.size=Z.length:=by
 have a:=LS List.length T.place
 have b:=LS List.length T.ents
 simp at a b
 exact ⟨a,b⟩
theorem qL.fill {t:SetTable}{es:Array (Int × Value)}{Z:List (Nat × Int × Value)} (T:qL t es Z):t.fill=Z.length:=by
 unfold SetTable.fill;rw [T.size.1,T.dum];rfl
theorem rB (j:Nat):SetTable.has #[] j=false:=by
 unfold SetTable.has;simp
theorem qL.slot_empty {t:SetTable}{es:Array (Int × Value)}{Z:List (Nat × Int × Value)} (T:qL t es Z) {j:Nat} (h:j ∉ Z.map (·.1)):t.slot j=.empty:=by
 unfold SetTable.slot
 have hn:¬ (t.place[SetTable.below t.place j]? == some j)=true:=by
  intro e
  have e':t.place[SetTable.below t.place j]?=some j:=by simpa using e
  apply h
  rw [<- T.place]
  rw [<- NZ] at e'
  exact Mu e'
 simp only [hn,T.dum,rB]
 rfl
theorem qL.slot_live {t:SetTable}{es:Array (Int × Value)}{Z:List (Nat × Int × Value)} (T:qL t es Z) {i:Nat}{z:Nat × Int × Value} (h:Z[i]?=some z):t.slot z.1=.live i:=by
 have e:t.place[i]?=some z.1:=by
  rw [<- NZ,T.place,Ms,h];rfl
 have r:Cj t.place.toList:=by rw [T.place];exact T.ris
 have eb:=zz r e
 unfold SetTable.slot
 have hc:(t.place[SetTable.below t.place z.1]? == some z.1)=true:=by rw [eb,e];simp
 simp only [hc,MJ]
 rw [eb]
theorem qL.hashAt {t:SetTable}{es:Array (Int × Value)}{Z:List (Nat × Int × Value)} (T:qL t es Z) {i:Nat}{z:Nat × Int × Value} (h:Z[i]?=some z):es[i]?=some z.2:=by
 rw [<- NZ,T.ents,Ms,h];rfl
theorem i6 {α:Type}:∀ {l1 l2:List α},l1.Nodup->(∀ x∈l1,x∈l2)->l1.length<=l2.length
 | [],_,_,_=>NN _
 | a::r,l2,hn,hs=>by
  obtain ⟨s,t,e⟩:=List.append_of_mem (hs a LF)
  have hn':=Mj.mp hn
  have ih:=i6 (l1:=r) (l2:=s++t) hn'.2 (fun x hx=>by
   have hx2:=hs x (LG _ hx)
   rw [e] at hx2
   rcases LJ.mp hx2 with q | q
   ·exact LK _ q
   ·rcases LH.mp q with q | q
    ·rw [q] at hx;exact absurd hx hn'.1
    ·exact Mc _ q)
  rw [e,Mv,ND,ND]
  rw [Mv] at ih
  omega
theorem xv (mask:Nat):∀ (n i pe:Nat),i<=mask->∀ j∈ye mask n i pe,j<=mask
 | 0,_,_,_,j,h=>by simp [ye] at h
 | n+1,i,pe,hi,j,h=>by
  rcases LJ.mp h with q | q
  ·obtain ⟨k, hk, e⟩ := N0.mp q
   have hk':=LA.mp hk
   have:SetTable.runEnd mask i<=mask:=by unfold SetTable.runEnd;split <;> omega
   have e':i+k=j:=e
   omega
  ·refine xv mask n _ _ ?_ j q
   show (i * 5+1+pe / 32) % (mask+1)<=mask
   exact Nat.le_of_lt_succ (Nat.mod_lt _ (Nat.succ_pos mask))
theorem jb {mask:Nat}{h:Int}{j:Nat} (e:j∈cz mask h):j<=mask:=by
 refine xv mask _ _ _ ?_ j e
 exact Nat.le_of_lt_succ (Nat.mod_lt _ (Nat.succ_pos mask))
theorem rD {m:Nat}{l:List Nat} (h:l.length<=m):∃ j,j<=m/\j ∉ l:=by
 refine N1 fun hn=>?_
 have hall:∀ j∈List.range (m+1),j∈l:=fun j hj=>by
  refine N1 fun hj'=>hn ⟨j,?_,hj'⟩
  have:=LA.mp hj;omega
 have:=i6 (N2 (n:=m+1)) hall
 rw [NS] at this
 omega
theorem qL.search {t:SetTable}{es:Array (Int × Value)}{Z:List (Nat × Int × Value)} (T:qL t es Z) {h:Int} (cov:∀ j,j<=t.mask->j∈cz t.mask h) (hz:Z.length<=t.mask) (hA:Nat->Int) (hAe:∀ i z,Z[i]?=some z->hA i=z.2.1) :
  (∃ i z nx,Z[i]?=some z/\z.2.1=h/\t.probe hA h (t.probeStart h)=some (.candidate z.1 i nx)) \/
  ((∀ z∈Z,z.2.1≠h)/\∃ j pre post,t.probe hA h (t.probeStart h)=some (.empty j none)/\j<=t.mask/\j ∉ Z.map (·.1)/\cz t.mask h=pre++j::post/\∀ k∈pre,k∈Z.map (·.1)):=by
 obtain ⟨j0,hj0,hn0⟩:=rD (m:=t.mask) (l:=Z.map (·.1)) (by rw [Mw];exact hz)
 obtain ⟨pre,j,post,e,hs,hp⟩:=js (fun j=>j ∉ Z.map (·.1)\/∃ z∈Z,z.1=j/\z.2.1=h) (cz t.mask h) ⟨j0,cov j0 hj0,.inl hn0⟩
 have hw:ip t (pre.length+1+post.length) (t.probeStart h)=pre++j::post:=by
  have q:=pk t (SetTable.turns t.mask) (SetTable.bits h % (t.mask+1)) (SetTable.bits h) none
  have el:(ye t.mask (SetTable.turns t.mask) (SetTable.bits h % (t.mask+1)) (SetTable.bits h)).length=pre.length+1+post.length:=by
   show (cz t.mask h).length=_
   rw [e,Mv,ND];omega
  rw [el] at q
  exact q.trans e
 have hlen:pre.length<10 * SetTable.turns t.mask:=by
  have q:=sr t.mask (SetTable.turns t.mask) (SetTable.bits h % (t.mask+1)) (SetTable.bits h)
  have el:(ye t.mask (SetTable.turns t.mask) (SetTable.bits h % (t.mask+1)) (SetTable.bits h)).length=pre.length+1+post.length:=by
   show (cz t.mask h).length=_
   rw [e,Mv,ND];omega
  omega
 have occ:∀ k∈pre,k∈Z.map (·.1):=fun k hk=>by
  refine N1 fun q=>hp k hk (.inl q)
 have hpre:∀ k∈pre,∃ i,t.slot k=.live i/\hA i≠h:=fun k hk=>by
  obtain ⟨z,hzm,ez⟩:=N0.mp (occ k hk)
  obtain ⟨i,hi⟩:=N3 hzm
  refine ⟨i,ez ▸ T.slot_live hi,fun q=>hp k hk (.inr ⟨z,hzm,ez,?_⟩)⟩
  rw [<- hAe i z hi];exact q
 obtain ⟨g1,g2⟩:=sF t hA h pre j post (10 * SetTable.turns t.mask) (t.probeStart h) hw hlen rfl hpre
 by_cases hany:∃ z∈Z,z.2.1=h
 ·obtain ⟨z, hzm, ez⟩ := hany
  obtain ⟨pz,qz,ezz,hoz⟩:=T.reach z hzm
  rw [ez] at ezz
  have hjo:j∈Z.map (·.1):=by
   have e2:pre++j::post=pz++z.1::qz:=by rw [<- e,<- ezz]
   rcases List.append_eq_append_iff.mp e2 with ⟨a,h1,h2⟩ | ⟨c,h1,h2⟩
   ·cases a with
    | nil=>
     simp only [Ny] at h2
     rw [(NU h2).1];exact N4 hzm
    | cons x a=>
     rw [NV] at h2
     have:j∈pz:=by rw [h1,(NU h2).1];simp
     exact hoz j this
   ·cases c with
    | nil=>
     simp only [Ny] at h2
     rw [<- (NU h2).1];exact N4 hzm
    | cons x c=>
     rw [NV] at h2
     have:z.1∈pre:=by rw [h1,(NU h2).1];simp
     exact absurd (.inr ⟨z,hzm,rfl,ez⟩) (hp z.1 this)
  rcases hs with q | ⟨z',hz',e1,e2⟩
  ·exact absurd hjo q
  ·obtain ⟨i, hi⟩ := N3 hz'
   obtain ⟨nx,en⟩:=g2 i (e1 ▸ T.slot_live hi) (by rw [hAe i z' hi];exact e2)
   exact .inl ⟨i,z',nx,hi,e2,by rw [e1];exact en⟩
 ·have hno : ∀ z ∈ Z, z.2.1 ≠ h := fun z hz' e' => hany ⟨z, hz', e'⟩
  rcases hs with q | ⟨z',hz',e1,e2⟩
  ·have hjm : j <= t.mask := jb (h := h) (by rw [e]; simp)
   exact .inr ⟨hno,j,pre,post,g1 (T.slot_empty q),hjm,q,e,occ⟩
  ·exact absurd e2 (hno z' hz')
theorem wK {l:List Nat}{j p:Nat} (h:Cj l) (h1:∀ x∈l.take p,x<j) (h2:∀ x∈l.drop p,j<x):Cj (l.take p++j::l.drop p):=by
 unfold Cj at *
 have h':(l.take p++l.drop p).Pairwise (·<·):=by rw [N5];exact h
 rw [List.pairwise_append] at h' ⊢
 refine ⟨h'.1,N6.mpr ⟨fun x hx=>h2 x hx,h'.2.1⟩,fun a ha b hb=>?_⟩
 rcases LH.mp hb with q | q
 ·rw [q];exact h1 a ha
 ·exact h'.2.2 a ha b q
theorem qL.put {t:SetTable}{es:Array (Int × Value)}{Z:List (Nat × Int × Value)} (T:qL t es Z) {j:Nat}{h:Int}{x:Value}{pre post:List Nat} (hj:j<=t.mask) (hn:j ∉ Z.map (·.1)) (e:cz t.mask h=pre++j::post) (hp:∀ k∈pre,k∈Z.map (·.1)) :
  ∃ Z',qL (t.put j).1 (SetTable.insertAt es (t.put j).2 (h,x)) Z'/\Z'.Perm ((j,h,x)::Z)/\(t.put j).1={ t with place:=SetTable.insertAt t.place (SetTable.below t.place j) j }:=by
 have e1:(t.put j).1={ t with place:=SetTable.insertAt t.place (SetTable.below t.place j) j }:=by
  unfold SetTable.put
  simp only [T.dum,rB]
  rw [Lq LZ]
 have e2:(t.put j).2=SetTable.below t.place j:=rfl
 have r:Cj t.place.toList:=by rw [T.place];exact T.ris
 obtain ⟨b1,b2,b3⟩:=lg r j
 generalize hb:SetTable.below t.place j=p at *
 refine ⟨Z.take p++(j,h,x)::Z.drop p,⟨?_,?_,?_,fun z hz=>?_,by rw [e1];exact T.dum,fun z hz=>?_⟩,?_,e1⟩
 ·rw [e1]
  show (SetTable.insertAt t.place p j).toList=_
  rw [jz,T.place,N7,Nb,N8,N9]
 ·rw [e2,jz,T.ents,N7,Nb,N8,N9]
 ·rw [N7, Nb, N8, N9]
  have hlen:t.place.size=(Z.map (·.1)).length:=by rw [<- T.place];simp
  refine wK T.ris (fun y hy=>?_) (fun y hy=>?_)
  ·obtain ⟨i, hi⟩ := N3 hy
   rw [List.getElem?_take] at hi
   split at hi
   ·rename_i hlt
    have q:=b2 i hlt
    rw [<- T.place,NZ] at hi
    simp only [Oa,hi,Ob] at q
    exact q
   ·cases hi
  ·obtain ⟨i, hi⟩ := N3 hy
   rw [Oc] at hi
   have hmem:y∈Z.map (·.1):=Mu hi
   rw [<- T.place,NZ] at hi
   have hlt:p+i<t.place.size:=(NX.mp hi).1
   have q:=b3 (p+i) (by omega) hlt
   simp only [Oa,hi,Ob] at q
   have:y≠j:=fun ey=>hn (ey ▸ hmem)
   omega
 ·rw [e1]
  show z.1<=t.mask
  rcases LJ.mp hz with q | q
  ·exact T.top z (Od q)
  ·rcases LH.mp q with q | q
   ·rw [q];exact hj
   ·exact T.top z (Oe q)
 ·rw [e1]
  show ∃ pre post,cz t.mask z.2.1=pre++z.1::post/\_
  have sub:∀ k∈Z.map (·.1),k∈(Z.take p++(j,h,x)::Z.drop p).map (·.1):=fun k hk=>by
   rw [<- N5 p Z,N7] at hk
   rw [N7,Nb]
   rcases LJ.mp hk with q | q
   ·exact LK _ q
   ·exact Mc _ (LG _ q)
  have old:∀ z∈Z,∃ pre post,cz t.mask z.2.1=pre++z.1::post/\∀ k∈pre,k∈(Z.take p++(j,h,x)::Z.drop p).map (·.1):=fun z hz=>by
   obtain ⟨a,b,c,d⟩:=T.reach z hz
   exact ⟨a,b,c,fun k hk=>sub k (d k hk)⟩
  rcases LJ.mp hz with q | q
  ·exact old z (Od q)
  ·rcases LH.mp q with q | q
   ·rw [q];exact ⟨pre,post,e,fun k hk=>sub k (hp k hk)⟩
   ·exact old z (Oe q)
 ·have q : (Z.take p ++ (j, h, x) :: Z.drop p).Perm ((j, h, x) :: (Z.take p ++ Z.drop p)) := List.perm_middle
  rw [N5] at q
  exact q
theorem rE (mask:Nat) (owner:Array (Option Nat)):∀ (n i pe:Nat),
  SetTable.layClean.free mask owner n i pe=(ye mask n i pe).find? fun j=>(owner.getD j (some 0)).isNone
 | 0,_,_=>rfl
 | n+1,i,pe=>by
  show (match (List.range (SetTable.runEnd mask i+1 - i)).find? fun k=>(owner.getD (i+k) (some 0)).isNone with | some k=>_ | none=>_)=_
  show _=((List.range (SetTable.runEnd mask i+1 - i)).map (i+·)++ye mask n (SetTable.leap mask i pe).1 (SetTable.leap mask i pe).2).find? _
  rw [List.find?_append,List.find?_map,<- rE mask owner n]
  have ec:((fun j=>(owner.getD j (some 0)).isNone) ∘ fun x=>i+x)=fun k=>(owner.getD (i+k) (some 0)).isNone:=rfl
  rw [ec]
  cases (List.range (SetTable.runEnd mask i+1 - i)).find? fun k=>(owner.getD (i+k) (some 0)).isNone with
  | some k=>rfl
  | none=>rfl
structure Fd (mask:Nat) (hs:List Int) (owner:Array (Option Nat)):Prop where
 size:owner.size=mask+1
 all:∀ (i:Nat) (h:Int),hs[i]?=some h->∃ j:Nat,j<=mask/\owner[j]?=some (some i)/\∃ pre post,cz mask h=pre++j::post/\∀ k∈pre,∃ i':Nat,owner[k]?=some (some i')
 lt:∀ (j i:Nat),owner[j]?=some (some i)->i<hs.length
 inj:∀ (j j' i:Nat),owner[j]?=some (some i)->owner[j']?=some (some i)->j=j'
theorem DI (mask:Nat):Fd mask [] (Array.replicate (mask+1) none):=by
 have hno:∀ (j i:Nat),(Array.replicate (mask+1) (none:Option Nat))[j]?≠some (some i):=fun j i e=>by
  rw [Array.getElem?_replicate] at e
  split at e <;> cases e
 exact ⟨by simp,fun i h e=>by simp at e,fun j i e=>absurd e (hno j i),fun j j' i e=>absurd e (hno j i)⟩
theorem BF {mask:Nat}{hs:List Int}{owner:Array (Option Nat)} (O:Fd mask hs owner) (hl:hs.length<=mask):∃ j,j<=mask/\owner[j]?=some none:=by
 refine N1 fun hn=>?_
 have hall:∀ j,j<=mask->∃ i,owner[j]?=some (some i):=fun j hj=>by
  have hs':j<owner.size:=by rw [O.size];omega
  cases e:owner[j]? with
  | none=>rw [Of] at e;omega
  | some o=>
   cases o with
   | none=>exact absurd ⟨j,hj,e⟩ hn
   | some i=>exact ⟨i,rfl⟩
 have key:∀ n,n<=mask+1->∃ l:List Nat,l.length=n/\l.Nodup/\(∀ i∈l,i<hs.length)/\∀ i∈l,∃ j,j<n/\owner[j]?=some (some i):=by
  intro n
  induction n with
  | zero=>exact fun _=>⟨[],rfl,Og,fun _ h=>by simp at h,fun _ h=>by simp at h⟩
  | succ n ih=>
   intro hn'
   obtain ⟨l,h1,h2,h3,h4⟩:=ih (by omega)
   obtain ⟨i,hi⟩:=hall n (by omega)
   refine ⟨i::l,by rw [ND,h1],Mj.mpr ⟨fun hm=>?_,h2⟩,fun x hx=>?_,fun x hx=>?_⟩
   ·obtain ⟨j, hj, ej⟩ := h4 i hm
    have:=O.inj j n i ej hi
    omega
   ·rcases LH.mp hx with q | q
    ·rw [q];exact O.lt n i hi
    ·exact h3 x q
   ·rcases LH.mp hx with q | q
    ·rw [q];exact ⟨n,by omega,hi⟩
    ·obtain ⟨j, hj, ej⟩ := h4 x q
     exact ⟨j,by omega,ej⟩
 obtain ⟨l,h1,h2,h3,_⟩:=key (mask+1) (L9 _)
 have:=i6 h2 (l2:=List.range hs.length) (fun x hx=>LA.mpr (h3 x hx))
 rw [NS,h1] at this
 omega
theorem BE {mask:Nat}{hs:List Int}{owner:Array (Option Nat)}{h:Int} (O:Fd mask hs owner) (hl:hs.length<=mask) (cov:∀ j,j<=mask->j∈cz mask h) :
  ∃ j,SetTable.layClean.free mask owner (SetTable.turns mask) (SetTable.bits h % (mask+1)) (SetTable.bits h)=some j/\Fd mask (hs++[h]) (owner.setIfInBounds j (some hs.length)):=by
 obtain ⟨j0,hj0,e0⟩:=BF O hl
 have none_iff:∀ j,((owner.getD j (some 0)).isNone=true)↔owner[j]?=some none:=fun j=>by
  rw [Oa]
  cases owner[j]? with
  | none=>simp
  | some o=>cases o <;> simp
 obtain ⟨pre,j,post,e,hs',hp⟩:=js (fun j=>owner[j]?=some none) (cz mask h) ⟨j0,cov j0 hj0,e0⟩
 have hjm:j<=mask:=jb (h:=h) (by rw [e];simp)
 have hjs:j<owner.size:=by rw [O.size];omega
 have hocc:∀ k∈pre,∃ i',owner[k]?=some (some i'):=fun k hk=>by
  have hkm:k<=mask:=jb (h:=h) (by rw [e];simp [hk])
  cases q:owner[k]? with
  | none=>
   rw [Of,O.size] at q
   omega
  | some o=>
   cases o with
   | none=>exact absurd q (hp k hk)
   | some i=>exact ⟨i,rfl⟩
 have hset:∀ k,(owner.setIfInBounds j (some hs.length))[k]?=if j=k then some (some hs.length) else owner[k]?:=fun k=>by
  rw [Array.getElem?_setIfInBounds]
  by_cases q:j=k
  ·rw [Lp q,Lp q,Lp hjs]
  ·rw [Lq q,Lq q]
 have keep:∀ k i',owner[k]?=some (some i')->(owner.setIfInBounds j (some hs.length))[k]?=some (some i'):=fun k i' q=>by
  rw [hset,Lq]
  ·exact q
  ·intro ej;rw [<- ej,hs'] at q;cases q
 refine ⟨j,?_,by simp [O.size],fun i h' ei=>?_,fun k i ei=>?_,fun k k' i e1 e2=>?_⟩
 ·rw [rE]
  show (cz mask h).find? _=some j
  rw [e,List.find?_append]
  have e1:pre.find? (fun j=>(owner.getD j (some 0)).isNone)=none:=by
   rw [List.find?_eq_none]
   intro k hk q
   exact hp k hk ((none_iff k).mp q)
  simp only [e1,Option.none_or,List.find?_cons,(none_iff j).mpr hs']
 ·by_cases hi : i < hs.length
  ·rw [Mr hi] at ei
   obtain ⟨j',a1,a2,pr,po,a3,a4⟩:=O.all i h' ei
   exact ⟨j',a1,keep j' i a2,pr,po,a3,fun k hk=>(a4 k hk).elim fun i' q=>⟨i',keep k i' q⟩⟩
  ·have hi':i=hs.length:=by
    have:=(LL.mp ei).1
    simp at this;omega
   subst hi'
   rw [Mp (L9 _),Oh] at ei
   have eh:h=h':=by simpa using ei
   subst eh
   exact ⟨j,hjm,by rw [hset,Lp rfl],pre,post,e,fun k hk=>(hocc k hk).elim fun i' q=>⟨i',keep k i' q⟩⟩
 ·rw [hset] at ei
  rw [Mv,Nt]
  split at ei
  ·cases ei;omega
  ·have:=O.lt k i ei;omega
 ·rw [hset] at e1 e2
  split at e1
  ·rename_i q1
   cases e1
   split at e2
   ·rename_i q2;rw [<- q1,q2]
   ·have:=O.lt k' _ e2;omega
  ·split at e2
   ·cases e2
    have:=O.lt k _ e1;omega
   ·exact O.inj k k' i e1 e2
theorem uK {mask:Nat}:∀ (hs0 hs1:List Int) (owner:Array (Option Nat)),Fd mask hs0 owner->hs0.length+hs1.length<=mask+1->(∀ h∈hs1,∀ j,j<=mask->j∈cz mask h) ->
  ∃ owner',hs1.foldl (fun (acc:Option (Array (Option Nat) × Nat)) h=>do
   let (owner,k) <- acc
   let j <- SetTable.layClean.free mask owner (SetTable.turns mask) (SetTable.bits h % (mask+1)) (SetTable.bits h)
   pure (owner.setIfInBounds j (some k),k+1)) (some (owner,hs0.length))=some (owner',(hs0++hs1).length)/\Fd mask (hs0++hs1) owner'
 | hs0,[],owner,O,_,_=>⟨owner,by simp,by simpa using O⟩
 | hs0,h::hs1,owner,O,hl,cov=>by
  rw [ND] at hl
  obtain ⟨j,ej,O'⟩:=BE (h:=h) O (by omega) (cov h LF)
  obtain ⟨ow,e1,e2⟩:=uK (hs0++[h]) hs1 _ O' (by rw [Mv,Nt];omega) (fun x hx=>cov x (LG _ hx))
  rw [Np,List.singleton_append] at e1 e2
  refine ⟨ow,?_,e2⟩
  rw [Nq]
  show List.foldl _ ((SetTable.layClean.free mask owner (SetTable.turns mask) (SetTable.bits h % (mask+1)) (SetTable.bits h)).bind fun j=>some (owner.setIfInBounds j (some hs0.length),hs0.length+1)) hs1=_
  rw [ej]
  show List.foldl _ (some (owner.setIfInBounds j (some hs0.length),hs0.length+1)) hs1=_
  rw [Mv,Nt] at e1
  exact e1
theorem uG {α:Type}:∀ l:List α,(List.range l.length).filterMap (fun i=>l[i]?)=l
 | []=>rfl
 | a::l=>by
  rw [ND,NP,LD]
  show a::List.filterMap _ _=_
  rw [MM]
  show a::List.filterMap (fun i=>l[i]?) _=_
  rw [uG l]
theorem D8 {mask:Nat}{hs:List Int} (hl:hs.length<=mask+1) (cov:∀ h∈hs,∀ j,j<=mask->j∈cz mask h):∃ owner,SetTable.layClean mask hs.toArray=some owner/\Fd mask hs owner:=by
 obtain ⟨ow,e1,e2⟩:=uK [] hs _ (DI mask) (by rw [NT,Nat.zero_add];exact hl) cov
 refine ⟨ow,?_,by simpa using e2⟩
 unfold SetTable.layClean
 rw [List.foldl_toArray']
 ·show Option.map (·.1) (hs.foldl _ (some (Array.replicate (mask + 1) none, ([] : List Int).length))) = _
  rw [e1];rfl
 ·simp
theorem pW {t:SetTable}{es:Array (Int × Value)}{wanted mask:Nat} (hm:SetTable.sizeAbove wanted - 1=mask) (hl:es.size<=mask) (cov:∀ e∈es.toList,∀ j,j<=mask->j∈cz mask e.1) :
  ∃ t' order Z',t.relaid (es.map (·.1)) wanted=some (t',order)/\qL t' (order.filterMap (es[·]?)) Z'/\(Z'.map (·.2)).Perm es.toList/\t'.mask=mask/\t'.led=t.led/\t'.plain=t.plain/\order.toList.Perm (List.range es.size):=by
 have ea:es.map (·.1)=(es.toList.map (·.1)).toArray:=by rw [<- Array.toList_map]
 obtain ⟨ow,e1,O⟩:=D8 (mask:=mask) (hs:=es.toList.map (·.1)) (by simp;omega) (fun h hh=>by
  obtain ⟨e,he,q⟩:=N0.mp hh
  rw [<- q];exact cov e he)
 let live:List (Nat × Nat):=(List.range (mask+1)).filterMap fun j=>(ow.getD j none).map (j,·)
 have hlive:∀ j i,(j,i)∈live↔(j<=mask/\ow[j]?=some (some i)):=fun j i=>by
  simp only [live,Mb,LA]
  constructor
  ·rintro ⟨k, hk, q⟩
   rw [Oa] at q
   cases e:ow[k]? with
   | none=>rw [e] at q;cases q
   | some o=>
    rw [e] at q
    cases o with
    | none=>cases q
    | some i'=>
     simp only [Ob,Option.map_some,Option.some.injEq,Prod.mk.injEq] at q
     obtain ⟨q1,q2⟩:=q
     subst q1;subst q2
     exact ⟨by omega,e⟩
  ·rintro ⟨hj, e⟩
   refine ⟨j,by omega,?_⟩
   rw [Oa,e];rfl
 have hfst:(live.map (·.1)).Pairwise (·<·):=by
  have gen:∀ (l:List Nat),l.Pairwise (·<·)->((l.filterMap fun j=>(ow.getD j none).map (j,·)).map (·.1)).Pairwise (·<·)/\∀ x∈((l.filterMap fun j=>(ow.getD j none).map (j,·)).map (·.1)),x∈l:=by
   intro l
   induction l with
   | nil=>intro _;exact ⟨List.Pairwise.nil,fun x hx=>by simp at hx⟩
   | cons a l ih=>
    intro hp
    obtain ⟨h1,h2⟩:=N6.mp hp
    obtain ⟨i1,i2⟩:=ih h2
    rw [LD]
    cases q:(ow.getD a none).map (a,·) with
    | none=>exact ⟨i1,fun x hx=>LG _ (i2 x hx)⟩
    | some p=>
     have ep:p.1=a:=by
      cases hq:ow.getD a none with
      | none=>rw [hq] at q;cases q
      | some i=>rw [hq] at q;cases q;rfl
     show (p.1::List.map _ _).Pairwise _/\∀ x∈p.1::List.map _ _,x∈a::l
     rw [ep]
     exact ⟨N6.mpr ⟨fun x hx=>h1 x (i2 x hx),i1⟩,fun x hx=>by
      rcases LH.mp hx with z | z
      ·rw [z];exact LF
      ·exact LG _ (i2 x z)⟩
  exact (gen _ Oi).1
 have hnd:live.Nodup:=by
  have:=hfst.imp (fun h=>Ly h)
  exact List.Pairwise.of_map (·.1) (fun a b h e=>h (by rw [e])) this
 have hsz:∀ j i,(j,i)∈live->i<es.size:=fun j i h=>by
  have:=O.lt j i ((hlive j i).mp h).2
  simpa using this
 have hsnd:(live.map (·.2)).Perm (List.range es.size):=by
  refine (List.perm_ext_iff_of_nodup ?_ N2).mpr fun i=>?_
  ·refine List.Pairwise.map _ (fun a b h => ?_) (List.Pairwise.and_mem.mp hnd)
   obtain ⟨ha,hb,hne⟩:=h
   intro e
   have q1:=((hlive a.1 a.2).mp ha).2
   have q2:=((hlive b.1 b.2).mp hb).2
   rw [<- e] at q2
   exact hne (Prod.ext (O.inj _ _ _ q1 q2) e)
  ·rw [LA, N0]
   constructor
   ·rintro ⟨p,hp,e⟩;rw [<- e];exact hsz p.1 p.2 hp
   ·intro hi
    obtain ⟨j,hj,q,_⟩:=O.all i (es[i].1) (by rw [Ms,NZ,Oj hi];rfl)
    exact ⟨(j,i),(hlive j i).mpr ⟨hj,q⟩,rfl⟩
 let Z':List (Nat × Int × Value):=live.filterMap fun p=>(es[p.2]?).map fun e=>(p.1,e)
 have hZ1:Z'.map (·.1)=live.map (·.1):=by
  have gen:∀ l:List (Nat × Nat),(∀ p∈l,p.2<es.size)->(l.filterMap fun p=>(es[p.2]?).map fun e=>(p.1,e)).map (·.1)=l.map (·.1):=by
   intro l
   induction l with
   | nil=>intro _;rfl
   | cons p l ih=>
    intro h
    rw [LD,Oj (h p LF)]
    show p.1::List.map _ _=p.1::List.map _ _
    rw [ih fun q hq=>h q (LG _ hq)]
  exact gen live fun p hp=>hsz p.1 p.2 hp
 have hZ2:Z'.map (·.2)=(live.map (·.2)).filterMap (es[·]?):=by
  have gen:∀ l:List (Nat × Nat),(l.filterMap fun p=>(es[p.2]?).map fun e=>(p.1,e)).map (·.2)=(l.map (·.2)).filterMap (es[·]?):=by
   intro l
   induction l with
   | nil=>rfl
   | cons p l ih=>
    rw [LD,Nb,LD]
    cases es[p.2]? with
    | none=>exact ih
    | some e=>show e::List.map _ _=e::_;rw [ih]
  exact gen live
 have hes:(List.range es.size).filterMap (es[·]?)=es.toList:=by
  have q:=uG es.toList
  rw [LR] at q
  simpa only [NZ] using q
 refine ⟨{ mask,place:=(live.map (·.1)).toArray,dummies:=#[],finger:=t.finger,led:=t.led,moves:=t.movedTo mask,plain:=t.plain },(live.map (·.2)).toArray,Z',?_,⟨?_,?_,?_,fun z hz=>?_,rfl,fun z hz=>?_⟩,?_,rfl,rfl,rfl,hsnd⟩
 ·unfold SetTable.relaid SetTable.laid
  rw [hm,ea,e1]
  rfl
 ·show (live.map (·.1))=_;rw [hZ1]
 ·rw [hZ2];simp
 ·rw [hZ1];exact hfst
 ·have : z.1 ∈ live.map (·.1) := by rw [<- hZ1]; exact N4 hz
  obtain ⟨p,hp,q⟩:=N0.mp this
  rw [<- q];exact ((hlive p.1 p.2).mp hp).1
 ·obtain ⟨p, hp, q⟩ := Mb.mp hz
  rw [Oj (hsz p.1 p.2 hp)] at q
  have ez:z=(p.1,es[p.2]'(hsz p.1 p.2 hp)):=(Lr q).symm
  obtain ⟨hj,ho⟩:=(hlive p.1 p.2).mp hp
  obtain ⟨j,a1,a2,pre,post,a3,a4⟩:=O.all p.2 (es[p.2]'(hsz p.1 p.2 hp)).1 (by rw [Ms,NZ,Oj (hsz p.1 p.2 hp)];rfl)
  have ejp:j=p.1:=O.inj _ _ _ a2 ho
  refine ⟨pre,post,by rw [ez];rw [ejp] at a3;exact a3,fun k hk=>?_⟩
  obtain ⟨i',hi'⟩:=a4 k hk
  rw [hZ1]
  have hkm:k<=mask:=jb (h:=(es[p.2]'(hsz p.1 p.2 hp)).1) (by rw [a3];simp [hk])
  exact N0.mpr ⟨(k,i'),(hlive k i').mpr ⟨hkm,hi'⟩,rfl⟩
 ·rw [hZ2, <- hes]
  exact hsnd.filterMap _
def prs:List (List Int):=((List.range 36).filter fun n=>n / 6<n % 6).map fun n=>[((n / 6:Nat):Int),((n % 6:Nat):Int)]
def hsh (ks:List Int):Int:=reduceHash (Builtin.Tuple.tupleHashOf (ks.map hashInt))
theorem HI {prog:Program}{w:World} (ks:List Int):tupleKeyHash (intKind prog w) ks=hsh ks:=rfl
def Fp (mask:Nat):Bool:=prs.all fun ks=>(List.range (mask+1)).all fun j=>(cz mask (hsh ks)).contains j
theorem KJ:Fp 7=true:=by decide +kernel
theorem E2:Fp 31=true:=by decide +kernel
theorem JI:(prs.map hsh).Nodup:=by decide +kernel
theorem xH:prs.length=15:=by decide +kernel
theorem wj {mask:Nat} (h:Fp mask=true) {ks:List Int} (hk:ks∈prs):∀ j,j<=mask->j∈cz mask (hsh ks):=fun j hj=>by
 have a:=Ol.mp h ks hk
 have b:=Ol.mp a j (LA.mpr (by omega))
 simpa using b
theorem HG {l:List (List Int)} (h:(l.map hsh).Nodup) {a b:List Int} (ha:a∈l) (hb:b∈l) (e:hsh a=hsh b):a=b:=by
 induction l with
 | nil=>simp at ha
 | cons c l ih=>
  rw [Nb] at h
  obtain ⟨h1,h2⟩:=Mj.mp h
  rcases LH.mp ha with qa | qa <;> rcases LH.mp hb with qb | qb
  ·rw [qa,qb]
  ·exact absurd (by rw [<- qa,e];exact N4 qb) h1
  ·exact absurd (by rw [<- qb,<- e];exact N4 qa) h1
  ·exact ih h2 qa qb
theorem Ef {a b:List Int} (ha:a∈prs) (hb:b∈prs) (e:hsh a=hsh b):a=b:=HG JI ha hb e
theorem sx {a b:Int} (h1:0<=a) (h2:a<b) (h3:b<6):[a,b]∈prs:=by
 have key:∀ x:Nat,x<6->∀ y:Nat,y<6->x<y->[(x:Int),(y:Int)]∈prs:=by decide +kernel
 have:=key a.toNat (by omega) b.toNat (by omega) (by omega)
 rw [Om h1,Om (by omega)] at this
 exact this
end RS
namespace RS
open PySem PyProof.Rows
abbrev KP:=List Int × Addr
structure dF (w:World) (h:Heap) (a:Addr) (qs:List (Int × Value)) (o:Obj) (es:Array (Int × Value)) (ep:Nat) (t:SetTable) (Z:List (Nat × Int × Value)):Prop where
 ho:h.get? a=some o
 ex:o.ExactSet
 hd:o.data=.set es ep t
 tab:qL t es Z
 plain:t.plain=true
 led:t.led=!w.params.followText "set-order"
 big:(t.mask=7/\Z.length<=4)\/(t.mask=31/\Z.length<=18)
 perm:(Z.map (·.2)).Perm qs
def vV (p:KP):Int × Value:=(hsh p.1,Value.ref p.2)
def eH (w:World) (h:Heap) (a:Addr) (ps:List KP):Prop:=∃ o es ep t Z,dF w h a (ps.map vV) o es ep t Z/\(∀ p∈ps,p.1∈prs)/\(ps.map (·.1)).Nodup
theorem dF.len {w:World}{h:Heap}{a:Addr}{ps:List (Int × Value)}{o es ep t Z} (S:dF w h a ps o es ep t Z):Z.length=ps.length:=by
 have:=S.perm.length_eq
 simpa using this
theorem ki {ps:List KP} (hk:∀ p∈ps,p.1∈prs) (hn:(ps.map (·.1)).Nodup):ps.length<=15:=by
 have:=i6 hn (l2:=prs) (fun x hx=>by obtain ⟨p,hp,e⟩:=N0.mp hx;rw [<- e];exact hk p hp)
 rw [Mw,xH] at this
 exact this
theorem dF.fits {w:World}{h:Heap}{a:Addr}{ps:List (Int × Value)}{o es ep t Z} (S:dF w h a ps o es ep t Z):t.fits es.size=true:=by
 unfold SetTable.fits
 rw [S.tab.fill,S.tab.size.1,S.tab.size.2]
 rcases S.big with ⟨h1,h2⟩ | ⟨h1,h2⟩ <;> simp [h1] <;> omega
theorem dF.cov {w:World}{h:Heap}{a:Addr}{ps:List (Int × Value)}{o es ep t Z} (S:dF w h a ps o es ep t Z) {k:List Int} (hk:k∈prs):∀ j,j<=t.mask->j∈cz t.mask (hsh k):=by
 rcases S.big with ⟨h1,h2⟩ | ⟨h1,h2⟩ <;> rw [h1]
 ·exact wj KJ hk
 ·exact wj E2 hk
theorem eH.keeps {w:World}{h h':Heap}{a:Addr}{ps:List KP} (S:eH w h a ps) (k:∀ o,h.get? a=some o->h'.get? a=some o):eH w h' a ps:=by
 obtain ⟨o,es,ep,t,Z,S,hk,hn⟩:=S
 exact ⟨o,es,ep,t,Z,⟨k o S.ho,S.ex,S.hd,S.tab,S.plain,S.led,S.big,S.perm⟩,hk,hn⟩
section
variable {prog:Program}{w:World}{A:Around}{E:Value->Shared->Prop}{s:Shared}
abbrev Tk (prog:Program) (w:World) (h:Heap) (k:List Int) (r:Addr):Prop:=IsTupleKey (intKind prog w) h k r
theorem items_int {k:List Int}{vs:List Value} (h:ItemsAre (intKind prog w) k vs):∀ v∈vs,∃ i t,v=.int i t:=by
 induction h with
 | nil=>intro v hv;simp at hv
 | @cons k v' ks vs h1 _ ih=>
  intro v hv
  rcases LH.mp hv with q | q
  ·obtain ⟨t, e⟩ := Ll (k := k) (v := v') h1
   exact ⟨k,t,by rw [q,e]⟩
  ·exact ih v q
theorem uM {k:List Int}{r:Addr}{Q:Bool->Shared->Prop} (hk:Tk prog w s.heap k r) (h:Q false s):wpAny (model prog w) A (ofAClassStatement 8 (.ref r)) Q E s:=by
 have hT:=hk.typeIs
 obtain ⟨o,items,n,ho,hc,hd,hi⟩:=hk
 unfold ofAClassStatement
 refine LV (MX hT ?_)
 dsimp only
 simp only [NB,MJ]
 refine LV (L4 ?_)
 simp only [On,NC,MH]
 refine LV (wpAny_seqItems ho hd ?_)
 dsimp only
 refine LV ?_
 show wpAny _ _ (forIn items _ _) _ _ s
 rw [<- Array.forIn_toList]
 refine Oo _ (fun rest r s'=>r.1=none/\s'=s/\∀ v∈rest,∃ i t,v=.int i t) _ ?_ ?_ _ _ ⟨rfl,rfl,items_int hi⟩
 ·rintro v rest r s' ⟨hr, rfl, hall⟩
  obtain ⟨i,t,e⟩:=hall v LF
  subst e
  unfold ofAClassStatement
  refine LV (L4 ?_)
  simp only [NC,MH]
  exact L4 ⟨rfl,rfl,fun u hu'=>hall u (LG _ hu')⟩
 ·rintro ⟨r1, r2⟩ s' ⟨hr, rfl, _⟩
  simp only at hr
  subst hr
  exact L4 h
theorem qI {k:List Int}{r:Addr}{Q:Bool->Shared->Prop} (hk:Tk prog w s.heap k r) (h:Q true s):wpAny (model prog w) A (hashByValue 8 (.ref r)) Q E s:=by
 have hT:=hk.typeIs
 obtain ⟨o,items,n,ho,hc,hd,hi⟩:=hk
 unfold hashByValue
 refine LV (wpAny_specialOf hT F.slot_tuple_hash.lookup ?_)
 dsimp only
 refine LV (wpAny_seqItems ho hd ?_)
 refine LV ?_
 show wpAny _ _ (forIn items _ _) _ _ s
 rw [<- Array.forIn_toList]
 refine Oo _ (fun rest r s'=>r.1=none/\s'=s/\∀ v∈rest,∃ i t,v=.int i t) _ ?_ ?_ _ _ ⟨rfl,rfl,items_int hi⟩
 ·rintro v rest r s' ⟨hr, rfl, hall⟩
  obtain ⟨i,t,e⟩:=hall v LF
  subst e
  unfold hashByValue
  refine LV (L4 ?_)
  simp only [On,NC,MH]
  exact L4 ⟨rfl,rfl,fun u hu'=>hall u (LG _ hu')⟩
 ·rintro ⟨r1, r2⟩ s' ⟨hr, rfl, _⟩
  simp only at hr
  subst hr
  exact L4 h
theorem BK {k:List Int}{r:Addr}{ys:List Value}{Q:Bool->Shared->Prop} (hk:Tk prog w s.heap k r) (hy:∀ y∈ys,∃ k' r',y=.ref r'/\Tk prog w s.heap k' r') (h:Q false s):wpAny (model prog w) A (searchCouldBeSeen (.ref r) ys) Q E s:=by
 unfold searchCouldBeSeen
 refine LV ?_
 refine Oo _ (fun rest r' s'=>r'.1=none/\s'=s/\∀ y∈rest,∃ k' r',y=.ref r'/\Tk prog w s.heap k' r') _ ?_ ?_ _ _ ⟨rfl,rfl,hy⟩
 ·rintro v rest q s' ⟨hr, rfl, hall⟩
  obtain ⟨k',r',e,hk'⟩:=hall v LF
  subst e
  have hrest:=fun u hu'=>hall u (LG _ hu')
  dsimp only
  by_cases hv:(r == r' || carriedByValue (Value.ref r) && carriedByValue (Value.ref r'))=true
  ·rw [Lp hv]
   exact L4 ⟨rfl,rfl,hrest⟩
  ·rw [Lq hv]
   refine LV (wpAny_eqIsQuiet_tuple hk ?_)
   simp only [On,NC,MH]
   refine LV (wpAny_eqIsQuiet_tuple hk' ?_)
   simp only [On,NC,MH]
   refine LV (uM hk ?_)
   simp only [NC,MH]
   refine LV (uM hk' ?_)
   simp only [NC,MH]
   exact L4 ⟨rfl,rfl,hrest⟩
 ·rintro ⟨r1, r2⟩ s' ⟨hr, rfl, _⟩
  simp only at hr
  subst hr
  exact L4 h
end
end RS
namespace RS
open PySem PyProof.Rows
section
variable {prog:Program}{w:World}{A:Around}{E:Value->Shared->Prop}{s:Shared}
theorem AS {h:Heap}{a:Addr}{ps:List KP}{o es ep t Z} (S:dF w h a (ps.map vV) o es ep t Z) {z:Nat × Int × Value} (hz:z∈Z):∃ p∈ps,z.2=(hsh p.1,Value.ref p.2):=by
 have:z.2∈Z.map (·.2):=N4 hz
 obtain ⟨p,hp,e⟩:=N0.mp (S.perm.mem_iff.mp this)
 exact ⟨p,hp,e.symm⟩
theorem HX {h:Heap}{a:Addr}{ps:List KP}{o es ep t Z} (S:dF w h a (ps.map vV) o es ep t Z) {p:KP} (hp:p∈ps):∃ z∈Z,z.2=(hsh p.1,Value.ref p.2):=by
 have:vV p∈ps.map vV:=N4 hp
 obtain ⟨z,hz,e⟩:=N0.mp (S.perm.mem_iff.mpr this)
 exact ⟨z,hz,e⟩
theorem yn {a r:Addr}{k:List Int}{ps:List KP}{o es ep t Z}{Q:SetFound->Shared->Prop} (S:dF w s.heap a (ps.map vV) o es ep t Z) (hks:∀ p∈ps,p.1∈prs) (hk:k∈prs) (hr:Tk prog w s.heap k r) (hps:∀ p∈ps,Tk prog w s.heap p.1 p.2) (hu:A.units<cLine)
  (h1:k∈ps.map (·.1)->Q (.there none) s)
  (h2:k ∉ ps.map (·.1)->∀ j pre post,j<=t.mask->j ∉ Z.map (·.1)->cz t.mask (hsh k)=pre++j::post->(∀ x∈pre,x∈Z.map (·.1))->Q (.free j false) s) :
  wpAny (model prog w) A (setSearch a (.ref r) (hsh k) true) Q E s:=by
 have hodd:t.gaveWay=false:=by
  unfold SetTable.gaveWay
  rcases S.big with ⟨q,_⟩ | ⟨q,_⟩ <;> rw [q] <;> decide
 have hz:Z.length<=t.mask:=by rcases S.big with ⟨q,q2⟩ | ⟨q,q2⟩ <;> omega
 unfold setSearch setSearchFrom
 refine LV (Oq S.ho S.hd S.fits ?_)
 dsimp only
 rw [hodd]
 simp only [NC,MH]
 generalize hpr:SetTable.probe t _ (hsh k) (Option.getD none (t.probeStart (hsh k)))=pr
 have key:∀ (hA:Nat->Int) pr,(∀ i z,Z[i]?=some z->hA i=z.2.1)->t.probe hA (hsh k) (t.probeStart (hsh k))=pr ->
   (∃ i z nx,Z[i]?=some z/\z.2.1=hsh k/\pr=some (.candidate z.1 i nx)) \/
   ((∀ z∈Z,z.2.1≠hsh k)/\∃ j pre post,pr=some (.empty j none)/\j<=t.mask/\j ∉ Z.map (·.1)/\cz t.mask (hsh k)=pre++j::post/\∀ x∈pre,x∈Z.map (·.1)):=fun hA pr hAe e=>by
  subst e
  exact S.tab.search (S.cov hk) hz hA hAe
 rcases key _ pr (fun i z hi=>by show (Option.map (·.1) es[i]?).getD 0=_;rw [S.tab.hashAt hi];rfl) hpr with ⟨i,z,nx,hi,ez,e⟩ | ⟨hno,j,pre,post,e,hj,hn,e2,hp⟩
 ·subst e
  dsimp only
  have hzm:z∈Z:=Mu hi
  obtain ⟨p,hp,ep'⟩:=AS S hzm
  have ek:p.1=k:=Ef (hks p hp) hk (by rw [<- ez,ep'])
  have hin:k∈ps.map (·.1):=by rw [<- ek];exact N4 hp
  have rest:wpAny (model prog w) A (do
    let some (_,y):=es[i]? | unsupported "internal:set-entry"
    let equal <- holding [y] (eqBool y (.ref r))
    let (es',_,t') <- setState a
    if true && equal then return SetFound.there none
    let some same:=t'.sameMemory t.moves t.mask | unsupported "set.changed-during-lookup:is-the-new-block-at-the-old-address"
    let still <- match (if same then t'.slot z.1 else .empty) with
     | .live i'=>match es'[i']? with
      | some (_,y')=>do pure (if <- isSame y' y then some i' else none)
      | none=>pure none
     | _=>pure none
    match still with
    | none=>rule "set.search.anew";setSearchFrom a (.ref r) (hsh k) true 99999 none
    | some i'=>if equal then return .there (some i') else setSearchFrom a (.ref r) (hsh k) true 99999 (some nx)) Q E s:=by
   rw [S.tab.hashAt hi,ep']
   dsimp only
   refine LV (LW (wpAny_eqBool_tuple hu (hps p hp) hr ?_))
   refine LV (Oq S.ho S.hd S.fits ?_)
   dsimp only
   rw [ek,Nz rfl]
   simp only [Os,MJ]
   exact L4 (h1 hin)
  by_cases hl:(!t.led)=true
  ·rw [Lp hl]
   refine LV (BK hr (fun y hy=>?_) ?_)
   ·obtain ⟨e', he', q⟩ := N0.mp hy
    have he2:e'∈es.toList:=by
     have:=Array.mem_filter.mp (Ot.mp he')
     exact Ot.mpr this.1
    rw [S.tab.ents] at he2
    obtain ⟨z',hz',q2⟩:=N0.mp he2
    obtain ⟨p',hp',q3⟩:=AS S hz'
    exact ⟨p'.1,p'.2,by rw [<- q,<- q2,q3],hps p' hp'⟩
   ·simp only [NC, MH]
    exact rest
  ·rw [Lq hl]
   exact rest
 ·subst e
  dsimp only
  refine L4 (h2 (fun hin=>?_) j pre post hj hn e2 hp)
  obtain ⟨p,hpm,ek⟩:=N0.mp hin
  obtain ⟨z,hzm,ez⟩:=HX S hpm
  exact hno z hzm (by rw [ez,<- ek])
end
end RS
namespace RS
open PySem PyProof.Rows
def lz (ps:List KP) (k:List Int) (r:Addr):List KP:=if k∈ps.map (·.1) then ps else ps++[(k,r)]
section
variable {prog:Program}{w:World}{A:Around}{E:Value->Shared->Prop}{s:Shared}
theorem FC {a r:Addr}{k:List Int}{ps:List KP}{Q:Bool->Shared->Prop} (S:eH w s.heap a ps) (hk:k∈prs) (hr:Tk prog w s.heap k r) (hps:∀ p∈ps,Tk prog w s.heap p.1 p.2) (hu:A.units<cLine)
  (h:∀ b h',Heap.SameBut a s.heap h'->eH w h' a (lz ps k r)->Q b { s with heap:=h' }):wpAny (model prog w) A (setAddHashed a (.ref r) (hsh k)) Q E s:=by
 obtain ⟨o,es,ep,t,Z,S,hk0,hn0⟩:=S
 unfold setAddHashed setAddHashedIn
 refine LW (LV (Oq S.ho S.hd S.fits ?_))
 dsimp only
 have hsc:byScan (Value.ref r) es=false:=rfl
 rw [hsc]
 simp only [NC,MH]
 refine LV (yn S hk0 hk hr hps hu (fun hin=>?_) fun hin j pre post hj hn e hp=>?_)
 ·dsimp only
  refine L4 ?_
  have q:=h false s.heap (Heap.SameBut.refl a s.heap) (by unfold lz;rw [Lp hin];exact ⟨o,es,ep,t,Z,S,hk0,hn0⟩)
  cases s;exact q
 ·dsimp only
  refine LV (Oq S.ho S.hd S.fits ?_)
  dsimp only
  obtain ⟨Z',T',hperm,et⟩:=S.tab.put (x:=Value.ref r) hj hn e hp
  have e2:(t.put j).2=SetTable.below t.place j:=rfl
  have hpl:(t.put j).1.plain=true:=by rw [et];exact S.plain
  have hled:(t.put j).1.led=t.led:=by rw [et]
  have hmask:(t.put j).1.mask=t.mask:=by rw [et]
  have hperm':(Z'.map (·.2)).Perm ((ps++[(k,r)]).map vV):=by
   have q1:=hperm.map (·.2)
   refine q1.trans ?_
   rw [Nb,N7]
   refine List.Perm.trans (List.Perm.cons _ S.perm) ?_
   exact (List.perm_append_singleton _ _).symm
  have hkeys:∀ p∈ps++[(k,r)],p.1∈prs:=fun p hp'=>by
   rcases LJ.mp hp' with q | q
   ·exact hk0 p q
   ·rw [NO] at q;rw [q];exact hk
  have hnd:((ps++[(k,r)]).map (·.1)).Nodup:=by
   rw [N7]
   refine Ou.mpr ⟨hn0,by simp,fun x hx y hy=>?_⟩
   simp at hy
   rw [hy];rintro rfl;exact hin hx
  have hlen15:=ki hkeys hnd
  have hZ':Z'.length=ps.length+1:=by rw [hperm.length_eq,ND,S.len,Mw]
  have hesz:(SetTable.insertAt es (t.put j).2 (hsh k,Value.ref r)).size=Z'.length:=T'.size.2
  have hadd:lz ps k r=ps++[(k,r)]:=by unfold lz;rw [Lq hin]
  rw [hadd] at h
  rw [Mv,Nt] at hlen15
  generalize ht1:(t.put j).1=t1 at *
  generalize hes1:SetTable.insertAt es (t.put j).2 (hsh k,Value.ref r)=es1 at *
  have hline:es1.size<=sizeLine:=by rw [hesz,hZ'];exact LB hlen15 (by decide)
  rw [hpl]
  simp only [MJ]
  refine LV (qI hr ?_)
  simp only [MJ]
  refine LV (Ov S.ho S.hd ?_ hline)
  have hg:(s.heap.update a (Obj.putSet es1 t1)).get? a=some { o with data:=.set es1 (ep+1) t1 }:=by
   have:=Ng (Obj.putSet es1 t1) S.ho (by rw [Ow es1 t1 S.hd];rfl)
   rw [Ow es1 t1 S.hd] at this;exact this
  have hsb1:=Ox s.heap a (Obj.putSet es1 t1)
  have hfill:t1.fill=ps.length+1:=by rw [T'.fill,hZ']
  by_cases hfull:t1.tooFull=true
  ·simp only [hfull, Oy, Os, MJ]
   have hm7:t.mask=7/\ps.length=4:=by
    unfold SetTable.tooFull at hfull
    rw [hfill,hmask] at hfull
    have hf:(ps.length+1) * 5 ≥ t.mask * 3:=by simpa using hfull
    have hl:=S.len
    rw [Mw] at hl
    rcases S.big with ⟨q,q2⟩ | ⟨q,q2⟩
    ·rw [q] at hf;exact ⟨q,by omega⟩
    ·rw [q] at hf;omega
   have hes0:es.size=4:=by rw [S.tab.size.2,S.len,Mw,hm7.2]
   have hsz1:es1.size=5:=by rw [hesz,hZ',hm7.2]
   have hgr:SetTable.grown (es.size+1)=20:=by rw [hes0];rfl
   rw [hgr]
   unfold setRelay
   have hfits1:t1.fits es1.size=true:=by
    unfold SetTable.fits
    rw [T'.fill,T'.size.1,hesz,hmask,hm7.1,hZ',hm7.2];rfl
   refine LV (LV (Oq hg rfl hfits1 ?_))
   dsimp only
   rw [Lq (by decide)]
   obtain ⟨t2,order,Z2,er,T2,hp2,hm2,hl2,hpl2,_⟩:=pW (t:=t1) (es:=es1) (wanted:=20) (mask:=31) (by rfl) (by rw [hsz1];decide) (fun e' he'=>by
    rw [T'.ents] at he'
    obtain ⟨p,hp',q⟩:=N0.mp (hperm'.mem_iff.mp he')
    rw [<- q]
    exact wj E2 (hkeys p hp'))
   rw [er]
   have hZ2:Z2.length=5:=by
    have:=hp2.length_eq
    simp at this
    omega
   have hes2:(order.filterMap (es1[·]?)).size=5:=by rw [T2.size.2,hZ2]
   have hne:((order.filterMap (es1[·]?)).size != es1.size)=false:=by rw [hes2,hsz1];rfl
   refine LV ?_
   show wpAny _ A (if ((order.filterMap (es1[·]?)).size != es1.size)=true then _ else _) _ _ _
   rw [hne]
   simp only [NC,MH]
   refine L4 ?_
   refine Ov hg rfl ?_ (by rw [hes2];decide)
   have hg2:((s.heap.update a (Obj.putSet es1 t1)).update a (Obj.putSet (order.filterMap (es1[·]?)) t2)).get? a=some { o with data:=.set (order.filterMap (es1[·]?)) (ep+1+1) t2 }:=by
    have:=Ng (Obj.putSet (order.filterMap (es1[·]?)) t2) hg (by rw [Ow _ t2 rfl];rfl)
    rw [Ow _ t2 rfl] at this;exact this
   refine L4 ?_
   refine h true _ (hsb1.trans (Ox _ a _)) ⟨_,_,_,t2,Z2,⟨hg2,S.ex,rfl,T2,by rw [hpl2];exact hpl,by rw [hl2,hled];exact S.led,.inr ⟨hm2,by omega⟩,?_⟩,hkeys,hnd⟩
   refine hp2.trans ?_
   rw [T'.ents];exact hperm'
  ·have hf : t1.tooFull = false := by simpa using hfull
   simp only [hf,Nu,NC,MH]
   refine L4 ?_
   refine h true _ hsb1 ⟨_,_,_,t1,Z',⟨hg,S.ex,rfl,T',hpl,by rw [hled];exact S.led,?_,hperm'⟩,hkeys,hnd⟩
   unfold SetTable.tooFull at hf
   rw [hfill,hmask] at hf
   have hf':¬ ((ps.length+1) * 5 ≥ t.mask * 3):=by simpa using hf
   rw [hmask,hZ']
   rcases S.big with ⟨q,q2⟩ | ⟨q,q2⟩
   ·rw [q] at hf' ⊢;exact .inl ⟨rfl,by omega⟩
   ·rw [q] at hf' ⊢;exact .inr ⟨rfl,by omega⟩
end
def fg (qs:List KP):List KP:=qs.foldl (fun ps p=>lz ps p.1 p.2) []
theorem vG (qs:List KP) (p:KP):fg (qs++[p])=lz (fg qs) p.1 p.2:=by unfold fg;rw [Oz];rfl
theorem Cc {ps:List KP}{k:List Int}{r:Addr}{p:KP} (h:p∈lz ps k r):p∈ps\/p=(k,r):=by
 unfold lz at h
 split at h
 ·exact .inl h
 ·rcases LJ.mp h with q | q
  ·exact .inl q
  ·exact .inr (NO.mp q)
theorem nG:∀ {qs ps:List KP}{p:KP},p∈qs.foldl (fun ps p=>lz ps p.1 p.2) ps->p∈ps\/p∈qs
 | [],_,_,h=>.inl h
 | q::qs,ps,p,h=>by
  rw [Nq] at h
  rcases nG h with z | z
  ·rcases Cc z with z | z
   ·exact .inl z
   ·exact .inr (by rw [z];exact LF)
  ·exact .inr (LG _ z)
theorem lh {qs:List KP}{p:KP} (h:p∈fg qs):p∈qs:=(nG h).elim (fun z=>by simp at z) id
theorem xi {ps:List KP}{k:List Int}{r:Addr} (h:(ps.map (·.1)).Nodup):((lz ps k r).map (·.1)).Nodup:=by
 unfold lz
 split
 ·exact h
 ·rename_i hn
  rw [N7]
  refine Ou.mpr ⟨h,by simp,fun x hx y hy=>?_⟩
  simp at hy
  rw [hy];rintro rfl;exact hn hx
theorem kN:∀ {qs ps:List KP},(ps.map (·.1)).Nodup->((qs.foldl (fun ps p=>lz ps p.1 p.2) ps).map (·.1)).Nodup
 | [],_,h=>h
 | q::qs,ps,h=>by rw [Nq];exact kN (xi h)
theorem tF {qs:List KP}:((fg qs).map (·.1)).Nodup:=kN (ps:=[]) Og
def lE (w:World):Bool:=!w.params.followText "set-order"
theorem nB {w:World}{h:Heap}{a:Addr} (e:h.get? a=some { cls:=.type "set",dict:=none,data:=.set #[] 0 (.fresh 0 0 (lE w)) }):eH w h a []:=
 ⟨_,_,_,_,[],⟨e,⟨rfl,rfl,rfl⟩,rfl,⟨rfl,rfl,List.Pairwise.nil,fun z hz=>by simp at hz,rfl,fun z hz=>by simp at hz⟩,rfl,rfl,.inl ⟨rfl,by decide⟩,List.Perm.nil⟩,fun p hp=>by simp at hp,Og⟩
section
variable {prog:Program}{w:World}{A:Around}{R:Result->Shared->Prop}{I:Addr}{fp wr:List Addr}{G:Array GenState->Array GenState->Prop}{P:Nat->Value->Prop}{St:Nat->Shared->Prop}
structure zV (prog:Program) (w:World) (u:Nat) (S:Addr) (vs:List Value) (J:Nat->Heap->Prop):Prop where
 keep:∀ i h h',(∀ b o,b<=S->h.get? b=some o->h'.get? b=some o)->J i h->J i h'
 add:∀ (A:Around) (i:Nat) (v:Value) (s:Shared) (E:Value->Shared->Prop) (Q:Bool->Shared->Prop),A.units<=u->vs[i]?=some v->J i s.heap ->
  (∀ b h' tk,s.toks<=tk->Heap.SameBut S s.heap h'->J (i+1) h'->Q b { s with heap:=h',toks:=tk })->wpAny (model prog w) A (setAdd S v) Q E s
theorem uR {u:Nat}{vs:List Value}{J:Nat->Heap->Prop} (W:WalksS prog w A.in1 I fp wr G vs.length P St) (S:Addr) (hSf:S ∉ fp) (hwr:∀ b∈wr,S<b) (hP:∀ (i:Nat) v,P i v->vs[i]?=some v) (hJ:zV prog w u S vs J) (hu:A.units+1<=u) :
  ∀ (k i:Nat) (s:Shared),vs.length - i=k->i<=vs.length->St i s->J i s.heap ->
   (∀ s',Moved (S::wr) G s s'->J vs.length s'.heap->R (.ok (.ret .none)) s') ->
   codeAny (model prog w) A (.builtin "set.update.loop" ⟨[.ref S,.ref I],[]⟩) R s:=by
 have hSw:S ∉ wr:=fun h=>hSf (W.sub _ h)
 have hsub:∀ b∈wr,b∈S::wr:=fun b hb=>LG _ hb
 have hle:∀ b,b<=S->b ∉ wr:=fun b hb z=>Lx _ (Lu (hwr b z) hb)
 intro k
 induction k with
 | zero=>
  intro i s ek hi hst hS hR
  have hin:i=vs.length:=by omega
  subst hin
  refine OA F.entry_set_update_loop ?_
  rw [OB OC _]
  show wpAny _ A.in1 (pyNext (.ref I) >>= _) _ _ s
  refine LV (W.done s _ _ hst fun s' hm=>?_)
  show wpAny _ A.in1 (ret Value.none) _ _ s'
  exact L4 (hR s' (hm.mono hsub) (hJ.keep _ _ _ (fun b o hb e=>hm.heap b o (hle b hb) e) hS))
 | succ k ih=>
  intro i s ek hi hst hS hR
  have hlt:i<vs.length:=by omega
  refine OA F.entry_set_update_loop ?_
  rw [OB OC _]
  show wpAny _ A.in1 (pyNext (.ref I) >>= _) _ _ s
  refine LV (W.item i s _ _ hlt hst fun v s' hPv hst' hm=>?_)
  have hv:=hP i v hPv
  have hS':=hJ.keep i _ s'.heap (fun b o hb e=>hm.heap b o (hle b hb) e) hS
  show wpAny _ A.in1 (holding [v] (setAdd S v) >>= _) _ _ s'
  refine LV (LW ?_)
  refine hJ.add A.in1 i v s' _ _ (by show A.units+1<=u;exact hu) hv hS' fun b h' tk ht hsb hS2=>?_
  have hkeep:∀ b o,b≠S->s'.heap.get? b=some o->h'.get? b=some o:=fun b o hb e=>(hsb.2 b hb).trans e
  refine L4 ⟨plainId_quiet OC _,ih (i+1) _ (by omega) hlt (W.frame _ s' _ _ hst' ht fun b hb o e=>hkeep b o (fun z=>hSf (by rw [<- z];exact hb)) e) hS2 fun s'' hm'' hS''=>?_⟩
  refine hR s'' (Moved.trans W.gtrans ((hm.mono hsub).then_heap ht fun b o hb e=>?_) hm'') hS''
  exact hkeep b o (fun z=>hb (by rw [z];exact LF)) e
end
section
variable {prog:Program}{w:World}{A:Around}{E:Value->Shared->Prop}{s:Shared}
theorem mf (a:Value) {Q1:Value->Shared->Prop}
  (h:Q1 (.ref s.heap.objs.size) { s with heap:=s.heap.push { cls:=.type "set",dict:=none,data:=.set #[] 0 (.fresh 0 0 (lE w)) } }) :
  codeAny (model prog w) A (.call (.builtin "set.__new__") ⟨[.type "set",a],[]⟩) (wants Q1 E) s:=by
 refine NK ?_
 show wpAny _ A.in1 (do checkBuiltinCall "set.__new__" ⟨[.type "set",a],[]⟩;again (.builtin "set.__new__" ⟨[.type "set",a],[]⟩)) _ _ s
 refine LV (OD (F.newCall_set_1 a) (L4 ⟨plainId_quiet F.plain_set_new _,OA F.entry_set_new ?_⟩))
 rw [OB F.plain_set_new _]
 unfold Builtin.«set.__new__» Builtin.Frozenset.newClass
 have hsub:=sub_set_self
 obtain ⟨hp,g,d,tk,os⟩:=s
 dsimp only
 wp_walk
 refine NL (L4 ?_)
 dsimp only
 simp only [newObj]
 refine LV (wpAny_alloc (L4 ?_))
 exact L4 h
namespace F
theorem sub_list_set:isSubtype (.type "list") (.type "set")=pure false:=by rw [OE];kernel_rfl
theorem sub_list_frozenset:isSubtype (.type "list") (.type "frozenset")=pure false:=by rw [OE];kernel_rfl
end F
theorem l0 {l:Addr}{items:Array Value}{J:Nat->Heap->Prop}{Q:Value->Shared->Prop}
  (hh:A.handled=none) (hl:s.heap.IsList l items) (hJ:zV prog w (A.units+20) s.heap.objs.size items.toList J)
  (h0:∀ h',(∀ b o,s.heap.get? b=some o->h'.get? b=some o)->h'.get? s.heap.objs.size=some { cls:=.type "set",dict:=none,data:=.set #[] 0 (.fresh 0 0 (lE w)) }->J 0 h')
  (h:∀ (h':Heap) (tk:Nat),J items.size h'->(∀ b o,b<s.heap.objs.size->s.heap.get? b=some o->h'.get? b=some o)->Q (.ref s.heap.objs.size) { s with heap:=h',toks:=tk }) :
  wpAny (model prog w) A (call (.type "set") [.ref l]) Q E s:=by
 obtain ⟨c,tl,hmro⟩:=OF.mro
 have hmade:=OF.made
 have hsub:=OF.sub
 refine wpAny_call (NK ?_)
 show wpAny _ _ (callAny (.type "set") _) _ _ _
 refine L4 ⟨OG _ (by decide +kernel),OA PySem.F.entry_type_call ?_⟩
 rw [Around.under_plain (weight_type_call_type "set" [.ref l] []) rfl]
 have h1:=OF.notType
 have h2:=OF.canCreate
 have hct:=PySem.F.typeCall_set_1 (.ref l)
 repeat (any_goals (first | assumption | wp_step))
 refine Mh (mf (.ref l) (E:=E) (Q1:=fun obj s1=>obj=.ref s.heap.objs.size/\s1={ s with heap:=s.heap.push { cls:=.type "set",dict:=none,data:=.set #[] 0 (.fresh 0 0 (lE w)) } }) ⟨rfl,rfl⟩) fun r s1 hr=>?_
 cases r with
 | error e=>exact hr
 | ok fl=>
  cases fl with
  | ret obj=>
   obtain ⟨rfl,rfl⟩:=hr
   generalize hled:lE w=led
   have hS:(s.heap.push { cls:=.type "set",dict:=none,data:=.set #[] 0 (.fresh 0 0 led) }).get? s.heap.objs.size=some { cls:=.type "set",dict:=none,data:=.set #[] 0 (.fresh 0 0 led) }:=L8 _ rfl
   have hTy:Shared.TypeIs { s with heap:=s.heap.push { cls:=.type "set",dict:=none,data:=.set #[] 0 (.fresh 0 0 led) } } (.ref s.heap.objs.size) "set" := ⟨_,hS,rfl⟩
   have hli:=OF.init.lookup
   have hbi:=OF.init.bind (.ref s.heap.objs.size)
   repeat (any_goals (first | assumption | wp_step))
   refine Mh (OH (R:=wants (fun r s2=>r=.none/\∃ h' tk,s2={ s with heap:=h',toks:=tk }/\J items.size h' /\
     (∀ b o,b<s.heap.objs.size->s.heap.get? b=some o->h'.get? b=some o)) E) OF.init.plain PySem.F.entry_set_init (check_set_init_1 hTy ?_)) fun r2 s2 hr2=>?_
   ·obtain ⟨ol, hol, hcl, nl, hdl⟩ := hl
    obtain ⟨ocls,odict,odata,oslots⟩:=ol
    simp only at hcl hdl
    subst hcl;subst hdl
    have hol':(s.heap.push { cls:=.type "set",dict:=none,data:=.set #[] 0 (.fresh 0 0 led) }).get? l=some { cls:=.type "list",dict:=odict,data:=.seq items nl,slots:=oslots }:=L7 _ hol
    have hsls:=F.sub_list_set
    have hslf:=F.sub_list_frozenset
    have hne:(Value.type "list" == Value.type "dict")=false:=by decide
    have hl1:(s.heap.push { cls:=.type "set",dict:=none,data:=.set #[] 0 (.fresh 0 0 led) }).IsList l items:=⟨_,hol',rfl,nl,rfl⟩
    unfold Builtin.«set.__init__» noKeywords Builtin.Frozenset.updateFrom
    generalize hPI:pyIter=PI
    wp_walk
    subst hPI
    refine OI hl1 ?_
    refine LV (OJ ?_)
    have hlS:l<s.heap.objs.size:=Ls hol
    have hh3:A.in1.in1.in1.handled=none:=by simp [hh]
    have hneI:l≠(s.heap.push { cls:=.type "set",dict:=none,data:=.set #[] 0 (.fresh 0 0 led) }).objs.size:=by
     rw [NH];exact Ly (NG hlS)
    have hSf:s.heap.objs.size ∉ [(s.heap.push { cls:=.type "set",dict:=none,data:=.set #[] 0 (.fresh 0 0 led) }).objs.size,l]:=by
     rw [NH];simp only [LH,NO,OK,OL,not_or]
     exact ⟨Ly (NF _),L3 hlS⟩
    have W:=(Walks.list (prog:=prog) (w:=w) hh3 (s.heap.push { cls:=.type "set",dict:=none,data:=.set #[] 0 (.fresh 0 0 led) }).objs.size l hneI items).toS
    rw [show items.size=items.toList.length by rw [LR]] at W
    refine uR W s.heap.objs.size hSf (fun b hb=>?_) (fun i v hv=>by rw [NZ];exact hv) hJ (by simp only [Around.in1];omega) (items.toList.length - 0) 0 _ (by omega) (NN _)
     ⟨⟨_,L8 _ rfl,rfl,rfl⟩,?hL⟩ ?hS0 ?hR
    case hL=>
     obtain ⟨o,ho,rest⟩:=hl1
     exact ⟨o,L7 _ ho,rest⟩
    case hS0=>
     refine h0 _ (fun b o e=>L7 _ (L7 _ e)) ?_
     rw [hled]
     exact L7 _ hS
    case hR=>
     intro s' hm hS'
     obtain ⟨h',g',d',tk',os'⟩:=s'
     have eg:g'=s.gens:=hm.gens
     have ed:d'=s.drawn:=hm.drawn
     have eo:os'=s.os:=hm.os
     subst eg;subst ed;subst eo
     show wpAny _ _ _ _ _ _
     refine L4 ?_
     show wpAny _ _ (ret Value.none) _ _ _
     refine L4 ⟨rfl,h',tk',rfl,by rw [LR] at hS';exact hS',fun b o hb e=>?_⟩
     have hb1:b≠s.heap.objs.size:=Ly hb
     have hb2:b≠(s.heap.push { cls:=.type "set",dict:=none,data:=.set #[] 0 (.fresh 0 0 led) }).objs.size:=by
      rw [NH];exact Ly (NG hb)
     exact hm.heap b o (by simp only [LH,NO,OK,OL,not_or];exact ⟨hb1,hb2⟩) (L7 _ (L7 _ e))
    ·rw [NH] at hb
     rw [NO.mp hb]
     exact NF _
   ·cases r2 with
    | error e=>exact hr2
    | ok fl2=>
     cases fl2 with
     | ret r=>
      obtain ⟨rfl,h',tk,rfl,hS',hk'⟩:=hr2
      repeat (any_goals (first | assumption | wp_step))
      exact h _ _ hS' hk'
     | _=>exact hr2.elim
  | _=>exact hr.elim
namespace F
theorem sub_tuple_set:isSubtype (.type "tuple") (.type "set")=pure false:=by rw [OE];kernel_rfl
theorem sub_tuple_frozenset:isSubtype (.type "tuple") (.type "frozenset")=pure false:=by rw [OE];kernel_rfl
end F
theorem kL {l:Addr}{items:Array Value}{J:Nat->Heap->Prop}{Q:Value->Shared->Prop}
  (hh:A.handled=none) (hl:s.heap.IsTuple l items) (hJ:zV prog w (A.units+20) s.heap.objs.size items.toList J)
  (h0:∀ h',(∀ b o,s.heap.get? b=some o->h'.get? b=some o)->h'.get? s.heap.objs.size=some { cls:=.type "set",dict:=none,data:=.set #[] 0 (.fresh 0 0 (lE w)) }->J 0 h')
  (h:∀ (h':Heap) (tk:Nat),J items.size h'->(∀ b o,b<s.heap.objs.size->s.heap.get? b=some o->h'.get? b=some o)->Q (.ref s.heap.objs.size) { s with heap:=h',toks:=tk }) :
  wpAny (model prog w) A (call (.type "set") [.ref l]) Q E s:=by
 obtain ⟨c,tl,hmro⟩:=OF.mro
 have hmade:=OF.made
 have hsub:=OF.sub
 refine wpAny_call (NK ?_)
 show wpAny _ _ (callAny (.type "set") _) _ _ _
 refine L4 ⟨OG _ (by decide +kernel),OA PySem.F.entry_type_call ?_⟩
 rw [Around.under_plain (weight_type_call_type "set" [.ref l] []) rfl]
 have h1:=OF.notType
 have h2:=OF.canCreate
 have hct:=PySem.F.typeCall_set_1 (.ref l)
 repeat (any_goals (first | assumption | wp_step))
 refine Mh (mf (.ref l) (E:=E) (Q1:=fun obj s1=>obj=.ref s.heap.objs.size/\s1={ s with heap:=s.heap.push { cls:=.type "set",dict:=none,data:=.set #[] 0 (.fresh 0 0 (lE w)) } }) ⟨rfl,rfl⟩) fun r s1 hr=>?_
 cases r with
 | error e=>exact hr
 | ok fl=>
  cases fl with
  | ret obj=>
   obtain ⟨rfl,rfl⟩:=hr
   generalize hled:lE w=led
   have hS:(s.heap.push { cls:=.type "set",dict:=none,data:=.set #[] 0 (.fresh 0 0 led) }).get? s.heap.objs.size=some { cls:=.type "set",dict:=none,data:=.set #[] 0 (.fresh 0 0 led) }:=L8 _ rfl
   have hTy:Shared.TypeIs { s with heap:=s.heap.push { cls:=.type "set",dict:=none,data:=.set #[] 0 (.fresh 0 0 led) } } (.ref s.heap.objs.size) "set" := ⟨_,hS,rfl⟩
   have hli:=OF.init.lookup
   have hbi:=OF.init.bind (.ref s.heap.objs.size)
   repeat (any_goals (first | assumption | wp_step))
   refine Mh (OH (R:=wants (fun r s2=>r=.none/\∃ h' tk,s2={ s with heap:=h',toks:=tk }/\J items.size h' /\
     (∀ b o,b<s.heap.objs.size->s.heap.get? b=some o->h'.get? b=some o)) E) OF.init.plain PySem.F.entry_set_init (check_set_init_1 hTy ?_)) fun r2 s2 hr2=>?_
   ·obtain ⟨ol, hol, hcl, nl, hdl⟩ := hl
    obtain ⟨ocls,odict,odata,oslots⟩:=ol
    simp only at hcl hdl
    subst hcl;subst hdl
    have hol':(s.heap.push { cls:=.type "set",dict:=none,data:=.set #[] 0 (.fresh 0 0 led) }).get? l=some { cls:=.type "tuple",dict:=odict,data:=.seq items nl,slots:=oslots }:=L7 _ hol
    have hsls:=F.sub_tuple_set
    have hslf:=F.sub_tuple_frozenset
    have hne:(Value.type "tuple" == Value.type "dict")=false:=by decide
    have hl1:(s.heap.push { cls:=.type "set",dict:=none,data:=.set #[] 0 (.fresh 0 0 led) }).IsTuple l items:=⟨_,hol',rfl,nl,rfl⟩
    unfold Builtin.«set.__init__» noKeywords Builtin.Frozenset.updateFrom
    generalize hPI:pyIter=PI
    wp_walk
    subst hPI
    refine OM hl1 ?_
    refine LV (OJ ?_)
    have hlS:l<s.heap.objs.size:=Ls hol
    have hh3:A.in1.in1.in1.handled=none:=by simp [hh]
    have hneI:l≠(s.heap.push { cls:=.type "set",dict:=none,data:=.set #[] 0 (.fresh 0 0 led) }).objs.size:=by
     rw [NH];exact Ly (NG hlS)
    have hSf:s.heap.objs.size ∉ [(s.heap.push { cls:=.type "set",dict:=none,data:=.set #[] 0 (.fresh 0 0 led) }).objs.size,l]:=by
     rw [NH];simp only [LH,NO,OK,OL,not_or]
     exact ⟨Ly (NF _),L3 hlS⟩
    have W:=(Walks.tuple (prog:=prog) (w:=w) hh3 (s.heap.push { cls:=.type "set",dict:=none,data:=.set #[] 0 (.fresh 0 0 led) }).objs.size l hneI items).toS
    rw [show items.size=items.toList.length by rw [LR]] at W
    refine uR W s.heap.objs.size hSf (fun b hb=>?_) (fun i v hv=>by rw [NZ];exact hv) hJ (by simp only [Around.in1];omega) (items.toList.length - 0) 0 _ (by omega) (NN _)
     ⟨⟨_,L8 _ rfl,rfl,rfl⟩,?hL⟩ ?hS0 ?hR
    case hL=>
     obtain ⟨o,ho,rest⟩:=hl1
     exact ⟨o,L7 _ ho,rest⟩
    case hS0=>
     refine h0 _ (fun b o e=>L7 _ (L7 _ e)) ?_
     rw [hled]
     exact L7 _ hS
    case hR=>
     intro s' hm hS'
     obtain ⟨h',g',d',tk',os'⟩:=s'
     have eg:g'=s.gens:=hm.gens
     have ed:d'=s.drawn:=hm.drawn
     have eo:os'=s.os:=hm.os
     subst eg;subst ed;subst eo
     show wpAny _ _ _ _ _ _
     refine L4 ?_
     show wpAny _ _ (ret Value.none) _ _ _
     refine L4 ⟨rfl,h',tk',rfl,by rw [LR] at hS';exact hS',fun b o hb e=>?_⟩
     have hb1:b≠s.heap.objs.size:=Ly hb
     have hb2:b≠(s.heap.push { cls:=.type "set",dict:=none,data:=.set #[] 0 (.fresh 0 0 led) }).objs.size:=by
      rw [NH];exact Ly (NG hb)
     exact hm.heap b o (by simp only [LH,NO,OK,OL,not_or];exact ⟨hb1,hb2⟩) (L7 _ (L7 _ e))
    ·rw [NH] at hb
     rw [NO.mp hb]
     exact NF _
   ·cases r2 with
    | error e=>exact hr2
    | ok fl2=>
     cases fl2 with
     | ret r=>
      obtain ⟨rfl,h',tk,rfl,hS',hk'⟩:=hr2
      repeat (any_goals (first | assumption | wp_step))
      exact h _ _ hS' hk'
     | _=>exact hr2.elim
  | _=>exact hr.elim
theorem qd {qs:List KP}{S:Addr}{u:Nat} (hk:∀ p∈qs,p.1∈prs) (hS:∀ p∈qs,p.2<S) (hu:u<cLine):zV prog w u S (qs.map fun p=>Value.ref p.2) (fun i h=>eH w h S (fg (qs.take i))/\∀ p∈qs,Tk prog w h p.1 p.2):=by
 have keepT:∀ {h1 h2:Heap}{q:KP},q∈qs->(∀ b o,b<S->h1.get? b=some o->h2.get? b=some o)->Tk prog w h1 q.1 q.2->Tk prog w h2 q.1 q.2:=fun {h1 h2 q} hq kk t=>by
  obtain ⟨o,items,n,ho,r⟩:=t
  exact ⟨o,items,n,kk _ o (hS q hq) ho,r⟩
 refine ⟨fun i h h' hk' ⟨j1,j2⟩=>⟨j1.keeps fun o e=>hk' S o (L9 _) e,fun p hp=>keepT hp (fun b o hb e=>hk' b o (LC hb) e) (j2 p hp)⟩,fun A i v s E Q hA hv ⟨j1,j2⟩ hQ=>?_⟩
 rw [Ms] at hv
 cases e:qs[i]? with
 | none=>rw [e] at hv;cases hv
 | some p=>
  rw [e] at hv
  cases hv
  have hpm:p∈qs:=Mu e
  unfold setAdd
  refine LW ?_
  refine LV (wpAny_pyHash_tuple (by omega) (j2 p hpm) ?_)
  rw [HI]
  refine FC (s:={ s with toks:=s.toks+(p.1.length+1) }) j1 (hk p hpm) (j2 p hpm) (fun q hq=>j2 q (Od (lh hq))) (by omega) fun b h' hsb hS2=>?_
  have etk:qs.take (i+1)=qs.take i++[p]:=by rw [ON,e];rfl
  refine hQ b h' _ (OO _ _) hsb ⟨by rw [etk,vG];exact hS2,fun q hq=>keepT hq (fun b o hb e=>(hsb.2 b (Ly hb)).trans e) (j2 q hq)⟩
theorem AH {qs:List KP} (hT:∀ p∈qs,Tk prog w s.heap p.1 p.2):∀ p∈qs,p.2<s.heap.objs.size:=fun p hp=>by
 obtain ⟨o,_,_,ho,_⟩:=hT p hp
 exact Ls ho
theorem vm {l:Addr}{items:Array Value}{qs:List KP}{Q:Value->Shared->Prop}
  (hh:A.handled=none) (hl:s.heap.IsList l items) (hi:items.toList=qs.map fun p=>Value.ref p.2) (hk:∀ p∈qs,p.1∈prs) (hT:∀ p∈qs,Tk prog w s.heap p.1 p.2) (hu:A.units+20<cLine)
  (h:∀ (h':Heap) (tk:Nat),eH w h' s.heap.objs.size (fg qs)->(∀ b o,b<s.heap.objs.size->s.heap.get? b=some o->h'.get? b=some o)->Q (.ref s.heap.objs.size) { s with heap:=h',toks:=tk }) :
  wpAny (model prog w) A (call (.type "set") [.ref l]) Q E s:=by
 have hlen:items.size=qs.length:=by rw [<- LR,hi,Mw]
 refine l0 hh hl (hi ▸ qd hk (AH hT) hu) (fun h' k e=>⟨nB e,fun p hp=>?_⟩) fun h' tk ⟨j1,_⟩=>h h' tk ?_
 ·obtain ⟨o, its, n, ho, rest⟩ := hT p hp
  exact ⟨o,its,n,k _ _ ho,rest⟩
 ·rw [hlen, OP] at j1
  exact j1
theorem sU {l:Addr}{items:Array Value}{qs:List KP}{Q:Value->Shared->Prop}
  (hh:A.handled=none) (hl:s.heap.IsTuple l items) (hi:items.toList=qs.map fun p=>Value.ref p.2) (hk:∀ p∈qs,p.1∈prs) (hT:∀ p∈qs,Tk prog w s.heap p.1 p.2) (hu:A.units+20<cLine)
  (h:∀ (h':Heap) (tk:Nat),eH w h' s.heap.objs.size (fg qs)->(∀ b o,b<s.heap.objs.size->s.heap.get? b=some o->h'.get? b=some o)->Q (.ref s.heap.objs.size) { s with heap:=h',toks:=tk }) :
  wpAny (model prog w) A (call (.type "set") [.ref l]) Q E s:=by
 have hlen:items.size=qs.length:=by rw [<- LR,hi,Mw]
 refine kL hh hl (hi ▸ qd hk (AH hT) hu) (fun h' k e=>⟨nB e,fun p hp=>?_⟩) fun h' tk ⟨j1,_⟩=>h h' tk ?_
 ·obtain ⟨o, its, n, ho, rest⟩ := hT p hp
  exact ⟨o,its,n,k _ _ ho,rest⟩
 ·rw [hlen, OP] at j1
  exact j1
end
end RS
namespace RS
open PySem PySem.W PyProof.Rows
structure eK (n:Nat) (p:Array Nat):Prop where
 size:p.size=n
 perm:p.toList.Perm (List.range n)
def at' (key:Nat->Int) (p:Array Nat) (k:Nat):Int:=key (p.getD k 0)
def Ck (key:Nat->Int) (p:Array Nat) (m:Nat):Prop:=∀ i j,i<j->j<m->at' key p i<at' key p j
def Cz (key:Nat->Int) (p:Array Nat) (m:Nat):Prop:=∀ i j,i<j->j<m->at' key p j<at' key p i
section
variable {n:Nat}{key:Nat->Int}{cmp:Nat->Nat->(Bool->Shared->Prop)->Shared->Prop}{s:Shared}{p:Array Nat}
theorem eK.lt (g:eK n p) {k:Nat} (hk:k<n):p.getD k 0<n:=by
 have hs:k<p.size:=by rw [g.size];exact hk
 have:p[k]∈p.toList:=by rw [Ot];exact Array.getElem_mem hs
 have:=g.perm.mem_iff.mp this
 rw [LA] at this
 simpa [Array.getD,hs] using this
theorem eK.inj (g:eK n p) {k k':Nat} (hk:k<n) (hk':k'<n) (e:p.getD k 0=p.getD k' 0):k=k':=by
 have hs:k<p.toList.length:=by rw [LR,g.size];exact hk
 have hs':k'<p.toList.length:=by rw [LR,g.size];exact hk'
 have nd:p.toList.Nodup:=g.perm.nodup_iff.mpr N2
 refine (LM (h₀:=hs) (h₁:=hs') nd).mp ?_
 have h1:k<p.size:=by rw [g.size];exact hk
 have h2:k'<p.size:=by rw [g.size];exact hk'
 simpa [Array.getD,h1,h2] using e
variable (hkey:∀ i j,i<n->j<n->key i=key j->i=j) (hc:∀ i j,i<n->j<n->∀ C:Bool->Shared->Prop,C (decide (key i<key j)) s->cmp i j C s)
include hkey in
theorem Am (g:eK n p) {k k':Nat} (hk:k<n) (hk':k'<n) (h:k≠k'):at' key p k≠at' key p k':=fun e=>h (g.inj hk hk' (hkey _ _ (g.lt hk) (g.lt hk') e))
include hkey hc
theorem wt (g:eK n p):∀ (f m:Nat) (Q:Nat->Shared->Prop),1<=m->m+f<=n->Ck key p m->(∀ m',m<=m'->m'<=m+f->Ck key p m'->(m'=m+f\/at' key p m'<at' key p (m' - 1))->Q m' s)->(kas_asc p f m).kasWp cmp Q s
 | 0,m,Q,h1,h2,ha,hQ=>hQ m (L9 _) (L9 _) ha (.inl rfl)
 | f+1,m,Q,h1,h2,ha,hQ=>by
  show cmp (p.getD m 0) (p.getD (m - 1) 0) _ s
  refine hc _ _ (g.lt (by omega)) (g.lt (by omega)) _ ?_
  by_cases hlt:key (p.getD m 0)<key (p.getD (m - 1) 0)
  ·rw [Nz hlt]; (show (if true = true then _ else _ : KasT _).kasWp cmp _ s); rw [Lp rfl]
   exact hQ m (L9 _) (by omega) ha (.inr hlt)
  ·rw [Lm hlt]; (show (if false = true then _ else _ : KasT _).kasWp cmp _ s); rw [Lq LZ]
   have hne:=Am hkey g (k:=m) (k':=m - 1) (by omega) (by omega) (by omega)
   have hgt:at' key p (m - 1)<at' key p m:=by unfold at' at *;omega
   refine wt g f (m+1) Q (by omega) (by omega) (fun i j hij hj=>?_) (fun m' a b c d=>hQ m' (by omega) (by omega) c (d.elim (fun e=>.inl (by omega)) .inr))
   by_cases ej:j=m
   ·subst ej
    by_cases ei:i=j - 1
    ·rw [ei];exact hgt
    ·have:=ha i (j - 1) (by omega) (by omega);omega
   ·exact ha i j hij (by omega)
theorem x4 (g:eK n p):∀ (f m:Nat) (Q:Array Nat × Nat × Nat->Shared->Prop),1<=m->m+f<=n->Cz key p m->(∀ m',m<=m'->m'<=m+f->Cz key p m'->Q (p,m',0) s)->(kas_desc f p m 0).kasWp cmp Q s
 | 0,m,Q,h1,h2,ha,hQ=>hQ m (L9 _) (L9 _) ha
 | f+1,m,Q,h1,h2,ha,hQ=>by
  show cmp (p.getD m 0) (p.getD (m - 1) 0) _ s
  refine hc _ _ (g.lt (by omega)) (g.lt (by omega)) _ ?_
  by_cases hlt:key (p.getD m 0)<key (p.getD (m - 1) 0)
  ·rw [Nz hlt]; (show (if true = true then _ else _ : KasT _).kasWp cmp _ s); rw [Lp rfl, Lq (by omega)]
   refine x4 g f (m+1) Q (by omega) (by omega) (fun i j hij hj=>?_) (fun m' a b c=>hQ m' (by omega) (by omega) c)
   by_cases ej:j=m
   ·subst ej
    by_cases ei:i=j - 1
    ·rw [ei];exact hlt
    ·have := ha i (j - 1) (by omega) (by omega)
     have:at' key p j<at' key p (j - 1):=hlt
     omega
   ·exact ha i j hij (by omega)
  ·rw [Lm hlt]; (show (if false = true then _ else _ : KasT _).kasWp cmp _ s); rw [Lq LZ]
   show cmp (p.getD (m - 1) 0) (p.getD m 0) _ s
   refine hc _ _ (g.lt (by omega)) (g.lt (by omega)) _ ?_
   have hne:=Am hkey g (k:=m) (k':=m - 1) (by omega) (by omega) (by omega)
   have hgt:key (p.getD (m - 1) 0)<key (p.getD m 0):=by unfold at' at hne;omega
   rw [Nz hgt];(show (if true=true then _ else _:KasT _).kasWp cmp _ s);rw [Lp rfl]
   exact hQ m (L9 _) (by omega) ha
omit hkey hc in
theorem pj {p p':Array Nat}{k k':Nat} (h:p[k]?=p'[k']?):at' key p k=at' key p' k':=by
 unfold at'
 rw [Oa,Oa,h]
omit hkey hc in
theorem rC {p':Array Nat} (g:eK n p) (h:p'.Perm p) (hs:p'.size=p.size):eK n p':=⟨hs.trans g.size,(Array.perm_iff_toList_perm.mp h).trans g.perm⟩
omit hkey hc in
theorem Dp (g:eK n p) {m:Nat} (hm:m<=n) (hd:Cz key p m):eK n (kas_rev p 0 m)/\Ck key (kas_rev p 0 m) m:=by
 have hs:m<=p.size:=by rw [g.size];exact hm
 refine ⟨rC g (mirror_perm _ _ _ _) (mirror_size _ _ _ _),fun i j hij hj=>?_⟩
 have ei:at' key (kas_rev p 0 m) i=at' key p (0+m - 1 - i):=pj (by unfold kas_rev;rw [getElem?_mirror_all hs,Lp ⟨NN _,by omega⟩])
 have ej:at' key (kas_rev p 0 m) j=at' key p (0+m - 1 - j):=pj (by unfold kas_rev;rw [getElem?_mirror_all hs,Lp ⟨NN _,by omega⟩])
 rw [ei,ej]
 exact hd _ _ (by omega) (by omega)
theorem A0 (g:eK n p) {m:Nat} (h1:1<=m) (hm:m<=n) (hd:Cz key p m) (Q:Nat × Array Nat->Shared->Prop) (hQ:∀ m' p',eK n p'->1<=m'->m'<=n->Ck key p' m'->Q (m',p') s):(kas_tail3 m n p).kasWp cmp Q s:=by
 obtain ⟨g',ha⟩:=Dp (key:=key) g hm hd
 unfold kas_tail3
 rw [OQ]
 exact wt hkey hc g' (n - m) m _ h1 (by omega) ha fun m' a b c d=>hQ m' _ g' (by omega) (by omega) c
theorem B6 (g:eK n p) (h2:2<=n) (Q:Nat × Array Nat->Shared->Prop) (hQ:∀ m' p',eK n p'->1<=m'->m'<=n->Ck key p' m'->Q (m',p') s):(kas_count n p).kasWp cmp Q s:=by
 unfold kas_count
 rw [OQ]
 refine wt hkey hc g (n - 1) 1 _ (L9 _) (by omega) (fun i j hij hj=>by omega) fun m a b c d=>?_
 by_cases e:m=n
 ·rw [Lp (by simpa using e)]
  exact hQ m p g a (by omega) c
 ·rw [Lq (by simpa using e)]
  by_cases h1:m > 1
  ·rw [Lp h1]
   show cmp (p.getD 0 0) (p.getD (m - 1) 0) _ s
   refine hc _ _ (g.lt (by omega)) (g.lt (by omega)) _ ?_
   have:at' key p 0<at' key p (m - 1):=c 0 (m - 1) (by omega) (by omega)
   rw [Nz (show key (p.getD 0 0)<key (p.getD (m - 1) 0) from this)];(show (if true=true then _ else _:KasT _).kasWp cmp _ s);rw [Lp rfl]
   exact hQ m p g a (by omega) c
  ·rw [Lq h1]
   have em:m=1:=by omega
   subst em
   unfold kas_descPart
   rw [OQ]
   have hlt:at' key p 1<at' key p 0:=d.elim (fun e'=>by omega) id
   refine x4 hkey hc g (n - (1+1)) (1+1) _ (by omega) (by omega) (fun i j hij hj=>?_) fun m' a' b' c'=>?_
   ·have ei : i = 0 := by omega
    have ej:j=1:=by omega
    rw [ei,ej];exact hlt
   ·show (if (0 : Nat) > 0 then _ else _ : KasT (Nat × Array Nat)).kasWp cmp Q s
    rw [Lq (by omega)]
    exact A0 hkey hc g (by omega) (by omega) c' Q hQ
theorem pH (g:eK n p) {k:Nat} (hk:k<n) (ha:Ck key p k):∀ (f l r:Nat) (Q:Nat->Shared->Prop),l<=r->r<=k->r - l<=f->(∀ i,i<l->at' key p i<at' key p k)->(∀ i,r<=i->i<k->at' key p k<at' key p i) ->
  (∀ l',l'<=k->(∀ i,i<l'->at' key p i<at' key p k)->(∀ i,l'<=i->i<k->at' key p k<at' key p i)->Q l' s)->(kas_place p k f l r).kasWp cmp Q s
 | 0,l,r,Q,h1,h2,h3,ha1,hb1,hQ=>by
  have e:l=r:=by omega
  subst e
  exact hQ l h2 ha1 hb1
 | f+1,l,r,Q,h1,h2,h3,ha1,hb1,hQ=>by
  unfold kas_place
  by_cases e:l ≥ r
  ·rw [Lp e]
   have e':l=r:=by omega
   subst e'
   exact hQ l h2 ha1 hb1
  ·rw [Lq e]
   show cmp (p.getD k 0) (p.getD ((l+r) / 2) 0) _ s
   refine hc _ _ (g.lt hk) (g.lt (by omega)) _ ?_
   by_cases hlt:key (p.getD k 0)<key (p.getD ((l+r) / 2) 0)
   ·rw [Nz hlt]; (show (if true = true then _ else _ : KasT _).kasWp cmp _ s); rw [Lp rfl]
    refine pH g hk ha f l ((l+r) / 2) Q (by omega) (by omega) (by omega) ha1 (fun i hi hik=>?_) hQ
    by_cases ei:i=(l+r) / 2
    ·rw [ei];exact hlt
    ·have := ha ((l + r) / 2) i (by omega) hik
     have:at' key p k<at' key p ((l+r) / 2):=hlt
     omega
   ·rw [Lm hlt]; (show (if false = true then _ else _ : KasT _).kasWp cmp _ s); rw [Lq LZ]
    have hne:=Am hkey g (k:=k) (k':=(l+r) / 2) hk (by omega) (by omega)
    have hgt:at' key p ((l+r) / 2)<at' key p k:=by unfold at' at *;omega
    refine pH g hk ha f ((l+r) / 2+1) r Q (by omega) h2 (by omega) (fun i hi=>?_) hb1 hQ
    by_cases ei:i=(l+r) / 2
    ·rw [ei];exact hgt
    ·have := ha i ((l + r) / 2) (by omega) (by omega)
     omega
theorem AZ:∀ (f:Nat) (p:Array Nat) (k:Nat) (Q:Array Nat->Shared->Prop),eK n p->k+f=n->Ck key p k->(∀ p',eK n p'->Ck key p' n->Q p' s)->(kas_bin f p k).kasWp cmp Q s
 | 0,p,k,Q,g,hk,ha,hQ=>by
  have e:k=n:=by omega
  rw [e] at ha
  exact hQ p g ha
 | f+1,p,k,Q,g,hk,ha,hQ=>by
  unfold kas_bin
  rw [OQ]
  refine pH hkey hc g (by omega) ha k 0 k _ (NN _) (L9 _) (by omega) (fun i hi=>by omega) (fun i h1 h2=>by omega) fun l hl ha1 hb1=>?_
  have hs:k<p.size:=by rw [g.size];omega
  refine AZ f _ (k+1) Q (rC g (bubble_perm _ _ _) (bubble_size _ _ _)) (by omega) (fun i j hij hj=>?_) hQ
  have hb:∀ x,at' key (bubble p k (k - l)) x=if x=l then at' key p k else if l<x/\x<=k then at' key p (x - 1) else at' key p x:=fun x=>by
   have e:=getElem?_bubble hs (k - l) (by omega) x
   have el:k - (k - l)=l:=by omega
   rw [el] at e
   by_cases e1:x=l
   ·rw [Lp e1] at e ⊢;exact pj e
   ·rw [Lq e1] at e ⊢
    by_cases e2:l<x/\x<=k
    ·rw [Lp e2] at e ⊢;exact pj e
    ·rw [Lq e2] at e ⊢;exact pj e
  rw [hb i,hb j]
  by_cases i1:i=l
  ·rw [Lp i1, Lq (by omega), Lp ⟨by omega, by omega⟩]
   exact hb1 (j - 1) (by omega) (by omega)
  ·rw [Lq i1]
   by_cases i2:l<i/\i<=k
   ·rw [Lp i2, Lq (by omega), Lp ⟨by omega, by omega⟩]
    exact ha (i - 1) (j - 1) (by omega) (by omega)
   ·rw [Lq i2]
    have hi:i<l:=by omega
    by_cases j1:j=l
    ·rw [Lp j1];exact ha1 i hi
    ·rw [Lq j1]
     by_cases j2:l<j/\j<=k
     ·rw [Lp j2]
      by_cases ej:i=j - 1
      ·omega
      ·exact ha i (j - 1) (by omega) (by omega)
     ·rw [Lq j2];exact ha i j hij (by omega)
theorem C7 (h2:2<=n) (Q:Array Nat->Shared->Prop) (hQ:∀ p',eK n p'->Ck key p' n->Q p' s):(kas_sort n).kasWp cmp Q s:=by
 unfold kas_sort
 rw [OQ]
 have g0:eK n (List.toArray (List.range n)):=⟨by simp,by simp⟩
 refine B6 hkey hc g0 h2 _ fun m p' g h1 hm ha=>?_
 show (if m<n then _ else _:KasT (Array Nat)).kasWp cmp Q s
 by_cases e:m<n
 ·rw [Lp e]
  have em:max m 1=m:=by omega
  rw [em]
  exact AZ hkey hc (n - m) p' m Q g (by omega) ha hQ
 ·rw [Lq e]
  have em:m=n:=by omega
  rw [em] at ha
  exact hQ p' g ha
end
def jI (k:List Int):Int:=k.getD 0 0 * 6+k.getD 1 0
theorem fB {k:List Int} (h:k∈prs):∃ a b:Int,k=[a,b]/\0<=a/\a<b/\b<6:=by
 have key:∀ k∈prs,0<=k.getD 0 0/\k.getD 0 0<k.getD 1 0/\k.getD 1 0<6/\k=[k.getD 0 0,k.getD 1 0]:=by decide +kernel
 obtain ⟨h1,h2,h3,h4⟩:=key k h
 exact ⟨_,_,h4,h1,h2,h3⟩
theorem El {k k':List Int} (h:k∈prs) (h':k'∈prs) (e:jI k=jI k'):k=k':=by
 obtain ⟨a,b,rfl,h1,h2,h3⟩:=fB h
 obtain ⟨c,d,rfl,h4,h5,h6⟩:=fB h'
 have e':a * 6+b=c * 6+d:=e
 have:a=c:=by omega
 have:b=d:=by omega
 subst_vars;rfl
section
variable {prog:Program}{w:World}{A:Around}{E:Value->Shared->Prop}{s:Shared}
theorem vZ {h:Heap}{a b:Int}{r:Addr} (t:Tk prog w h [a,b] r):∃ o n t1 t2,h.get? r=some o/\o.cls=.type "tuple" /\ o.data=.seq #[.int a t1,.int b t2] n:=by
 obtain ⟨o,items,n,ho,hc,hd,hi⟩:=t
 cases hi':items.toList with
 | nil=>rw [hi'] at hi;cases hi
 | cons v1 r1=>
  rw [hi'] at hi
  cases hi with
  | cons h1 t1=>
   cases t1 with
   | cons h2 t2=>
    cases t2
    obtain ⟨x1,e1⟩:=Ll (k:=a) h1
    obtain ⟨x2,e2⟩:=Ll (k:=b) h2
    have e:items=#[.int a x1,.int b x2]:=by
     apply Array.toList_inj.mp;rw [hi',e1,e2]
    exact ⟨o,n,x1,x2,ho,hc,by rw [hd,e]⟩
theorem DH {x y:Addr}{k k':List Int}{Q:Bool->Shared->Prop} (hx:Tk prog w s.heap k x) (hy:Tk prog w s.heap k' y) (hk:k∈prs) (hk':k'∈prs) (h:Q (decide (jI k<jI k')) s) :
  wpAny (model prog w) A (keyLt' (tuples' true) (.ref x) (.ref y)) Q E s:=by
 obtain ⟨a,b,rfl,h1,h2,h3⟩:=fB hk
 obtain ⟨c,d,rfl,h4,h5,h6⟩:=fB hk'
 obtain ⟨o,n,t1,t2,ho,_,hd⟩:=vZ hx
 obtain ⟨o',n',t1',t2',ho',_,hd'⟩:=vZ hy
 have h':Q (decide (a * 6+b<c * 6+d)) s:=h
 refine kat_lt ho hd ho' hd' ?_
 show KatLex prog w A true (decide (2<2)) Q [(.int a t1,.int c t1'),(.int b t2,.int d t2')] 0 s
 refine kat_cons (Lo ?_)
 by_cases e1:a=c
 ·rw [show (a == c) = true by simpa using e1]
  refine kat_yes (kat_cons (Lo ?_))
  by_cases e2:b=d
  ·rw [show (b == d) = true by simpa using e2]
   refine kat_yes (kat_nil ?_)
   have:decide (a * 6+b<c * 6+d)=decide (2<2):=by rw [OR];omega
   rw [<- this];exact h'
  ·rw [show (b == d) = false by simpa using e2]
   refine kat_no ?_
   show wpAny _ A (oneLt' false _ _) Q _ s
   refine kat_one _ _ (lt_int ?_)
   have:decide (a * 6+b<c * 6+d)=decide (b<d):=by rw [OR];omega
   show Q _ s
   rw [<- this];exact h'
 ·rw [show (a == c) = false by simpa using e1]
  refine kat_no ?_
  show wpAny _ A (keyLt' oneType' _ _) Q _ s
  refine kat_lt_int ?_
  have:decide (a * 6+b<c * 6+d)=decide (a<c):=by rw [OR];omega
  rw [<- this];exact h'
end
def ix (ps:List KP):Prop:=ps.Pairwise fun p q=>jI p.1<jI q.1
def aZ (ps:List KP):List Value:=ps.map fun p=>Value.ref p.2
section
variable {prog:Program}{w:World}{A:Around}{E:Value->Shared->Prop}{s:Shared}
theorem xu {h:Heap}:∀ {ps:List KP},(∀ p∈ps,p.1∈prs)->(∀ p∈ps,Tk prog w h p.1 p.2)->∃ fs,KatTups h (aZ ps) fs/\fs.length=ps.length/\∀ v∈fs,∃ i t,v=Value.int i t
 | [],_,_=>⟨[],KatTups.nil,rfl,fun v hv=>by simp at hv⟩
 | p::ps,hk,ht=>by
  obtain ⟨fs,h1,h2,h3⟩:=xu (ps:=ps) (fun q hq=>hk q (LG _ hq)) (fun q hq=>ht q (LG _ hq))
  obtain ⟨a,b,e,_⟩:=fB (hk p LF)
  have t:=ht p LF
  rw [e] at t
  obtain ⟨o,n,t1,t2,ho,hc,hd⟩:=vZ t
  refine ⟨.int a t1::fs,KatTups.cons ho hc hd rfl h1,by rw [ND,ND,h2],fun v hv=>?_⟩
  rcases LH.mp hv with q | q
  ·exact ⟨a,t1,q⟩
  ·exact h3 v q
theorem GO {ps:List KP} (hk:∀ p∈ps,p.1∈prs) (hn:(ps.map (·.1)).Nodup) {p:Array Nat} (g:eK ps.length p) (ha:Ck (fun i=>jI (ps.getD i ([],0)).1) p ps.length) :
  ∃ out:List KP,(p.toList.map fun i=>(aZ ps).getD i Value.none)=aZ out/\out.Perm ps/\ix out:=by
 refine ⟨p.toList.map fun i=>ps.getD i ([],0),?_,?_,?_⟩
 ·unfold aZ
  rw [NQ]
  refine NR fun i hi=>?_
  have hi':i<ps.length:=LA.mp (g.perm.mem_iff.mp hi)
  simp [OS,hi']
 ·refine (g.perm.map _).trans ?_
  have:(List.range ps.length).map (fun i=>ps.getD i ([],0))=ps:=by
   apply OT
   intro i
   rw [Ms]
   by_cases hi:i<ps.length
   ·rw [OU hi];simp [hi]
   ·rw [OV (by simpa using hi),OV (by omega)];rfl
  rw [this]
 ·unfold ix
  rw [OW]
  refine NW.mpr fun i j hi hj hij=>?_
  have hi':i<p.size:=by simpa using hi
  have hj':j<p.size:=by simpa using hj
  have:=ha i j hij (by rw [<- g.size];exact hj')
  unfold at' at this
  simpa [Array.getD,hi',hj'] using this
theorem wG {a:Addr}{ps:List KP}{n:Nat}{P:PySem.Fin->Shared->Prop} (ho:s.heap.get? a=some (seqObj "list" (aZ ps).toArray n)) (hk:∀ p∈ps,p.1∈prs) (hn:(ps.map (·.1)).Nodup) (hT:∀ p∈ps,Tk prog w s.heap p.1 p.2)
  (h:∀ out:List KP,out.Perm ps->ix out->P (.done (.ret .none)) { s with heap:=sortedHeap s.heap a (aZ ps) (aZ out).toArray }) :
  wpAny (model prog w) A (Builtin.«list.sort» ⟨[.ref a],[]⟩) P E s:=by
 have hlen:=ki hk hn
 have hvl:(aZ ps).length=ps.length:=by unfold aZ;rw [Mw]
 rw [list_sort_plain]
 have hal:a<s.heap.objs.size:=Ls ho
 refine LV (listItems_at ho rfl ?_)
 refine LV (OX ho rfl ?_ (by rw [Mf,hvl];exact LB hlen (by decide)) (NN _))
 obtain ⟨e1,ho1⟩:∃ e1,(s.heap.update a (Obj.mapSeq fun _=>#[])).get? a=some (seqObj "list" #[] e1):=⟨_,OY ho (fun _=>#[])⟩
 refine LV (seqEpoch_at ho1 rfl ?_)
 refine LV (wpAny_newTuple ?_)
 refine LV (OZ ?_)
 refine LW ?_
 have ho6:(((s.heap.update a (Obj.mapSeq fun _=>#[])).push (seqObj "tuple" (aZ ps).toArray 0)).push (seqObj "list" #[] 0)).get? a=some (seqObj "list" #[] e1):=by
  rw [Heap.get?_push_ne _ _ _ (by rw [O0,O1];exact Ly (NG hal)),Heap.get?_push_ne _ _ _ (by rw [O1];exact Ly hal)]
  exact ho1
 show wpAny (model prog w) A _ P E { s with heap:=((s.heap.update a (Obj.mapSeq fun _=>#[])).push (seqObj "tuple" (aZ ps).toArray 0)).push (seqObj "list" #[] 0) }
 dsimp only
 have hna:∀ p∈ps,p.2≠a:=fun p hp e=>by
  obtain ⟨o,items,m,ho',hc',_⟩:=hT p hp
  rw [e,ho] at ho'
  have:=Lr ho'
  subst this
  exact absurd (show Value.type "list" = Value.type "tuple" from hc') (by decide)
 generalize hS:({ s with heap:=((s.heap.update a (Obj.mapSeq fun _=>#[])).push (seqObj "tuple" (aZ ps).toArray 0)).push (seqObj "list" #[] 0) }:Shared)=s1
 have eh1:s1.heap=((s.heap.update a (Obj.mapSeq fun _=>#[])).push (seqObj "tuple" (aZ ps).toArray 0)).push (seqObj "list" #[] 0):=by rw [<- hS]
 have hT1:∀ p∈ps,Tk prog w s1.heap p.1 p.2:=fun p hp=>by
  obtain ⟨o,items,m,ho',rest⟩:=hT p hp
  refine ⟨o,items,m,?_,rest⟩
  rw [eh1]
  refine L7 _ (L7 _ ?_)
  rw [O2 _ _ _ _ (hna p hp)]
  exact ho'
 rw [<- eh1] at ho6
 have hfin:∀ out:List KP,out.Perm ps->ix out->P (.done (.ret .none)) { s1 with heap:=s1.heap.update a (Obj.mapSeq fun _=>(aZ out).toArray) }:=fun out h1 h2=>by
  have q:=h out h1 h2
  rw [<- hS]
  exact q
 have hszv:(aZ ps).toArray.size=ps.length:=by rw [Mf,hvl]
 by_cases h2:(aZ ps).toArray.size<2
 ·rw [Lp h2, Lp h2]
  refine LV (L4 ?_)
  rw [StateT.run_pure]
  refine LV (L4 ?_)
  dsimp only
  refine LV (seqEpoch_at ho6 rfl ?_)
  have eo:(arrOf (SortSt.mk' general' ((aZ ps).toArray.zip (aZ ps).toArray) #[] 7 none)).map (·.2)=(aZ ps).toArray:=by
   show (((aZ ps).toArray.zip (aZ ps).toArray)).map (·.2)=_
   apply Array.toList_inj.mp
   rw [Array.toList_map,Array.toList_zip]
   exact List.map_snd_zip (L9 _)
  rw [eo]
  refine LV (OX ho6 rfl ?_ (NN _) (by show (aZ ps).toArray.size<=_;rw [hszv];exact LB hlen (by decide)))
  simp only [O3,NC,MH]
  refine L4 (hfin ps (List.Perm.refl _) ?_)
  rw [hszv] at h2
  match ps,h2 with
  | [],_=>exact List.Pairwise.nil
  | [_],_=>exact List.pairwise_singleton _ _
  | _::_::_,h=>rw [ND,ND] at h;omega
 ·rw [Lq h2, Lq h2]
  rw [hszv] at h2
  obtain ⟨fs,k1,k2,k3⟩:=xu hk hT1
  refine LV (kat_kind (T:=Value.type "int") k1 (by omega) (fun v hv=>?_) (by rfl) ?_)
  ·obtain ⟨i, t, e⟩ := k3 v hv
   rw [e];exact .now
  ·have et : (Value.type "int" != Value.type "tuple") = true := by decide
   rw [et]
   refine LV (LP (kat_run (ks:=aZ ps) (vs:=aZ ps) (Q:=fun st' s'=>s'=s1/\failedOf st'=none/\∃ out:List KP,out.Perm ps/\ix out/\(arrOf st').map (·.2)=(aZ out).toArray)
    (G:=fun p s'=>s'=s1/\∃ out:List KP,(p.toList.map fun i=>(aZ ps).getD i Value.none)=aZ out/\out.Perm ps/\ix out) rfl (by rw [hvl];omega) (by rw [hvl];omega) ?_ ?_) ?_ fun _ _ e=>e)
   ·rintro p st' s' hp har hf ⟨e, out, o1, o2, o3⟩
    exact ⟨e,hf,out,o2,o3,by rw [kat_snds rfl har,o1]⟩
   ·rw [hvl]
    refine C7 (key:=fun i=>jI (ps.getD i ([],0)).1) (fun i j hi hj e=>?_) (fun i j hi hj C hC=>?_) (by omega) _ (fun p g ha=>⟨rfl,GO hk hn g ha⟩)
    ·have hi' : ps.getD i ([], 0) = ps[i] := by simp [OS, hi]
     have hj':ps.getD j ([],0)=ps[j]:=by simp [OS,hj]
     simp only [hi',hj'] at e
     have e2:=El (hk _ (O4 hi)) (hk _ (O4 hj)) e
     have hil:i<(ps.map (·.1)).length:=by rw [Mw];exact hi
     have hjl:j<(ps.map (·.1)).length:=by rw [Mw];exact hj
     exact (LM (h₀:=hil) (h₁:=hjl) hn).mp (by simpa using e2)
    ·unfold kas_ask
     have gi:(aZ ps).getD i Value.none=.ref ps[i].2:=by unfold aZ;simp [OS,hi]
     have gj:(aZ ps).getD j Value.none=.ref ps[j].2:=by unfold aZ;simp [OS,hj]
     have hi':ps.getD i ([],0)=ps[i]:=by simp [OS,hi]
     have hj':ps.getD j ([],0)=ps[j]:=by simp [OS,hj]
     rw [gi,gj]
     simp only [hi',hj'] at hC
     exact DH (hT1 _ (O4 hi)) (hT1 _ (O4 hj)) (hk _ (O4 hi)) (hk _ (O4 hj)) hC
   ·rintro ⟨⟨⟩, st'⟩ s' ⟨rfl, hf, out, o1, o2, o3⟩
    dsimp only
    refine LV (seqEpoch_at ho6 rfl ?_)
    rw [o3]
    refine LV (OX ho6 rfl ?_ (NN _) (by show (aZ out).toArray.size<=_;rw [Mf];unfold aZ;rw [Mw,o1.length_eq];exact LB hlen (by decide)))
    rw [hf]
    simp only [O3,NC,MH]
    exact L4 (hfin out o1 o2)
end
end RS
namespace RS
open PySem PySem.W PyProof.Rows
namespace Fx
theorem slot_setiter_next:Slot "set_iterator" "__next__" "set_iterator.__next__" :=
 .of (owner:="set_iterator") (n:="__next__") (by rw [typeLookup_type,builtinLookup_eq_fast];kernel_rfl) (by decide +kernel) (by decide +kernel) (by decide +kernel)
  (by first | exact .inl (by decide +kernel) | exact .inr (by decide +kernel)) (by rw [OE];kernel_rfl)
theorem entry_setiter_next:entryFor table "set_iterator.__next__" = some Builtin.«set_iterator.__next__»:=entryFor_of_fast (by kernel_rfl)
theorem args_setiter_next (a:Value):argsOk "set_iterator.__next__" ⟨[a],[]⟩:=by unfold argsOk;kernel_rfl
theorem entry_set_iter:entryFor table "set.__iter__" = some Builtin.«frozenset.__iter__»:=
 entryFor_alias (id':="frozenset.__iter__") (by kernel_rfl) rfl (by decide +kernel) (by kernel_rfl)
end Fx
def df (h:Heap) (I S:Addr) (i n ep slot:Nat):Prop:=h.get? I=some { cls:=.type "set_iterator",dict:=none,data:=.fields #[.int (slot:Int) 0,.int (i:Int) 0,.ref S,.int (n:Int) 0,.int (ep:Int) 0],slots:=#[] }
def di (w:World) (S:Addr) (ep:Nat) (es:Array (Int × Value)):List (Int × Value):=if w.params.followText "set-order" then (pickOrder (w.params.setOrder S ep) es).toList else es.toList
def cV (w:World) (Z:List (Nat × Int × Value)) (i:Nat):Nat:=if w.params.followText "set-order" then 0 else if i=0 then 0 else (Z.getD (i - 1) (0,0,.none)).1+1
theorem qZ {α:Type} (next:Nat->Nat):∀ (fuel k:Nat) (left:List α) (out:Array α),left.length=fuel->(pickOrder.go next fuel k left out).toList.Perm (out.toList++left)
 | 0,k,left,out,h=>by
  have:left=[]:=List.length_eq_zero_iff.mp h
  subst this
  show out.toList.Perm (out.toList++[])
  rw [Mg]
 | fuel+1,k,left,out,h=>by
  have hlt:next k % left.length<left.length:=Nat.mod_lt _ (by omega)
  show (match left[next k % left.length]? with | some x=>_ | none=>_:Array α).toList.Perm _
  rw [O5 hlt]
  show (pickOrder.go next fuel (k+1) (left.eraseIdx (next k % left.length)) (out.push left[next k % left.length])).toList.Perm _
  refine (qZ next fuel (k+1) _ _ (by rw [List.length_eraseIdx_of_lt hlt];omega)).trans ?_
  rw [Array.toList_push,Np]
  refine List.Perm.append_left _ ?_
  rw [List.singleton_append,List.eraseIdx_eq_take_drop_succ]
  have q:(left.take (next k % left.length)++left[next k % left.length]::left.drop (next k % left.length+1))=left:=by
   rw [List.getElem_cons_drop];exact N5 _ _
  have q2:=(List.perm_middle (a:=left[next k % left.length]) (l₁:=left.take (next k % left.length)) (l₂:=left.drop (next k % left.length+1))).symm
  rw [q] at q2
  exact q2
theorem jY {w:World}{S:Addr}{ep:Nat}{es:Array (Int × Value)}:(di w S ep es).Perm es.toList:=by
 unfold di
 split
 ·have := qZ (w.params.setOrder S ep) es.size 0 es.toList #[] (by simp)
  simpa [pickOrder] using this
 ·exact List.Perm.refl _
theorem Ca {t:SetTable}{es:Array (Int × Value)}{Z:List (Nat × Int × Value)} (T:qL t es Z) {w:World} (hb:w.params.followText "set-order" = false) {i:Nat} (hi:i<=Z.length):SetTable.below t.place (cV w Z i)=i:=by
 have r:Cj t.place.toList:=by rw [T.place];exact T.ris
 obtain ⟨b1,b2,b3⟩:=lg r (cV w Z i)
 have hsz:=T.size.1
 have gz:∀ k,k<Z.length->t.place.getD k (cV w Z i)=(Z.getD k (0,0,.none)).1:=fun k hk=>by
  have e:t.place[k]?=some (Z[k]).1:=by rw [<- NZ,T.place,Ms,O5 hk];rfl
  rw [Oa,e,OS,O5 hk];rfl
 have hris:∀ a b,a<b->b<Z.length->(Z.getD a (0,0,.none)).1<(Z.getD b (0,0,.none)).1:=fun a b hab hbz=>by
  rw [<- gz a (by omega),<- gz b hbz]
  exact sv r _ a b hab (by omega)
 have hs:cV w Z i=if i=0 then 0 else (Z.getD (i - 1) (0,0,.none)).1+1:=by
  unfold cV;rw [hb,Lq LZ]
 by_cases h0:i=0
 ·rw [Lp h0] at hs
  rw [hs] at b2 ⊢
  by_cases hz:SetTable.below t.place 0=0
  ·rw [hz,h0]
  ·have:=b2 0 (by omega);omega
 ·rw [Lq h0] at hs
  have hlo:¬ SetTable.below t.place (cV w Z i)<=i - 1:=fun hle=>by
   have:=b3 (i - 1) hle (by omega)
   rw [gz _ (by omega)] at this
   omega
  have hhi:¬ i<SetTable.below t.place (cV w Z i):=fun hlt=>by
   have:=b2 i hlt
   have hiz:i<Z.length:=by omega
   rw [gz i hiz] at this
   have:=hris (i - 1) i (by omega) hiz
   omega
  omega
section
variable {prog:Program}{w:World}{A:Around}{E:Value->Shared->Prop}{s:Shared}
theorem uy {a:Addr}{ps:List (Int × Value)}{o es ep t Z}{i:Nat}{Q:Option (Value × Nat)->Shared->Prop} (S:dF w s.heap a ps o es ep t Z) (hi:i<=Z.length)
  (h:Q (((di w a ep es)[i]?).map fun e=>(e.2,cV w Z (i+1))) s):wpAny (model prog w) A (setNext a (cV w Z i) i ep) Q E s:=by
 unfold setNext
 refine LV (Oq S.ho S.hd S.fits ?_)
 dsimp only
 unfold setsByText
 refine LV (LV (NL (L4 ?_)))
 cases hb:w.params.followText "set-order" with
 | true=>
  have e1:di w a ep es=(pickOrder (w.params.setOrder a ep) es).toList:=by unfold di;rw [hb,Lp rfl]
  have e2:∀ j,cV w Z j=0:=fun j=>by unfold cV;rw [hb,Lp rfl]
  rw [e1,e2] at h
  show wpAny _ _ (if (w.params.followText "set-order")=true then _ else _) _ _ _
  rw [hb,Lp rfl]
  rw [Lq (by simp)]
  refine LV ?_
  unfold setWalk
  refine LV (Oq S.ho S.hd S.fits ?_)
  dsimp only
  unfold setsByText
  refine LV (LV (NL (L4 ?_)))
  show wpAny _ _ (if (w.params.followText "set-order")=true then _ else _) _ _ _
  rw [hb,Lp rfl]
  refine LV (NL (L4 (L4 ?_)))
  rw [e2,<- NZ]
  exact h
 | false=>
  have e1:di w a ep es=es.toList:=by unfold di;rw [hb,Lq LZ]
  have hled:t.led=true:=by rw [S.led,hb];rfl
  show wpAny _ _ (if (w.params.followText "set-order")=true then _ else _) _ _ _
  rw [hb,Lq LZ]
  have hdr:(!t.plain && decide (es.size > 1))=false:=by rw [S.plain];rfl
  show wpAny _ _ (if (!t.plain && decide (es.size > 1))=true then _ else _) _ _ _
  rw [hdr,Lq LZ]
  refine LV ?_
  show wpAny _ _ (if (!t.led && !es.isEmpty)=true then _ else _) _ _ _
  rw [hled]
  simp only [On,L6,NC,MH]
  refine L4 (L4 ?_)
  rw [Ca S.tab hb hi]
  rw [e1,NZ] at h
  by_cases hlt:i<Z.length
  ·have ez : Z[i]? = some Z[i] := O5 hlt
   have ee:=S.tab.hashAt ez
   have ep':t.place[i]?=some (Z[i]).1:=by rw [<- NZ,S.tab.place,Ms,ez];rfl
   rw [ee,ep']
   rw [ee] at h
   have es':cV w Z (i+1)=(Z[i]).1+1:=by
    unfold cV
    rw [hb,Lq LZ,Lq (by omega),Nat.add_sub_cancel,OS,ez];rfl
   rw [es'] at h
   exact h
  ·have : es[i]? = none := by rw [Of, S.tab.size.2]; omega
   rw [this]
   rw [this] at h
   exact h
end
end RS
namespace RS
open PySem PySem.W PyProof.Rows
section
variable {prog:Program}{w:World}{A:Around}{E:Value->Shared->Prop}{s:Shared}
theorem df.typeIs {I S:Addr}{i n ep slot:Nat} (h:df s.heap I S i n ep slot):s.TypeIs (.ref I) "set_iterator" := ⟨_,h,rfl⟩
theorem gr {a:Addr}{ps:List (Int × Value)}{o es ep t Z} (S:dF w s.heap a ps o es ep t Z):s.TypeIs (.ref a) "set" := ⟨o,S.ho,S.ex.1⟩
theorem Be {a:Addr}{ps:List (Int × Value)}{o es ep t Z}{Q:Value->Shared->Prop} (S:dF w s.heap a ps o es ep t Z)
  (hQ:Q (.ref s.heap.objs.size) { s with heap:=s.heap.push { cls:=.type "set_iterator",data:=.fields #[.int ((0:Nat):Int) 0,.int ((0:Nat):Int) 0,.ref a,.int (Z.length:Int) 0,.int (ep:Int) 0] } }) :
  wpAny (model prog w) A (pyIter (.ref a)) Q E s:=by
 refine wpAny_pyIter_slot (gr S) PySem.F.slot_set_iter (MU PySem.F.slot_set_iter (gr S) Fx.entry_set_iter ?_ (PySem.F.args_set_iter_1 _))
 unfold Builtin.«frozenset.__iter__» Builtin.Frozenset.sizeOf
 refine LV (m:=Builtin.Frozenset.slot0 "__iter__" _) (OD (a:=a) rfl ?_)
 refine LV (LV (O6 S.ho S.hd S.fits (L4 ?_)))
 unfold setDrawn
 refine LV (LV (Oq S.ho S.hd S.fits ?_))
 dsimp only
 unfold setsByText
 refine LV (LV (NL (L4 (L4 ?_))))
 have hdr:(!w.params.followText "set-order" && (!t.plain && decide (es.size > 1)))=false:=by rw [S.plain];simp
 show wpAny _ _ (if (!w.params.followText "set-order" && (!t.plain && decide (es.size > 1)))=true then _ else _) _ _ _
 rw [hdr,Lq LZ]
 refine LV (L4 ?_)
 refine LV (wpAny_setEpoch_of S.ho S.hd S.fits ?_)
 refine LV (MZ (L4 ⟨_,rfl, "set_iterator",_,⟨_,L8 _ rfl,rfl⟩,Fx.slot_setiter_next.lookup,?_⟩))
 rw [S.tab.size.2]
 exact hQ
theorem Bf {I a:Addr}{ps:List (Int × Value)}{o es ep t Z}{i:Nat}{v:Int × Value}{Q:Option Value->Shared->Prop} (S:dF w s.heap a ps o es ep t Z) (hit:df s.heap I a i Z.length ep (cV w Z i)) (hv:(di w a ep es)[i]?=some v)
  (hQ:∀ h',df h' I a (i+1) Z.length ep (cV w Z (i+1))->Heap.SameBut I s.heap h'->Q (some v.2) { s with heap:=h' }):wpAny (model prog w) A (pyNext (.ref I)) Q E s:=by
 have hT:=hit.typeIs
 have hoi:=hit
 unfold df at hoi
 have hil:i<Z.length:=by
  have:=(LL.mp hv).1
  rw [jY.length_eq,LR,S.tab.size.2] at this
  exact this
 unfold pyNext
 refine LV (wpAny_attempt (MQ (name:=Str.ofString "__next__") hT Fx.slot_setiter_next (MU Fx.slot_setiter_next hT Fx.entry_setiter_next ?_ (Fx.args_setiter_next _))))
 unfold Builtin.«set_iterator.__next__»
 refine LV (m:=slotArgs "__next__" 0 _) (OD (a:=(.ref I,[])) rfl ?_)
 dsimp only
 unfold fieldsOf
 refine LV (LV (L5 hoi ?_))
 refine L4 ?_
 refine LV (O6 S.ho S.hd S.fits ?_)
 rw [S.tab.size.2]
 simp only [O3,NC,MH,MD]
 refine LV (uy S (LC hil) ?_)
 rw [hv]
 dsimp only [Option.map_some]
 refine LV (O7 hoi (by simp) fun h1 e1 sb1=>?_)
 refine LV (O7 (s:={ s with heap:=h1 }) e1 (by simp) fun h2 e2 sb2=>?_)
 refine L4 ⟨v.2,rfl,L4 (hQ h2 ?_ (sb1.trans sb2))⟩
 unfold df
 rw [e2]
 simp [rawInt]
theorem Dg {I a:Addr}{ps:List (Int × Value)}{o es ep t Z}{Q:Option Value->Shared->Prop} (hh:A.handled=none) (S:dF w s.heap a ps o es ep t Z) (hit:df s.heap I a Z.length Z.length ep (cV w Z Z.length))
  (hQ:∀ h',Heap.ExtBut I s.heap h'->Q none { s with heap:=h' }):wpAny (model prog w) A (pyNext (.ref I)) Q E s:=by
 have hT:=hit.typeIs
 have hoi:=hit
 unfold df at hoi
 have hv:(di w a ep es)[Z.length]?=none:=by
  rw [List.getElem?_eq_none_iff,jY.length_eq,LR,S.tab.size.2]
  exact L9 _
 unfold pyNext
 refine LV (wpAny_attempt (MQ (name:=Str.ofString "__next__") hT Fx.slot_setiter_next (MU Fx.slot_setiter_next hT Fx.entry_setiter_next ?_ (Fx.args_setiter_next _))))
 unfold Builtin.«set_iterator.__next__»
 refine LV (m:=slotArgs "__next__" 0 _) (OD (a:=(.ref I,[])) rfl ?_)
 dsimp only
 unfold fieldsOf
 refine LV (LV (L5 hoi ?_))
 refine L4 ?_
 refine LV (O6 S.ho S.hd S.fits ?_)
 rw [S.tab.size.2]
 simp only [O3,NC,MH,MD]
 refine LV (uy S (L9 _) ?_)
 rw [hv]
 dsimp only [Option.map_none]
 refine LV (O7 hoi (by simp) fun h1 e1 sb1=>?_)
 refine LV ?_
 simp only [newExc,newTuple]
 refine LV (MZ ?_ (by size_fits))
 refine LV (m:=firstArgMember _ _) (OD (a:=Value.none) (by first | rfl | (simp only [firstArgMember];rfl)) ?_)
 refine MZ ?_ (by size_fits)
 simp only [raiseNew]
 refine LV (wpAny_handled ?_)
 rw [show A.in1.handled=none from hh]
 refine LV (L4 (wpAny_throw ?_))
 refine LV (wpAny_isInstance (T:="StopIteration") (b:=true) ⟨_,L8 _ rfl,rfl⟩ isSubtype_stop ?_)
 exact L4 (hQ _ ((sb1.extBut.push _).push _))
end
end RS
namespace RS
open PySem PySem.W PyProof.Rows
namespace Fx
theorem entry_extend_loop:entryFor table "list.extend.loop" = some Builtin.«list.extend.loop»:=entryFor_of_fast (by kernel_rfl)
theorem plain_extend_loop:plainId "list.extend.loop" = true:=by decide +kernel
theorem split_set_len:splitId "set.__len__" = some ("set", "__len__"):=by decide +kernel
end Fx
section
variable {prog:Program}{w:World}{A:Around}{E:Value->Shared->Prop}{s:Shared}
theorem vz {a:Addr}{ps:List (Int × Value)}{o es ep t Z}{Q:Bool->Shared->Prop} (S:dF w s.heap a ps o es ep t Z) (h:Q false s):wpAny (model prog w) A (Builtin.List.listLengthHint (.ref a)) Q E s:=by
 unfold Builtin.List.listLengthHint
 refine LV (wpAny_specialOf (gr S) PySem.F.slot_set_len.lookup ?_)
 dsimp only
 rw [Fx.split_set_len]
 dsimp only
 refine LV (wpAny_isInstance (gr S) sub_set_self ?_)
 simp only [On,NC,MH]
 rw [Lp (by rfl)]
 refine LV (MX (gr S) ?_)
 exact L4 h
theorem vA {R:Result->Shared->Prop}{I a L:Addr}{ps:List (Int × Value)}{o es ep t Z} (hh:A.handled=none) (hIa:I≠a) (hIL:I≠L) (hLa:L≠a) (hz:Z.length<=100) :
  ∀ (k i n:Nat) (s:Shared),Z.length - i=k->i<=Z.length->dF w s.heap a ps o es ep t Z->df s.heap I a i Z.length ep (cV w Z i)->s.heap.get? L=some (seqObj "list" (((di w a ep es).take i).map (·.2)).toArray n) ->
   (∀ h' m,(∀ b u,b≠I->b≠L->s.heap.get? b=some u->h'.get? b=some u)->h'.get? L=some (seqObj "list" ((di w a ep es).map (·.2)).toArray m)->R (.ok (.ret (.ref L))) { s with heap:=h' }) ->
   codeAny (model prog w) A (.builtin "list.extend.loop" ⟨[.ref L,.ref I,.ref L],[]⟩) R s:=by
 intro k
 induction k with
 | zero=>
  intro i n s ek hi S hit hL hR
  have e:i=Z.length:=by omega
  subst e
  refine OA Fx.entry_extend_loop ?_
  rw [OB Fx.plain_extend_loop _]
  show wpAny _ A.in1 (pyNext (.ref I) >>= _) _ _ s
  refine LV (Dg (by simpa using hh) S hit fun h' eb=>?_)
  show wpAny _ A.in1 (ret (.ref L)) _ _ _
  refine L4 (hR h' n (fun b u hb _ q=>eb b u hb q) ?_)
  rw [NY (by rw [jY.length_eq,LR,S.tab.size.2];exact L9 _)] at hL
  exact eb L _ (LI hIL) hL
 | succ k ih=>
  intro i n s ek hi S hit hL hR
  have hil:i<(di w a ep es).length:=by rw [jY.length_eq,LR,S.tab.size.2];omega
  refine OA Fx.entry_extend_loop ?_
  rw [OB Fx.plain_extend_loop _]
  show wpAny _ A.in1 (pyNext (.ref I) >>= _) _ _ s
  refine LV (Bf S hit (O5 hil) fun h' hit' sb=>?_)
  have hL':h'.get? L=some (seqObj "list" (((di w a ep es).take i).map (·.2)).toArray n):=(sb.2 L (LI hIL)).trans hL
  have hsz:(((di w a ep es).take i).map (·.2)).toArray.size<=100:=by
   rw [Mf,Mw,Mn];omega
  show wpAny _ A.in1 (Builtin.List.listUpdate (.ref L) _ >>= _) _ _ _
  refine LV (OX (s:={ s with heap:=h' }) hL' rfl ?_ (LB hsz (by decide)) (by rw [Array.size_push];exact LB (Nat.succ_le_succ hsz) (by decide)))
  have hL2:=OY hL' (·.push ((di w a ep es)[i]).2)
  have eL:(((di w a ep es).take i).map (·.2)).toArray.push ((di w a ep es)[i]).2=(((di w a ep es).take (i+1)).map (·.2)).toArray:=by
   have q:(di w a ep es).take (i+1)=(di w a ep es).take i++[(di w a ep es)[i]]:=by rw [ON,O5 hil];rfl
   rw [q,N7,List.push_toArray];rfl
  rw [eL] at hL2
  have hsb2:=Ox h' L (Obj.mapSeq (·.push ((di w a ep es)[i]).2))
  refine L4 ⟨plainId_quiet Fx.plain_extend_loop _,ih (i+1) _ _ (by omega) (by omega) ?_ ?_ hL2 fun h'' m kk hm=>?_⟩
  ·refine ⟨?_, S.ex, S.hd, S.tab, S.plain, S.led, S.big, S.perm⟩
   exact (hsb2.2 a (LI hLa)).trans ((sb.2 a (LI hIa)).trans S.ho)
  ·exact (hsb2.2 I hIL).trans hit'
  ·refine hR h'' m (fun b u hb1 hb2 q => kk b u hb1 hb2 ?_) hm
   exact (hsb2.2 b hb2).trans ((sb.2 b hb1).trans q)
theorem me {α β:Type}{f:α->β}{l m:List β} (h:l.Perm m):∀ ps:List α,m=ps.map f->∃ qs:List α,qs.Perm ps/\l=qs.map f:=by
 induction h with
 | nil=>
  intro ps e
  have:ps=[]:=List.map_eq_nil_iff.mp e.symm
  exact ⟨[],by rw [this],rfl⟩
 | cons x _ ih=>
  intro ps e
  cases ps with
  | nil=>cases e
  | cons p ps=>
   rw [Nb] at e
   obtain ⟨qs,h1,h2⟩:=ih ps (NU e).2
   exact ⟨p::qs,h1.cons p,by rw [Nb,<- h2,(NU e).1]⟩
 | swap x y l=>
  intro ps e
  match ps,e with
  | p::q::r,e=>
   rw [Nb,Nb] at e
   obtain ⟨e1,e2⟩:=NU e
   obtain ⟨e2,e3⟩:=NU e2
   exact ⟨q::p::r,List.Perm.swap _ _ _,by rw [Nb,Nb,e1,e2,e3]⟩
 | trans _ _ ih1 ih2=>
  intro ps e
  obtain ⟨qs,h1,h2⟩:=ih2 ps e
  obtain ⟨rs,h3,h4⟩:=ih1 qs h2
  exact ⟨rs,h3.trans h1,h4⟩
theorem nF {a:Addr}{ps:List (Int × Value)}{o es ep t Z}{Q:List Value->Shared->Prop} (hh:A.handled=none) (S:dF w s.heap a ps o es ep t Z) (hz:Z.length<=100)
  (h:∀ qs:List (Int × Value),qs.Perm ps->∀ h',(∀ b u,s.heap.get? b=some u->h'.get? b=some u)->s.heap.objs.size<=h'.objs.size->Q (qs.map (·.2)) { s with heap:=h' }):wpAny (model prog w) A (collect (.ref a)) Q E s:=by
 have hal:a<s.heap.objs.size:=Ls S.ho
 unfold collect
 refine LV (OJ (OA entry_proto_collect' ?_))
 show wpAny _ _ (do again (.builtin "list.__iadd__" ⟨[<- newList [],.ref a],[]⟩)) _ _ s
 refine LV (OZ (L4 ⟨OG _ (by decide +kernel),OA entry_list_iadd' ?_⟩))
 show wpAny _ _ (Builtin.List.listExtendWith (.ref s.heap.objs.size) (.ref a) (.ref s.heap.objs.size)) _ _ { s with heap:=s.heap.push (seqObj "list" #[] 0) }
 have S1:dF w (s.heap.push (seqObj "list" #[] 0)) a ps o es ep t Z:=⟨L7 _ S.ho,S.ex,S.hd,S.tab,S.plain,S.led,S.big,S.perm⟩
 unfold Builtin.List.listExtendWith
 refine LV (MX (gr (s:={ s with heap:=s.heap.push (seqObj "list" #[] 0) }) S1) ?_)
 have hsame:Builtin.List.listSameRef (.ref s.heap.objs.size) (.ref a)=false:=by
  show (s.heap.objs.size == a)=false
  simpa using L3 hal
 rw [hsame,Lq (by decide)]
 refine LV (Be (s:={ s with heap:=s.heap.push (seqObj "list" #[] 0) }) S1 ?_)
 dsimp only
 generalize hH:(s.heap.push (seqObj "list" #[] 0)).push { cls:=.type "set_iterator",data:=.fields #[.int ((0:Nat):Int) 0,.int ((0:Nat):Int) 0,.ref a,.int (Z.length:Int) 0,.int (ep:Int) 0] }=H2
 have eI:(s.heap.push (seqObj "list" #[] 0)).objs.size=s.heap.objs.size+1:=by rw [O0]
 have hk2:∀ b u,s.heap.get? b=some u->H2.get? b=some u:=fun b u q=>by rw [<- hH];exact L7 _ (L7 _ q)
 have S2:dF w H2 a ps o es ep t Z:=⟨hk2 a o S.ho,S.ex,S.hd,S.tab,S.plain,S.led,S.big,S.perm⟩
 have hL2:H2.get? s.heap.objs.size=some (seqObj "list" #[] 0):=by rw [<- hH];exact L7 _ (L8 _ rfl)
 have hI2:H2.get? (s.heap.objs.size+1)=some { cls:=.type "set_iterator",data:=.fields #[.int ((0:Nat):Int) 0,.int ((0:Nat):Int) 0,.ref a,.int (Z.length:Int) 0,.int (ep:Int) 0] }:=by
  rw [<- hH,<- eI];exact L8 _ rfl
 rw [eI]
 refine LV (LW (vz (s:={ s with heap:=H2 }) S2 ?_))
 rw [Lp (by rfl)]
 refine LV (NM ?_)
 refine LV ?_
 unfold Builtin.List.listTouch
 refine LV (OX (s:={ s with heap:=H2 }) hL2 rfl ?_ (NN _) (by decide))
 have hL3:=OY hL2 (·.push Value.none)
 refine OX (s:={ s with heap:=H2.update s.heap.objs.size (Obj.mapSeq (·.push Value.none)) }) hL3 rfl ?_ (by decide) (by decide)
 have hL4:=OY hL3 (·.pop)
 have sb3:=Ox H2 s.heap.objs.size (Obj.mapSeq (·.push Value.none))
 have sb4:=(sb3.trans (Ox (H2.update s.heap.objs.size (Obj.mapSeq (·.push Value.none))) s.heap.objs.size (Obj.mapSeq (·.pop))))
 generalize hH4:(H2.update s.heap.objs.size (Obj.mapSeq (·.push Value.none))).update s.heap.objs.size (Obj.mapSeq (·.pop))=H4 at hL4 sb4
 have neL:a≠s.heap.objs.size:=Ly hal
 have neI:s.heap.objs.size+1≠s.heap.objs.size:=Nat.succ_ne_self _
 refine L4 ⟨OG _ (by decide +kernel),?_⟩
 refine vA (by simpa using hh) (L3 (NG hal)) neI (LI neL) hz (Z.length - 0) 0 _ { s with heap:=H4 } (by omega) (NN _)
  ⟨(sb4.2 a neL).trans S2.ho,S.ex,S.hd,S.tab,S.plain,S.led,S.big,S.perm⟩ ?_ (by rw [List.take_zero];exact hL4) fun h' m kk hm=>?_
 ·unfold df
  have e0:cV w Z 0=0:=by unfold cV;split <;> simp
  rw [e0]
  exact (sb4.2 _ neI).trans hI2
 ·dsimp only
  refine LV (L5 hm ?_)
  refine L4 ?_
  have hp:(di w a ep es).Perm ps:=jY.trans (by rw [S.tab.ents];exact S.perm)
  have fin:=h (di w a ep es) hp h' fun b u q=>by
   have hb:b<s.heap.objs.size:=Ls q
   exact kk b u (Ly (NG hb)) (Ly hb) ((sb4.2 b (Ly hb)).trans (hk2 b u q))
  exact fin (LC (Ls hm))
theorem vB {a:Addr}{ps:List KP}{Q:List Value->Shared->Prop} (hh:A.handled=none) (S:eH w s.heap a ps)
  (h:∀ qs:List KP,qs.Perm ps->∀ h',(∀ b u,s.heap.get? b=some u->h'.get? b=some u)->s.heap.objs.size<=h'.objs.size->Q (aZ qs) { s with heap:=h' }):wpAny (model prog w) A (collect (.ref a)) Q E s:=by
 obtain ⟨o,es,ep,t,Z,S,hk,hn⟩:=S
 have h15:=ki hk hn
 refine nF hh S (by rw [S.len,Mw];omega) fun qs hq h' k1 k2=>?_
 obtain ⟨rs,q1,q2⟩:=me hq ps rfl
 have q3:qs.map (·.2)=aZ rs:=by rw [q2,NQ];rfl
 rw [q3]
 exact h rs q1 h' k1 k2
theorem yA {x:Value}{ps:List KP}{Q:Value->Shared->Prop} (hk:∀ p∈ps,p.1∈prs) (hn:(ps.map (·.1)).Nodup) (hT:∀ p∈ps,Tk prog w s.heap p.1 p.2)
  (hcol:∀ Q':List Value->Shared->Prop,(∀ qs:List KP,qs.Perm ps->∀ h',(∀ b u,s.heap.get? b=some u->h'.get? b=some u)->s.heap.objs.size<=h'.objs.size->Q' (aZ qs) { s with heap:=h' })->wpAny (model prog w) A.in1 (collect x) Q' E s)
  (h:∀ out:List KP,out.Perm ps->ix out->∀ h' D,s.heap.objs.size<=D->(∀ b u,s.heap.get? b=some u->h'.get? b=some u)->(∃ n,h'.get? D=some (seqObj "list" (aZ out).toArray n))->Q (.ref D) { s with heap:=h' }) :
  wpAny (model prog w) A (call (.builtin "sorted") [x]) Q E s:=by
 refine O8 kind_sorted plain_sorted entry_sorted (args_sorted1 _) ?_
 unfold Builtin.«sorted»
 refine LV (m:=checkCount "sorted" 1 1 _) (L4 ?_)
 refine LV (hcol _ fun qs hqs h1 k1 hsz=>?_)
 have hkq:∀ p∈qs,p.1∈prs:=fun p hp=>hk p (hqs.mem_iff.mp hp)
 have hnq:(qs.map (·.1)).Nodup:=(hqs.map _).nodup_iff.mpr hn
 have hlen:=ki hkq hnq
 have hvl:(aZ qs).length<=15:=by unfold aZ;rw [Mw];exact hlen
 refine LV (OZ ?_ (LB hvl (by decide)))
 have hoL:(h1.push (seqObj "list" (aZ qs).toArray 0)).get? h1.objs.size=some (seqObj "list" (aZ qs).toArray 0):=L8 _ rfl
 have hnn:∀ b u,h1.get? b=some u->b≠h1.objs.size:=fun b u q=>Ly (Ls q)
 refine LV (LW (MU slot_list_sort (s:={ s with heap:=h1.push (seqObj "list" (aZ qs).toArray 0) }) ⟨_,hoL,rfl⟩ O9 ?body (args_list_sort _)))
 case body=>
  refine wG (s:={ s with heap:=h1.push (seqObj "list" (aZ qs).toArray 0) }) hoL hkq hnq (fun p hp=>?_) fun out h2 h3=>?_
  ·obtain ⟨o, its, n, ho, rest⟩ := hT p (hqs.mem_iff.mp hp)
   exact ⟨o,its,n,L7 _ (k1 _ _ ho),rest⟩
  ·refine ⟨_, rfl, L4 ⟨_, rfl, h out (h2.trans hqs) h3 _ h1.objs.size hsz (fun b u q => ?_) ?_⟩⟩
   ·have hb := hnn b u (k1 b u q)
    unfold sortedHeap
    rw [O2 _ _ _ _ hb]
    refine L7 _ (L7 _ ?_)
    rw [O2 _ _ _ _ hb]
    exact L7 _ (k1 b u q)
   ·unfold sortedHeap
    have g1:=OY hoL (fun _=>#[])
    have g2:=L7 (seqObj "list" #[] 0) (L7 (seqObj "tuple" (aZ qs).toArray 0) g1)
    exact ⟨_,OY g2 (fun _=>(aZ out).toArray)⟩
theorem wF {a:Addr}{ps:List KP}{Q:Value->Shared->Prop} (hh:A.handled=none) (S:eH w s.heap a ps) (hT:∀ p∈ps,Tk prog w s.heap p.1 p.2)
  (h:∀ out:List KP,out.Perm ps->ix out->∀ h' D,s.heap.objs.size<=D->(∀ b u,s.heap.get? b=some u->h'.get? b=some u)->(∃ n,h'.get? D=some (seqObj "list" (aZ out).toArray n))->Q (.ref D) { s with heap:=h' }) :
  wpAny (model prog w) A (call (.builtin "sorted") [.ref a]) Q E s:=by
 obtain ⟨o,es,ep,t,Z,S0,hk,hn⟩:=id S
 exact yA hk hn hT (fun Q' hq=>vB (by simpa using hh) S hq) h
end
end RS
namespace RS
open PySem PySem.W PyProof.Rows
theorem qL.free {t:SetTable}{es:Array (Int × Value)}{Z:List (Nat × Int × Value)} (T:qL t es Z) {h:Int} (cov:∀ j,j<=t.mask->j∈cz t.mask h) (hz:Z.length<=t.mask) (hA:Nat->Int) (hne:∀ i,hA i≠h) :
  ∃ j pre post,t.probe hA h (t.probeStart h)=some (.empty j none)/\j<=t.mask/\j ∉ Z.map (·.1)/\cz t.mask h=pre++j::post/\∀ k∈pre,k∈Z.map (·.1):=by
 obtain ⟨j0,hj0,hn0⟩:=rD (m:=t.mask) (l:=Z.map (·.1)) (by rw [Mw];exact hz)
 obtain ⟨pre,j,post,e,hs,hp⟩:=js (fun j=>j ∉ Z.map (·.1)) (cz t.mask h) ⟨j0,cov j0 hj0,hn0⟩
 have el:(ye t.mask (SetTable.turns t.mask) (SetTable.bits h % (t.mask+1)) (SetTable.bits h)).length=pre.length+1+post.length:=by
  show (cz t.mask h).length=_
  rw [e,Mv,ND];omega
 have hw:ip t (pre.length+1+post.length) (t.probeStart h)=pre++j::post:=by
  have q:=pk t (SetTable.turns t.mask) (SetTable.bits h % (t.mask+1)) (SetTable.bits h) none
  rw [el] at q
  exact q.trans e
 have hlen:pre.length<10 * SetTable.turns t.mask:=by
  have q:=sr t.mask (SetTable.turns t.mask) (SetTable.bits h % (t.mask+1)) (SetTable.bits h)
  omega
 have occ:∀ k∈pre,k∈Z.map (·.1):=fun k hk=>N1 fun q=>hp k hk q
 have hpre:∀ k∈pre,∃ i,t.slot k=.live i/\hA i≠h:=fun k hk=>by
  obtain ⟨z,hzm,ez⟩:=N0.mp (occ k hk)
  obtain ⟨i,hi⟩:=N3 hzm
  exact ⟨i,ez ▸ T.slot_live hi,hne i⟩
 obtain ⟨g1,g2⟩:=sF t hA h pre j post (10 * SetTable.turns t.mask) (t.probeStart h) hw hlen rfl hpre
 exact ⟨j,pre,post,g1 (T.slot_empty hs),jb (h:=h) (by rw [e];simp),hs,e,occ⟩
abbrev KI:=Int × Tok
def zP (p:KI):Int × Value:=(hashInt p.1,Value.int p.1 p.2)
def ins:List Int:=[0,1,2,3,4,5]
theorem Ed {i:Int}:i∈ins↔0<=i/\i<6:=by
 unfold ins
 simp only [LH,OK,OL]
 omega
def Fo (mask:Nat):Bool:=ins.all fun k=>(List.range (mask+1)).all fun j=>(cz mask (hashInt k)).contains j
theorem JP:Fo 7=true:=by decide +kernel
theorem AX:Fo 31=true:=by decide +kernel
theorem sI {mask:Nat} (h:Fo mask=true) {k:Int} (hk:k∈ins):∀ j,j<=mask->j∈cz mask (hashInt k):=fun j hj=>by
 have a:=Ol.mp h k hk
 have b:=Ol.mp a j (LA.mpr (by omega))
 simpa using b
theorem rA {a b:Int} (ha:a∈ins) (hb:b∈ins) (e:hashInt a=hashInt b):a=b:=by
 have key:∀ x∈ins,∀ y∈ins,hashInt x=hashInt y->x=y:=by decide +kernel
 exact key a ha b hb e
def cL (w:World) (h:Heap) (a:Addr) (ps:List KI):Prop:=∃ o es ep t Z,dF w h a (ps.map zP) o es ep t Z/\(∀ p∈ps,p.1∈ins)/\(ps.map (·.1)).Nodup
theorem jZ {ps:List KI} (hk:∀ p∈ps,p.1∈ins) (hn:(ps.map (·.1)).Nodup):ps.length<=6:=by
 have:=i6 hn (l2:=ins) (fun x hx=>by obtain ⟨p,hp,e⟩:=N0.mp hx;rw [<- e];exact hk p hp)
 rw [Mw] at this
 exact this
theorem cL.keeps {w:World}{h h':Heap}{a:Addr}{ps:List KI} (S:cL w h a ps) (k:∀ o,h.get? a=some o->h'.get? a=some o):cL w h' a ps:=by
 obtain ⟨o,es,ep,t,Z,S,hk,hn⟩:=S
 exact ⟨o,es,ep,t,Z,⟨k o S.ho,S.ex,S.hd,S.tab,S.plain,S.led,S.big,S.perm⟩,hk,hn⟩
theorem KH {w:World}{h:Heap}{a:Addr}{ps:List (Int × Value)}{o es ep t Z} (S:dF w h a ps o es ep t Z) {k:Int} (hk:k∈ins):∀ j,j<=t.mask->j∈cz t.mask (hashInt k):=by
 rcases S.big with ⟨h1,h2⟩ | ⟨h1,h2⟩ <;> rw [h1]
 ·exact sI JP hk
 ·exact sI AX hk
def tU (ps:List KI) (k:Int) (t:Tok):List KI:=if k∈ps.map (·.1) then ps else ps++[(k,t)]
section
variable {prog:Program}{w:World}{A:Around}{E:Value->Shared->Prop}{s:Shared}
theorem qW {a:Addr}{k:Int}{tk:Tok}{ps0:List (Int × Value)}{o es ep t Z} (S:dF w s.heap a ps0 o es ep t Z) {Q:ScanMet->Shared->Prop} :
  ∀ (l:List (Int × Value)) (n:Nat),(∀ e∈l,∃ p:KI,e=zP p/\p.1∈ins)->k∈ins->((∃ e∈l,e.1=hashInt k)->∀ i,Q (.found i) s)->((∀ e∈l,e.1≠hashInt k)->Q .absent s)->wpAny (model prog w) A (setScanFrom a (.int k tk) (hashInt k) true l n) Q E s
 | [],n,_,_,h1,h2=>by
  unfold setScanFrom
  exact L4 (h2 fun e he=>by simp at he)
 | e::l,n,hl,hk,h1,h2=>by
  obtain ⟨p,rfl,hp⟩:=hl e LF
  show wpAny _ _ (setScanFrom a _ _ true ((hashInt p.1,Value.int p.1 p.2)::l) n) _ _ _
  unfold setScanFrom
  by_cases he:hashInt p.1=hashInt k
  ·rw [Lp (by simpa using he)]
   have ek:=rA hp hk he
   refine LV (m:=setEpoch a) (wpAny_setEpoch_of S.ho S.hd S.fits ?_)
   refine LV (Lo ?_)
   rw [ek]
   simp only [NB,Os,MJ]
   exact L4 (h1 ⟨_,LF,he⟩ _)
  ·rw [Lq (by simpa using he)]
   refine qW S l (n+1) (fun x hx=>hl x (LG _ hx)) hk (fun ⟨x,hx,ex⟩=>h1 ⟨x,LG _ hx,ex⟩) fun hx=>h2 fun x hxm=>?_
   rcases LH.mp hxm with z | z
   ·rw [z];exact he
   ·exact hx x z
theorem Es {a:Addr}{k:Int}{tk:Tok}{ps:List KI}{Q:Bool->Shared->Prop} (S:cL w s.heap a ps) (hk:k∈ins)
  (h:∀ b h',Heap.SameBut a s.heap h'->cL w h' a (tU ps k tk)->Q b { s with heap:=h' }):wpAny (model prog w) A (setAddHashed a (.int k tk) (hashInt k)) Q E s:=by
 obtain ⟨o,es,ep,t,Z,S,hk0,hn0⟩:=S
 have hent:∀ e∈es.toList,∃ p∈ps,e=zP p:=fun e he=>by
  rw [S.tab.ents] at he
  obtain ⟨p,hp,q⟩:=N0.mp (S.perm.mem_iff.mp he)
  exact ⟨p,hp,q.symm⟩
 have hto:∀ p∈ps,zP p∈es.toList:=fun p hp=>by
  rw [S.tab.ents]
  exact S.perm.mem_iff.mpr (N4 hp)
 have hlen6:=jZ hk0 hn0
 have hZl:Z.length=ps.length:=by rw [S.len,Mw]
 have hesz0:es.size=ps.length:=by rw [S.tab.size.2,hZl]
 have hz:Z.length<=t.mask:=by rcases S.big with ⟨q,q2⟩ | ⟨q,q2⟩ <;> omega
 unfold setAddHashed setAddHashedIn
 refine LW (LV (Oq S.ho S.hd S.fits ?_))
 dsimp only
 have hsc:byScan (Value.int k tk) es=true:=by
  unfold byScan
  have h1:decide (es.size<scanBound)=true:=Nz (by rw [hesz0];unfold scanBound;omega)
  have h2:es.all (fun x=>x.2.scannable)=true:=by
   rw [<- Array.all_toList,Ol]
   intro e he
   obtain ⟨p,_,rfl⟩:=hent e he
   rfl
  rw [h1,h2];rfl
 rw [hsc]
 simp only [MJ]
 refine LV ?_
 unfold setAddByScan
 refine LV (NM ?_)
 refine LV ?_
 show wpAny _ _ (setScanFrom a (.int k tk) (hashInt k) true es.toList 0) _ _ _
 refine qW S es.toList 0 (fun e he=>by obtain ⟨p,hp,e'⟩:=hent e he;exact ⟨p,e',hk0 p hp⟩) hk (fun hex i=>?_) fun hno=>?_
 ·obtain ⟨e, he, q⟩ := hex
  obtain ⟨p,hp,rfl⟩:=hent e he
  have ek:p.1=k:=rA (hk0 p hp) hk q
  refine L4 (L4 ?_)
  have q:=h false s.heap (Heap.SameBut.refl a s.heap) (by
   unfold tU;rw [Lp (by rw [<- ek];exact N4 hp)];exact ⟨o,es,ep,t,Z,S,hk0,hn0⟩)
  cases s;exact q
 ·have hin:k ∉ ps.map (·.1):=fun hx=>by
   obtain ⟨p,hp,e⟩:=N0.mp hx
   exact hno _ (hto p hp) (by rw [<- e];rfl)
  dsimp only
  obtain ⟨j,pre,post,epr,hj,hn,e,hp⟩:=S.tab.free (KH S hk) hz (fun _=>hashInt k+1) (fun _=>by omega)
  obtain ⟨Z',T',hperm,et⟩:=S.tab.put (x:=Value.int k tk) hj hn e hp
  have hfree:t.freeSlot (hashInt k)=some (j,false):=by
   unfold SetTable.freeSlot;rw [epr];rfl
  have hpl:(t.put j).1.plain=true:=by rw [et];exact S.plain
  have hled:(t.put j).1.led=t.led:=by rw [et]
  have hmask:(t.put j).1.mask=t.mask:=by rw [et]
  have hperm':(Z'.map (·.2)).Perm ((ps++[(k,tk)]).map zP):=by
   refine (hperm.map (·.2)).trans ?_
   rw [Nb,N7]
   refine List.Perm.trans (List.Perm.cons _ S.perm) ?_
   exact (List.perm_append_singleton _ _).symm
  have hkeys:∀ p∈ps++[(k,tk)],p.1∈ins:=fun p hp'=>by
   rcases LJ.mp hp' with q | q
   ·exact hk0 p q
   ·rw [NO] at q;rw [q];exact hk
  have hnd:((ps++[(k,tk)]).map (·.1)).Nodup:=by
   rw [N7]
   refine Ou.mpr ⟨hn0,by simp,fun x hx y hy=>?_⟩
   simp at hy
   rw [hy];rintro rfl;exact hin hx
  have hlen:=jZ hkeys hnd
  have hZ':Z'.length=ps.length+1:=by rw [hperm.length_eq,ND,hZl]
  have hesz:(SetTable.insertAt es (t.put j).2 (hashInt k,Value.int k tk)).size=Z'.length:=T'.size.2
  have hadd:tU ps k tk=ps++[(k,tk)]:=by unfold tU;rw [Lq hin]
  rw [hadd] at h
  rw [Mv,Nt] at hlen
  have hfit:(t.put j).1.fits (SetTable.insertAt es (t.put j).2 (hashInt k,Value.int k tk)).size=true:=by
   unfold SetTable.fits
   rw [T'.fill,T'.size.1,hesz,hmask]
   rcases S.big with ⟨q,q2⟩ | ⟨q,q2⟩ <;> simp [q] <;> omega
  have hlay:layNew t es (hashInt k) (.int k tk)=(SetTable.insertAt es (t.put j).2 (hashInt k,Value.int k tk),(t.put j).1,false,false):=by
   unfold layNew
   rw [hfree]
   dsimp only
   unfold SetTable.orStandIn
   rw [hfit];rfl
  rw [hlay]
  dsimp only
  generalize ht1:(t.put j).1=t1 at *
  generalize hes1:SetTable.insertAt es (t.put j).2 (hashInt k,Value.int k tk)=es1 at *
  have hline:es1.size<=sizeLine:=by rw [hesz,hZ'];exact LB hlen (by decide)
  refine LV (L4 ?_)
  refine LV (L4 ?_)
  rw [hpl]
  simp only [MJ]
  refine LV (m:=hashByValue 8 (.int k tk)) (L4 ?_)
  simp only [MJ]
  refine LV (Ov S.ho S.hd ?_ hline)
  have hg:(s.heap.update a (Obj.putSet es1 t1)).get? a=some { o with data:=.set es1 (ep+1) t1 }:=by
   have:=Ng (Obj.putSet es1 t1) S.ho (by rw [Ow es1 t1 S.hd];rfl)
   rw [Ow es1 t1 S.hd] at this;exact this
  have hsb1:=Ox s.heap a (Obj.putSet es1 t1)
  have hfill:t1.fill=ps.length+1:=by rw [T'.fill,hZ']
  by_cases hfull:t1.tooFull=true
  ·simp only [hfull, Oy, Os, MJ]
   have hm7:t.mask=7/\ps.length=4:=by
    unfold SetTable.tooFull at hfull
    rw [hfill,hmask] at hfull
    have hf:(ps.length+1) * 5 ≥ t.mask * 3:=by simpa using hfull
    rcases S.big with ⟨q,q2⟩ | ⟨q,q2⟩
    ·rw [q] at hf;exact ⟨q,by omega⟩
    ·rw [q] at hf;omega
   have hsz1:es1.size=5:=by rw [hesz,hZ',hm7.2]
   have hgr:SetTable.grown es1.size=20:=by rw [hsz1];rfl
   rw [hgr]
   obtain ⟨t2,order,Z2,er,T2,hp2,hm2,hl2,hpl2,hord⟩:=pW (t:=t1) (es:=es1) (wanted:=20) (mask:=31) (by rfl) (by rw [hsz1];decide) (fun e' he'=>by
    rw [T'.ents] at he'
    obtain ⟨p,hp',q⟩:=N0.mp (hperm'.mem_iff.mp he')
    rw [<- q]
    exact sI AX (hkeys p hp'))
   have hZ2:Z2.length=5:=by
    have:=hp2.length_eq
    simp at this
    omega
   have hes2:(order.filterMap (es1[·]?)).size=5:=by rw [T2.size.2,hZ2]
   have hrel:relayAll t1 es1 20=(order.filterMap (es1[·]?),t2,false):=by
    unfold relayAll
    rw [er]
    dsimp only
    have c1:coversAll order es1.size=true:=by
     unfold coversAll
     exact List.isPerm_iff.mpr hord
    have c2:t2.fits (order.filterMap (es1[·]?)).size=true:=by
     unfold SetTable.fits
     rw [T2.fill,T2.size.1,hes2,hm2,hZ2];rfl
    rw [c1,c2];rfl
   rw [hrel]
   dsimp only
   refine LV (LV (L4 (L4 ?_)))
   refine LV (Ov hg rfl ?_ (by rw [hes2];decide))
   have hg2:((s.heap.update a (Obj.putSet es1 t1)).update a (Obj.putSet (order.filterMap (es1[·]?)) t2)).get? a=some { o with data:=.set (order.filterMap (es1[·]?)) (ep+1+1) t2 }:=by
    have:=Ng (Obj.putSet (order.filterMap (es1[·]?)) t2) hg (by rw [Ow _ t2 rfl];rfl)
    rw [Ow _ t2 rfl] at this;exact this
   refine L4 (L4 ?_)
   refine h true _ (hsb1.trans (Ox _ a _)) ⟨_,_,_,t2,Z2,⟨hg2,S.ex,rfl,T2,by rw [hpl2];exact hpl,by rw [hl2,hled];exact S.led,.inr ⟨hm2,by omega⟩,?_⟩,hkeys,hnd⟩
   refine hp2.trans ?_
   rw [T'.ents];exact hperm'
  ·have hf : t1.tooFull = false := by simpa using hfull
   simp only [hf,Nu,NC,MH]
   refine L4 (L4 ?_)
   refine h true _ hsb1 ⟨_,_,_,t1,Z',⟨hg,S.ex,rfl,T',hpl,by rw [hled];exact S.led,?_,hperm'⟩,hkeys,hnd⟩
   unfold SetTable.tooFull at hf
   rw [hfill,hmask] at hf
   have hf':¬ ((ps.length+1) * 5 ≥ t.mask * 3):=by simpa using hf
   rw [hmask,hZ']
   rcases S.big with ⟨q,q2⟩ | ⟨q,q2⟩
   ·rw [q] at hf' ⊢;exact .inl ⟨rfl,by omega⟩
   ·rw [q] at hf' ⊢;exact .inr ⟨rfl,by omega⟩
end
end RS
namespace L2
open PySem PySem.Spec PyProof.Rows
theorem d9.thr {P:Program}{w:World}{H:Hp}{h:Heap}{a:Addr}{o:HO} (x:d9 P w H h a o):∃ ob,h.get? a=some ob:=by
 cases o with
 | lst xs=>obtain ⟨_,_,_,_,e⟩:=x;exact ⟨_,e⟩
 | tup xs=>obtain ⟨_,_,_,ob,e,_⟩:=x;exact ⟨_,e⟩
 | dK kvs=>obtain ⟨_,_,_,_,o,_,_,e,_⟩:=x;exact ⟨_,e⟩
 | dT kvs=>obtain ⟨_,_,_,_,o,_,_,e,_⟩:=x;exact ⟨_,e⟩
 | set S n=>obtain ⟨o,_,_,_,e,_⟩:=x;exact ⟨_,e⟩
 | ins C dx fs=>obtain ⟨_,_,_,e,_⟩:=x;exact ⟨_,e⟩
 | own y=>obtain ⟨_,e⟩:=x;exact ⟨_,e⟩
 | xd fs=>obtain ⟨_,⟨_,_,_,e,_⟩,_⟩:=x;exact ⟨_,e⟩
 | rng lo hi=>obtain ⟨_,_,_,e⟩:=x;exact ⟨_,e⟩
 | frz ob u=>obtain ⟨e,_⟩:=x;exact ⟨_,e⟩
 | tbl ps=>exact ⟨_,show h.get? a=some _ from x⟩
 | met f y=>exact ⟨_,show h.get? a=some _ from x⟩
 | ext φ=>obtain ⟨_,⟨_,e⟩,_⟩:=x;exact ⟨_,e⟩
theorem z5 {fs:List Addr}{H0 H':Hp}{h0 h1 h' B:Heap} (u:Un fs [] H0 H' h0 h1) (hB:∀ b o,h0.get? b=some o->b ∉ fs->∃ o',B.get? b=some o') (k1:B.StaysIn h1) (k2:B.StaysIn h') (up:h1.UpToSlots h')
  (hf:∀ b∈fs,H0 b=none/\∃ o,h0.get? b=some o/\∀ vs,o.data≠.fields vs):Un fs [] H0 H' h0 h' where
 keep:=fun b o e n hb hx=>by
  obtain ⟨o',q⟩:=hB b o e hb
  have q1:=k1 b o' q
  rw [u.keep b o e n hb hx] at q1
  cases q1
  exact k2 b o q
 slot:=fun b o e n hb hx=>by
  obtain ⟨sl,q⟩:=u.slot b o e n hb hx
  obtain ⟨_,o1,e1,nf⟩:=hf b hb
  rw [e] at e1
  cases e1
  obtain ⟨sl',q'⟩:=up b _ q nf
  exact ⟨sl',q'⟩
 free:=u.free
 there:=fun b o e hx=>by
  by_cases hb:b∈fs
  ·obtain ⟨n, o1, e1, nf⟩ := hf b hb
   rw [e] at e1
   cases e1
   obtain ⟨sl,q⟩:=u.slot b o e n hb hx
   obtain ⟨sl',q'⟩:=up b _ q nf
   exact ⟨_,q'⟩
  ·obtain ⟨o', q⟩ := hB b o e hb
   exact ⟨o',k2 b o' q⟩
 tups:=u.tups
 frzs:=u.frzs
 tbls:=u.tbls
def Iu (P:Program) (w:World):tK:=fun outer H s E e s'=>
 ∃ ea C a0 B H',e=.ref ea/\s'.os=s.os/\AllBare s'.gens/\Un (nk outer) [] H H' s.heap s'.heap/\mx P w H' B/\Heap.FlyingW B outer ea (.ref C) a0 s'.heap/\H' ea=none /\
  (∀ b o,s.heap.get? b=some o->b ∉ nk outer->∃ o',B.get? b=some o')/\E (.ref C) (some ea) H'
section
variable {P:Program}{w:World}{K:W.Frag}{mg:Str->Option Value}{base:Heap}{N:List Str}{qual:Str}{scope:Scope}{f:Addr}{cdv:Value}{A:Around}{outer:List Env}{s0:Shared}{H0:Hp}{E:XK}
abbrev Ci (P:Program) (w:World) (K:W.Frag) (mg:Str->Option Value) (base:Heap) (N:List Str) (qual:Str) (scope:Scope) (f:Addr) (cdv:Value) (A:Around) (outer:List Env) (s0:Shared) (H0:Hp) (E:XK):Cx:=oJ (Iu P w) P w K mg base N qual scope f cdv A outer s0 H0 E
theorem Eg {b:Addr} (hb:b∈nk (envOfC qual scope s0.heap.objs.size f cdv::outer)):b=s0.heap.objs.size\/b∈nk outer:=by
 obtain ⟨env,he,hf⟩:=Mb.mp hb
 rcases LH.mp he with rfl | he
 ·exact .inl (Lr hf).symm
 ·exact .inr (Mb.mpr ⟨env,he,hf⟩)
theorem nD {pins:List (Addr × Obj)}{σ:St}{H:Hp}{s:Shared} (I:aV (Ci P w K mg base N qual scope f cdv A outer s0 H0 E) pins σ H s) {b:Addr}{o:Obj} (e:s0.heap.get? b=some o) (hb:b ∉ nk outer) :
  (∃ o',s.heap.get? b=some o')/\b ∉ nk (envOfC qual scope s0.heap.objs.size f cdv::outer):=
 ⟨I.base.there b o e (fun z => by cases z), fun z => by
  rcases Eg z with z | z
  ·exact absurd (Ls e) (by rw [z];exact Lx _)
  ·exact hb z⟩
theorem rF {pins:List (Addr × Obj)}{σ:St}{H:Hp}{s:Shared} (I:aV (Ci P w K mg base N qual scope f cdv A outer s0 H0 E) pins σ H s):∀ b∈nk outer,H0 b=none/\∃ o,s0.heap.get? b=some o/\∀ vs,o.data≠.fields vs:=
 fun b hb=>⟨I.ok.frf b hb,(I.ok.funs.mem hb).2⟩
theorem EU:jW (Iu P w) (Ci P w K mg base N qual scope f cdv A outer s0 H0 E) E:=by
 intro pins σ H s e s' I hc
 obtain ⟨ea,C,a0,B,H',rfl,os,bare,un,hok,fl,hn,bk,q⟩:=hc
 have J:=I.call' os un (hok.kept fl.1) bare (ch:=[]) (fun b z=>absurd z (by simp))
 have hB:∀ b o,s0.heap.get? b=some o->b ∉ nk outer->∃ o',B.get? b=some o':=fun b o e hb=>by
  obtain ⟨⟨o1,e1⟩,nb⟩:=nD I e hb
  exact bk b o1 e1 nb
 refine wpAny_leaves_onW I.ok.frames rfl fl fun h' fl' up=>?_
 exact ⟨ea,C,a0,B,H',rfl,J.os,bare,z5 J.base hB fl.1 fl'.1 up (rF I),hok,fl',hn,hB,q⟩
theorem Hq {pins:List (Addr × Obj)}{σ:St}{H:Hp}{s s':Shared}{ea C:Addr}{vs:List Value} (I:aV (Ci P w K mg base N qual scope f cdv A outer s0 H0 E) pins σ H s) (hs:s'={ s with heap:=s'.heap })
  (hx:Heap.MadeExcOf s.heap s'.heap ea (.ref C) vs) (q:H ea=none->E (.ref C) (some ea) H):(Ci P w K mg base N qual scope f cdv A outer s0 H0 E).xe (.ref ea) s':=by
 have hn:H ea=none:=by
  cases z:H ea with
  | none=>rfl
  | some u=>
   obtain ⟨o,e⟩:=(I.hok ea u z).thr
   rw [hx.new] at e;cases e
 have hin:∀ env∈(envOfC qual scope s0.heap.objs.size f cdv::outer),∀ b,env.frame=some b->b∈nk (envOfC qual scope s0.heap.objs.size f cdv::outer):=fun env he b hb=>Mb.mpr ⟨env,he,hb⟩
 have hst:(W.hideAll s.heap (nk (envOfC qual scope s0.heap.objs.size f cdv::outer))).StaysIn s.heap:=fun b o q=>W.of_hideAll _ q
 have hB:∀ b o,s0.heap.get? b=some o->b ∉ nk outer->∃ o',(W.hideAll s.heap (nk (envOfC qual scope s0.heap.objs.size f cdv::outer))).get? b=some o':=fun b o e hb=>by
  obtain ⟨⟨o1,e1⟩,nb⟩:=nD I e hb
  exact ⟨o1,W.hideAll_get _ e1 nb⟩
 have nfr:∀ c u,H c=some u->c ∉ nk (envOfC qual scope s0.heap.objs.size f cdv::outer):=fun c u e z=>by rw [I.stkFree c z] at e;cases e
 have hok:mx P w H (W.hideAll s.heap (nk (envOfC qual scope s0.heap.objs.size f cdv::outer))):=fun b u e=>
  (I.hok b u e).stay (fun c v hc r => W.hideAll_get _ r (by
   rcases hc with rfl | hc
   ·exact nfr _ _ e
   ·exact nfr _ _ hc)) (fun _ r=>r) fun _ _ r=>r
 show wpAny _ _ (leaving _ (.ref ea)) _ _ s'
 refine wpAny_leaves_madeW I.ok.frames rfl hst (W.funFrames_hide I.stack hin) hx fun h' t fl _ _ up=>?_
 rw [hs]
 exact ⟨ea,C,.ref t,_,H,rfl,I.os,I.bare,z5 I.base hB hst fl.1 ((Heap.UpToSlots.of_keeps hx.keeps).trans up) (rF I),hok,fl,hn,hB,q hn⟩
def tV (mg:Str->Option Value) (base:Heap) (c:Str) (C:Addr):Prop:=∃ bm newId B initId,OwnCls c C bm newId mg base/\ExcBaseFacts B newId initId bm
theorem yJ {c:Str}{C:Addr}{np cpos pos:Pos} (O:tV mg base c C) (hg:Gl (Ci P w K mg base N qual scope f cdv A outer s0 H0 E) c) (hd:(c == ("__debug__" : Str))=false) :
  PS (Ci P w K mg base N qual scope f cdv A outer s0 H0 E) (.Raise (some (.Call (.Name c np) [] [] cpos)) none pos) (fun _ _ H=>∀ ea,H ea=none->E (.ref C) (some ea) H):=by
 intro pins s σ H D I q
 obtain ⟨bm,newId,B,initId,O,FB⟩:=O
 obtain ⟨tl,Nn,nm,qn,bs,hdct,sn,sub,ab,col,dd,k0,k1,k2,k3,k5,mN,hC,hN,hni,T⟩:=O.obj
 refine wpAny_Raise_call_subT (C:=C) (nm:=nm) (q:=qn) (N:=Nn) (bs:=bs) (bm:=tl) (hdct:=hdct) (sn:=sn) (sub:=sub) (ab:=ab) (col:=col) (dd:=dd) (k0:=k0) (k1:=k1) (k2:=k2) (k3:=k3) (k5:=k5)
  FB (mN:=mN) (T.hasType FB.hasBase) (I.ok.hd rfl) rfl hni (lJ I hg O.bound ⟨rfl,?_⟩ hd)
 exact evalArgs_empty ⟨rfl,NN _,I.bk _ _ hC,hN.keeps I.bk,T.keeps I.bk,fun h' e hm=>Hq I rfl hm (q e)⟩
end
structure Cx.Fn (X:Cx):Prop where
 ex:X.ex=[]
 stk:X.stack=X.env::X.outer
 fr:X.env.frame=some X.env.locals
def JT (X:Cx) (pins:List (Addr × Obj)) (E:XK) (e:Value) (s':Shared):Prop:=
 ∃ ea C a0 B σ H',e=.ref ea/\aV X pins σ H' s'/\mx X.prog X.w H' B/\Heap.FlyingW B X.stack ea (.ref C) a0 s'.heap/\H' ea=none /\
  (∀ b o,X.s₀.heap.get? b=some o->b ∉ X.fs->∃ o',B.get? b=some o')/\(∀ p∈X.pn++pins,∃ o',B.get? p.1=some o')/\E (.ref C) (some ea) H'
abbrev Cx.tri (X:Cx) (pins:List (Addr × Obj)) (E:XK):Cx:={ X with pn:=X.pn++pins,xe:=JT X pins E }
theorem Cx.Ok.tri {X:Cx}{pins:List (Addr × Obj)}{E:XK} (ok:X.Ok):(X.tri pins E).Ok:=
 ⟨ok.mod,ok.kind,ok.glob,ok.blt,ok.above,ok.inj,ok.has,ok.cab,ok.hd,ok.frames,ok.stk,ok.exf,ok.bs,ok.bsz,ok.noex,ok.exfs,ok.funs,ok.frf⟩
theorem Cx.Ok.untri {X:Cx}{pins:List (Addr × Obj)}{E:XK} (ok:(X.tri pins E).Ok):X.Ok:=
 ⟨ok.mod,ok.kind,ok.glob,ok.blt,ok.above,ok.inj,ok.has,ok.cab,ok.hd,ok.frames,ok.stk,ok.exf,ok.bs,ok.bsz,ok.noex,ok.exfs,ok.funs,ok.frf⟩
section
variable {X:Cx}{pins pins':List (Addr × Obj)}{σ:St}{H:Hp}{s:Shared}{E:XK}
theorem aV.tri (I:aV X pins σ H s):aV (X.tri pins E) [] σ H s:=
 ⟨I.ok.tri,I.os,I.bare,I.base,I.loc,I.cell,I.free,I.freeC,fun p hp=>I.pin p (by simpa using hp),I.hok,I.len⟩
theorem aV.untri (I:aV (X.tri pins E) pins' σ H s):aV X pins σ H s:=
 ⟨I.ok.untri,I.os,I.bare,I.base,I.loc,I.cell,I.free,I.freeC,fun p hp=>I.pin p (LK _ hp),I.hok,I.len⟩
theorem SP.untri {D:mC}{f:Flow}{s':Shared} (h:SP (X.tri pins E) pins' D f s'):SP X pins D f s':=by
 cases f with
 | next=>obtain ⟨σ',H',I,q⟩:=h;exact ⟨σ',H',I.untri,q⟩
 | brk=>obtain ⟨σ',H',I,q⟩:=h;exact ⟨σ',H',I.untri,q⟩
 | cont=>obtain ⟨σ',H',I,q⟩:=h;exact ⟨σ',H',I.untri,q⟩
 | ret u=>obtain ⟨v,σ',H',I,r,q⟩:=h;exact ⟨v,σ',H',I.untri,r,q⟩
end
theorem xV {X:Cx} (F:X.Fn) {b:Addr} (hb:b∈nk X.stack):b=X.env.locals\/b∈X.fs:=by
 rw [F.stk] at hb
 obtain ⟨env,he,hf⟩:=Mb.mp hb
 rcases LH.mp he with rfl | he
 ·rw [F.fr] at hf;exact .inl (Lr hf).symm
 ·exact .inr (Mb.mpr ⟨env,he,hf⟩)
theorem Jz {X:Cx}{pins:List (Addr × Obj)}{E:XK} (F:X.Fn):jW (Iu X.prog X.w) (X.tri pins E) E:=by
 intro pins' σ H s e s' I hc
 obtain ⟨ea,C,a0,B,H',rfl,os,bare,un,hok,fl,hn,bk,q⟩:=hc
 have J:=I.call' os un (hok.kept fl.1) bare (ch:=[]) (fun b z=>absurd z (by simp))
 refine ⟨ea,C,a0,B,σ,H',rfl,J.untri,hok,fl,hn,fun b o e hb=>?_,fun p hp=>?_,q⟩
 ·obtain ⟨o1, e1⟩ := I.base.there b o e (by show b ∉ X.ex; rw [F.ex]; exact fun z => by cases z)
  refine bk b o1 e1 fun z=>?_
  rcases xV F z with z | z
  ·have := I.ok.above
   rw [z] at e
   exact absurd (Ls e) (Nat.not_lt.mpr this)
  ·exact hb z
 ·obtain ⟨p1, p2, p3, p4, p5⟩ := I.pin p (LK _ hp)
  refine bk p.1 p.2 p1 fun z=>?_
  rcases xV F z with z | z
  ·exact p3 z
  ·exact p4 z
theorem x8 {h h':Heap}{c:Addr}{v:Option Value} (x:h.IsCell c v) (up:h.UpToSlots h'):h'.IsCell c v:=by
 obtain ⟨o,ho,hd⟩:=x
 obtain ⟨sl,q⟩:=up c o ho fun vs z=>by rw [hd] at z;cases z
 exact ⟨_,q,hd⟩
section
variable {X:Cx}{pins:List (Addr × Obj)}{σ:St}{H:Hp}{s:Shared}{h' B:Heap}{ea C:Addr}{a0:Value}
theorem aV.up (F:X.Fn) (I:aV X pins σ H s) (hok:mx X.prog X.w H B) (c1:∀ b o,X.s₀.heap.get? b=some o->b ∉ X.fs->∃ o',B.get? b=some o') (c2:∀ p∈X.pn++pins,∃ o',B.get? p.1=some o')
  (k1:B.StaysIn s.heap) (k2:B.StaysIn h') (up:s.heap.UpToSlots h'):aV X pins σ H { s with heap:=h' }:=by
 have hb:Un X.fs [] X.H₀ H X.s₀.heap h':=z5 (by rw [<- F.ex];exact I.base) c1 k1 k2 up fun b hb=>⟨I.ok.frf b hb,(I.ok.funs.mem hb).2⟩
 refine ⟨I.ok,I.os,I.bare,by rw [F.ex];exact hb,?_,fun x c e=>?_,I.free,I.freeC,fun p hp=>?_,hok.kept k2,I.len⟩
 ·obtain ⟨m, hn, hl⟩ := I.loc
  refine ⟨m,up.ns hn,fun i x v a b c=>?_⟩
  obtain ⟨u,r,l⟩:=hl i x v a b c
  refine ⟨u,r,?_⟩
  rcases l with l | ⟨k,c,e,hc⟩
  ·exact .inl l
  ·exact .inr ⟨k,c,e,x8 hc up⟩
 ·obtain ⟨v, hv⟩ := I.cell x c e
  exact ⟨v,x8 hv up⟩
 ·obtain ⟨p1, p2⟩ := I.pin p hp
  obtain ⟨o',e⟩:=c2 p hp
  have e1:=k1 _ _ e
  rw [p1] at e1
  cases e1
  exact ⟨k2 _ _ e,p2⟩
def tX (ea C:Addr):HO:=.ext fun h=>∃ oe,h.get? ea=some oe/\oe.cls=.ref C
theorem Un.track {fs ex:List Addr}{H0:Hp}{h0 h:Heap}{o:HO} (u:Un fs ex H0 H h0 h) (hn:h0.get? ea=none) (hH:H ea=none):Un fs ex H0 (cI H ea o) h0 h where
 keep:=u.keep
 slot:=u.slot
 free:=fun b ob e n hx=>by rw [bx fun z=>by rw [z,hn] at e;cases e];exact u.free b ob e n hx
 there:=u.there
 tups:=fun b xs q=>by have:=u.tups b xs q;rw [bx (bN this hH)];exact this
 frzs:=fun b ob xs q=>by have:=u.frzs b ob xs q;rw [bx (bN this hH)];exact this
 tbls:=fun b ps q=>by obtain ⟨m,this⟩:=u.tbls b ps q;exact ⟨m,by rw [bx (bN this hH)];exact this⟩
theorem aV.track (F:X.Fn) (I:aV X pins σ H s) (c1:∀ b o,X.s₀.heap.get? b=some o->b ∉ X.fs->∃ o',B.get? b=some o') (c2:∀ p∈X.pn++pins,∃ o',B.get? p.1=some o')
  (fl:Heap.FlyingW B X.stack ea (.ref C) a0 s.heap) (hH:H ea=none):aV X pins σ (cI H ea (tX ea C)) s:=by
 obtain ⟨f1,f2,f3,oe,vs,T,oT,ts,he,⟨hc,_⟩,hd,_⟩:=fl
 have hn:X.s₀.heap.get? ea=none:=by
  cases z:X.s₀.heap.get? ea with
  | none=>rfl
  | some o=>
   by_cases hf:ea∈X.fs
   ·obtain ⟨_, o1, e1, nf⟩ := I.ok.funs.mem hf
    obtain ⟨sl,e2⟩:=I.base.slot ea o1 e1 (I.ok.frf ea hf) hf (by rw [F.ex];exact fun z=>by cases z)
    rw [he] at e2
    cases e2
    exact absurd hd (nf vs)
   ·obtain ⟨o', e⟩ := c1 ea o z hf
    rw [f2] at e;cases e
 have nl:X.env.locals≠ea:=fun z=>by
  obtain ⟨m,⟨o',es,ep,ho',hd',_⟩,_⟩:=I.loc
  rw [z,he] at ho';cases ho';rw [hd] at hd';cases hd'
 refine ⟨I.ok,I.os,I.bare,I.base.track hn hH,I.loc,I.cell,by rw [bx nl];exact I.free,fun x c e=>?_,fun p hp=>?_,fun b u q=>?_,I.len⟩
 ·rw [bx fun z => ?_]
  ·exact I.freeC x c e
  ·obtain ⟨v, o', ho', hd'⟩ := I.cell x c e
   rw [z,he] at ho';cases ho';rw [hd] at hd';cases hd'
 ·obtain ⟨p1, p2, p3, p4, p5⟩ := I.pin p hp
  refine ⟨p1,?_,p3,p4,p5⟩
  rw [bx fun z=>?_]
  ·exact p2
  ·obtain ⟨o', e⟩ := c2 p hp
   rw [z,f2] at e;cases e
 ·by_cases hb : b = ea
  ·subst hb
   rw [cg] at q
   cases q
   refine ⟨⟨oe,he,hc⟩,⟨oe,he⟩,fun h1 h2 a k=>?_⟩
   obtain ⟨o,e,c⟩:=a
   exact ⟨o,k o e,c⟩
  ·rw [bx hb] at q
   exact (I.hok b u q).stay (fun _ _ _ r=>r) (fun c r=>by rw [bx (bN r hH)];exact r) fun c xs r=>by rw [bx (bN r hH)];exact r
end
abbrev Cx.hnd (X:Cx) (ea:Addr):Cx:={ X with A:=X.A.mark (some (.ref ea)),calm:=false,xe:=fun _ _=>False }
theorem aV.hnd {X:Cx}{pins:List (Addr × Obj)}{σ:St}{H:Hp}{s:Shared}{ea:Addr} (I:aV X pins σ H s):aV (X.hnd ea) pins σ H s:=
 ⟨⟨I.ok.mod, I.ok.kind, I.ok.glob, I.ok.blt, I.ok.above, I.ok.inj, I.ok.has, I.ok.cab, (fun z => by cases z), I.ok.frames, I.ok.stk, I.ok.exf, I.ok.bs, I.ok.bsz, I.ok.noex, I.ok.exfs, I.ok.funs, I.ok.frf⟩,
   I.os,I.bare,I.base,I.loc,I.cell,I.free,I.freeC,I.pin,I.hok,I.len⟩
theorem aV.unhnd {X:Cx}{pins:List (Addr × Obj)}{σ:St}{H:Hp}{s:Shared}{ea:Addr} (ok:X.Ok) (I:aV (X.hnd ea) pins σ H s):aV X pins σ H s:=
 ⟨ok,I.os,I.bare,I.base,I.loc,I.cell,I.free,I.freeC,I.pin,I.hok,I.len⟩
theorem aV.forget {X:Cx}{pins:List (Addr × Obj)}{σ:St}{H:Hp}{s:Shared}{h':Heap}{t':Nat}{m:Str->Option Value} (I:aV X pins σ H s) (hn:h'.Ns X.env.locals m) (sb:Heap.SameBut X.env.locals s.heap h') :
  aV X pins (List.replicate X.N.length none) H { s with heap:=h',toks:=t' }:=by
 have ne:∀ b o,X.s₀.heap.get? b=some o->b≠X.env.locals:=fun b o e z=>by
  have:=I.ok.above
  rw [z] at e
  exact absurd (Ls e) (Nat.not_lt.mpr this)
 have same:∀ b,b≠X.env.locals->h'.get? b=s.heap.get? b:=fun b hb=>sb.2 b hb
 refine ⟨I.ok,I.os,I.bare,⟨fun b o e n hb hx=>?_,fun b o e n hb hx=>?_,I.base.free,fun b o e hx=>?_,I.base.tups,I.base.frzs,I.base.tbls⟩,⟨m,hn,fun i x v _ e=>?_⟩,fun x c e=>?_,I.free,I.freeC,fun p hp=>?_,fun b u q=>?_,by simp⟩
 ·rw [same b (ne b o e)];exact I.base.keep b o e n hb hx
 ·rw [same b (ne b o e)];exact I.base.slot b o e n hb hx
 ·rw [same b (ne b o e)];exact I.base.there b o e hx
 ·rw [Mq] at e
  split at e <;> cases e
 ·obtain ⟨v, o, ho, hd⟩ := I.cell x c e
  exact ⟨v,o,by rw [same c (I.cne x c e)];exact ho,hd⟩
 ·obtain ⟨p1, p2, p3, p4⟩ := I.pin p hp
  exact ⟨by rw [same _ p3];exact p1,p2,p3,p4⟩
 ·have nb : ∀ c u, H c = some u -> c ≠ X.env.locals := fun c u e z => by rw [z, I.free] at e; cases e
  exact (I.hok b u q).stay (fun c v hc r=>by
   rw [same c]
   ·exact r
   ·rcases hc with rfl | hc
    ·exact nb _ _ q
    ·exact nb _ _ hc) (fun _ r=>r) fun _ _ r=>r
theorem Gw {X:Cx} (F:X.Fn) {r n:Str}{R:Addr}{i:Nat}{np hpos pos:Pos}{body suite:List Stmt}{b0:Stmt}{tb:XK->TS}{th:TS}
  (hN:X.N.Nodup) (hi:X.N[i]?=some n) (hx:yg X.env.scope n) (hl:X.env.kindOf n=some .local) (hg:Gl X r) (hm:X.mg r=some (.ref R)) (hd:(r == ("__debug__" : Str))=false)
  (hb:∀ pins E,iU (X.tri pins E) body (tb E)) (hs:∀ ea,iU (X.hnd ea) (b0::suite) th) :
  PS X (.Try body [.ExceptHandler (some (.Name r np)) (some n) (b0::suite) hpos] [] [] pos) (fun D σ H=>∃ E:XK,(∀ C ea H',E (.ref C) (some ea) H'->H' ea=none->W.exmOne X.K (.ref C) (.ref R)=some true /\
   ∀ σ':St,σ'.length=X.N.length->th { nx:=fun _ _=>False,rt:=D.rt } (σ'.set i (some (.ref ea))) (cI H' ea (tX ea C)))/\tb E D σ H):=by
 intro pins s σ H D I hq
 obtain ⟨E,hE,hq⟩:=hq
 refine wpAny_Try_except (LP (hb pins E [] s σ H D I.tri hq) (fun f s1 h1=>?_) fun e s1 h1=>?_)
 ·cases f with
  | next=>exact LU (SP.untri h1)
  | brk=>exact SP.untri h1
  | cont=>exact SP.untri h1
  | ret u=>exact SP.untri h1
 ·obtain ⟨ea, C, a0, B, σ1, H1, rfl, I1, hok, fl, hn, c1, c2, q⟩ := h1
  obtain ⟨q1,q2⟩:=hE C ea H1 q hn
  have fl0:=fl
  rw [F.stk] at fl
  refine wpAny_looks_onW (by rw [<- F.stk];exact I.ok.frames) F.fr fl fun h4 held4 up4=>?_
  refine wpAny_landsW held4 fun h5 fl5 up5=>?_
  have fl5':=fl5
  rw [<- F.stk] at fl5'
  have I5:=I1.up F hok c1 c2 fl0.1 fl5.1 (up4.trans up5)
  have J5:aV (X.hnd ea) pins σ1 H1 { s1 with heap:=h5 }:=I5.hnd
  refine wpAny_handleBy_cons (codeAny_handlers_test (lJ J5 hg hm ?_ hd)) (by intro q;cases q)
  obtain ⟨ob,hob,hobc⟩:=fl5.there
  have LT:W.Looks (model X.prog X.w) h5 (typeOf (.ref ea)) (.ref C):=by
   rw [<- hobc]
   exact (W.Looks.ld hob).andThen .now
  refine (W.exm_one J5.kIn LT q1).here (codeAny_handlers_suite_as ?_)
  refine lands_againW fl5 fun h6 fl6 up6=>?_
  have fl6':=fl6
  rw [<- F.stk] at fl6'
  have I6:=I5.up F hok c1 c2 fl5.1 fl6.1 up6
  have I6':=I6.track F c1 c2 fl6' hn
  refine lT (v:=.ref ea) I6' hN hi hx rfl (fun s7 I7=>?_) (.inr hl)
  refine LP (hs ea pins s7 _ _ _ I7.hnd (q2 σ1 I1.len)) (fun f s8 h8=>?_) fun _ _ z=>False.elim z
  cases f with
  | next=>obtain ⟨_,_,_,z⟩:=h8;exact False.elim z
  | brk=>obtain ⟨_,_,_,z⟩:=h8;exact False.elim z
  | cont=>obtain ⟨_,_,_,z⟩:=h8;exact False.elim z
  | ret u=>
   obtain ⟨v,σ',H',I8,rv,z⟩:=h8
   have I8':=I8.unhnd I.ok
   obtain ⟨m,hn8,_⟩:=I8'.loc
   refine wpAny_nameGoes hl hn8 (by rw [I.ok.kind];rfl) fun h9 m9 hn9 sb=>?_
   exact ⟨v,_,H',I8'.forget hn9 sb,rv,z⟩
structure eJ (k:Nat) (A:Around):Prop where
 dp:A.depth+3 * k+5<recursionLimit
 un:A.units+16 * k+200<cLine
 gd:A.guards=some []
theorem fX.h {k:Nat}{A:Around} (r:fX k A):eJ k A:=⟨r.dp,r.un,r.gd⟩
theorem eJ.mark {k:Nat}{A:Around} (r:eJ k A) (e:Option Value):eJ k (A.mark e):=⟨r.dp,r.un,r.gd⟩
theorem eJ.mono {j k:Nat}{A:Around} (r:eJ k A) (h:j<=k):eJ j A:=⟨by have:=r.dp;omega,by have:=r.un;omega,r.gd⟩
theorem eJ.deeper {k:Nat}{A:Around} (r:eJ (k+1) A) (env:Env):eJ k (A.deeper env):=
 ⟨by have:=r.dp;show A.depth+1+3 * k+5<_;omega,by have:=r.un;show A.units+3+16 * k+200<_;omega,r.gd⟩
theorem eJ.depth {k:Nat}{A:Around} (r:eJ k A):A.depth<recursionLimit:=by have:=r.dp;omega
theorem eJ.units {k:Nat}{A:Around} (r:eJ k A):A.units+64<cLine:=by have:=r.un;omega
structure uo (P:Program) (w:World) (K:W.Frag) (mg:Str->Option Value) (base:Heap) (CX:tK) (k:Nat) (f:Addr) (fd:FuncData) (ps:List Str) (sp:Sp):Prop where
 len:∀ vs H Q E,sp vs H Q E->vs.length=ps.length
 run:∀ (A:Around) (outer:List Env) (s:Shared) (H:Hp) (args:Args) (us:List Value) (vs:List V) (Q:VK) (E:XK),eJ k A->ym P w K mg base A outer s H->BindsTo s fd args (ps.zip us)->ba vs us->sp vs H Q E ->
  codeAny (model P w) A (.call (.ref f) args) (CR CX outer P w H s Q E) s
section
variable {X:Cx}{CX:tK}{k:Nat}{f C:Addr}{fd:FuncData}{ps:List Str}{sp:Sp}{dvs:List V}{ds:List Value}{E:XK}{x m:Str}{p pos apos:Pos}{e o:Expr}{es:List Expr}{ta:TE}{t:TA}
theorem Dm {pins:List (Addr × Obj)}{σ:St}{H:Hp}{s:Shared}{Q:VK}{us:List Value}{vs:List V} (F:uo X.prog X.w X.K X.mg X.base CX k f fd ps sp) (hr:eJ k X.A) (hb:gP X.K fd ps ds) (hd:ba dvs ds) (hx:jW CX X E)
  (I:aV X pins σ H s) (r:ba vs us) (h:sp (vs++dvs) H Q E):wpAny (model X.prog X.w) X.A (call (.ref f) us) (EP X pins σ Q) X.xe s:=by
 have r2:ba (vs++dvs) (us++ds):=r.append hd
 have hl:(us++ds).length=ps.length:=by rw [<- r2.length];exact F.len _ _ _ _ h
 refine wpAny_call (Mh (F.run X.A X.stack s H ⟨us,[]⟩ (us++ds) (vs++dvs) Q E hr I.env0 (hb s us I.kIn hl) r2 h) fun r s' hq=>?_)
 cases r with
 | error e=>exact hx pins σ H s e s' I hq
 | ok fl=>
  cases fl with
  | ret u=>exact I.after hq
  | next=>exact False.elim hq
  | brk=>exact False.elim hq
  | cont=>exact False.elim hq
theorem BD (F:uo X.prog X.w X.K X.mg X.base CX k f fd ps sp) (hr:eJ k X.A) (hg:Gl X x) (hm:X.mg x=some (.ref f)) (hk:W.keepIn X.K (.ref f)=true) (hb:gP X.K fd ps ds) (hd:ba dvs ds) (hx:jW CX X E)
  (ha:PA X (e::es) t) (hdb:(x == ("__debug__" : Str))=false:=by decide) (he:starEach (e::es) X.env=(false,eval e X.env)::starEach es X.env:=by rfl) (hpl:(backTo pos (starEach es X.env)).any (·.1)=false:=by rfl) :
  PE X (.Call (.Name x p) (e::es) [] pos) (EG sp dvs E t):=by
 intro pins s σ H Q I h
 refine Mi (lJ I hg hm ?_ hdb)
 refine W.callWith_K (h₀:=X.base) I.ok.mod.kin hk (cQ (ha pos pins s σ H _ I h) fun us s1 ⟨vs,H1,I1,r,q⟩=>⟨I1.kIn,?_⟩) he hpl
 exact Dm F hr hb hd hx I1 r q
end
def oV (CX:tK) (P:Program) (w:World) (K:W.Frag) (mg:Str->Option Value) (base:Heap) (N:List Str) (qual:Str) (scope:Scope) (f:Addr) (cd:Value) (A:Around) (outer:List Env) (s:Shared) (H:Hp) (E:XK):Cx where
 prog:=P
 w:=w
 K:=K
 mg:=mg
 base:=base
 A:=A.deeper (envOfC qual scope s.heap.objs.size f cd)
 N:=N
 s₀:=s
 H₀:=H
 env:=envOfC qual scope s.heap.objs.size f cd
 outer:=outer
 stack:=envOfC qual scope s.heap.objs.size f cd::outer
 ex:=[]
 calm:=false
 fn:=fun _=>true
 pn:=[]
 xe:=fun e s'=>wpAny (model P w) (A.deeper (envOfC qual scope s.heap.objs.size f cd)) (leaving (envOfC qual scope s.heap.objs.size f cd) e) (fun _ s''=>CX outer H s E e s'') (fun e' s''=>CX outer H s E e' s'') s'
theorem wX {CX:tK}{P:Program}{w:World}{K:W.Frag}{mg:Str->Option Value}{base:Heap}{N ps:List Str}{qual:Str}{scope:Scope}{f:Addr}{cd:Value}{A:Around}{outer:List Env}{s s1:Shared}{H:Hp}{E:XK}{us:List Value}{vs:List V}
  (S:aU N ps scope) (e0:ym P w K mg base A outer s H) (hl:vs.length=ps.length) (r:ba vs us)
  (x:InCallC s s.heap.objs.size (bindL (envOfC qual scope s.heap.objs.size f cd).kindOf (ps.zip us) fun _=>none) (cellsFrom (s.heap.objs.size+1) scope.names []) (bindC (envOfC qual scope s.heap.objs.size f cd).kindOf (ps.zip us) fun _=>none) s1) :
  aV (oV CX P w K mg base N qual scope f cd A outer s H E) [] (start N vs) H s1:=by
 have hpl:ps.length<=N.length:=by have:=LS List.length S.pre;rw [Mn] at this;omega
 obtain ⟨h1,tk,rfl,hk⟩:=x.done
 have noA:∀ b:Addr,b ∉ (oV CX P w K mg base N qual scope f cd A outer s H E).ex:=fun b z=>absurd (show b∈([]:List Addr) from z) (by simp)
 refine ⟨⟨e0.mod,S.kind,rfl,rfl,L9 _,fun y z c h1 h2=>?_,fun y hy=>?_,fun y c _ h=>?_,(fun z=>by cases z),Around.frames_deeper e0.frames,.inr ⟨rfl,rfl⟩,fun b z=>absurd z (noA b),e0.bs,e0.bsz,fun b _ _=>noA b,fun b z=>absurd z (noA b),e0.funs,e0.frf⟩,
  rfl,e0.bare,Un.kept hk,⟨_,x.toInCall.ns,fun i y v h1 h2 h3=>?_⟩,fun y c h=>⟨_,x.cell y c h⟩,e0.hok.fresh (L9 _),fun y c h=>?_,fun p hp=>absurd (show p∈([]:List (Addr × Obj)) from hp) (by simp),e0.hok.kept hk,?_⟩
 ·exact name_of_addr x.apart (Mo h1) (Mo h2)
 ·have hy : scope.names.lookup y = some .cell \/ scope.names.lookup y = some .free := hy
  rcases hy with hy | hy
  ·exact lY hy
  ·exact absurd rfl (S.nofree _ (Mo hy))
 ·exact LC (x.above y c (Mo h))
 ·have hi:i<vs.length:=by
   unfold start at h2
   by_cases hi:i<vs.length
   ·exact hi
   ·rw [Mp (by simpa using hi)] at h2
    rw [Mq] at h2
    split at h2 <;> cases h2
  have ha:vs[i]?=some v:=by
   unfold start at h2
   rw [Mr (by simpa using hi),Ms] at h2
   cases e:vs[i]? with
   | none=>rw [e] at h2;cases h2
   | some a=>rw [e] at h2;cases h2;rfl
  obtain ⟨u,hu,rv⟩:=r.get ha
  have hp:ps[i]?=some y:=by
   rw [<- S.pre,Mt (by omega)];exact h1
  have ndP:ps.Nodup:=by rw [<- S.pre];exact S.nd.sublist (List.take_sublist _ _)
  refine ⟨u,rv,?_⟩
  rcases S.par y (Mu hp) with k | k
  ·exact .inl ⟨k,mU ndP hp hu k⟩
  ·obtain ⟨c, e⟩ := lY (n := s.heap.objs.size + 1) k
   refine .inr ⟨.inl k,c,e,?_⟩
   have q:=x.cell y c e
   rw [mV ndP hp hu (by show scope.names.lookup y≠_;rw [k];decide)] at q
   exact q
 ·exact e0.hok.fresh (LC (x.above y c (Mo h)))
 ·unfold start
  show _=N.length
  rw [Mv,Mw,List.length_replicate]
  omega
theorem HQ {CX:tK}{P:Program}{w:World}{K:W.Frag}{mg:Str->Option Value}{base:Heap}{k:Nat}{f:Addr}{name qual:Str}{params:Arguments}{body:List Stmt}{scope:Scope}{dV kV doc pm cdv ct oc:Value}{an od:Option Addr}
  {osl:Array (Option Value)}{N ps:List Str}{sp:Sp} (lk:K.lookup f=some ⟨oc,od,.func (W.fnOf name qual params body scope dV kV doc pm an cdv ct),osl⟩) (hcd:W.codeIn K cdv qual=true) (S:aU N ps scope)
  (len:∀ vs H Q E,sp vs H Q E->vs.length=ps.length)
  (hbody : ∀ (A : Around) (outer : List Env) (s : Shared) (H : Hp) (vs : List V) (Q : VK) (E : XK), eJ k (A.deeper (envOfC qual scope s.heap.objs.size f cdv)) -> sp vs H Q E ->
   ∃ t,iU (oV CX P w K mg base N qual scope f cdv A outer s H E) body t/\t { nx:=fun _ H'=>Q .non H',rt:=Q } (start N vs) H) :
  uo P w K mg base CX (k+1) f (W.fnOf name qual params body scope dV kV doc pm an cdv ct) ps sp:=by
 refine ⟨len,fun A outer s H args us vs Q E hr e0 hb r hsp=>?_⟩
 have hl:=len _ _ _ _ hsp
 have KX:K.In s.heap:=e0.mod.kin.keeps fun b o e=>(e0.bs b o e).1
 have lim:s.heap.NoLimit:=e0.mod.nolimit.keeps fun b o e=>(e0.bs b o e).1
 have hkind:∀ y∈ps.zip us,scope.names.lookup y.1=some .local\/(scope.names.lookup y.1=some .cell/\((cellsFrom (s.heap.objs.size+1) scope.names []).lookup y.1).isSome=true):=fun ⟨n,v⟩ hy=>by
  rcases S.par n (Ml hy).1 with q | q
  ·exact .inl q
  ·exact .inr ⟨q,W.cellsFrom_some _ _ _ (.inl q)⟩
 refine codeAny_call_function hr.depth (KX _ _ lk) rfl S.co S.gen rfl (W.codeRec_of KX hcd) (hb _ _ _ _ ?_)
 refine wpAny_newFunctionEnv_cells S.kind hkind fun env he s1 x=>?_
 subst he
 refine ⟨lim.keeps x.toInCall.keep,codeAny_func ?_⟩
 obtain ⟨t,ht,hq⟩:=hbody A outer s H vs Q E (hr.deeper _) hsp
 have I:aV (oV CX P w K mg base N qual scope f cdv A outer s H E) [] (start N vs) H s1:=wX S e0 hl r x
 refine LP (ht [] s1 (start N vs) H _ I hq) (fun fl s' hs=>?_) fun e s' hs=>hs
 have fin:∀ {σ':St}{H':Hp}{v:V}{u:Value},aV (oV CX P w K mg base N qual scope f cdv A outer s H E) [] σ' H' s'->bL v u->Q v H'->CE outer P w H s Q u s':=
  fun {σ' H' v u} J rv q=>⟨v,H',J.os,J.bare,J.base,J.hok,rv,q⟩
 cases fl with
 | ret u=>
  obtain ⟨v,σ',H',J,rv,q⟩:=hs
  exact fin J rv q
 | next=>
  obtain ⟨σ',H',J,q⟩:=hs
  exact fin (v:=V.non) (u:=Value.none) J rfl q
 | brk=>
  obtain ⟨_,_,_,q⟩:=hs
  exact False.elim q
 | cont=>
  obtain ⟨_,_,_,q⟩:=hs
  exact False.elim q
section
variable {P:Program}{w:World}{K:W.Frag}{mg:Str->Option Value}{base:Heap}
theorem gT.okH {x qual:Str}{st:Stmt}{f:Addr}{fd:FuncData}{N ps:List Str}{k:Nat}{sp:Sp} (F:gT K x qual st f fd) (S:aU N ps (av st)) (len:∀ vs H Q E,sp vs H Q E->vs.length=ps.length)
  (hbody : ∀ (cdv : Value) (A : Around) (outer : List Env) (s : Shared) (H : Hp) (vs : List V) (Q : VK) (E : XK), eJ k (A.deeper (envOfC qual (av st) s.heap.objs.size f cdv)) -> sp vs H Q E ->
   ∃ t,iU (oV vQ P w K mg base N qual (av st) f cdv A outer s H E).nox (bR st) t/\t { nx:=fun _ H'=>Q .non H',rt:=Q } (start N vs) H):uo P w K mg base vQ (k+1) f fd ps sp:=by
 obtain ⟨oc,od,kV,doc,pm,an,cdv,ct,osl,rfl,lk,hcd⟩:=F.ex
 refine HQ lk hcd S len fun A outer s H vs Q E hr hsp=>?_
 obtain ⟨t,h,q⟩:=hbody cdv A outer s H vs Q E hr hsp
 exact ⟨t,h.nox,q⟩
end
end L2
namespace PySem.W
open PySem PySem.Spec PySem.Calls PyProof.Rows
section
variable {prog:Program}{w:World}{A:Around}{E:Value->Shared->Prop}{s:Shared}{K:Frag}{x D:Addr}{a g:Value}{name:Str}{h:Heap}{M:Model}
theorem vy (X:K.In h) (ha:findIn K (.ref D) name=some (some a)) (hg:specialIn K a "__get__" = some (some g)) (ht:takesIn K a=some true):Looks M h (Builtin.ObjectAttr.find (.ref x) (.ref D) name) (.bind g a):=
 (looks_findIn X ha).andThen ((show Looks M h (Builtin.ObjectAttr.getOf (some a)) (some g) from looks_specialIn X hg).andThen ((show Looks M h (Builtin.ObjectAttr.dataDescriptor? (some a) (some g)) (some (g,a)) from (looks_takesIn X ht).andThen .now).andThen (Looks.tag .now)))
theorem xa {R:Result->Shared->Prop} (X:K.In s.heap) (L:Looks (model prog w) s.heap (typeOf (.ref x)) (.ref D)) (hm:mroIn K D (.type "object")=some true) (hr:R (.ok (.ret (.ref D))) s) :
  codeAny (model prog w) A (.call (.builtin "getset_descriptor.__get__") ⟨[.builtin "object.__class__",.ref x,.ref D],[]⟩) R s:=by
 obtain ⟨hh,g,d,t,os⟩:=s
 have L0:Looks (model prog w) hh (typeOf (.ref x)) (.ref D):=L
 have L1:Looks (model prog w) hh (isSubtype (.ref D) (.type "object")) true:=looks_mroIn X hm
 have hT5:(⟨hh,g,d,t,os⟩:Shared).TypeIs (.builtin "object.__class__") "getset_descriptor" := F.typeOf_object_class
 have ow:(".".intercalate ("object.__class__".cutAt '.').dropLast) = "object" := by decide +kernel
 refine OH F.slot_gs_get.plain F.entry_gs_get (F.slot_gs_get.check _ _ _ _ _ _ _ _ hT5 (F.args_gs_get _ _ _) ?_)
 repeat (any_goals (first | assumption | with_reducible refine L0.at ?_ | (rw [ow]) | with_reducible refine L1.at ?_ | wp_step))
 refine ⟨OG _ (by decide +kernel),OA KF.entry_class ?_⟩
 unfold Builtin.«object.__class__»
 repeat (any_goals (first | assumption | with_reducible refine L0.at ?_ | wp_step))
theorem B0 {hh:Heap}{g:Array GenState}{d:Drawn}{t:Nat}{os:OsState}{M:Model}{nameV:Value}{Q:Unit->Shared->Prop} (X:K.In hh) (L0:Looks M hh (typeOf (.ref x)) (.ref D)) (hmB:mroIn K D (.type "BaseException")=some true) (hq:Q () ⟨hh,g,d,t,os⟩) :
  wpAny M A (checkBuiltinCall "BaseException.__getattribute__" ⟨[.ref x,nameV],[]⟩) Q E ⟨hh,g,d,t,os⟩:=by
 have hk:builtinKind "BaseException.__getattribute__" = some .slot:=by decide +kernel
 have hsplit:splitId "BaseException.__getattribute__" = some ("BaseException", "__getattribute__"):=by decide +kernel
 have ha:=F.args_bexc_ga (.ref x) nameV
 have L1:=looks_mroIn (M:=M) X hmB
 simp only [checkBuiltinCall,hk,hsplit]
 refine LV ?_
 ·unfold isInstance
  repeat (first | lk | wp_step)
  exact hq
theorem BZ {tk:Tok}{Q:Fin->Shared->Prop} (X:K.In s.heap) (L:Looks (model prog w) s.heap (typeOf (.ref x)) (.ref D)) (ha:findIn K (.ref D) "__class__" = some (some (.builtin "object.__class__"))) (hn:specialIn K (.builtin "object.__class__") "__get__" = some (some (.builtin "getset_descriptor.__get__"))) (htk:takesIn K (.builtin "object.__class__")=some true) (hm:mroIn K D (.type "object")=some true) (hq:Q (.done (.ret (.ref D))) s) :
  wpAny (model prog w) A (Builtin.«object.__getattribute__» ⟨[.ref x,.str "__class__" tk],[]⟩) Q E s:=by
 obtain ⟨hh,g,d,t,os⟩:=s
 have L0:Looks (model prog w) hh (typeOf (.ref x)) (.ref D):=L
 have f3:Looks (model prog w) hh (Builtin.ObjectAttr.find (.ref x) (.ref D) "__class__") (.bind (.builtin "getset_descriptor.__get__") (.builtin "object.__class__")):=vy X ha hn htk
 unfold Builtin.«object.__getattribute__»
 repeat (any_goals (first | assumption | with_reducible refine L0.at ?_ | with_reducible refine f3.at ?_ | wp_step))
 refine xa (s:=⟨hh,g,d,t,os⟩) X L hm ?_
 repeat (any_goals (first | assumption | wp_step))
theorem zf {Q:Option Value->Shared->Prop} (X:K.In s.heap) (L:Looks (model prog w) s.heap (typeOf (.ref x)) (.ref D)) (hga:findIn K (.ref D) "__getattribute__" = some (some (.builtin "BaseException.__getattribute__"))) (hgn:findIn K (.ref D) "__getattr__" = some none)
  (ha:findIn K (.ref D) "__class__" = some (some (.builtin "object.__class__"))) (hn:specialIn K (.builtin "object.__class__") "__get__" = some (some (.builtin "getset_descriptor.__get__"))) (htk:takesIn K (.builtin "object.__class__")=some true) (hm:mroIn K D (.type "object")=some true) (hmB:mroIn K D (.type "BaseException")=some true) (hq:Q (some (.ref D)) { s with toks:=s.toks+1 }) :
  wpAny (model prog w) A (getAttr? (.ref x) "__class__") Q E s:=by
 obtain ⟨hh,g,d,t,os⟩:=s
 have L0:Looks (model prog w) hh (typeOf (.ref x)) (.ref D):=L
 have L1:Looks (model prog w) hh (typeLookup (.ref D) "__getattribute__") (some (.builtin "BaseException.__getattribute__")):=looks_findIn X hga
 have L2:Looks (model prog w) hh (typeLookup (.ref D) "__getattr__") none:=looks_findIn X hgn
 have f3:=PySem.F.attr_ValueError.ga.bind (.ref x)
 have hx2:(Value.builtin "BaseException.__getattribute__" == Value.builtin "object.__getattribute__")=false:=by decide +kernel
 have hx1:(onTheHeap (Value.ref D) && Value.builtin "BaseException.__getattribute__" == Value.builtin "object.__getattribute__")=false:=by rw [hx2];rfl
 have hx0:(false && onTheHeap (Value.builtin "BaseException.__getattribute__"))=false:=rfl
 unfold getAttr? getAttrBy?
 repeat (any_goals (first | assumption | with_reducible refine L0.at ?_ | with_reducible refine L1.at ?_ | with_reducible refine L2.at ?_ | wp_step))
 refine OH PySem.F.attr_ValueError.ga.plain F.entry_bexc_ga (B0 X L0 hmB (BZ (tk:=t) X L0 ha hn htk hm ?_))
 repeat (any_goals (first | assumption | wp_step))
end
def excCls (K:Frag) (D:Addr):Bool:=findIn K (.ref D) "__getattribute__" == some (some (.builtin "BaseException.__getattribute__")) && findIn K (.ref D) "__getattr__" == some none && (clsIn K D).isSome && findIn K (.ref D) "__class__" == some (some (.builtin "object.__class__")) &&
 mroIn K D (.type "object") == some true && mroIn K D (.type "BaseException") == some true && specialIn K (.builtin "object.__class__") "__get__" == some (some (.builtin "getset_descriptor.__get__")) && takesIn K (.builtin "object.__class__") == some true
section
variable {K:Frag}{x D:Addr}
theorem kitx_exc (e:excCls K D=true):KitX K (.ref x) (.ref D) (fun h=>∃ ox,h.get? x=some ox/\ox.cls=.ref D):=by
 unfold excCls at e
 simp only [MY,Pb] at e
 obtain ⟨⟨⟨⟨⟨⟨⟨hga,hgn⟩,hc⟩,ha⟩,hm⟩,hmB⟩,hn⟩,htk⟩:=e
 exact {
  ty:=fun _ _ _ ⟨ox,h1,h2⟩=>h2 ▸ (Looks.ld h1).andThen .now
  it:=fun _ _ X _=>by
   obtain ⟨cdD,hcD⟩:=Mm.mp hc
   unfold clsIn at hcD
   split at hcD
   ·rename_i c' d' cd' sl' ho
    intro A' Q' E' s' k q
    unfold isType loadHead
    exact LV (wpAny_loadPart (k _ _ (X _ _ ho)) (L4 q))
   ·cases hcD
  ne:=fun h tp dd its n sl X htp=>by
   obtain ⟨cdD,hcD⟩:=Mm.mp hc
   refine Bool.eq_false_iff.mpr fun q=>?_
   have e:D=tp:=Value.ref.inj (Pb.mp q)
   subst e
   unfold clsIn at hcD
   split at hcD
   ·rename_i c' d' cd' sl' ho
    have z:=(X _ _ ho).symm.trans htp
    cases z
   ·cases hcD
  ca:=fun {prog w A E Q s} X ⟨ox,h1,h2⟩ h=>zf X (h2 ▸ (Looks.ld h1).andThen .now) hga hgn ha hn htk hm hmB h }
end
end PySem.W
namespace L2
open PySem PySem.Spec PyProof.Rows
def IH (K:W.Frag) (u:Value):List V->Hp->VK->Prop:=fun xs H Q=>∃ a D b v,xs=[.ref a,v]/\bL v u/\H a=some (tX a D)/\W.excCls K D=true/\W.kitOne K (.ref D) u=some b/\Q (.bl b) H
theorem va {X:Cx}{u:Value} (hu:∀ v w,bL v u->bL v w->w=u):cH X (.builtin "isinstance") (IH X.K u):=by
 intro pins s σ H xs us Q I r h
 obtain ⟨a,D,b,v,rfl,rv,ea,hc,e,q⟩:=h
 cases r with
 | cons r1 r2=>
  cases r2 with
  | cons r3 r4=>
   cases r4
   cases (show _=Value.ref a from r1)
   have z:=hu v _ rv r3
   subst z
   obtain ⟨⟨oe,h1,h2⟩,_⟩:=(show d9 X.prog X.w H s.heap a (tX a D) from I.hok a _ ea)
   exact W.kia_one (W.kitx_exc hc) I.kIn ⟨oe,h1,h2⟩ e (fun z=>nomatch z) fun tk=>⟨.bl b,H,I.tok _,rfl,q⟩
end L2
namespace L2
open PySem PySem.Spec PyProof.Rows RS
inductive D where
 | non | bl (b:Bool) | int (i:Int) | str (x:Str) | tup (xs:List D) | frz (xs:List D) | obj (n:Nat)
inductive O where
 | lst (xs:List D) | set (ks:List (List Int)) | iset (ks:List Int) | dic | exc (c:Str)
abbrev aw:=List O
abbrev Ro:=List (Option D)
def EA (K:W.Frag) (H:Hp) (a:Addr) (xs:List V):Prop:=
 (∃ o, H a = some (.frz o (.lst xs))) \/
  ∃ (o:Obj) (its:Array Value) (n:Nat),K.lookup a=some o/\o.cls=.type "list" /\ o.dict=none/\o.data=.seq its n/\its.size<=sizeLine/\ba xs its.toList
theorem EA.sq {K:W.Frag}{H:Hp}{a:Addr}{xs:List V} (h:EA K H a xs):f7 K H a xs:=by
 rcases h with ⟨o,h⟩ | h
 ·exact .inl (.inr ⟨o,h⟩)
 ·exact .inr h
section
variable (K:W.Frag) (H:Hp) (α:List Addr)
mutual
def aQ:D->V->Prop
 | .non,v=>v=.non
 | .bl b,v=>v=.bl b
 | .int i,v=>v=.int i
 | .str x,v=>v=.str x
 | .tup xs,v=>∃ a vs,v=.ref a/\gy K H a vs/\Reps xs vs
 | .frz xs,v=>∃ a vs,v=.ref a/\EA K H a vs/\Reps xs vs
 | .obj n,v=>∃ a,v=.ref a/\α[n]?=some a
def Reps:List D->List V->Prop
 | [],vs=>vs=[]
 | x::xs,vs=>∃ v r,vs=v::r/\aQ x v/\Reps xs r
end
end
structure kD (K:W.Frag) (H H':Hp) (α α':List Addr):Prop where
 tup:∀ a xs,gy K H a xs->gy K H' a xs
 frz:∀ a xs,EA K H a xs->EA K H' a xs
 pre:∀ (n:Nat) a,α[n]?=some a->α'[n]?=some a
section
variable {K:W.Frag}{H H' H1 H2:Hp}{α α' α1 α2:List Addr}
theorem kD.refl:kD K H H α α:=⟨fun _ _ h=>h,fun _ _ h=>h,fun _ _ h=>h⟩
theorem kD.trans (a:kD K H H1 α α1) (b:kD K H1 H2 α1 α2):kD K H H2 α α2:=
 ⟨fun c xs h=>b.tup c xs (a.tup c xs h),fun c xs h=>b.frz c xs (a.frz c xs h),fun n c h=>b.pre n c (a.pre n c h)⟩
mutual
theorem aQ.mono (e:kD K H H' α α'):∀ {d:D}{v:V},aQ K H α d v->aQ K H' α' d v
 | .non,_,h=>by simp only [aQ] at h ⊢;exact h
 | .bl _,_,h=>by simp only [aQ] at h ⊢;exact h
 | .int _,_,h=>by simp only [aQ] at h ⊢;exact h
 | .str _,_,h=>by simp only [aQ] at h ⊢;exact h
 | .tup xs,_,h=>by
  simp only [aQ] at h ⊢
  obtain ⟨a,vs,rfl,h1,h2⟩:=h
  exact ⟨a,vs,rfl,e.tup a vs h1,Reps.mono e h2⟩
 | .frz xs,_,h=>by
  simp only [aQ] at h ⊢
  obtain ⟨a,vs,rfl,h1,h2⟩:=h
  exact ⟨a,vs,rfl,e.frz a vs h1,Reps.mono e h2⟩
 | .obj n,_,h=>by
  simp only [aQ] at h ⊢
  obtain ⟨a,rfl,h1⟩:=h
  exact ⟨a,rfl,e.pre n a h1⟩
theorem Reps.mono (e:kD K H H' α α'):∀ {ds:List D}{vs:List V},Reps K H α ds vs->Reps K H' α' ds vs
 | [],_,h=>by simp only [Reps] at h ⊢;exact h
 | d::ds,_,h=>by
  simp only [Reps] at h ⊢
  obtain ⟨v,r,rfl,h1,h2⟩:=h
  exact ⟨v,r,rfl,aQ.mono e h1,Reps.mono e h2⟩
end
theorem Reps.nil:Reps K H α [] []:=by simp only [Reps]
theorem Reps.cons {d:D}{ds:List D}{v:V}{vs:List V} (h1:aQ K H α d v) (h2:Reps K H α ds vs):Reps K H α (d::ds) (v::vs):=by
 simp only [Reps];exact ⟨v,vs,rfl,h1,h2⟩
theorem Reps.length:∀ {ds:List D}{vs:List V},Reps K H α ds vs->vs.length=ds.length
 | [],vs,h=>by simp only [Reps] at h;rw [h];rfl
 | d::ds,vs,h=>by
  simp only [Reps] at h
  obtain ⟨v,r,rfl,h1,h2⟩:=h
  simp [Reps.length h2]
theorem Reps.get:∀ {ds:List D}{vs:List V}{i:Nat}{d:D},Reps K H α ds vs->ds[i]?=some d->∃ v,vs[i]?=some v/\aQ K H α d v
 | [],_,_,_,_,e=>by simp at e
 | d::ds,vs,i,x,h,e=>by
  simp only [Reps] at h
  obtain ⟨v,r,rfl,h1,h2⟩:=h
  cases i with
  | zero=>simp at e;subst e;exact ⟨v,rfl,h1⟩
  | succ i=>exact Reps.get (i:=i) h2 (by simpa using e)
theorem Reps.append:∀ {ds es:List D}{vs ws:List V},Reps K H α ds vs->Reps K H α es ws->Reps K H α (ds++es) (vs++ws)
 | [],_,vs,_,h,g=>by simp only [Reps] at h;subst h;exact g
 | d::ds,_,vs,_,h,g=>by
  simp only [Reps] at h
  obtain ⟨v,r,rfl,h1,h2⟩:=h
  exact Reps.cons h1 (Reps.append h2 g)
theorem Reps.take:∀ {ds:List D}{vs:List V} (n:Nat),Reps K H α ds vs->Reps K H α (ds.take n) (vs.take n)
 | [],vs,n,h=>by simp only [Reps] at h;subst h;simpa using Reps.nil
 | d::ds,vs,n,h=>by
  simp only [Reps] at h
  obtain ⟨v,r,rfl,h1,h2⟩:=h
  cases n with
  | zero=>exact Reps.nil
  | succ n=>exact Reps.cons h1 (Reps.take n h2)
theorem Reps.drop:∀ {ds:List D}{vs:List V} (n:Nat),Reps K H α ds vs->Reps K H α (ds.drop n) (vs.drop n)
 | [],vs,n,h=>by simp only [Reps] at h;subst h;simpa using Reps.nil
 | d::ds,vs,n,h=>by
  cases n with
  | zero=>exact h
  | succ n=>
   simp only [Reps] at h
   obtain ⟨v,r,rfl,h1,h2⟩:=h
   exact Reps.drop n h2
theorem Reps.set {d:D}{v:V} (q:aQ K H α d v):∀ {ds:List D}{vs:List V} (n:Nat),Reps K H α ds vs->Reps K H α (ds.set n d) (vs.set n v)
 | [],vs,n,h=>by simp only [Reps] at h;subst h;simpa using Reps.nil
 | e::ds,vs,n,h=>by
  simp only [Reps] at h
  obtain ⟨v',r,rfl,h1,h2⟩:=h
  cases n with
  | zero=>exact Reps.cons q h2
  | succ n=>exact Reps.cons h1 (Reps.set q n h2)
theorem Reps.reverse:∀ {ds:List D}{vs:List V},Reps K H α ds vs->Reps K H α ds.reverse vs.reverse
 | [],vs,h=>by simp only [Reps] at h;subst h;exact Reps.nil
 | d::ds,vs,h=>by
  simp only [Reps] at h
  obtain ⟨v,r,rfl,h1,h2⟩:=h
  rw [Nj,Nj]
  exact Reps.append (Reps.reverse h2) (Reps.cons h1 Reps.nil)
theorem Reps.one {d:D}{vs:List V} (h:Reps K H α [d] vs):∃ v,vs=[v]/\aQ K H α d v:=by
 simp only [Reps] at h
 obtain ⟨v,r,rfl,h1,rfl⟩:=h
 exact ⟨v,rfl,h1⟩
theorem Reps.two {d e:D}{vs:List V} (h:Reps K H α [d,e] vs):∃ v u,vs=[v,u]/\aQ K H α d v/\aQ K H α e u:=by
 simp only [Reps] at h
 obtain ⟨v,r,rfl,h1,u,r',rfl,h2,rfl⟩:=h
 exact ⟨v,u,rfl,h1,h2⟩
theorem Reps.snoc {d:D}{ds:List D}{v:V}{vs:List V} (h:Reps K H α ds vs) (q:aQ K H α d v):Reps K H α (ds++[d]) (vs++[v]):=h.append (Reps.cons q Reps.nil)
theorem Reps.ints:∀ {ns:List Int}{vs:List V},Reps K H α (ns.map D.int) vs->vs=ns.map V.int
 | [],vs,h=>by simp only [Na,Reps] at h;exact h
 | n::ns,vs,h=>by
  simp only [Nb,Reps] at h
  obtain ⟨v,r,rfl,h1,h2⟩:=h
  simp only [aQ] at h1
  rw [h1,Reps.ints h2];rfl
theorem j6:∀ (ns:List Int),Reps K H α (ns.map D.int) (ns.map V.int)
 | []=>Reps.nil
 | n::ns=>Reps.cons (by simp only [aQ]) (j6 ns)
theorem aO {xs:List D}{v:V}:aQ K H α (.tup xs) v↔∃ a vs,v=.ref a/\gy K H a vs/\Reps K H α xs vs:=by simp only [aQ]
theorem bf {xs:List D}{v:V}:aQ K H α (.frz xs) v↔∃ a vs,v=.ref a/\EA K H a vs/\Reps K H α xs vs:=by simp only [aQ]
theorem aR {n:Nat}{v:V}:aQ K H α (.obj n) v↔∃ a,v=.ref a/\α[n]?=some a:=by simp only [aQ]
theorem ar {n:Int}{v:V}:aQ K H α (.int n) v↔v=.int n:=by simp only [aQ]
theorem aT {n:Bool}{v:V}:aQ K H α (.bl n) v↔v=.bl n:=by simp only [aQ]
theorem bb {n:Str}{v:V}:aQ K H α (.str n) v↔v=.str n:=by simp only [aQ]
theorem bu {v:V}:aQ K H α .non v↔v=.non:=by simp only [aQ]
end
def tW (K:W.Frag) (w:World) (H:Hp) (α:List Addr):O->Addr->Prop
 | .lst xs,a=>∃ vs,H a=some (.lst vs)/\Reps K H α xs vs
 | .set ks,a=>∃ ps:List KP,ps.map (·.1)=ks/\H a=some (.ext fun h=>eH w h a ps)/\(∀ p∈ps,p.1∈prs)/\(ps.map (·.1)).Nodup/\∀ p∈ps,gy K H p.2 (p.1.map V.int)
 | .iset ks,a=>∃ ps:List KI,ps.map (·.1)=ks/\H a=some (.ext fun h=>cL w h a ps)/\ks.length<=6
 | .dic,a=>H a=some (.dK [])
 | .exc c,a=>∃ C,W.nsIn K mainGlobals c=some (some (.ref C))/\H a=some (tX a C)
structure gL (K:W.Frag) (w:World) (H:Hp) (α:List Addr) (μ:aw):Prop where
 len:α.length=μ.length
 nd:α.Nodup
 ob:∀ (n:Nat) o a,μ[n]?=some o->α[n]?=some a->tW K w H α o a
section
variable {K:W.Frag}{w:World}{H H':Hp}{α α':List Addr}{μ:aw}
theorem tW.live {o:O}{a:Addr} (h:tW K w H α o a):H a≠none:=by
 cases o with
 | lst xs=>obtain ⟨vs,e,_⟩:=h;rw [e];exact fun z=>by cases z
 | set ks=>obtain ⟨ps,_,e,_⟩:=h;rw [e];exact fun z=>by cases z
 | iset ks=>obtain ⟨ps,_,e,_⟩:=h;rw [e];exact fun z=>by cases z
 | dic=>have e:H a=some (.dK []):=h;rw [e];exact fun z=>by cases z
 | exc c=>obtain ⟨C,_,e⟩:=h;rw [e];exact fun z=>by cases z
theorem tW.mono {o:O}{a:Addr} (h:tW K w H α o a) (e:kD K H H' α α') (ha:H' a=H a):tW K w H' α' o a:=by
 cases o with
 | lst xs=>obtain ⟨vs,q,r⟩:=h;exact ⟨vs,ha.trans q,r.mono e⟩
 | set ks=>obtain ⟨ps,h1,q,h2,h3,h4⟩:=h;exact ⟨ps,h1,ha.trans q,h2,h3,fun p hp=>e.tup _ _ (h4 p hp)⟩
 | iset ks=>obtain ⟨ps,h1,q,h2⟩:=h;exact ⟨ps,h1,ha.trans q,h2⟩
 | dic=>exact ha.trans h
 | exc c=>obtain ⟨C,h1,q⟩:=h;exact ⟨C,h1,ha.trans q⟩
theorem gL.at (S:gL K w H α μ) {n:Nat}{o:O} (e:μ[n]?=some o):∃ a,α[n]?=some a/\tW K w H α o a:=by
 have hn:n<μ.length:=(LL.mp e).1
 have hn':n<α.length:=by rw [S.len];exact hn
 exact ⟨α[n],O5 hn',S.ob n o _ e (O5 hn')⟩
theorem gL.live (S:gL K w H α μ) {a:Addr} (h:a∈α):H a≠none:=by
 obtain ⟨n,hn,e⟩:=List.getElem_of_mem h
 have hm:n<μ.length:=by rw [<- S.len];exact hn
 exact (S.ob n _ a (O5 hm) (by rw [<- e];exact O5 hn)).live
theorem gL.fresh (S:gL K w H α μ) {p:Addr} (h:H p=none):p ∉ α:=fun z=>S.live z h
theorem gL.same (S:gL K w H α μ) (e:kD K H H' α α) (h:∀ a,H a≠none->H' a=H a):gL K w H' α μ:=
 ⟨S.len,S.nd,fun n o a h1 h2=>(S.ob n o a h1 h2).mono e (h a (S.ob n o a h1 h2).live)⟩
theorem bV {p:Addr}{o:HO} (h:H p=none):kD K H (cI H p o) α α:=by
 refine ⟨fun a xs q=>?_,fun a xs q=>?_,fun _ _ z=>z⟩
 ·rcases q with (q | ⟨x, q⟩) | q
  ·exact .inl (.inl (by rw [bx (bN q h)];exact q))
  ·exact .inl (.inr ⟨x,by rw [bx (bN q h)];exact q⟩)
  ·exact .inr q
 ·rcases q with ⟨x, q⟩ | q
  ·exact .inl ⟨x,by rw [bx (bN q h)];exact q⟩
  ·exact .inr q
theorem iK {p:Addr}{vs:List V}{o:HO} (h:H p=some (.lst vs)):kD K H (cI H p o) α α:=by
 refine ⟨fun a xs q=>?_,fun a xs q=>?_,fun _ _ z=>z⟩
 ·rcases q with (q | ⟨x, q⟩) | q
  ·exact .inl (.inl (by rw [bx (Af q h (by intro z;cases z))];exact q))
  ·exact .inl (.inr ⟨x,by rw [bx (Af q h (by intro z;cases z))];exact q⟩)
  ·exact .inr q
 ·rcases q with ⟨x, q⟩ | q
  ·exact .inl ⟨x,by rw [bx (Af q h (by intro z;cases z))];exact q⟩
  ·exact .inr q
theorem i9 (β:List Addr):kD K H H α (α++β):=⟨fun _ _ h=>h,fun _ _ h=>h,fun n a h=>by rw [Mr (LL.mp h).1];exact h⟩
theorem gL.tuple (S:gL K w H α μ) {p:Addr}{vs:List V} (h:H p=none):gL K w (cI H p (.tup vs)) α μ:=
 S.same (bV h) fun a ha=>bx fun z=>ha (by rw [z];exact h)
theorem gL.more (S:gL K w H α μ) {p:Addr}{o:O}{ho:HO} (h:H p=none) (q:tW K w (cI H p ho) (α++[p]) o p):gL K w (cI H p ho) (α++[p]) (μ++[o]):=by
 refine ⟨by simp [S.len],?_,fun n o' a h1 h2=>?_⟩
 ·rw [Ou]
  exact ⟨S.nd,by simp,fun x hx y hy z=>by simp at hy;subst hy;subst z;exact S.fresh h hx⟩
 ·by_cases hn : n < μ.length
  ·rw [Mr hn] at h1
   rw [Mr (by rw [S.len];exact hn)] at h2
   exact (S.ob n o' a h1 h2).mono ((bV h).trans (i9 [p])) (bx fun z=>(S.ob n o' a h1 h2).live (by rw [z];exact h))
  ·have hn':n=μ.length:=by
    have:=(LL.mp h1).1
    simp at this;omega
   subst hn'
   rw [Mp (L9 _)] at h1
   rw [Mp (by rw [S.len];exact L9 _),S.len] at h2
   simp at h1 h2
   subst h1;subst h2
   exact q
theorem gL.put (S:gL K w H α μ) {n:Nat}{a:Addr}{xs ys:List D}{us vs:List V} (h1:μ[n]?=some (.lst xs)) (h2:α[n]?=some a) (h3:H a=some (.lst us)) (q:Reps K H α ys vs):gL K w (cI H a (.lst vs)) α (μ.set n (.lst ys)):=by
 have e:=iK (K:=K) (α:=α) (o:=.lst vs) h3
 refine ⟨by simp [S.len],S.nd,fun m o b g1 g2=>?_⟩
 have hn:n<μ.length:=(LL.mp h1).1
 by_cases hm:m=n
 ·subst hm
  rw [LN hn] at g1
  cases g1
  rw [h2] at g2;cases g2
  exact ⟨vs,cg,q.mono e⟩
 ·rw [LO (fun z => hm z.symm)] at g1
  refine (S.ob m o b g1 g2).mono e (bx fun z=>hm ?_)
  subst z
  have i1:=(LL.mp g2)
  have i2:=(LL.mp h2)
  obtain ⟨l1,e1⟩:=i1
  obtain ⟨l2,e2⟩:=i2
  exact (LM S.nd).mp (e1.trans e2.symm)
end
structure dD (K:W.Frag) (H:Hp) (α:List Addr) (ρ:Ro) (σ:St):Prop where
 len:ρ.length=σ.length
 at':∀ (i:Nat) d,ρ[i]?=some (some d)->∃ v,σ[i]?=some (some v)/\aQ K H α d v
theorem dD.mono {K:W.Frag}{H H':Hp}{α α':List Addr}{ρ:Ro}{σ:St} (e:kD K H H' α α') (R:dD K H α ρ σ):dD K H' α' ρ σ:=
 ⟨R.len,fun i d h=>let ⟨v,h1,h2⟩:=R.at' i d h;⟨v,h1,h2.mono e⟩⟩
theorem dD.set {K:W.Frag}{H:Hp}{α:List Addr}{ρ:Ro}{σ:St}{d:D}{v:V} (R:dD K H α ρ σ) (i:Nat) (q:aQ K H α d v):dD K H α (ρ.set i (some d)) (σ.set i (some v)):=by
 refine ⟨by simp [R.len],fun j d' h=>?_⟩
 by_cases hj:j=i
 ·subst hj
  have hl:j<ρ.length:=by have:=(LL.mp h).1;simpa using this
  rw [LN hl] at h
  cases h
  exact ⟨v,by rw [LN (by rw [<- R.len];exact hl)],q⟩
 ·rw [LO (fun z => hj z.symm)] at h ⊢
  exact R.at' j d' h
structure DX where
 cls:Str
 args:List D
inductive ak (β:Type) where
 | ok (a:β) (μ:aw) | exc (x:DX) (μ:aw) | bad
def ak.bind {β γ:Type} (o:ak β) (g:β->aw->ak γ):ak γ:=match o with
 | .ok a μ=>g a μ
 | .exc x μ=>.exc x μ
 | .bad=>.bad
@[simp] theorem aa {β γ:Type}{a:β}{μ:aw}{g:β->aw->ak γ}:(ak.ok a μ).bind g=g a μ:=Pc (Pd _)
inductive SO where
 | next (ρ:Ro) (μ:aw) | ret (d:D) (μ:aw) | brk (ρ:Ro) (μ:aw) | cnt (ρ:Ro) (μ:aw) | exc (x:DX) (μ:aw) | bad
def ak.bindS {β:Type} (o:ak β) (g:β->aw->SO):SO:=match o with
 | .ok a μ=>g a μ
 | .exc x μ=>.exc x μ
 | .bad=>.bad
@[simp] theorem ae {β:Type}{a:β}{μ:aw}{g:β->aw->SO}:(ak.ok a μ).bindS g=g a μ:=Pc (Pd _)
def SO.bind (o:SO) (g:Ro->aw->SO):SO:=match o with
 | .next ρ μ=>g ρ μ
 | o=>o
structure Pa where
 K:W.Frag
 w:World
 xw:DX->aw->Hp->List Addr->Prop
abbrev Pa.S (p:Pa):=gL p.K p.w
abbrev Pa.X (p:Pa):=kD p.K
abbrev Pa.R (p:Pa):=aQ p.K
abbrev Pa.Rs (p:Pa):=Reps p.K
def aH {β:Type} (p:Pa) (H:Hp) (α:List Addr) (o:ak β) (R:β->aw->Hp->List Addr->Prop):Prop:=match o with
 | .ok a μ'=>∀ H' α',p.X H H' α α'->p.S H' α' μ'->R a μ' H' α'
 | .exc x μ'=>∀ H' α',p.X H H' α α'->p.S H' α' μ'->p.xw x μ' H' α'
 | .bad=>False
def dk (p:Pa) (H:Hp) (α:List Addr) (o:SO) (D:mC):Prop:=match o with
 | .next ρ' μ'=>∀ H' α' σ',p.X H H' α α'->p.S H' α' μ'->dD p.K H' α' ρ' σ'->D.nx σ' H'
 | .brk ρ' μ'=>∀ H' α' σ',p.X H H' α α'->p.S H' α' μ'->dD p.K H' α' ρ' σ'->D.bk σ' H'
 | .cnt ρ' μ'=>∀ H' α' σ',p.X H H' α α'->p.S H' α' μ'->dD p.K H' α' ρ' σ'->D.ct σ' H'
 | .ret d μ'=>∀ H' α' v,p.X H H' α α'->p.S H' α' μ'->p.R H' α' d v->D.rt v H'
 | .exc x μ'=>∀ H' α',p.X H H' α α'->p.S H' α' μ'->p.xw x μ' H' α'
 | .bad=>False
section
variable {p:Pa}{H H1:Hp}{α α1:List Addr}{β γ:Type}
theorem aH.imp {o:ak β}{R R':β->aw->Hp->List Addr->Prop} (h:aH p H α o R) (k:∀ a μ' H' α',p.X H H' α α'->p.S H' α' μ'->R a μ' H' α'->R' a μ' H' α'):aH p H α o R':=by
 cases o with
 | ok a μ=>exact fun H' α' e s=>k a μ H' α' e s (h H' α' e s)
 | exc x μ=>exact h
 | bad=>exact h
theorem aH.from {o:ak β}{R:β->aw->Hp->List Addr->Prop} (e:p.X H H1 α α1) (h:aH p H α o R):aH p H1 α1 o R:=by
 cases o with
 | ok a μ=>exact fun H' α' e' s=>h H' α' (e.trans e') s
 | exc x μ=>exact fun H' α' e' s=>h H' α' (e.trans e') s
 | bad=>exact h
theorem aH.bind {o:ak β}{g:β->aw->ak γ}{R:γ->aw->Hp->List Addr->Prop} (h:aH p H α (o.bind g) R):aH p H α o (fun a μ1 H1 α1=>aH p H1 α1 (g a μ1) R):=by
 cases o with
 | ok a μ=>exact fun H' α' e s=>aH.from e h
 | exc x μ=>exact h
 | bad=>exact h
theorem aH.now {a:β}{μ:aw}{R:β->aw->Hp->List Addr->Prop} (h:aH p H α (.ok a μ) R) (s:p.S H α μ):R a μ H α:=h H α kD.refl s
theorem dk.from {o:SO}{D:mC} (e:p.X H H1 α α1) (h:dk p H α o D):dk p H1 α1 o D:=by
 cases o with
 | next ρ μ=>exact fun H' α' σ' e' s r=>h H' α' σ' (e.trans e') s r
 | brk ρ μ=>exact fun H' α' σ' e' s r=>h H' α' σ' (e.trans e') s r
 | cnt ρ μ=>exact fun H' α' σ' e' s r=>h H' α' σ' (e.trans e') s r
 | ret d μ=>exact fun H' α' v e' s r=>h H' α' v (e.trans e') s r
 | exc x μ=>exact fun H' α' e' s=>h H' α' (e.trans e') s
 | bad=>exact h
theorem aH.bindS {o:ak β}{g:β->aw->SO}{D:mC} (h:dk p H α (o.bindS g) D):aH p H α o (fun a μ1 H1 α1=>dk p H1 α1 (g a μ1) D):=by
 cases o with
 | ok a μ=>exact fun H' α' e s=>dk.from e h
 | exc x μ=>exact h
 | bad=>exact h
end
abbrev ME:=Ro->aw->ak D
abbrev MT:=Ro->aw->ak Bool
abbrev MA:=Ro->aw->ak (List D)
abbrev MS:=Ro->aw->SO
abbrev MG:=D->Ro->aw->ak Ro
abbrev RV (p:Pa) (Q:VK):D->aw->Hp->List Addr->Prop:=fun d _ H' α'=>∀ v,p.R H' α' d v->Q v H'
def tD (p:Pa) (f:ME):TE:=fun σ H Q=>∃ α ρ μ,p.S H α μ/\dD p.K H α ρ σ/\aH p H α (f ρ μ) (RV p Q)
def iD (p:Pa) (f:MT):TT:=fun σ H Q=>∃ α ρ μ,p.S H α μ/\dD p.K H α ρ σ/\aH p H α (f ρ μ) (fun b _ H' _=>Q b H')
def mv (p:Pa) (f:MA):TA:=fun σ H Q=>∃ α ρ μ,p.S H α μ/\dD p.K H α ρ σ/\aH p H α (f ρ μ) (fun ds _ H' α'=>∀ vs,p.Rs H' α' ds vs->Q vs H')
def gU (p:Pa) (f:MS):TS:=fun D σ H=>∃ α ρ μ,p.S H α μ/\dD p.K H α ρ σ/\dk p H α (f ρ μ) D
def rO (p:Pa) (g:MG):TG:=fun v σ H Q=>∃ α ρ μ d,p.S H α μ/\dD p.K H α ρ σ/\p.R H α d v/\aH p H α (g d ρ μ) (fun ρ' _ H' α'=>∀ σ',dD p.K H' α' ρ' σ'->Q σ' H')
theorem PE.weak {X:Cx}{e:Expr}{t t':TE} (h:PE X e t) (k:∀ σ H Q,t' σ H Q->t σ H Q):PE X e t':=fun pins s σ H Q I q=>h pins s σ H Q I (k σ H Q q)
theorem PT.weak {X:Cx}{e:Expr}{t t':TT} (h:PT X e t) (k:∀ σ H Q,t' σ H Q->t σ H Q):PT X e t':=fun pins s σ H Q I q=>h pins s σ H Q I (k σ H Q q)
theorem PW.weak {X:Cx}{e:Expr}{t t':TT} (h:PW X e t) (k:∀ σ H Q,t' σ H Q->t σ H Q):PW X e t':=fun wh pins s σ H Q I q=>h wh pins s σ H Q I (k σ H Q q)
theorem PA.weak {X:Cx}{e:List Expr}{t t':TA} (h:PA X e t) (k:∀ σ H Q,t' σ H Q->t σ H Q):PA X e t':=fun pos pins s σ H Q I q=>h pos pins s σ H Q I (k σ H Q q)
theorem PS.weak {X:Cx}{e:Stmt}{t t':TS} (h:PS X e t) (k:∀ D σ H,t' D σ H->t D σ H):PS X e t':=fun pins s σ H Q I q=>h pins s σ H Q I (k Q σ H q)
theorem iU.weak {X:Cx}{e:List Stmt}{t t':TS} (h:iU X e t) (k:∀ D σ H,t' D σ H->t D σ H):iU X e t':=fun pins s σ H Q I q=>h pins s σ H Q I (k Q σ H q)
def ah (i:Nat):ME:=fun ρ μ=>match ρ[i]? with
 | some (some d)=>.ok d μ
 | _=>.bad
def cC (d:D):ME:=fun _ μ=>.ok d μ
def aA (op:D->D->aw->ak D) (fa fb:ME):ME:=fun ρ μ=>(fa ρ μ).bind fun a μ1=>(fb ρ μ1).bind fun b μ2=>op a b μ2
def kH (op:D->aw->ak D) (fa:ME):ME:=fun ρ μ=>(fa ρ μ).bind fun a μ1=>op a μ1
def aG:MA:=fun _ μ=>.ok [] μ
def af (fa:ME) (fr:MA):MA:=fun ρ μ=>(fa ρ μ).bind fun a μ1=>(fr ρ μ1).bind fun r μ2=>.ok (a::r) μ2
def aL (f:List D->aw->ak D) (fa:MA):ME:=fun ρ μ=>(fa ρ μ).bind f
def cU (fa:MA):ME:=aL (fun ds μ=>if ds.length<=sizeLine then .ok (.tup ds) μ else .bad) fa
def g8 (fa:MA):ME:=aL (fun ds μ=>if ds.length<=sizeLine then .ok (.obj μ.length) (μ++[.lst ds]) else .bad) fa
def xl:D->aw->ak Bool
 | .bl b,μ=>.ok b μ
 | _,_=>.bad
def kg (f:ME):MT:=fun ρ μ=>(f ρ μ).bind xl
def uk (f g:MT):MT:=fun ρ μ=>(f ρ μ).bind fun b μ1=>if b=true then g ρ μ1 else .ok false μ1
def ly (f g:MT):MT:=fun ρ μ=>(f ρ μ).bind fun b μ1=>if b=true then .ok true μ1 else g ρ μ1
def gO (f:MT):MT:=fun ρ μ=>(f ρ μ).bind fun b μ1=>.ok (!b) μ1
def fA (f g:ME):ME:=fun ρ μ=>(f ρ μ).bind fun a μ1=>(xl a μ1).bind fun b μ2=>if b=true then g ρ μ2 else .ok (.bl false) μ2
def uj (f:ME):ME:=fun ρ μ=>(f ρ μ).bind fun a μ1=>(xl a μ1).bind fun b μ2=>.ok (.bl (!b)) μ2
def nq (p:Pa) (op:D->D->aw->ak D) (r:R2):Prop:=∀ a b v y H α μ Q,p.S H α μ->p.R H α a v->p.R H α b y->aH p H α (op a b μ) (RV p Q)->r v y H Q
def K0 (p:Pa) (op:D->aw->ak D) (r:V->Hp->VK->Prop):Prop:=∀ a v H α μ Q,p.S H α μ->p.R H α a v->aH p H α (op a μ) (RV p Q)->r v H Q
def vL (p:Pa) (f:List D->aw->ak D) (r:List V->Hp->VK->Prop):Prop:=∀ ds vs H α μ Q,p.S H α μ->p.Rs H α ds vs->aH p H α (f ds μ) (RV p Q)->r vs H Q
section
variable {p:Pa}
theorem kZ {d:D}{μ:aw}{H:Hp}{α:List Addr}{R:Bool->aw->Hp->List Addr->Prop}{v:V} (h:aH p H α (xl d μ) R) (r:p.R H α d v) (s:p.S H α μ):∃ b,d=.bl b/\v=.bl b/\R b μ H α:=by
 cases d with
 | bl b=>exact ⟨b,rfl,aT.mp r,h.now s⟩
 | non=>exact h.elim
 | int i=>exact h.elim
 | str x=>exact h.elim
 | tup xs=>exact h.elim
 | frz xs=>exact h.elim
 | obj n=>exact h.elim
variable {X:Cx}{a b c:Expr}{es:List Expr}{fa fb fc:ME}{pos:Pos}
theorem Gc {i:Nat}{x:Str} (h:PE X (.Name x pos) (Iv i)):PE X (.Name x pos) (tD p (ah i)):=h.weak fun σ H Q ⟨α,ρ,μ,S,R,P⟩=>by
 unfold ah at P
 cases e:ρ[i]? with
 | none=>rw [e] at P;exact P.elim
 | some o=>
  rw [e] at P
  cases o with
  | none=>exact P.elim
  | some d=>
   obtain ⟨v,h1,h2⟩:=R.at' i d e
   exact ⟨v,h1,P.now S v h2⟩
theorem zK {e:Expr}{v:V}{d:D} (h:PE X e (tC v)) (r:∀ H α,p.R H α d v):PE X e (tD p (cC d)):=h.weak fun σ H Q ⟨α,ρ,μ,S,R,P⟩=>P.now S v (r H α)
theorem iV {op:Operator}{o:D->D->aw->ak D}{r:R2} (ho:gS X (binaryOp op) r) (hd:nq p o r) (ha:PE X a (tD p fa)) (hb:PE X b (tD p fb)):PE X (.BinOp a op b pos) (tD p (aA o fa fb)):=
 (Jv ho ha hb).weak fun σ H Q ⟨α,ρ,μ,S,R,P⟩=>⟨α,ρ,μ,S,R,P.bind.imp fun x μ1 H1 α1 X1 S1 P1 v rv=>⟨α1,ρ,μ1,S1,R.mono X1,P1.bind.imp fun y μ2 H2 α2 X2 S2 P2 u ru=>hd x y v u H2 α2 μ2 Q S2 (rv.mono X2) ru P2⟩⟩
theorem Gi {op:CmpOp}{o:D->D->aw->ak D}{r:R2} (ho:gS X (compareOp op) r) (hd:nq p o r) (ha:PE X a (tD p fa)) (hb:PE X b (tD p fb)) (hm:behindInMarks op b=false):PE X (.Compare a [op] [b] pos) (tD p (aA o fa fb)):=
 (DG ho ha hb hm).weak fun σ H Q ⟨α,ρ,μ,S,R,P⟩=>⟨α,ρ,μ,S,R,P.bind.imp fun x μ1 H1 α1 X1 S1 P1 v rv=>⟨α1,ρ,μ1,S1,R.mono X1,P1.bind.imp fun y μ2 H2 α2 X2 S2 P2 u ru=>hd x y v u H2 α2 μ2 Q S2 (rv.mono X2) ru P2⟩⟩
theorem FS {op:CmpOp}{o:D->D->aw->ak D}{r:R2} (ho:gS X (compareOp op) r) (hd:nq p o r) (ha:PE X a (tD p fa)) (hb:PE X b (tD p fb)) (hm:behindInMarks op b=false):PT X (.Compare a [op] [b] pos) (iD p (kg (aA o fa fb))):=
 (Du ho ha hb hm).weak fun σ H Q ⟨α, ρ, μ, S, R, P⟩ => ⟨α, ρ, μ, S, R, P.bind.bind.imp fun x μ1 H1 α1 X1 S1 P1 v rv => ⟨α1, ρ, μ1, S1, R.mono X1, P1.bind.imp fun y μ2 H2 α2 X2 S2 P2 u ru =>
  hd x y v u H2 α2 μ2 _ S2 (rv.mono X2) ru (P2.imp fun d μ3 H3 α3 X3 S3 P3 z rz=>by
   obtain ⟨k,_,e,q⟩:=kZ P3 rz S3
   exact ⟨k,e,q⟩)⟩⟩
theorem Jm {op:UnaryOp}{o:D->aw->ak D}{r:V->Hp->VK->Prop} (ho:J3 X (unaryOp op) r) (hd:K0 p o r) (ha:PE X a (tD p fa)):PE X (.UnaryOp op a pos) (tD p (kH o fa)):=
 (Ju ho ha).weak fun σ H Q ⟨α,ρ,μ,S,R,P⟩=>⟨α,ρ,μ,S,R,P.bind.imp fun x μ1 H1 α1 X1 S1 P1 v rv=>hd x v H1 α1 μ1 Q S1 rv P1⟩
theorem Gk:PA X [] (mv p aG):=r9.weak fun σ H Q ⟨α,ρ,μ,S,R,P⟩=>P.now S [] Reps.nil
theorem Dk {fr:MA} (ha:PE X a (tD p fa)) (hr:PA X es (mv p fr)) (hs:starEach (a::es) X.env=(false,eval a X.env)::starEach es X.env):PA X (a::es) (mv p (af fa fr)):=
 (jl ha hr hs).weak fun σ H Q ⟨α,ρ,μ,S,R,P⟩=>⟨α,ρ,μ,S,R,P.bind.imp fun x μ1 H1 α1 X1 S1 P1 v rv=>⟨α1,ρ,μ1,S1,R.mono X1,P1.bind.imp fun y μ2 H2 α2 X2 S2 P2 us ru=>P2.now S2 _ (Reps.cons (rv.mono X2) ru)⟩⟩
theorem Gd {k:Nat}{fr:MA} (h:PA X es (mv p fr)):PE X (.Tuple es k pos) (tD p (cU fr)):=
 (GG h).weak fun σ H Q ⟨α, ρ, μ, S, R, P⟩ => ⟨α, ρ, μ, S, R, P.bind.imp fun ds μ1 H1 α1 X1 S1 P1 vs rv => by
  by_cases hl:ds.length<=sizeLine
  ·rw [Lp hl] at P1
   refine ⟨by rw [rv.length];exact hl,fun q hq=>?_⟩
   exact P1 _ _ (bV hq) (S1.tuple hq) _ (aO.mpr ⟨q,vs,rfl,gy.of cg,rv.mono (bV hq)⟩)
  ·rw [Lq hl] at P1
   exact P1.elim⟩
theorem c6 {H:Hp}{α:List Addr}{μ:aw}{ds:List D}{vs:List V}{q:Addr} (S:p.S H α μ) (hq:H q=none) (rv:p.Rs H α ds vs) :
  p.X H (cI H q (.lst vs)) α (α++[q])/\p.S (cI H q (.lst vs)) (α++[q]) (μ++[.lst ds])/\p.R (cI H q (.lst vs)) (α++[q]) (.obj μ.length) (.ref q):=by
 have X1:p.X H (cI H q (.lst vs)) α (α++[q]):=(bV hq).trans (i9 [q])
 exact ⟨X1,S.more hq ⟨vs,cg,rv.mono X1⟩,aR.mpr ⟨q,rfl,by rw [<- S.len];simp⟩⟩
theorem Gf {fr:MA} (h:PA X es (mv p fr)):PE X (.List es pos) (tD p (g8 fr)):=
 (GL h).weak fun σ H Q ⟨α, ρ, μ, S, R, P⟩ => ⟨α, ρ, μ, S, R, P.bind.imp fun ds μ1 H1 α1 X1 S1 P1 vs rv => by
  by_cases hl:ds.length<=sizeLine
  ·rw [Lp hl] at P1
   refine ⟨by rw [rv.length];exact hl,fun q hq=>?_⟩
   obtain ⟨x1,x2,x3⟩:=c6 S1 hq rv
   exact P1 _ _ x1 x2 _ x3
  ·rw [Lq hl] at P1
   exact P1.elim⟩
variable {ft gt:MT}{rest:List Expr}
theorem FQ (ha:PT X a (iD p ft)) (hb:PW X (.BoolOp .And (b::rest) pos) (iD p gt)):PW X (.BoolOp .And (a::b::rest) pos) (iD p (uk ft gt)):=
 (Gu ha hb).weak fun σ H Q ⟨α, ρ, μ, S, R, P⟩ => ⟨α, ρ, μ, S, R, P.bind.imp fun k μ1 H1 α1 X1 S1 P1 => by
  cases k with
  | true=>rw [Lp rfl] at P1 ⊢;exact ⟨α1,ρ,μ1,S1,R.mono X1,P1⟩
  | false=>rw [Lq LZ] at P1 ⊢;exact P1.now S1⟩
theorem Ji (ha:PT X a (iD p ft)) (hb:PW X (.BoolOp .Or (b::rest) pos) (iD p gt)):PW X (.BoolOp .Or (a::b::rest) pos) (iD p (ly ft gt)):=
 (Jr ha hb).weak fun σ H Q ⟨α, ρ, μ, S, R, P⟩ => ⟨α, ρ, μ, S, R, P.bind.imp fun k μ1 H1 α1 X1 S1 P1 => by
  cases k with
  | true=>rw [Lp rfl] at P1 ⊢;exact P1.now S1
  | false=>rw [Lq LZ] at P1 ⊢;exact ⟨α1,ρ,μ1,S1,R.mono X1,P1⟩⟩
theorem FR (ha:PT X a (iD p ft)):PT X (.UnaryOp .Not a pos) (iD p (gO ft)):=
 (Gv ha).weak fun σ H Q ⟨α,ρ,μ,S,R,P⟩=>⟨α,ρ,μ,S,R,P.bind.imp fun k μ1 H1 α1 X1 S1 P1=>P1.now S1⟩
theorem Gj (ha:PE X a (tD p fa)) (hb:PE X (.BoolOp .And (b::rest) pos) (tD p fb)):PE X (.BoolOp .And (a::b::rest) pos) (tD p (fA fa fb)):=
 (GN ha hb).weak fun σ H Q ⟨α, ρ, μ, S, R, P⟩ => ⟨α, ρ, μ, S, R, P.bind.imp fun d μ1 H1 α1 X1 S1 P1 v rv => by
  obtain ⟨k,_,e,q⟩:=kZ P1.bind rv S1
  refine ⟨k,e,?_⟩
  cases k with
  | true=>rw [Lp rfl] at q ⊢;exact ⟨α1,ρ,μ1,S1,R.mono X1,q⟩
  | false=>rw [Lq LZ] at q ⊢;exact q.now S1 _ (aT.mpr rfl)⟩
theorem Ge (ha:PE X a (tD p fa)):PE X (.UnaryOp .Not a pos) (tD p (uj fa)):=
 (GJ ha).weak fun σ H Q ⟨α, ρ, μ, S, R, P⟩ => ⟨α, ρ, μ, S, R, P.bind.imp fun d μ1 H1 α1 X1 S1 P1 v rv => by
  obtain ⟨k,_,e,q⟩:=kZ P1.bind rv S1
  exact ⟨k,e,q.now S1 _ (aT.mpr rfl)⟩⟩
theorem Bj {id:String}{x:Str}{px:Pos}{f:List D->aw->ak D}{fr:MA}{r:List V->Hp->VK->Prop} (hc:cH X (.builtin id) r) (hd:vL p f r) (hg:Gl X x) (hm:X.mg x=none) (hv:bootBuiltins x=some (.builtin id)) (ha:PA X (a::es) (mv p fr))
  (hn:x ≠ "__name__") (hdb:(x == ("__debug__" : Str))=false) (he:starEach (a::es) X.env=(false,eval a X.env)::starEach es X.env) (hpl:(backTo pos (starEach es X.env)).any (·.1)=false):PE X (.Call (.Name x px) (a::es) [] pos) (tD p (aL f fr)):=
 (lV hc hg hm hv ha hn hdb he hpl).weak fun σ H Q ⟨α,ρ,μ,S,R,P⟩=>⟨α,ρ,μ,S,R,P.bind.imp fun ds μ1 H1 α1 X1 S1 P1 vs rv=>hd ds vs H1 α1 μ1 Q S1 rv P1⟩
theorem yD {T:String}{x:Str}{px:Pos}{f:List D->aw->ak D}{fr:MA}{r:List V->Hp->VK->Prop} (hc:cH X (.type T) r) (hd:vL p f r) (hg:Gl X x) (hm:X.mg x=none) (hv:bootBuiltins x=some (.type T)) (ha:PA X (a::es) (mv p fr))
  (hn:x ≠ "__name__") (hdb:(x == ("__debug__" : Str))=false) (he:starEach (a::es) X.env=(false,eval a X.env)::starEach es X.env) (hpl:(backTo pos (starEach es X.env)).any (·.1)=false):PE X (.Call (.Name x px) (a::es) [] pos) (tD p (aL f fr)):=
 (yO hc hg hm hv ha hn hdb he hpl).weak fun σ H Q ⟨α,ρ,μ,S,R,P⟩=>⟨α,ρ,μ,S,R,P.bind.imp fun ds μ1 H1 α1 X1 S1 P1 vs rv=>hd ds vs H1 α1 μ1 Q S1 rv P1⟩
end
def cb (f:ME):MS:=fun ρ μ=>(f ρ μ).bindS fun d μ'=>.ret d μ'
def fZ:MS:=fun ρ μ=>.next ρ μ
def bp (f g:MS):MS:=fun ρ μ=>(f ρ μ).bind g
def tJ (c:MT) (f g:MS):MS:=fun ρ μ=>(c ρ μ).bindS fun b μ1=>if b=true then f ρ μ1 else g ρ μ1
def bA (f:ME) (g:MG):MS:=fun ρ μ=>(f ρ μ).bindS fun d μ1=>(g d ρ μ1).bindS fun ρ' μ2=>.next ρ' μ2
def nt (f:ME):MS:=fun ρ μ=>(f ρ μ).bindS fun _ μ1=>.next ρ μ1
def vT (i:Nat) (op:D->D->aw->ak D) (f:ME):MS:=fun ρ μ=>(ah i ρ μ).bindS fun a μ0=>(f ρ μ0).bindS fun b μ1=>(op a b μ1).bindS fun c μ2=>.next (ρ.set i (some c)) μ2
def ao (i:Nat):MG:=fun d ρ μ=>.ok (ρ.set i (some d)) μ
abbrev Cq:=List D->Ro->aw->ak Ro
def fv:Cq:=fun ds ρ μ=>match ds with
 | []=>.ok ρ μ
 | _::_=>.bad
def bt (g:MG) (u:Cq):Cq:=fun ds ρ μ=>match ds with
 | []=>.bad
 | d::r=>(g d ρ μ).bind fun ρ' μ'=>u r ρ' μ'
def fu (n:Nat) (u:Cq):MG:=fun d ρ μ=>match d with
 | .tup xs=>if xs.length=n then u xs ρ μ else .bad
 | _=>.bad
def tM (o i v:D) (μ:aw):ak Unit:=match o,i with
 | .obj n,.int k=>match μ[n]? with
  | some (.lst xs)=>match yf xs.length k with
   | some j=>.ok () (μ.set n (.lst (xs.set j v)))
   | none=>.bad
  | _=>.bad
 | _,_=>.bad
def kK (fo fi:ME):MG:=fun d ρ μ=>(fo ρ μ).bind fun o μ1=>(fi ρ μ1).bind fun i μ2=>(tM o i d μ2).bind fun _ μ3=>.ok ρ μ3
def tL (p:Pa) (g:Cq):Co:=fun vs σ H Q=>∃ α ρ μ ds,p.S H α μ/\dD p.K H α ρ σ/\p.Rs H α ds vs/\aH p H α (g ds ρ μ) (fun ρ' _ H' α'=>∀ σ',dD p.K H' α' ρ' σ'->Q σ' H')
theorem PG.weak {X:Cx}{e:Expr}{t t':TG} (h:PG X e t) (k:∀ v σ H Q,t' v σ H Q->t v σ H Q):PG X e t':=fun pins s σ H v u Q I r q=>h pins s σ H v u Q I r (k v σ H Q q)
theorem vP.weak {X:Cx}{e:List Expr}{t t':Co} (h:vP X e t) (k:∀ v σ H Q,t' v σ H Q->t v σ H Q):vP X e t':=fun pins s σ H v u Q I r q=>h pins s σ H v u Q I r (k v σ H Q q)
theorem PI.weak {X:Cx}{tg e:Expr}{t t':TI} (h:PI X tg e t) (k:∀ σ H R,t' σ H R->t σ H R):PI X tg e t':=fun pins s σ H Q I q=>h pins s σ H Q I (k σ H Q q)
section
variable {p:Pa}{X:Cx}{a b c e tg:Expr}{es:List Expr}{f:ME}{g:MG}{u:Cq}{pos:Pos}{st:Stmt}{sts:List Stmt}{fs gs:MS}{ft:MT}
theorem FY:iU X [] (gU p fZ):=Dw.weak fun D σ H ⟨α,ρ,μ,S,R,P⟩=>P H α σ kD.refl S R
theorem Bg {t u:TS}{D:mC}{σ:St}{H:Hp}{α:List Addr}{o:SO}{k:MS} (h:dk p H α (o.bind k) D)
  (hk:∀ D σ H,gU p k D σ H->u D σ H):dk p H α o { D with nx:=u D }:=by
 cases o with
 | next ρ μ=>exact fun H' α' σ' e s r=>hk _ _ _ ⟨α',ρ,μ,s,r,dk.from e h⟩
 | brk ρ μ=>exact h
 | cnt ρ μ=>exact h
 | ret d μ=>exact h
 | exc x μ=>exact h
 | bad=>exact h
theorem C0 (h1:PS X st (gU p fs)) (h2:iU X sts (gU p gs)):iU X (st::sts) (gU p (bp fs gs)):=
 (Bs h1 h2).weak fun D σ H ⟨α,ρ,μ,S,R,P⟩=>⟨α,ρ,μ,S,R,Bg (t:=gU p fs) (σ:=σ) P fun _ _ _ z=>z⟩
theorem FX (h1:PS X st (gU p fs)):iU X [st] (gU p fs):=Dv h1
theorem FW (h:PE X e (tD p f)):PS X (.Return (some e) pos) (gU p (cb f)):=
 (Gy h).weak fun D σ H ⟨α,ρ,μ,S,R,P⟩=>⟨α,ρ,μ,S,R,(aH.bindS P).imp fun d μ1 H1 α1 X1 S1 P1 v rv=>P1 H1 α1 v kD.refl S1 rv⟩
theorem Jj {A B:List Stmt} (hc:PT X c (iD p ft)) (ha:iU X A (gU p fs)) (hb:iU X B (gU p gs)):PS X (.If c A B pos) (gU p (tJ ft fs gs)):=
 (Js hc ha hb).weak fun D σ H ⟨α, ρ, μ, S, R, P⟩ => ⟨α, ρ, μ, S, R, (aH.bindS P).imp fun k μ1 H1 α1 X1 S1 P1 => by
  cases k with
  | true=>rw [Lp rfl] at P1 ⊢;exact ⟨α1,ρ,μ1,S1,R.mono X1,P1⟩
  | false=>rw [Lq LZ] at P1 ⊢;exact ⟨α1,ρ,μ1,S1,R.mono X1,P1⟩⟩
theorem vc {D:mC}{σ:St}{H:Hp} (h:gU p (bA f g) D σ H):zJ (tD p f) (rO p g) D σ H:=by
 obtain ⟨α,ρ,μ,S,R,P⟩:=h
 exact ⟨α,ρ,μ,S,R,(aH.bindS P).imp fun d μ1 H1 α1 X1 S1 P1 v rv=>⟨α1,ρ,μ1,d,S1,R.mono X1,rv,(aH.bindS P1).imp fun ρ' μ2 H2 α2 X2 S2 P2 σ' r'=>P2 H2 α2 σ' kD.refl S2 r'⟩⟩
theorem F1 (he:PE X e (tD p f)) (hg:PG X tg (rO p g)) (hs:swapsWithSole [tg] e pos.line X.env=pure false) (hw:swappedStores [tg] e X.env=pure none)
  (h1:(assignEach [tg] X.env).map (·.2)=[assign tg X.env]):PS X (.Assign [tg] e pos) (gU p (bA f g)):=(GB he hg hs hw h1).weak fun D σ H h=>vc h
theorem pY {i:Nat}{v:V}{σ:St}{H:Hp}{Q:St->Hp->Prop} (h:rO p (ao i) v σ H Q):ue i v σ H Q:=by
 obtain ⟨α,ρ,μ,d,S,R,r,P⟩:=h
 exact P.now S _ (R.set i r)
theorem Df {i:Nat}{x:Str} (hN:X.N.Nodup) (hi:X.N[i]?=some x) (hx:yg X.env.scope x) (hf:X.fn x=true\/X.env.scope.names.lookup x=some .local):PG X (.Name x pos) (rO p (ao i)):=
 (DC hN hi hx hf).weak fun v σ H Q h=>pY h
theorem FV {i:Nat}{x:Str}{pos':Pos} (hN:X.N.Nodup) (hi:X.N[i]?=some x) (hx:yg X.env.scope x) (he:PE X e (tD p f)) (hs:swapsWith e (some (.Name x pos')) pos.line X.env=pure false) (hf:X.fn x=true\/X.env.scope.names.lookup x=some .local) :
  PS X (.Assign [.Name x pos'] e pos) (gU p (bA f (ao i))):=(Gx hN hi hx he hs hf).weak fun D σ H h=>by
 obtain ⟨α,ρ,μ,S,R,P⟩:=vc h
 exact ⟨α,ρ,μ,S,R,P.imp fun d μ1 H1 α1 X1 S1 P1 v rv=>pY (P1 v rv)⟩
theorem CZ (he:PE X e (tD p f)) (hs:swapsWith e none pos.line X.env=pure false):PS X (.Expr e pos) (gU p (nt f)):=
 (Dy he hs).weak fun D σ H ⟨α,ρ,μ,S,R,P⟩=>⟨α,ρ,μ,S,R,(aH.bindS P).imp fun d μ1 H1 α1 X1 S1 P1 v rv=>P1 H1 α1 σ kD.refl S1 (R.mono X1)⟩
theorem De:vP X [] (tL p fv):=DB.weak fun vs σ H Q ⟨α,ρ,μ,ds,S,R,r,P⟩=>by
 cases ds with
 | nil=>simp only [Reps] at r;exact ⟨r,P.now S σ R⟩
 | cons d ds=>exact P.elim
theorem Bc (h1:PG X e (rO p g)) (h2:vP X es (tL p u)) (hs:(assignEach (e::es) X.env).map (·.2)=assign e X.env::(assignEach es X.env).map (·.2)):vP X (e::es) (tL p (bt g u)):=
 (Bz h1 h2 hs).weak fun vs σ H Q ⟨α, ρ, μ, ds, S, R, r, P⟩ => by
  cases ds with
  | nil=>exact P.elim
  | cons d ds=>
   simp only [Reps] at r
   obtain ⟨v,vr,rfl,r1,r2⟩:=r
   refine ⟨v,vr,rfl,α,ρ,μ,d,S,R,r1,?_⟩
   exact (aH.bind (o:=g d ρ μ) P).imp fun ρ' μ1 H1 α1 X1 S1 P1 σ' r'=>⟨α1,ρ',μ1,ds,S1,r',r2.mono X1,P1⟩
theorem F9 {k n:Nat} (hK:X.K=p.K) (hc:X.calm=true) (h:vP X es (tL p u)) (hn:(assignEach es X.env).length=n) (hst:(assignEach es X.env).findIdx? (·.1)=none):PG X (.Tuple es k pos) (rO p (fu n u)):=
 (GD hc h hn hst).weak fun v σ H Q ⟨α, ρ, μ, d, S, R, r, P⟩ => by
  cases d with
  | tup xs=>
   obtain ⟨a,vs,rfl,h1,h2⟩:=aO.mp r
   have P':aH p H α (if xs.length=n then u xs ρ μ else .bad) _:=P
   by_cases hl:xs.length=n
   ·rw [Lp hl] at P'
    exact ⟨a,vs,rfl,by rw [hK];exact h1,by rw [h2.length];exact hl,α,ρ,μ,xs,S,R,h2,P'⟩
   ·rw [Lq hl] at P';exact P'.elim
  | non=>exact P.elim
  | bl b=>exact P.elim
  | int i=>exact P.elim
  | str x=>exact P.elim
  | frz xs=>exact P.elim
  | obj n=>exact P.elim
theorem Dh {o i d:D}{μ:aw}{H:Hp}{α:List Addr}{R:Unit->aw->Hp->List Addr->Prop}{vo vi v:V} (S:p.S H α μ) (ro:p.R H α o vo) (ri:p.R H α i vi) (rv:p.R H α d v) (P:aH p H α (tM o i d μ) R) :
  EK vo vi v H fun H'=>∃ μ',p.X H H' α α/\p.S H' α μ'/\R () μ' H' α:=by
 unfold tM at P
 split at P
 ·rename_i n k
  split at P
  ·rename_i xs hx
   split at P
   ·rename_i j hj
    obtain ⟨a,ea,us,hH,rr⟩:=S.at hx
    obtain ⟨a',rfl,ea'⟩:=aR.mp ro
    rw [ea] at ea';cases ea'
    rw [ar.mp ri]
    have q:=rr.set rv j
    refine ⟨a,us,k,j,rfl,rfl,hH,by rw [rr.length];exact hj,_,iK hH,S.put hx ea hH q,?_⟩
    exact P _ _ (iK hH) (S.put hx ea hH q)
   ·exact P.elim
  ·exact P.elim
 ·exact P.elim
theorem Ga {o i:Expr}{fo fi:ME} (ho:PE X o (tD p fo)) (hi:PE X i (tD p fi))
  (ha : ∀ v, assign (.Subscript o i pos) X.env v = (do
   let ov <- holding [v] (eval o X.env)
   let iv <- holding [v,ov] (eval i X.env)
   standAt pos
   holding [v,ov,iv] (setItem ov iv v)
   release [v,ov,iv] [])):PG X (.Subscript o i pos) (rO p (kK fo fi)):=
 (GE ho hi Bd ha).weak fun v σ H Q ⟨α, ρ, μ, d, S, R, r, P⟩ => ⟨α, ρ, μ, S, R, (aH.bind P).imp fun od μ1 H1 α1 X1 S1 P1 vo ro => ⟨α1, ρ, μ1, S1, R.mono X1, (aH.bind P1).imp fun id μ2 H2 α2 X2 S2 P2 vi ri => by
  obtain ⟨pp,xs,k,j,e1,e2,e3,e4,μ3,x3,s3,q⟩:=Dh S2 (ro.mono X2) ri ((r.mono X1).mono X2) (aH.bind P2)
  exact ⟨pp,xs,k,j,e1,e2,e3,e4,q.now s3 σ (((R.mono X1).mono X2).mono x3)⟩⟩⟩
theorem F0 {i:Nat}{x:Str}{op:Operator}{o:D->D->aw->ak D}{r:R2}{pos':Pos} (hN:X.N.Nodup) (hi:X.N[i]?=some x) (hx:yg X.env.scope x) (he:PE X e (tD p f)) (ho:J4 X op r) (hd:nq p o r) (hf:X.fn x=true\/X.env.scope.names.lookup x=some .local) :
  PS X (.AugAssign (.Name x pos') op e pos) (gU p (vT i o f)):=(GA hN hi hx he ho hf).weak fun D σ H ⟨α,ρ,μ,S,R,P⟩=>by
 unfold vT ah at P
 cases er:ρ[i]? with
 | none=>rw [er] at P;exact P.elim
 | some oo=>
  rw [er] at P
  cases oo with
  | none=>exact P.elim
  | some d=>
   obtain ⟨v,h1,h2⟩:=R.at' i d er
   have P':dk p H α ((f ρ μ).bindS fun b μ1=>(o d b μ1).bindS fun c μ2=>.next (ρ.set i (some c)) μ2) D:=P
   refine ⟨v,h1,α,ρ,μ,S,R,(aH.bindS P').imp fun y μ1 H1 α1 X1 S1 P1 u ru=>?_⟩
   exact hd d y v u H1 α1 μ1 _ S1 (h2.mono X1) ru ((aH.bindS P1).imp fun z μ2 H2 α2 X2 S2 P2 t rt=>P2 H2 α2 _ kD.refl S2 (((R.mono X1).mono X2).set i rt))
end
inductive qq where
 | fix (xs:List D) | own (n:Nat) (xs:List D) | eno (n:Nat) (xs:List D)
def E1:Nat->List D->List D
 | _,[]=>[]
 | i,x::r=>.tup [.int i,x]::E1 (i+1) r
def qq.items:qq->List D
 | .fix xs=>xs
 | .own _ xs=>xs
 | .eno _ xs=>E1 0 xs
def cA:qq->aw->Prop
 | .fix _,_=>True
 | .own n xs,μ=>μ[n]?=some (.lst xs)
 | .eno n xs,μ=>μ[n]?=some (.lst xs)
def zU (p:Pa) (J:It) (src:qq) (H0:Hp) (α0:List Addr):Prop:=
 ∀ H2 α2 μ2,p.X H0 H2 α0 α2->p.S H2 α2 μ2->cA src μ2 ->
  (∀ (i:Nat) d,src.items[i]?=some d->J.go i H2/\∀ x H3,J.yld i H2 x H3->p.X H2 H3 α2 α2/\p.S H3 α2 μ2/\p.R H3 α2 d x)/\J.stop src.items.length H2
abbrev MI:=Ro->aw->ak qq
def yd (p:Pa) (f:MI):TI:=fun σ H R=>∃ α ρ μ,p.S H α μ/\dD p.K H α ρ σ/\aH p H α (f ρ μ) (fun src μ' H' α'=>∀ J,cA src μ'->zU p J src H' α'->R J H')
def SO.loop (o:SO) (k:Ro->aw->SO):SO:=match o with
 | .next ρ μ=>k ρ μ
 | .cnt ρ μ=>k ρ μ
 | .brk ρ μ=>.next ρ μ
 | .ret d μ=>.ret d μ
 | .exc x μ=>.exc x μ
 | .bad=>.bad
open Classical in
noncomputable def dB (src:qq) (g:MG) (fb:MS):List D->Ro->aw->SO
 | [],ρ,μ=>if cA src μ then .next ρ μ else .bad
 | d::r,ρ,μ=>if cA src μ then (g d ρ μ).bindS fun ρ' μ'=>(fb ρ' μ').loop (dB src g fb r) else .bad
noncomputable def kE (fi:MI) (g:MG) (fb:MS):MS:=fun ρ μ=>(fi ρ μ).bindS fun src μ1=>dB src g fb src.items ρ μ1
def kW (c:MT) (fb:MS):Nat->Ro->aw->SO
 | 0,_,_=>.bad
 | n+1,ρ,μ=>(c ρ μ).bindS fun b μ1=>if b=true then (fb ρ μ1).loop (kW c fb n) else .next ρ μ1
def rZ (n:Nat) (c:MT) (fb:MS):MS:=kW c fb n
section
variable {p:Pa}{X:Cx}{tg iter c:Expr}{fi:MI}{g:MG}{fb:MS}{ft:MT}{body:List Stmt}{pos:Pos}
theorem rn {H:Hp}{α:List Addr}{o:SO}{k:Ro->aw->SO}{D:mC}{N:St->Hp->Prop} (h:dk p H α (o.loop k) D)
  (hN:∀ ρ μ H' α' σ',p.X H H' α α'->p.S H' α' μ->dD p.K H' α' ρ σ'->dk p H' α' (k ρ μ) D->N σ' H'):dk p H α o { D with nx:=N,ct:=N,bk:=D.nx }:=by
 cases o with
 | next ρ μ=>exact fun H' α' σ' e s r=>hN ρ μ H' α' σ' e s r (dk.from e h)
 | cnt ρ μ=>exact fun H' α' σ' e s r=>hN ρ μ H' α' σ' e s r (dk.from e h)
 | brk ρ μ=>exact h
 | ret d μ=>exact h
 | exc x μ=>exact h
 | bad=>exact h
theorem FZ (hp:PassesOwn (model X.prog X.w) X.A X.env X.xe) (hc:X.calm=true) (hi:PI X tg iter (yd p fi)) (hg:PG X tg (rO p g)) (hb:iU X body (gU p fb)) (hs:∀ x,foldedSetIterable iter X.env x=pure x) :
  PS X (.For tg iter body [] pos) (gU p (kE fi g fb)):=(Gz hp hc hi hg hb hs).weak fun D σ H ⟨α,ρ,μ,S,R,P⟩=>by
 refine ⟨α,ρ,μ,S,R,(aH.bindS P).imp fun src μ1 H1 α1 X1 S1 P1 J hok hJ=>?_⟩
 refine ⟨fun i m σ2 H2=>m=src.items.length - i/\i<=src.items.length/\∃ α2 ρ2 μ2,p.X H1 H2 α1 α2/\p.S H2 α2 μ2/\dD p.K H2 α2 ρ2 σ2/\dk p H2 α2 (dB src g fb (src.items.drop i) ρ2 μ2) D,
  ⟨_,rfl,NN _,α1,ρ,μ1,kD.refl,S1,R.mono X1,by simpa using P1⟩,?_⟩
 rintro i m σ2 H2 ⟨rfl,hi,α2,ρ2,μ2,X2,S2,R2,P2⟩
 by_cases hlt:i<src.items.length
 ·rw [List.drop_eq_getElem_cons hlt] at P2
  unfold dB at P2
  by_cases ho:cA src μ2
  ·rw [Lp ho] at P2
   obtain ⟨hgo,hy⟩:=(hJ H2 α2 μ2 X2 S2 ho).1 i _ (O5 hlt)
   refine .inr ⟨hgo,fun σ' H'=>i+1<=src.items.length/\∃ α2 ρ2 μ2,p.X H1 H' α1 α2/\p.S H' α2 μ2/\dD p.K H' α2 ρ2 σ'/\dk p H' α2 (dB src g fb (src.items.drop (i+1)) ρ2 μ2) D,
    fun σ' H' ⟨h1,h2⟩=>⟨_,by omega,rfl,h1,h2⟩,fun x H3 yx=>?_⟩
   obtain ⟨X3,S3,R3⟩:=hy x H3 yx
   refine ⟨α2,ρ2,μ2,_,S3,R2.mono X3,R3,(aH.from X3 (aH.bindS P2)).imp fun ρ4 μ4 H4 α4 X4 S4 P4 σ4 R4=>⟨α4,ρ4,μ4,S4,R4,rn P4 fun ρ5 μ5 H5 α5 σ5 X5 S5 R5 P5=>⟨hlt,α5,ρ5,μ5,((X2.trans X3).trans X4).trans X5,S5,R5,P5⟩⟩⟩
  ·rw [Lq ho] at P2;exact P2.elim
 ·have e : i = src.items.length := by omega
  subst e
  rw [List.drop_length] at P2
  unfold dB at P2
  by_cases ho:cA src μ2
  ·rw [Lp ho] at P2
   exact .inl ⟨(hJ H2 α2 μ2 X2 S2 ho).2,P2 H2 α2 σ2 kD.refl S2 R2⟩
  ·rw [Lq ho] at P2;exact P2.elim
theorem A3 {n:Nat} (hp:PassesOwn (model X.prog X.w) X.A X.env X.xe) (hc:PT X c (iD p ft)) (hb:iU X body (gU p fb)):PS X (.While c body [] pos) (gU p (rZ n ft fb)):=
 (Bu hp hc hb).weak fun D σ H ⟨α, ρ, μ, S, R, P⟩ => by
  refine ⟨fun m σ2 H2=>∃ α2 ρ2 μ2,p.S H2 α2 μ2/\dD p.K H2 α2 ρ2 σ2/\dk p H2 α2 (kW ft fb m ρ2 μ2) D,⟨n,α,ρ,μ,S,R,P⟩,?_⟩
  rintro m σ2 H2 ⟨α2,ρ2,μ2,S2,R2,P2⟩
  cases m with
  | zero=>exact P2.elim
  | succ m=>
   unfold kW at P2
   refine ⟨α2,ρ2,μ2,S2,R2,(aH.bindS P2).imp fun k μ3 H3 α3 X3 S3 P3=>?_⟩
   cases k with
   | true=>
    rw [Lp rfl] at P3 ⊢
    exact ⟨fun σ' H'=>∃ α2 ρ2 μ2,p.S H' α2 μ2/\dD p.K H' α2 ρ2 σ'/\dk p H' α2 (kW ft fb m ρ2 μ2) D,fun σ' H' h=>⟨m,NF _,h⟩,
     α3,ρ2,μ3,S3,R2.mono X3,rn P3 fun ρ5 μ5 H5 α5 σ5 X5 S5 R5 P5=>⟨α5,ρ5,μ5,S5,R5,P5⟩⟩
   | false=>
    rw [Lq LZ] at P3 ⊢
    exact P3 H3 α3 σ2 kD.refl S3 (R2.mono X3)
end
section
variable {p:Pa}{X:Cx}{tg iter:Expr}
theorem y6 {H:Hp}{α:List Addr}{μ:aw}{n:Nat}{xs:List D}{a:Addr} (S:p.S H α μ) (hn:μ[n]?=some (.lst xs)) (ha:α[n]?=some a):zU p (J8 p.K a) (.own n xs) H α:=by
 intro H2 α2 μ2 X2 S2 ho
 obtain ⟨a',ea,vs,hH,rr⟩:=S2.at ho
 rw [X2.pre n a ha] at ea;cases ea
 refine ⟨fun i d hd=>?_,vs,f7.of hH,by rw [rr.length];exact L9 _⟩
 obtain ⟨v,hv,rv⟩:=rr.get hd
 refine ⟨⟨vs,v,f7.of hH,hv⟩,fun x H3 ⟨e,hx⟩=>?_⟩
 subst e
 have:=hx vs (f7.of hH)
 rw [hv] at this;cases this
 exact ⟨kD.refl,S2,rv⟩
theorem BU {H:Hp}{α:List Addr}{xs:List D}{vs:List V}{a:Addr} (h:EA p.K H a vs) (r:p.Rs H α xs vs):zU p (J8 p.K a) (.fix xs) H α:=by
 intro H2 α2 μ2 X2 S2 ho
 have h2:=(X2.frz a vs h).sq
 have rr:=r.mono X2
 refine ⟨fun i d hd=>?_,vs,h2,by rw [rr.length];exact L9 _⟩
 obtain ⟨v,hv,rv⟩:=rr.get hd
 refine ⟨⟨vs,v,h2,hv⟩,fun x H3 ⟨e,hx⟩=>?_⟩
 subst e
 have:=hx vs h2
 rw [hv] at this;cases this
 exact ⟨kD.refl,S2,rv⟩
theorem BS {H:Hp}{α:List Addr}{xs:List D}{vs:List V}{a:Addr} (h:gy p.K H a vs) (r:p.Rs H α xs vs):zU p (Kg p.K a) (.fix xs) H α:=by
 intro H2 α2 μ2 X2 S2 ho
 have h2:=X2.tup a vs h
 have rr:=r.mono X2
 refine ⟨fun i d hd=>?_,vs,h2,by rw [rr.length];exact L9 _⟩
 obtain ⟨v,hv,rv⟩:=rr.get hd
 refine ⟨⟨vs,v,h2,hv⟩,fun x H3 ⟨e,hx⟩=>?_⟩
 subst e
 have:=hx vs h2
 rw [hv] at this;cases this
 exact ⟨kD.refl,S2,rv⟩
def bM (lo:Int) (n:Nat):List D:=(List.range n).map fun (i:Nat)=>D.int (lo+(i:Int))
theorem uU {H:Hp}{α:List Addr} (lo:Int) (n:Nat):zU p (Ij lo n) (.fix (bM lo n)) H α:=by
 intro H2 α2 μ2 X2 S2 ho
 refine ⟨fun i d hd=>?_,by simp [qq.items,bM,Ij]⟩
 have hd':(bM lo n)[i]?=some d:=hd
 unfold bM at hd'
 rw [Ms] at hd'
 by_cases hi:i<n
 ·rw [OU hi] at hd'
  cases hd'
  refine ⟨hi,fun x H3 ⟨e,hx⟩=>?_⟩
  subst e;subst hx
  exact ⟨kD.refl,S2,ar.mpr rfl⟩
 ·rw [OV (by simpa using hi)] at hd'
  cases hd'
def vS (d:D) (μ:aw):ak qq:=match d with
 | .tup xs=>.ok (.fix xs) μ
 | .frz xs=>.ok (.fix xs) μ
 | .obj n=>match μ[n]? with
  | some (.lst xs)=>.ok (.own n xs) μ
  | _=>.bad
 | _=>.bad
def i4 (f:ME):MI:=fun ρ μ=>(f ρ μ).bind vS
def KC (K:W.Frag) (tl:TE):TI:=fun σ H R=>tl σ H fun x H1=>∃ a,x=.ref a/\(((∃ xs,f7 K H1 a xs)/\R (J8 K a) H1)\/((∃ xs,gy K H1 a xs)/\R (Kg K a) H1))
theorem GC {l:Expr}{tl:TE} (hl:PE X l tl):PI X tg l (KC X.K tl):=by
 intro pins s σ H R I h
 refine cQ (hl pins s σ H _ I h) fun v s1 ⟨x,H1,I1,r1,q1⟩=>?_
 obtain ⟨a,e,q⟩:=q1
 subst e
 cases r1
 rcases q with ⟨⟨xs,hq⟩,q⟩ | ⟨⟨xs,hq⟩,q⟩
 ·obtain ⟨its, rv, p, hz⟩ := I1.list hq
  refine OI p.isList ?_
  refine ⟨s1.heap.objs.size,[s1.heap.objs.size],_,_,H1,rfl,I1.kept (t':=s1.toks) fun b o e=>L7 _ e,yo a _,⟨_,L8 _ rfl,rfl,rfl⟩,fun b hb=>?_,q⟩
  have e:b=s1.heap.objs.size:=by simpa using hb
  subst e
  exact I1.fpOk (L9 _) (I1.hok.fresh (L9 _))
 ·obtain ⟨its, rv, p, hz⟩ := I1.tuple hq
  refine OM (show s1.heap.IsTuple a its.toArray from p) ?_
  refine ⟨s1.heap.objs.size,[s1.heap.objs.size],_,_,H1,rfl,I1.kept (t':=s1.toks) fun b o e=>L7 _ e,wy a _,⟨_,L8 _ rfl,rfl,rfl⟩,fun b hb=>?_,q⟩
  have e:b=s1.heap.objs.size:=by simpa using hb
  subst e
  exact I1.fpOk (L9 _) (I1.hok.fresh (L9 _))
theorem F8 {l:Expr}{f:ME} (hK:X.K=p.K) (hl:PE X l (tD p f)):PI X tg l (yd p (i4 f)):=(GC hl).weak fun σ H R ⟨α,ρ,μ,S,Rr,P⟩=>by
 refine ⟨α,ρ,μ,S,Rr,(aH.bind P).imp fun d μ1 H1 α1 X1 S1 P1 v rv=>?_⟩
 rw [hK]
 cases d with
 | tup xs=>
  obtain ⟨a,vs,rfl,h1,h2⟩:=aO.mp rv
  exact ⟨a,rfl,.inr ⟨⟨vs,h1⟩,P1.now S1 _ trivial (BS h1 h2)⟩⟩
 | frz xs=>
  obtain ⟨a,vs,rfl,h1,h2⟩:=bf.mp rv
  exact ⟨a,rfl,.inl ⟨⟨vs,h1.sq⟩,P1.now S1 _ trivial (BU h1 h2)⟩⟩
 | obj n=>
  obtain ⟨a,rfl,ha⟩:=aR.mp rv
  unfold vS at P1
  dsimp only at P1
  split at P1
  ·rename_i xs hx
   obtain ⟨a',ea,vs,hH,rr⟩:=S1.at hx
   rw [ha] at ea;cases ea
   exact ⟨a,rfl,.inl ⟨⟨vs,f7.of hH⟩,P1.now S1 _ hx (y6 S1 hx ha)⟩⟩
  ·exact P1.elim
 | non=>exact P1.elim
 | bl b=>exact P1.elim
 | int i=>exact P1.elim
 | str x=>exact P1.elim
def lx (ds:List D) (μ:aw):ak qq:=match ds with
 | [.int j]=>if -(2 ^ 62)<=j/\j<2 ^ 62 then .ok (.fix (bM 0 j.toNat)) μ else .bad
 | _=>.bad
def tN (ds:List D) (μ:aw):ak qq:=match ds with
 | [.int i,.int j]=>if -(2 ^ 62)<=i/\i<2 ^ 62/\-(2 ^ 62)<=j/\j<2 ^ 62 then .ok (.fix (bM i (j - i).toNat)) μ else .bad
 | _=>.bad
def kT (f:List D->aw->ak qq) (fa:MA):MI:=fun ρ μ=>(fa ρ μ).bind f
theorem yC {a:Expr}{fa:MA}{px pos:Pos} (hg:Gl X "range") (hm:X.mg "range" = none) (ha:PA X [a] (mv p fa)) (hs:starEach [a] X.env=[(false,eval a X.env)]):PI X tg (.Call (.Name "range" px) [a] [] pos) (yd p (kT lx fa)):=
 (yN hg hm ha hs).weak fun σ H R ⟨α, ρ, μ, S, Rr, P⟩ => ⟨α, ρ, μ, S, Rr, (aH.bind P).imp fun ds μ1 H1 α1 X1 S1 P1 vs rv => by
  unfold lx at P1
  split at P1
  ·rename_i j
   obtain ⟨v,rfl,r1⟩:=rv.one
   rw [ar.mp r1]
   split at P1
   ·rename_i hj
    exact ⟨j,rfl,hj.1,hj.2,P1.now S1 _ trivial (uU 0 _)⟩
   ·exact P1.elim
  ·exact P1.elim⟩
theorem yB {a b:Expr}{fa:MA}{px pos:Pos} (hg:Gl X "range") (hm:X.mg "range" = none) (ha:PA X [a,b] (mv p fa)) (hs:starEach [a,b] X.env=[(false,eval a X.env),(false,eval b X.env)]) (hs2:starEach [b] X.env=[(false,eval b X.env)]):PI X tg (.Call (.Name "range" px) [a,b] [] pos) (yd p (kT tN fa)):=
 (yM hg hm ha hs hs2).weak fun σ H R ⟨α, ρ, μ, S, Rr, P⟩ => ⟨α, ρ, μ, S, Rr, (aH.bind P).imp fun ds μ1 H1 α1 X1 S1 P1 vs rv => by
  unfold tN at P1
  split at P1
  ·rename_i i j
   obtain ⟨v,u,rfl,r1,r2⟩:=rv.two
   rw [ar.mp r1,ar.mp r2]
   split at P1
   ·rename_i hj
    exact ⟨i,j,rfl,hj,P1.now S1 _ trivial (uU i _)⟩
   ·exact P1.elim
  ·exact P1.elim⟩
end
def ak.nox {β:Type} (o:ak β):ak β:=match o with
 | .exc _ _=>.bad
 | o=>o
@[simp] theorem ai {β:Type}{a:β}{μ:aw}:(ak.ok a μ).nox=.ok a μ:=Pc (Pd _)
abbrev Pa.nx (p:Pa):Pa:=⟨p.K,p.w,fun _ _ _ _=>False⟩
theorem lj {β γ:Type}{p:Pa}{H:Hp}{α:List Addr}{o:ak β}{k:β->aw->ak γ}{R:γ->aw->Hp->List Addr->Prop} (h:aH p H α (o.nox.bind k) R):aH p.nx H α o (fun a μ1 H1 α1=>aH p H1 α1 (k a μ1) R):=by
 cases o with
 | ok a μ=>exact fun H' α' e s=>aH.from e h
 | exc x μ=>exact False.elim h
 | bad=>exact h
def gX (cap:List (Option Nat)) (ρ:Ro):Ro:=cap.map fun o=>o.bind fun j=>(ρ[j]?).join
theorem dD.cap {K:W.Frag}{H:Hp}{α:List Addr}{ρ:Ro}{σ:St} (R:dD K H α ρ σ) (cap:List (Option Nat)):dD K H α (gX cap ρ) (oW cap σ):=by
 refine ⟨by simp [gX,oW],fun i d h=>?_⟩
 unfold gX at h
 unfold oW
 rw [Ms] at h ⊢
 cases e:cap[i]? with
 | none=>rw [e] at h;cases h
 | some o=>
  rw [e] at h
  cases o with
  | none=>simp at h
  | some j=>
   simp at h ⊢
   obtain ⟨v,h1,h2⟩:=R.at' j d (by
    cases e2:ρ[j]? with
    | none=>rw [e2] at h;simp at h
    | some x=>rw [e2] at h;simp at h;rw [h])
   exact ⟨v,by rw [h1];rfl,h2⟩
def ub (n:Nat) (y:D) (μ:aw):ak Unit:=match μ[n]? with
 | some (.lst ys)=>if ys.length<sizeLine then .ok () (μ.set n (.lst (ys++[y]))) else .bad
 | _=>.bad
open Classical in
noncomputable def compLoop (src:qq) (n:Nat) (g:MG) (t:MT) (e:ME):List D->Ro->aw->ak D
 | [],_,μ=>if cA src μ then .ok (.obj n) μ else .bad
 | d::r,ρ,μ=>if cA src μ then (g d ρ μ).nox.bind fun ρ1 μ1=>(t ρ1 μ1).nox.bind fun b μ2=>if b=true then (e ρ1 μ2).nox.bind fun y μ3=>(ub n y μ3).bind fun _ μ4=>compLoop src n g t e r ρ1 μ4 else compLoop src n g t e r ρ1 μ2 else .bad
noncomputable def fw (fi:MI) (cap:List (Option Nat)) (g:MG) (t:MT) (e:ME):ME:=fun ρ μ=>(fi ρ μ).bind fun src μ1=>compLoop src μ1.length g t e src.items (gX cap ρ) (μ1++[.lst []])
def gN:MT:=fun _ μ=>.ok true μ
theorem Bp {p:Pa}{n:Nat}{y:D}{μ:aw}{H:Hp}{α:List Addr}{R:Unit->aw->Hp->List Addr->Prop}{v:V}{acc:Addr} (S:p.S H α μ) (ha:α[n]?=some acc) (rv:p.R H α y v) (P:aH p H α (ub n y μ) R) :
  ∃ ys,H acc=some (.lst ys)/\ys.length<sizeLine/\∃ μ',p.X H (cI H acc (.lst (ys++[v]))) α α/\p.S (cI H acc (.lst (ys++[v]))) α μ'/\R () μ' (cI H acc (.lst (ys++[v]))) α:=by
 unfold ub at P
 split at P
 ·rename_i xs hx
  obtain ⟨a,ea,us,hH,rr⟩:=S.at hx
  rw [ha] at ea;cases ea
  split at P
  ·rename_i hl
   have q:=rr.snoc rv
   exact ⟨us,hH,by rw [rr.length];exact hl,_,iK hH,S.put hx ha hH q,P _ _ (iK hH) (S.put hx ha hH q)⟩
  ·exact P.elim
 ·exact P.elim
section
variable {p:Pa}{X:Cx}{tg iter elt:Expr}{ifs:List Expr}{scope:Scope}{Nc:List Str}{cap:List (Option Nat)}{fi:MI}{g:MG}{t:MT}{e:ME}{pos pos':Pos}
theorem rJ {σ:St}{H:Hp}{Q:VK} (h:tD p (fw fi cap g t e) σ H Q):z9 (yd p fi) cap (rO p.nx g) (iD p.nx t) (tD p.nx e) σ H Q:=by
 obtain ⟨α,ρ,μ,S,R,P⟩:=h
 refine ⟨α,ρ,μ,S,R,(aH.bind P).imp fun src μ1 H1 α1 X1 S1 P1 J hok hJ acc hacc=>?_⟩
 obtain ⟨x1,s1,_⟩:=c6 (ds:=[]) (vs:=[]) S1 hacc Reps.nil
 have hn:(α1++[acc])[μ1.length]?=some acc:=by rw [<- S1.len];simp
 refine ⟨fun i m σ2 H2=>m=src.items.length - i/\i<=src.items.length/\∃ α2 ρ2 μ2,p.X H1 H2 α1 α2/\p.S H2 α2 μ2/\dD p.K H2 α2 ρ2 σ2/\α2[μ1.length]?=some acc/\aH p H2 α2 (compLoop src μ1.length g t e (src.items.drop i) ρ2 μ2) (RV p Q),
  ⟨_,rfl,NN _,α1++[acc],gX cap ρ,μ1++[.lst []],x1,s1,((R.mono X1).cap cap).mono x1,hn,by simpa using aH.from x1 P1⟩,?_⟩
 rintro i m σ2 H2 ⟨rfl,hi,α2,ρ2,μ2,X2,S2,R2,a2,P2⟩
 by_cases hlt:i<src.items.length
 ·rw [List.drop_eq_getElem_cons hlt] at P2
  unfold compLoop at P2
  by_cases ho:cA src μ2
  ·rw [Lp ho] at P2
   obtain ⟨hgo,hy⟩:=(hJ H2 α2 μ2 X2 S2 ho).1 i _ (O5 hlt)
   refine .inr ⟨hgo,fun σ' H'=>i+1<=src.items.length/\∃ α2 ρ2 μ2,p.X H1 H' α1 α2/\p.S H' α2 μ2/\dD p.K H' α2 ρ2 σ'/\α2[μ1.length]?=some acc/\aH p H' α2 (compLoop src μ1.length g t e (src.items.drop (i+1)) ρ2 μ2) (RV p Q),
    fun σ' H' ⟨h1,h2⟩=>⟨_,by omega,rfl,h1,h2⟩,fun x H3 yx=>?_⟩
   obtain ⟨X3,S3,R3⟩:=hy x H3 yx
   refine ⟨α2,ρ2,μ2,_,S3,R2.mono X3,R3,(aH.from (p:=p.nx) X3 (lj P2)).imp fun ρ4 μ4 H4 α4 X4 S4 P4 σ4 R4=>?_⟩
   refine ⟨α4,ρ4,μ4,S4,R4,(lj P4).imp fun b μ5 H5 α5 X5 S5 P5=>?_⟩
   have xx:p.X H1 H5 α1 α5:=((X2.trans X3).trans X4).trans X5
   have a5:α5[μ1.length]?=some acc:=X5.pre _ _ (X4.pre _ _ (X3.pre _ _ a2))
   cases b with
   | false=>
    rw [Lq LZ] at P5
    refine KB ?_
    exact ⟨hlt,α5,ρ4,μ5,xx,S5,R4.mono X5,a5,P5⟩
   | true=>
    rw [Lp rfl] at P5
    refine KA ?_
    refine ⟨α5,ρ4,μ5,S5,R4.mono X5,(lj P5).imp fun y μ6 H6 α6 X6 S6 P6 v rv=>?_⟩
    obtain ⟨ys,e1,e2,μ7,x7,s7,q7⟩:=Bp (p:=p) S6 (X6.pre _ _ a5) rv (aH.bind P6)
    exact ⟨ys,e1,e2,hlt,α6,ρ4,μ7,(xx.trans X6).trans x7,s7,((R4.mono X5).mono X6).mono x7,X6.pre _ _ a5,q7⟩
  ·rw [Lq ho] at P2;exact P2.elim
 ·have e : i = src.items.length := by omega
  subst e
  rw [List.drop_length] at P2
  unfold compLoop at P2
  by_cases ho:cA src μ2
  ·rw [Lp ho] at P2
   exact .inl ⟨(hJ H2 α2 μ2 X2 S2 ho).2,P2 H2 α2 kD.refl S2 _ (aR.mpr ⟨acc,rfl,a2⟩)⟩
  ·rw [Lq ho] at P2;exact P2.elim
theorem CU {X:Cx}:vK X [] (iD p gN):=fun pins s σ H Q I h=>by
 obtain ⟨α,ρ,μ,S,R,P⟩:=h
 exact Dt pins s σ H Q I (P.now S)
theorem CT {X:Cx}{c:Expr}{t:MT} (h:PT X c (iD p t)):vK X [c] (iD p t):=Ds h
theorem Di (hc:X.calm=true) (S:cv X.N X.env scope Nc cap) (hi:PI X tg iter (yd p fi))
  (hg:∀ cl C s H fp,PG (jJ X Nc scope cl C s H fp) tg (rO p.nx g)) (ht:∀ cl C s H fp,vK (jJ X Nc scope cl C s H fp) ifs (iD p.nx t)) (he:∀ cl C s H fp,PE (jJ X Nc scope cl C s H fp) elt (tD p.nx e))
  (hs:∀ x,foldedSetIterable iter X.env x=pure x):PE X (.ListComp elt [⟨tg,iter,ifs,0⟩] scope pos) (tD p (fw fi cap g t e)):=
 (DF hc S hi hg ht he hs).weak fun σ H Q h=>rJ h
theorem CY {i:Nat}{x:Str}{pos1:Pos}{pos2:Pos} (hc:X.calm=true) (hN:X.N.Nodup) (hix:X.N[i]?=some x) (hx:X.env.scope.names.lookup x=some .local) (S:cv X.N X.env scope Nc cap) (hi:PI X tg iter (yd p fi))
  (hg:∀ cl C s H fp,PG (jJ X Nc scope cl C s H fp) tg (rO p.nx g)) (ht:∀ cl C s H fp,vK (jJ X Nc scope cl C s H fp) ifs (iD p.nx t)) (he:∀ cl C s H fp,PE (jJ X Nc scope cl C s H fp) elt (tD p.nx e))
  (hsw:swapsWith (.ListComp elt [⟨tg,iter,ifs,0⟩] scope pos) (some (.Name x pos1)) pos2.line X.env=pure true) (hs:∀ x,foldedSetIterable iter X.env x=pure x) :
  PS X (.Assign [.Name x pos1] (.ListComp elt [⟨tg,iter,ifs,0⟩] scope pos) pos2) (gU p (bA (fw fi cap g t e) (ao i))):=
 (Dx hc hN hix hx S hi hg ht he hsw hs).weak fun D σ H h => by
  obtain ⟨α,ρ,μ,S,R,P⟩:=h
  refine rJ ⟨α,ρ,μ,S,R,(aH.bindS P).imp fun d μ1 H1 α1 X1 S1 P1 v rv=>?_⟩
  exact P1 H1 α1 _ kD.refl S1 ((R.mono X1).set i rv)
end
section
variable {p:Pa}
variable {X:Cx}{elt:Expr}{cl0 cl:Comprehension}{rest:List Comprehension}{scope:Scope}{Nc:List Str}{cap:List (Option Nat)}{fi:MI}{g:MG}{t:MT}{fb:MB}{pos:Pos}{e:Expr}{d:Nat}{acc:Addr}
end
mutual
def D.low (n:Nat):D->Prop
 | .tup xs=>D.lows n xs
 | .frz xs=>D.lows n xs
 | .obj m=>m<n
 | _=>True
def D.lows (n:Nat):List D->Prop
 | []=>True
 | x::xs=>x.low n/\D.lows n xs
end
def O.low (n:Nat):O->Prop
 | .lst xs=>D.lows n xs
 | _=>True
section
variable {K:W.Frag}{H:Hp}{α α':List Addr}
mutual
theorem aQ.low:∀ {d:D}{v:V},aQ K H α d v->d.low α.length
 | .non,_,_=>trivial
 | .bl _,_,_=>trivial
 | .int _,_,_=>trivial
 | .str _,_,_=>trivial
 | .tup xs,_,h=>by
  obtain ⟨a,vs,rfl,h1,h2⟩:=aO.mp h
  simp only [D.low]
  exact Reps.low h2
 | .frz xs,_,h=>by
  obtain ⟨a,vs,rfl,h1,h2⟩:=bf.mp h
  simp only [D.low]
  exact Reps.low h2
 | .obj n,_,h=>by
  obtain ⟨a,rfl,h1⟩:=aR.mp h
  simp only [D.low]
  exact (LL.mp h1).1
theorem Reps.low:∀ {ds:List D}{vs:List V},Reps K H α ds vs->D.lows α.length ds
 | [],_,_=>trivial
 | d::ds,_,h=>by
  simp only [Reps] at h
  obtain ⟨v,r,rfl,h1,h2⟩:=h
  simp only [D.lows]
  exact ⟨aQ.low h1,Reps.low h2⟩
end
mutual
theorem aQ.cut {n:Nat} (e:∀ m,m<n->α'[m]?=α[m]?):∀ {d:D}{v:V},aQ K H α' d v->d.low n->aQ K H α d v
 | .non,_,h,_=>by simp only [aQ] at h ⊢;exact h
 | .bl _,_,h,_=>by simp only [aQ] at h ⊢;exact h
 | .int _,_,h,_=>by simp only [aQ] at h ⊢;exact h
 | .str _,_,h,_=>by simp only [aQ] at h ⊢;exact h
 | .tup xs,_,h,b=>by
  obtain ⟨a,vs,rfl,h1,h2⟩:=aO.mp h
  simp only [D.low] at b
  exact aO.mpr ⟨a,vs,rfl,h1,Reps.cut e h2 b⟩
 | .frz xs,_,h,b=>by
  obtain ⟨a,vs,rfl,h1,h2⟩:=bf.mp h
  simp only [D.low] at b
  exact bf.mpr ⟨a,vs,rfl,h1,Reps.cut e h2 b⟩
 | .obj m,_,h,b=>by
  obtain ⟨a,rfl,h1⟩:=aR.mp h
  simp only [D.low] at b
  exact aR.mpr ⟨a,rfl,by rw [<- e m b];exact h1⟩
theorem Reps.cut {n:Nat} (e:∀ m,m<n->α'[m]?=α[m]?):∀ {ds:List D}{vs:List V},Reps K H α' ds vs->D.lows n ds->Reps K H α ds vs
 | [],_,h,_=>by simp only [Reps] at h ⊢;exact h
 | d::ds,_,h,b=>by
  simp only [Reps] at h ⊢
  obtain ⟨v,r,rfl,h1,h2⟩:=h
  simp only [D.lows] at b
  exact ⟨v,r,rfl,aQ.cut e h1 b.1,Reps.cut e h2 b.2⟩
end
end
def Fj (μ μ':aw) (d:D):Prop:=d.low μ.length/\μ.length<=μ'.length/\∀ (i:Nat) o,i<μ.length->μ'[i]?=some o->μ[i]?=some o\/o.low μ.length
open Classical in
noncomputable def oG (μ:aw) (o:ak D):ak D:=match o with
 | .ok d μ'=>if Fj μ μ' d then .ok d (μ'.take μ.length) else .ok d μ'
 | o=>o
theorem ot {p:Pa}{H:Hp}{α:List Addr}{μ:aw}{o:ak D}{Q:VK} (S:p.S H α μ) (P:aH p H α (oG μ o) (RV p Q)):aH p H α o (RV p Q):=by
 cases o with
 | exc x μ'=>exact P
 | bad=>exact P
 | ok d μ'=>
  unfold oG at P
  dsimp only at P
  by_cases hg:Fj μ μ' d
  ·rw [Lp hg] at P
   obtain ⟨g1,g2,g3⟩:=hg
   intro H' α' e s v rv
   have al:∀ m,m<μ.length->α'[m]?=α[m]?:=fun m hm=>by
    have hm':m<α.length:=by rw [S.len];exact hm
    rw [O5 hm']
    exact e.pre m _ (O5 hm')
   refine P H' α ⟨e.tup,e.frz,fun _ _ z=>z⟩ ⟨by rw [Mn,S.len];omega,S.nd,fun n o a h1 h2=>?_⟩ v (aQ.cut al rv g1)
   have hn:n<μ.length:=by rw [<- S.len];exact (LL.mp h2).1
   rw [Mt hn] at h1
   have q:=s.ob n o a h1 (e.pre n a h2)
   have ob:o.low μ.length:=by
    rcases g3 n o hn h1 with z | z
    ·have q0 := S.ob n o a z h2
     cases o with
     | lst xs=>obtain ⟨vs,_,r⟩:=q0;have:=r.low;rw [S.len] at this;exact this
     | set ks=>trivial
     | iset ks=>trivial
     | dic=>trivial
     | exc c=>trivial
    ·exact z
   cases o with
   | lst xs=>obtain ⟨vs,h3,r⟩:=q;exact ⟨vs,h3,Reps.cut al r ob⟩
   | set ks=>exact q
   | iset ks=>exact q
   | dic=>exact q
   | exc c=>exact q
  ·rw [Lq hg] at P
   exact P
def SO.out (o:SO):ak D:=match o with
 | .ret d μ=>.ok d μ
 | .next _ μ=>.ok .non μ
 | .exc x μ=>.exc x μ
 | _=>.bad
noncomputable def ic (n N:Nat) (fb:MS):List D->aw->ak D:=fun ds μ=>if ds.length=n then oG μ (fb (ds.map some++List.replicate (N - n) none) μ).out else .bad
def Ce (p:Pa) (n:Nat) (F:List D->aw->ak D):Sp:=fun vs H Q _=>vs.length=n/\∃ α ds μ,p.S H α μ/\p.Rs H α ds vs/\aH p H α (F ds μ) (RV p Q)
structure dC (P:Program) (w:World) (K:W.Frag) (mg:Str->Option Value) (base:Heap) (p:Pa) (k:Nat) (x:Str) (n:Nat) (F:List D->aw->ak D):Prop where
 len:∀ ds μ,ds.length≠n->F ds μ=.bad
 fn:∃ f fd ps,mg x=some (.ref f)/\W.keepIn K (.ref f)=true/\gP K fd ps []/\oN P w K mg base vQ k f fd ps (Ce p n F)
section
variable {p:Pa}{X:Cx}{k n:Nat}{x:Str}{F:List D->aw->ak D}{a:Expr}{es:List Expr}{fr:MA}{pos px:Pos}
theorem Dj (h:dC X.prog X.w X.K X.mg X.base p k x n F) (hr:fX k X.A) (hg:Gl X x) (ha:PA X (a::es) (mv p fr)) (hdb:(x == ("__debug__" : Str))=false) (he:starEach (a::es) X.env=(false,eval a X.env)::starEach es X.env) (hpl:(backTo pos (starEach es X.env)).any (·.1)=false) :
  PE X (.Call (.Name x px) (a::es) [] pos) (tD p (aL F fr)):=by
 obtain ⟨f,fd,ps,h1,h2,h3,h4⟩:=h.fn
 refine (sy (dvs:=[]) (E:=E0) h4 hr hg h1 h2 h3 .nil Ae ha hdb he hpl).weak fun σ H Q ⟨α,ρ,μ,S,R,P⟩=>⟨α,ρ,μ,S,R,(aH.bind P).imp fun ds μ1 H1 α1 X1 S1 P1 vs rv=>?_⟩
 show Ce p n F (vs++[]) H1 Q E0
 rw [Mg]
 refine ⟨?_,α1,ds,μ1,S1,rv,P1⟩
 by_cases hl:ds.length=n
 ·rw [rv.length];exact hl
 ·rw [h.len ds μ1 hl] at P1;exact P1.elim
end
theorem jt {K:W.Frag}{H:Hp}{α:List Addr}{ds:List D}{vs:List V} (r:Reps K H α ds vs) (m:Nat):dD K H α (ds.map some++List.replicate m none) (vs.map some++List.replicate m none):=by
 refine ⟨by simp [r.length],fun i d h=>?_⟩
 by_cases hi:i<ds.length
 ·rw [Mr (by simpa using hi), Ms] at h
  cases e:ds[i]? with
  | none=>rw [e] at h;cases h
  | some x=>
   rw [e] at h;cases h
   obtain ⟨v,hv,rv⟩:=r.get e
   refine ⟨v,?_,rv⟩
   rw [Mr (by simp [r.length,hi]),Ms,hv];rfl
 ·rw [Mp (by simpa using hi), Mq] at h
  split at h <;> cases h
theorem Ic {P:Program}{w:World}{K:W.Frag}{mg:Str->Option Value}{base:Heap}{p:Pa}{k n:Nat}{x qual:Str}{st:Stmt}{f:Addr}{fd:FuncData}{N ps:List Str}{fb:MS}
  (F:gT K x qual st f fd) (S:aU N ps (av st)) (hn:ps.length=n) (hm:mg x=some (.ref f)) (hb:gP K fd ps [])
  (body : ∀ (cdv : Value) (A : Around) (outer : List Env) (s : Shared) (H : Hp) (E : XK), fX k (A.deeper (envOfC qual (av st) s.heap.objs.size f cdv)) ->
   iU (oJ vQ P w K mg base N qual (av st) f cdv A outer s H E).nox (bR st) (gU p fb)):dC P w K mg base p (k+1) x n (ic n N.length fb):=by
 refine ⟨fun ds μ h=>by unfold ic;rw [Lq h],f,fd,ps,hm,F.kp,hb,?_⟩
 refine F.ok S (fun vs H Q E h=>h.1.trans hn.symm) fun cdv A outer s H vs Q E hr h=>?_
 refine ⟨_,body cdv A outer s H E hr,?_⟩
 obtain ⟨hl,α,ds,μ,S1,R1,P1⟩:=h
 unfold ic at P1
 have hd:ds.length=n:=by rw [<- R1.length];exact hl
 rw [Lp hd] at P1
 have P2:=ot S1 P1
 unfold start
 rw [hl]
 refine ⟨α,_,μ,S1,jt R1 _,?_⟩
 cases e:fb (ds.map some++List.replicate (N.length - n) none) μ with
 | ret d μ'=>rw [e] at P2;exact fun H' α' v x s r=>P2 H' α' x s v r
 | next ρ μ'=>rw [e] at P2;exact fun H' α' σ' x s r=>P2 H' α' x s .non (bu.mpr rfl)
 | exc x μ'=>rw [e] at P2;exact P2
 | brk ρ μ'=>rw [e] at P2;exact P2.elim
 | cnt ρ μ'=>rw [e] at P2;exact P2.elim
 | bad=>rw [e] at P2;exact P2.elim
end L2
namespace L2
open PySem PySem.Spec PyProof.Rows RS
section
variable (K:W.Frag) (H:Hp)
mutual
def mw:PyData->V->Prop
 | .none,v=>v=.non
 | .bool b,v=>v=.bl b
 | .int i,v=>v=.int i
 | .str x,v=>v=.str x
 | .tuple xs,v=>∃ a vs,v=.ref a/\gy K H a vs/\RdPs xs vs
 | .list xs,v=>∃ a vs,v=.ref a/\f7 K H a vs/\RdPs xs vs
 | .dict _,_=>False
def RdPs:List PyData->List V->Prop
 | [],vs=>vs=[]
 | x::xs,vs=>∃ v r,vs=v::r/\mw x v/\RdPs xs r
end
end
section
variable {X:Cx}{pins:List (Addr × Obj)}{σ:St}{H:Hp}{s:Shared}
mutual
theorem dJ (I:aV X pins σ H s):∀ (d:PyData) (x:V) (v:Value),mw X.K H d x->bL x v->∃ as,Reads s.heap v d as
 | .none,_,_,h,r=>by simp only [mw] at h;subst h;cases r;exact ⟨_,.none⟩
 | .bool b,_,_,h,r=>by simp only [mw] at h;subst h;cases r;exact ⟨_,.bool b⟩
 | .int b,_,_,h,r=>by simp only [mw] at h;subst h;obtain ⟨t,rfl⟩:=r;exact ⟨_,.int b t⟩
 | .str b,_,_,h,r=>by simp only [mw] at h;subst h;obtain ⟨t,rfl⟩:=r;exact ⟨_,.str b t⟩
 | .tuple xs,_,_,h,r=>by
  simp only [mw] at h
  obtain ⟨a,vs,rfl,h1,h2⟩:=h
  cases r
  obtain ⟨its,rv,⟨o,e1,e2,n,e3⟩,_⟩:=I.tuple h1
  obtain ⟨as,q⟩:=readsAll_of I xs vs its h2 rv
  exact ⟨_,.tuple e1 e2 e3 (by simpa using q)⟩
 | .list xs,_,_,h,r=>by
  simp only [mw] at h
  obtain ⟨a,vs,rfl,h1,h2⟩:=h
  cases r
  obtain ⟨its,rv,⟨o,n,e1,e2,_,e3⟩,_⟩:=I.list h1
  obtain ⟨as,q⟩:=readsAll_of I xs vs its h2 rv
  exact ⟨_,.list e1 e2 e3 (by simpa using q)⟩
 | .dict _,_,_,h,_=>by simp only [mw] at h
theorem readsAll_of (I:aV X pins σ H s):∀ (ds:List PyData) (xs:List V) (vs:List Value),RdPs X.K H ds xs->ba xs vs->∃ as,ReadsAll s.heap vs ds as
 | [],_,_,h,r=>by simp only [RdPs] at h;subst h;cases r;exact ⟨_,.nil⟩
 | d::ds,_,_,h,r=>by
  simp only [RdPs] at h
  obtain ⟨v,q,rfl,h1,h2⟩:=h
  cases r with
  | cons r rr=>
   obtain ⟨as,g1⟩:=dJ I d _ _ h1 r
   obtain ⟨bs,g2⟩:=readsAll_of I ds _ _ h2 rr
   exact ⟨_,.cons g1 g2⟩
end
def gK (d:PyData):Bool:=d.canLay0 && decide (d.depth<=60)
def zN (K:W.Frag) (neg:Bool):R2:=fun x y H Q=>∃ a b,mw K H a x/\mw K H b y/\gK a=true/\gK b=true/\Q (.bl (if neg then !PyData.eqv a b else PyData.eqv a b)) H
theorem mP {a b:PyData}{A:Around} (ha:gK a=true) (hu:A.units+64<cLine):A.units+min a.depth b.depth<cLine:=by
 unfold gK at ha
 simp only [MY,Pe] at ha
 have:=Nat.min_le_left a.depth b.depth
 omega
theorem cj {a:PyData} (ha:gK a=true):a.canLay0=true:=by
 unfold gK at ha
 simp only [MY,Pe] at ha
 exact ha.1
theorem pZ {a:PyData} (ha:gK a=true):a.depth<=60:=by
 unfold gK at ha
 simp only [MY,Pe] at ha
 exact ha.2
theorem G2 (hu:X.A.units+64<cLine):gS X (compareOp .Eq) (zN X.K false):=by
 intro pins s σ H x y v u Q I rx ry h
 obtain ⟨a,b,h1,h2,h3,h4,q⟩:=h
 obtain ⟨as,r1⟩:=dJ I a x v h1 rx
 obtain ⟨bs,r2⟩:=dJ I b y u h2 ry
 exact SeqAt.compareEq_reads r1 r2 (cj h3) (cj h4) (mP h3 hu) ⟨.bl _,H,I,rfl,q⟩
theorem GX (hu:X.A.units+64<cLine):gS X (compareOp .NotEq) (zN X.K true):=by
 intro pins s σ H x y v u Q I rx ry h
 obtain ⟨a,b,h1,h2,h3,h4,q⟩:=h
 obtain ⟨as,r1⟩:=dJ I a x v h1 rx
 obtain ⟨bs,r2⟩:=dJ I b y u h2 ry
 exact SeqAt.compareNe_reads r1 r2 (cj h3) (cj h4) (mP h3 hu) ⟨.bl _,H,I,rfl,q⟩
def zM (K:W.Frag) (neg:Bool):R2:=fun x y H Q=>∃ a b xs,mw K H a x/\mw K H b y/\(b=.list xs\/b=.tuple xs)/\gK a=true/\gK b=true/\Q (.bl (if neg then !(xs.any fun y=>PyData.eqv y a) else xs.any fun y=>PyData.eqv y a)) H
theorem G1 (hu:X.A.units+64<cLine):gS X (compareOp .In) (zM X.K false):=by
 intro pins s σ H x y v u Q I rx ry h
 obtain ⟨a,b,xs,h1,h2,hb,h3,h4,q⟩:=h
 obtain ⟨as,r1⟩:=dJ I a x v h1 rx
 obtain ⟨bs,r2⟩:=dJ I b y u h2 ry
 have hd:=pZ h3
 rcases hb with rfl|rfl
 ·refine SeqAt.in_list_reads r2 r1 (by simpa [PyData.canLay0] using cj h4) (cj h3) ?_ ⟨.bl _, H, I, rfl, q⟩
  have:=MF (PyData.depthAll xs) a.depth
  omega
 ·refine SeqAt.in_tuple_reads r2 r1 (by simpa [PyData.canLay0] using cj h4) (cj h3) ?_ ⟨.bl _, H, I, rfl, q⟩
  have:=MF (PyData.depthAll xs) a.depth
  omega
theorem yQ (hu:X.A.units+64<cLine):gS X (compareOp .NotIn) (zM X.K true):=by
 intro pins s σ H x y v u Q I rx ry h
 obtain ⟨a,b,xs,h1,h2,hb,h3,h4,q⟩:=h
 obtain ⟨as,r1⟩:=dJ I a x v h1 rx
 obtain ⟨bs,r2⟩:=dJ I b y u h2 ry
 have hd:=pZ h3
 rcases hb with rfl|rfl
 ·refine SeqAt.notIn_list_reads r2 r1 (by simpa [PyData.canLay0] using cj h4) (cj h3) ?_ ⟨.bl _, H, I, rfl, q⟩
  have:=MF (PyData.depthAll xs) a.depth
  omega
 ·refine SeqAt.notIn_tuple_reads r2 r1 (by simpa [PyData.canLay0] using cj h4) (cj h3) ?_ ⟨.bl _, H, I, rfl, q⟩
  have:=MF (PyData.depthAll xs) a.depth
  omega
end
mutual
def vN (μ:aw):D->Option PyData
 | .non=>some .none
 | .bl b=>some (.bool b)
 | .int i=>some (.int i)
 | .str x=>some (.str x)
 | .tup xs=>(toPs μ xs).map .tuple
 | .frz xs=>(toPs μ xs).map .list
 | .obj _=>none
def toPs (μ:aw):List D->Option (List PyData)
 | []=>some []
 | x::xs=>(vN μ x).bind fun a=>(toPs μ xs).map fun r=>a::r
end
def zI (μ:aw) (d:D):Option PyData:=match d with
 | .obj n=>match μ[n]? with
  | some (.lst xs)=>(toPs μ xs).map .list
  | _=>none
 | d=>vN μ d
def iH (μ:aw):List D->Option (List PyData)
 | []=>some []
 | x::xs=>(zI μ x).bind fun a=>(iH μ xs).map fun r=>a::r
def tI (μ:aw) (d:D):Option PyData:=match d with
 | .obj n=>match μ[n]? with
  | some (.lst xs)=>(iH μ xs).map .list
  | _=>none
 | .tup xs=>(iH μ xs).map .tuple
 | d=>vN μ d
section
variable {K:W.Frag}{w:World}{H:Hp}{α:List Addr}{μ:aw}
mutual
theorem gY:∀ {d:D}{q:PyData}{v:V},vN μ d=some q->aQ K H α d v->mw K H q v
 | .non,_,_,h,r=>by simp only [vN] at h;cases h;simp only [mw];exact bu.mp r
 | .bl b,_,_,h,r=>by simp only [vN] at h;cases h;simp only [mw];exact aT.mp r
 | .int b,_,_,h,r=>by simp only [vN] at h;cases h;simp only [mw];exact ar.mp r
 | .str b,_,_,h,r=>by simp only [vN] at h;cases h;simp only [mw];exact bb.mp r
 | .tup xs,_,_,h,r=>by
  simp only [vN] at h
  cases e:toPs μ xs with
  | none=>rw [e] at h;cases h
  | some ys=>
   rw [e] at h;cases h
   obtain ⟨a,vs,rfl,h1,h2⟩:=aO.mp r
   simp only [mw]
   exact ⟨a,vs,rfl,h1,toPs_ok e h2⟩
 | .frz xs,_,_,h,r=>by
  simp only [vN] at h
  cases e:toPs μ xs with
  | none=>rw [e] at h;cases h
  | some ys=>
   rw [e] at h;cases h
   obtain ⟨a,vs,rfl,h1,h2⟩:=bf.mp r
   simp only [mw]
   exact ⟨a,vs,rfl,h1.sq,toPs_ok e h2⟩
 | .obj n,_,_,h,r=>by simp only [vN] at h;cases h
theorem toPs_ok:∀ {ds:List D}{qs:List PyData}{vs:List V},toPs μ ds=some qs->Reps K H α ds vs->RdPs K H qs vs
 | [],_,_,h,r=>by simp only [toPs] at h;cases h;simp only [RdPs];simp only [Reps] at r;exact r
 | x::xs,_,_,h,r=>by
  simp only [toPs] at h
  cases e1:vN μ x with
  | none=>rw [e1] at h;cases h
  | some a=>
   cases e2:toPs μ xs with
   | none=>rw [e1,e2] at h;cases h
   | some ys=>
    rw [e1,e2] at h;cases h
    simp only [Reps] at r
    obtain ⟨v,vr,rfl,r1,r2⟩:=r
    simp only [RdPs]
    exact ⟨v,vr,rfl,gY e1 r1,toPs_ok e2 r2⟩
end
theorem CN {d:D}{q:PyData}{v:V} (S:gL K w H α μ) (h:zI μ d=some q) (r:aQ K H α d v):mw K H q v:=by
 cases d with
 | obj n=>
  unfold zI at h
  dsimp only at h
  split at h
  ·rename_i xs hx
   obtain ⟨a,ea,us,hH,rr⟩:=S.at hx
   obtain ⟨a',rfl,ea'⟩:=aR.mp r
   rw [ea] at ea';cases ea'
   cases e:toPs μ xs with
   | none=>rw [e] at h;cases h
   | some ys=>
    rw [e] at h;cases h
    simp only [mw]
    exact ⟨a,us,rfl,f7.of hH,toPs_ok e rr⟩
  ·cases h
 | non=>exact gY h r
 | bl b=>exact gY h r
 | int i=>exact gY h r
 | str x=>exact gY h r
 | tup xs=>exact gY h r
 | frz xs=>exact gY h r
theorem pq (S:gL K w H α μ):∀ {ds:List D}{qs:List PyData}{vs:List V},iH μ ds=some qs->Reps K H α ds vs->RdPs K H qs vs
 | [],_,_,h,r=>by simp only [iH] at h;cases h;simp only [RdPs];simp only [Reps] at r;exact r
 | x::xs,_,_,h,r=>by
  simp only [iH] at h
  cases e1:zI μ x with
  | none=>rw [e1] at h;cases h
  | some a=>
   cases e2:iH μ xs with
   | none=>rw [e1,e2] at h;cases h
   | some ys=>
    rw [e1,e2] at h;cases h
    simp only [Reps] at r
    obtain ⟨v,vr,rfl,r1,r2⟩:=r
    simp only [RdPs]
    exact ⟨v,vr,rfl,CN S e1 r1,pq S e2 r2⟩
theorem mD {d:D}{q:PyData}{v:V} (S:gL K w H α μ) (h:tI μ d=some q) (r:aQ K H α d v):mw K H q v:=by
 cases d with
 | obj n=>
  unfold tI at h
  dsimp only at h
  split at h
  ·rename_i xs hx
   obtain ⟨a,ea,us,hH,rr⟩:=S.at hx
   obtain ⟨a',rfl,ea'⟩:=aR.mp r
   rw [ea] at ea';cases ea'
   cases e:iH μ xs with
   | none=>rw [e] at h;cases h
   | some ys=>
    rw [e] at h;cases h
    simp only [mw]
    exact ⟨a,us,rfl,f7.of hH,pq S e rr⟩
  ·cases h
 | tup xs=>
  unfold tI at h
  dsimp only at h
  cases e:iH μ xs with
  | none=>rw [e] at h;cases h
  | some ys=>
   rw [e] at h;cases h
   obtain ⟨a,vs,rfl,h1,h2⟩:=aO.mp r
   simp only [mw]
   exact ⟨a,vs,rfl,h1,pq S e h2⟩
 | non=>exact gY h r
 | bl b=>exact gY h r
 | int i=>exact gY h r
 | str x=>exact gY h r
 | frz xs=>exact gY h r
end
def jH (neg:Bool) (a b:D) (μ:aw):ak D:=match tI μ a,tI μ b with
 | some p,some q=>if gK p=true/\gK q=true then .ok (.bl (if neg then !PyData.eqv p q else PyData.eqv p q)) μ else .bad
 | _,_=>.bad
def v9:PyData->Option (List PyData)
 | .list xs=>some xs
 | .tuple xs=>some xs
 | _=>none
def vJ (neg:Bool) (a b:D) (μ:aw):ak D:=match tI μ a,tI μ b with
 | some p,some q=>match v9 q with
  | some xs=>if gK p=true/\gK q=true then .ok (.bl (if neg then !(xs.any fun y=>PyData.eqv y p) else xs.any fun y=>PyData.eqv y p)) μ else .bad
  | none=>.bad
 | _,_=>.bad
theorem EX {p:Pa}{neg:Bool}:nq p (jH neg) (zN p.K neg):=by
 intro a b v y H α μ Q S ra rb P
 unfold jH at P
 split at P
 ·rename_i x z hx hz
  split at P
  ·rename_i hf
   exact ⟨x,z,mD S hx ra,mD S hz rb,hf.1,hf.2,P.now S _ (aT.mpr rfl)⟩
  ·exact P.elim
 ·exact P.elim
theorem EW {p:Pa}{neg:Bool}:nq p (vJ neg) (zM p.K neg):=by
 intro a b v y H α μ Q S ra rb P
 unfold vJ at P
 split at P
 ·rename_i x z hx hz
  split at P
  ·rename_i xs hxs
   split at P
   ·rename_i hf
    refine ⟨x,z,xs,mD S hx ra,mD S hz rb,?_,hf.1,hf.2,P.now S _ (aT.mpr rfl)⟩
    cases z <;> first | (cases hxs;exact .inl rfl) | (cases hxs;exact .inr rfl) | (cases hxs)
   ·exact P.elim
  ·exact P.elim
 ·exact P.elim
def D.isNon:D->Bool
 | .non=>true
 | _=>false
def vX (neg:Bool) (a b:D) (μ:aw):ak D:=match b with
 | .non=>.ok (.bl (if neg then !a.isNon else a.isNon)) μ
 | _=>.bad
theorem xR {K:W.Frag}{H:Hp}{α:List Addr}{a:D}{v:V} (r:aQ K H α a v):decide (v=.non)=a.isNon:=by
 cases a with
 | non=>rw [bu.mp r];rfl
 | bl b=>rw [aT.mp r];rfl
 | int b=>rw [ar.mp r];rfl
 | str b=>rw [bb.mp r];rfl
 | tup xs=>obtain ⟨a,vs,rfl,_⟩:=aO.mp r;rfl
 | frz xs=>obtain ⟨a,vs,rfl,_⟩:=bf.mp r;rfl
 | obj xs=>obtain ⟨a,rfl,_⟩:=aR.mp r;rfl
theorem He {p:Pa}:nq p (vX false) (fun x y H Q=>y=.non/\Q (.bl (decide (x=.non))) H):=by
 intro a b v y H α μ Q S ra rb P
 cases b with
 | non=>exact ⟨bu.mp rb,P.now S _ (aT.mpr (by rw [xR ra];rfl))⟩
 | bl b=>exact P.elim
 | int b=>exact P.elim
 | str b=>exact P.elim
 | tup xs=>exact P.elim
 | frz xs=>exact P.elim
 | obj xs=>exact P.elim
theorem DU {p:Pa}:nq p (vX true) (fun x y H Q=>y=.non/\Q (.bl (!decide (x=.non))) H):=by
 intro a b v y H α μ Q S ra rb P
 cases b with
 | non=>exact ⟨bu.mp rb,P.now S _ (aT.mpr (by rw [xR ra];cases a <;> rfl))⟩
 | bl b=>exact P.elim
 | int b=>exact P.elim
 | str b=>exact P.elim
 | tup xs=>exact P.elim
 | frz xs=>exact P.elim
 | obj xs=>exact P.elim
end L2
namespace L2
open PySem PySem.Spec PyProof.Rows RS
open PySem.SeqAt
open PySem.AutoSeq1 (wpAny_loadPart')
open PySem.MeetsSeq PySem.MeetsSeq2 PySem.MeetsSeq3
def Cw (op:CmpOp) (A:Around) (s:Shared) (y x:Value) (k:Bool):Prop:=∀ (prog:Program) (w:World) (E:Value->Shared->Prop) (Q:Value->Shared->Prop),Q (.bool k) s->wpAny (model prog w) A (richCompare op y x) Q E s
def fG (t:Bool):List (Bool × Bool)->Bool
 | []=>t
 | (e,k)::r=>if e=true then fG t r else k
def eB (op:CmpOp) (A:Around) (s:Shared):List Value->List Value->List (Bool × Bool)->Prop
 | [],_,[]=>True
 | _,[],[]=>True
 | y::ys,x::xs,(e,k)::r=>EqAt A s y x e/\(e=false->Cw op A s y x k)/\(e=true->eB op A s ys xs r)
 | _,_,_=>False
theorem sO (l b:Addr) (items items2:Array Value) (n n2:Nat) (dd dd2:Option Addr) (sl sl2:Array (Option Value)) (eks:List (Bool × Bool)) :
  Meets (Builtin.«tuple.__lt__» ⟨[.ref l,.ref b],[]⟩)
   (fun A R s => s.heap.get? l = some { cls := .type "tuple", dict := dd, data := .seq items n, slots := sl } /\ s.heap.get? b = some { cls := .type "tuple", dict := dd2, data := .seq items2 n2, slots := sl2 } /\
    eB .Lt A.in1 s items.toList items2.toList eks/\R (.ok (.ret (.bool (fG (decide (items.size<items2.size)) eks)))) s):=
 .of_wp fun prog w A R s h=>by
  obtain ⟨hp,g,d,tk,os⟩:=s;obtain ⟨hl,hb,hc,h⟩:=h
  have f2:=Pf
  wp_walk using wpAny_loadPart' hl,wpAny_loadPart' hb,Oo _ (fun rest b s'=>b.1=none/\s'=⟨hp,g,d,tk,os⟩/\∃ (vs ws:List Value) (eks':List (Bool × Bool)),rest=vs.zip ws /\
   eB .Lt A.in1 ⟨hp,g,d,tk,os⟩ vs ws eks'/\R (.ok (.ret (.bool (fG (decide (items.size<items2.size)) eks')))) ⟨hp,g,d,tk,os⟩) _
  case turn=>
   rintro ⟨y,x⟩ rest b s' ⟨hb',rfl,vs,ws,eks',hz,hci,hR⟩
   cases vs with
   | nil=>rw [Pg] at hz;cases hz
   | cons a vs=>
    cases ws with
    | nil=>rw [Ph] at hz;cases hz
    | cons c ws=>
     rw [Pi] at hz
     injection hz with hyx hrest
     injection hyx with hy hx
     subst hy hx
     cases eks' with
     | nil=>simp only [eB] at hci
     | cons ek eks'=>
      obtain ⟨e,k⟩:=ek
      simp only [eB] at hci
      obtain ⟨he,hk,hci⟩:=hci
      refine LV (he prog w _ _ ?_)
      cases e with
      | true=>
       have hR':R (.ok (.ret (.bool (fG (decide (items.size<items2.size)) eks')))) ⟨hp,g,d,tk,os⟩:=hR
       wp_walk
       exact ⟨rfl,rfl,_,_,_,hrest,hci rfl,hR'⟩
      | false=>
       have hR':R (.ok (.ret (.bool k))) ⟨hp,g,d,tk,os⟩:=hR
       have hri:=hk rfl prog w
       wp_walk using hri
       exact ⟨_,rfl,by simpa using hR'⟩
  case fin=>
   rintro ⟨b1,b2⟩ s' ⟨hb',rfl,vs,ws,eks',hz,hci,hR⟩
   simp only at hb'
   subst hb'
   have hv:eks'=[]:=by
    cases vs with
    | nil=>cases eks' with
     | nil=>rfl
     | cons _ _=>simp only [eB] at hci
    | cons a vs=>cases ws with
     | nil=>cases eks' with
      | nil=>rfl
      | cons _ _=>simp only [eB] at hci
     | cons c ws=>rw [Pi] at hz;cases hz
   subst hv
   have hR':R (.ok (.ret (.bool (decide (items.size<items2.size))))) ⟨hp,g,d,tk,os⟩:=hR
   wp_walk
   exact ⟨_,rfl,by simpa [Builtin.Tuple.tupleCompareSizes] using hR'⟩
  case h=>
   exact ⟨rfl,rfl,items.toList,items2.toList,eks,rfl,hc,h⟩
theorem Hm {prog:Program}{w:World}{A:Around}{E:Value->Shared->Prop}{s:Shared}{l b:Addr}{items items2:Array Value}{eks:List (Bool × Bool)}{Q:Value->Shared->Prop} (hl:IsTup s.heap l items) (hb:IsTup s.heap b items2) (hc:eB .Lt A.in1 s items.toList items2.toList eks)
  (hu:A.units<cLine) (h:Q (.bool (fG (decide (items.size<items2.size)) eks)) s):wpAny (model prog w) A (richCompare .Lt (.ref l) (.ref b)) Q E s:=by
 obtain ⟨⟨cls,dd,data,sl⟩,ho,hc',n,hd⟩:=id hl
 obtain ⟨⟨cls2,dd2,data2,sl2⟩,ho2,hc2,n2,hd2⟩:=id hb
 simp only at hc' hd hc2 hd2
 subst hc' hd hc2 hd2
 exact Pj (op:=.Lt) ⟨_,ho,rfl⟩ ⟨_,ho2,rfl⟩ PySem.F.slot_tuple_lt PySem.F.entry_tuple_lt (PySem.F.args_tuple_lt_2 _ _) (sO l b items items2 n n2 dd dd2 sl sl2 eks)
  ⟨ho,ho2,hc,show Value.bool (fG (decide (items.size<items2.size)) eks)≠Value.notImplemented/\Q (.bool (fG (decide (items.size<items2.size)) eks)) s from ⟨(fun x=>nomatch x),h⟩⟩ hu
theorem sP (l b:Addr) (items items2:Array Value) (n n2:Nat) (dd dd2:Option Addr) (sl sl2:Array (Option Value)) (eks:List (Bool × Bool)) :
  Meets (Builtin.«tuple.__le__» ⟨[.ref l,.ref b],[]⟩)
   (fun A R s => s.heap.get? l = some { cls := .type "tuple", dict := dd, data := .seq items n, slots := sl } /\ s.heap.get? b = some { cls := .type "tuple", dict := dd2, data := .seq items2 n2, slots := sl2 } /\
    eB .LtE A.in1 s items.toList items2.toList eks/\R (.ok (.ret (.bool (fG (decide (items.size<=items2.size)) eks)))) s):=
 .of_wp fun prog w A R s h=>by
  obtain ⟨hp,g,d,tk,os⟩:=s;obtain ⟨hl,hb,hc,h⟩:=h
  have f2:=Pf
  wp_walk using wpAny_loadPart' hl,wpAny_loadPart' hb,Oo _ (fun rest b s'=>b.1=none/\s'=⟨hp,g,d,tk,os⟩/\∃ (vs ws:List Value) (eks':List (Bool × Bool)),rest=vs.zip ws /\
   eB .LtE A.in1 ⟨hp,g,d,tk,os⟩ vs ws eks'/\R (.ok (.ret (.bool (fG (decide (items.size<=items2.size)) eks')))) ⟨hp,g,d,tk,os⟩) _
  case turn=>
   rintro ⟨y,x⟩ rest b s' ⟨hb',rfl,vs,ws,eks',hz,hci,hR⟩
   cases vs with
   | nil=>rw [Pg] at hz;cases hz
   | cons a vs=>
    cases ws with
    | nil=>rw [Ph] at hz;cases hz
    | cons c ws=>
     rw [Pi] at hz
     injection hz with hyx hrest
     injection hyx with hy hx
     subst hy hx
     cases eks' with
     | nil=>simp only [eB] at hci
     | cons ek eks'=>
      obtain ⟨e,k⟩:=ek
      simp only [eB] at hci
      obtain ⟨he,hk,hci⟩:=hci
      refine LV (he prog w _ _ ?_)
      cases e with
      | true=>
       have hR':R (.ok (.ret (.bool (fG (decide (items.size<=items2.size)) eks')))) ⟨hp,g,d,tk,os⟩:=hR
       wp_walk
       exact ⟨rfl,rfl,_,_,_,hrest,hci rfl,hR'⟩
      | false=>
       have hR':R (.ok (.ret (.bool k))) ⟨hp,g,d,tk,os⟩:=hR
       have hri:=hk rfl prog w
       wp_walk using hri
       exact ⟨_,rfl,by simpa using hR'⟩
  case fin=>
   rintro ⟨b1,b2⟩ s' ⟨hb',rfl,vs,ws,eks',hz,hci,hR⟩
   simp only at hb'
   subst hb'
   have hv:eks'=[]:=by
    cases vs with
    | nil=>cases eks' with
     | nil=>rfl
     | cons _ _=>simp only [eB] at hci
    | cons a vs=>cases ws with
     | nil=>cases eks' with
      | nil=>rfl
      | cons _ _=>simp only [eB] at hci
     | cons c ws=>rw [Pi] at hz;cases hz
   subst hv
   have hR':R (.ok (.ret (.bool (decide (items.size<=items2.size))))) ⟨hp,g,d,tk,os⟩:=hR
   wp_walk
   exact ⟨_,rfl,by simpa [Builtin.Tuple.tupleCompareSizes] using hR'⟩
  case h=>
   exact ⟨rfl,rfl,items.toList,items2.toList,eks,rfl,hc,h⟩
theorem Hr {prog:Program}{w:World}{A:Around}{E:Value->Shared->Prop}{s:Shared}{l b:Addr}{items items2:Array Value}{eks:List (Bool × Bool)}{Q:Value->Shared->Prop} (hl:IsTup s.heap l items) (hb:IsTup s.heap b items2) (hc:eB .LtE A.in1 s items.toList items2.toList eks)
  (hu:A.units<cLine) (h:Q (.bool (fG (decide (items.size<=items2.size)) eks)) s):wpAny (model prog w) A (richCompare .LtE (.ref l) (.ref b)) Q E s:=by
 obtain ⟨⟨cls,dd,data,sl⟩,ho,hc',n,hd⟩:=id hl
 obtain ⟨⟨cls2,dd2,data2,sl2⟩,ho2,hc2,n2,hd2⟩:=id hb
 simp only at hc' hd hc2 hd2
 subst hc' hd hc2 hd2
 exact Pj (op:=.LtE) ⟨_,ho,rfl⟩ ⟨_,ho2,rfl⟩ PySem.F.slot_tuple_le PySem.F.entry_tuple_le (PySem.F.args_tuple_le_2 _ _) (sP l b items items2 n n2 dd dd2 sl sl2 eks)
  ⟨ho,ho2,hc,show Value.bool (fG (decide (items.size<=items2.size)) eks)≠Value.notImplemented/\Q (.bool (fG (decide (items.size<=items2.size)) eks)) s from ⟨(fun x=>nomatch x),h⟩⟩ hu
theorem sQ (l b:Addr) (items items2:Array Value) (n n2:Nat) (dd dd2:Option Addr) (sl sl2:Array (Option Value)) (eks:List (Bool × Bool)) :
  Meets (Builtin.«tuple.__gt__» ⟨[.ref l,.ref b],[]⟩)
   (fun A R s => s.heap.get? l = some { cls := .type "tuple", dict := dd, data := .seq items n, slots := sl } /\ s.heap.get? b = some { cls := .type "tuple", dict := dd2, data := .seq items2 n2, slots := sl2 } /\
    eB .Gt A.in1 s items.toList items2.toList eks/\R (.ok (.ret (.bool (fG (decide (items.size > items2.size)) eks)))) s):=
 .of_wp fun prog w A R s h=>by
  obtain ⟨hp,g,d,tk,os⟩:=s;obtain ⟨hl,hb,hc,h⟩:=h
  have f2:=Pf
  wp_walk using wpAny_loadPart' hl,wpAny_loadPart' hb,Oo _ (fun rest b s'=>b.1=none/\s'=⟨hp,g,d,tk,os⟩/\∃ (vs ws:List Value) (eks':List (Bool × Bool)),rest=vs.zip ws /\
   eB .Gt A.in1 ⟨hp,g,d,tk,os⟩ vs ws eks'/\R (.ok (.ret (.bool (fG (decide (items.size > items2.size)) eks')))) ⟨hp,g,d,tk,os⟩) _
  case turn=>
   rintro ⟨y,x⟩ rest b s' ⟨hb',rfl,vs,ws,eks',hz,hci,hR⟩
   cases vs with
   | nil=>rw [Pg] at hz;cases hz
   | cons a vs=>
    cases ws with
    | nil=>rw [Ph] at hz;cases hz
    | cons c ws=>
     rw [Pi] at hz
     injection hz with hyx hrest
     injection hyx with hy hx
     subst hy hx
     cases eks' with
     | nil=>simp only [eB] at hci
     | cons ek eks'=>
      obtain ⟨e,k⟩:=ek
      simp only [eB] at hci
      obtain ⟨he,hk,hci⟩:=hci
      refine LV (he prog w _ _ ?_)
      cases e with
      | true=>
       have hR':R (.ok (.ret (.bool (fG (decide (items.size > items2.size)) eks')))) ⟨hp,g,d,tk,os⟩:=hR
       wp_walk
       exact ⟨rfl,rfl,_,_,_,hrest,hci rfl,hR'⟩
      | false=>
       have hR':R (.ok (.ret (.bool k))) ⟨hp,g,d,tk,os⟩:=hR
       have hri:=hk rfl prog w
       wp_walk using hri
       exact ⟨_,rfl,by simpa using hR'⟩
  case fin=>
   rintro ⟨b1,b2⟩ s' ⟨hb',rfl,vs,ws,eks',hz,hci,hR⟩
   simp only at hb'
   subst hb'
   have hv:eks'=[]:=by
    cases vs with
    | nil=>cases eks' with
     | nil=>rfl
     | cons _ _=>simp only [eB] at hci
    | cons a vs=>cases ws with
     | nil=>cases eks' with
      | nil=>rfl
      | cons _ _=>simp only [eB] at hci
     | cons c ws=>rw [Pi] at hz;cases hz
   subst hv
   have hR':R (.ok (.ret (.bool (decide (items.size > items2.size))))) ⟨hp,g,d,tk,os⟩:=hR
   wp_walk
   exact ⟨_,rfl,by simpa [Builtin.Tuple.tupleCompareSizes] using hR'⟩
  case h=>
   exact ⟨rfl,rfl,items.toList,items2.toList,eks,rfl,hc,h⟩
theorem gk {prog:Program}{w:World}{A:Around}{E:Value->Shared->Prop}{s:Shared}{l b:Addr}{items items2:Array Value}{eks:List (Bool × Bool)}{Q:Value->Shared->Prop} (hl:IsTup s.heap l items) (hb:IsTup s.heap b items2) (hc:eB .Gt A.in1 s items.toList items2.toList eks)
  (hu:A.units<cLine) (h:Q (.bool (fG (decide (items.size > items2.size)) eks)) s):wpAny (model prog w) A (richCompare .Gt (.ref l) (.ref b)) Q E s:=by
 obtain ⟨⟨cls,dd,data,sl⟩,ho,hc',n,hd⟩:=id hl
 obtain ⟨⟨cls2,dd2,data2,sl2⟩,ho2,hc2,n2,hd2⟩:=id hb
 simp only at hc' hd hc2 hd2
 subst hc' hd hc2 hd2
 exact Pj (op:=.Gt) ⟨_,ho,rfl⟩ ⟨_,ho2,rfl⟩ PySem.F.slot_tuple_gt PySem.F.entry_tuple_gt (PySem.F.args_tuple_gt_2 _ _) (sQ l b items items2 n n2 dd dd2 sl sl2 eks)
  ⟨ho,ho2,hc,show Value.bool (fG (decide (items.size > items2.size)) eks)≠Value.notImplemented/\Q (.bool (fG (decide (items.size > items2.size)) eks)) s from ⟨(fun x=>nomatch x),h⟩⟩ hu
theorem sR (l b:Addr) (items items2:Array Value) (n n2:Nat) (dd dd2:Option Addr) (sl sl2:Array (Option Value)) (eks:List (Bool × Bool)) :
  Meets (Builtin.«tuple.__ge__» ⟨[.ref l,.ref b],[]⟩)
   (fun A R s => s.heap.get? l = some { cls := .type "tuple", dict := dd, data := .seq items n, slots := sl } /\ s.heap.get? b = some { cls := .type "tuple", dict := dd2, data := .seq items2 n2, slots := sl2 } /\
    eB .GtE A.in1 s items.toList items2.toList eks/\R (.ok (.ret (.bool (fG (decide (items.size ≥ items2.size)) eks)))) s):=
 .of_wp fun prog w A R s h=>by
  obtain ⟨hp,g,d,tk,os⟩:=s;obtain ⟨hl,hb,hc,h⟩:=h
  have f2:=Pf
  wp_walk using wpAny_loadPart' hl,wpAny_loadPart' hb,Oo _ (fun rest b s'=>b.1=none/\s'=⟨hp,g,d,tk,os⟩/\∃ (vs ws:List Value) (eks':List (Bool × Bool)),rest=vs.zip ws /\
   eB .GtE A.in1 ⟨hp,g,d,tk,os⟩ vs ws eks'/\R (.ok (.ret (.bool (fG (decide (items.size ≥ items2.size)) eks')))) ⟨hp,g,d,tk,os⟩) _
  case turn=>
   rintro ⟨y,x⟩ rest b s' ⟨hb',rfl,vs,ws,eks',hz,hci,hR⟩
   cases vs with
   | nil=>rw [Pg] at hz;cases hz
   | cons a vs=>
    cases ws with
    | nil=>rw [Ph] at hz;cases hz
    | cons c ws=>
     rw [Pi] at hz
     injection hz with hyx hrest
     injection hyx with hy hx
     subst hy hx
     cases eks' with
     | nil=>simp only [eB] at hci
     | cons ek eks'=>
      obtain ⟨e,k⟩:=ek
      simp only [eB] at hci
      obtain ⟨he,hk,hci⟩:=hci
      refine LV (he prog w _ _ ?_)
      cases e with
      | true=>
       have hR':R (.ok (.ret (.bool (fG (decide (items.size ≥ items2.size)) eks')))) ⟨hp,g,d,tk,os⟩:=hR
       wp_walk
       exact ⟨rfl,rfl,_,_,_,hrest,hci rfl,hR'⟩
      | false=>
       have hR':R (.ok (.ret (.bool k))) ⟨hp,g,d,tk,os⟩:=hR
       have hri:=hk rfl prog w
       wp_walk using hri
       exact ⟨_,rfl,by simpa using hR'⟩
  case fin=>
   rintro ⟨b1,b2⟩ s' ⟨hb',rfl,vs,ws,eks',hz,hci,hR⟩
   simp only at hb'
   subst hb'
   have hv:eks'=[]:=by
    cases vs with
    | nil=>cases eks' with
     | nil=>rfl
     | cons _ _=>simp only [eB] at hci
    | cons a vs=>cases ws with
     | nil=>cases eks' with
      | nil=>rfl
      | cons _ _=>simp only [eB] at hci
     | cons c ws=>rw [Pi] at hz;cases hz
   subst hv
   have hR':R (.ok (.ret (.bool (decide (items.size ≥ items2.size))))) ⟨hp,g,d,tk,os⟩:=hR
   wp_walk
   exact ⟨_,rfl,by simpa [Builtin.Tuple.tupleCompareSizes] using hR'⟩
  case h=>
   exact ⟨rfl,rfl,items.toList,items2.toList,eks,rfl,hc,h⟩
theorem HN {prog:Program}{w:World}{A:Around}{E:Value->Shared->Prop}{s:Shared}{l b:Addr}{items items2:Array Value}{eks:List (Bool × Bool)}{Q:Value->Shared->Prop} (hl:IsTup s.heap l items) (hb:IsTup s.heap b items2) (hc:eB .GtE A.in1 s items.toList items2.toList eks)
  (hu:A.units<cLine) (h:Q (.bool (fG (decide (items.size ≥ items2.size)) eks)) s):wpAny (model prog w) A (richCompare .GtE (.ref l) (.ref b)) Q E s:=by
 obtain ⟨⟨cls,dd,data,sl⟩,ho,hc',n,hd⟩:=id hl
 obtain ⟨⟨cls2,dd2,data2,sl2⟩,ho2,hc2,n2,hd2⟩:=id hb
 simp only at hc' hd hc2 hd2
 subst hc' hd hc2 hd2
 exact Pj (op:=.GtE) ⟨_,ho,rfl⟩ ⟨_,ho2,rfl⟩ PySem.F.slot_tuple_ge PySem.F.entry_tuple_ge (PySem.F.args_tuple_ge_2 _ _) (sR l b items items2 n n2 dd dd2 sl sl2 eks)
  ⟨ho,ho2,hc,show Value.bool (fG (decide (items.size ≥ items2.size)) eks)≠Value.notImplemented/\Q (.bool (fG (decide (items.size ≥ items2.size)) eks)) s from ⟨(fun x=>nomatch x),h⟩⟩ hu
end L2
namespace L2
open PySem PySem.Spec PyProof.Rows RS
def cq:CmpOp->Int->Int->Bool
 | .Lt,i,j=>decide (i<j)
 | .LtE,i,j=>decide (i<=j)
 | .Gt,i,j=>decide (i > j)
 | .GtE,i,j=>decide (i ≥ j)
 | _,_,_=>false
mutual
def gf (op:CmpOp):PyData->PyData->Option Bool
 | .int i,.int j=>some (cq op i j)
 | .tuple xs,.tuple ys=>cmpPs op xs ys
 | _,_=>none
def cmpPs (op:CmpOp):List PyData->List PyData->Option Bool
 | [],ys=>some (cq op 0 ys.length)
 | _::xs,[]=>some (cq op (xs.length+1) 0)
 | x::xs,y::ys=>if PyData.eqv x y=true then cmpPs op xs ys else gf op x y
end
def qO:CmpOp->Bool
 | .Lt | .LtE | .Gt | .GtE=>true
 | _=>false
theorem Jp:∀ {op:CmpOp} (ho:qO op=true) {A:Around}{s:Shared} (a:Int) (t:Tok) (c:Int) (u:Tok),Cw op A s (.int a t) (.int c u) (cq op a c)
 | .Lt,_,A,s,a,t,c,u=>fun prog w E Q h=>(PyProof.Rows.lt_int h:wpAny (model prog w) A (compareOp .Lt (.int a t) (.int c u)) Q E s)
 | .LtE,_,A,s,a,t,c,u=>fun prog w E Q h=>(PyProof.Rows.le_int h:wpAny (model prog w) A (compareOp .LtE (.int a t) (.int c u)) Q E s)
 | .Gt,_,A,s,a,t,c,u=>fun prog w E Q h=>(PyProof.Rows.gt_int h:wpAny (model prog w) A (compareOp .Gt (.int a t) (.int c u)) Q E s)
 | .GtE,_,A,s,a,t,c,u=>fun prog w E Q h=>(PyProof.Rows.ge_int h:wpAny (model prog w) A (compareOp .GtE (.int a t) (.int c u)) Q E s)
theorem w8 {op:CmpOp} (i j:Nat):cq op ((i+1:Nat):Int) ((j+1:Nat):Int)=cq op (i:Int) (j:Int):=by
 cases op <;> first | rfl | (unfold cq;simp)
theorem Jo:∀ {op:CmpOp} (ho:qO op=true) {A:Around}{s:Shared}{l b:Addr}{items items2:Array Value}{eks:List (Bool × Bool)} (hl:IsTup s.heap l items) (hb:IsTup s.heap b items2) (hc:eB op A.in1 s items.toList items2.toList eks)
  (hu:A.units<cLine),Cw op A s (.ref l) (.ref b) (fG (cq op items.size items2.size) eks)
 | .Lt,_,A,s,l,b,items,items2,eks,hl,hb,hc,hu=>fun prog w E Q h=>Hm hl hb hc hu (by
   have e:decide (items.size<items2.size)=cq .Lt items.size items2.size:=by (unfold cq;simp)
   rw [e];exact h)
 | .LtE,_,A,s,l,b,items,items2,eks,hl,hb,hc,hu=>fun prog w E Q h=>Hr hl hb hc hu (by
   have e:decide (items.size<=items2.size)=cq .LtE items.size items2.size:=by (unfold cq;simp)
   rw [e];exact h)
 | .Gt,_,A,s,l,b,items,items2,eks,hl,hb,hc,hu=>fun prog w E Q h=>gk hl hb hc hu (by
   have e:decide (items.size > items2.size)=cq .Gt items.size items2.size:=by (unfold cq;simp)
   rw [e];exact h)
 | .GtE,_,A,s,l,b,items,items2,eks,hl,hb,hc,hu=>fun prog w E Q h=>HN hl hb hc hu (by
   have e:decide (items.size ≥ items2.size)=cq .GtE items.size items2.size:=by (unfold cq;simp)
   rw [e];exact h)
mutual
theorem uE {op:CmpOp} (ho:qO op=true):∀ (da db:PyData) (A:Around) (s:Shared) (a b:Value) (as bs:List Addr) (k:Bool),Reads s.heap a da as->Reads s.heap b db bs->da.canLay0=true->db.canLay0=true ->
  A.units+min da.depth db.depth<cLine->gf op da db=some k->Cw op A s a b k
 | .int i,.int j,A,s,_,_,_,_,k,ra,rb,_,_,hu,hk=>by
  cases ra;cases rb
  simp only [gf] at hk
  cases hk
  exact Jp ho _ _ _ _
 | .tuple xs,.tuple ys,A,s,_,_,_,_,k,ra,rb,ha,hb,hu,hk=>by
  simp only [gf] at hk
  cases ra with
  | @tuple l o vs n _ as₁ h1 h2 h3 h4=>
   cases rb with
   | @tuple l' o' vs' n' _ bs₁ k1 k2 k3 k4=>
    have n1:vs.size=xs.length:=by simpa using SeqAt.ReadsAll.length _ _ _ h4
    have n2:vs'.size=ys.length:=by simpa using SeqAt.ReadsAll.length _ _ _ k4
    obtain ⟨eks,e1,e2⟩:=rc_readsAll ho xs ys A.in1 s vs.toList vs'.toList _ _ k h4 k4 (by simpa [PyData.canLay0] using ha) (by simpa [PyData.canLay0] using hb) (SeqAt.room_in hu) hk
    have:=Jo ho (A:=A) (s:=s) (l:=l) (b:=l') (items:=vs) (items2:=vs') (eks:=eks) ⟨_,h1,h2,_,h3⟩ ⟨_,k1,k2,_,k3⟩ e1 (SeqAt.room_here hu)
    rw [n1,n2,e2] at this
    exact this
 | .none,_,_,_,_,_,_,_,_,_,_,_,_,_,hk=>by simp only [gf] at hk;cases hk
 | .bool _,_,_,_,_,_,_,_,_,_,_,_,_,_,hk=>by simp only [gf] at hk;cases hk
 | .str _,_,_,_,_,_,_,_,_,_,_,_,_,_,hk=>by simp only [gf] at hk;cases hk
 | .list _,_,_,_,_,_,_,_,_,_,_,_,_,_,hk=>by simp only [gf] at hk;cases hk
 | .dict _,_,_,_,_,_,_,_,_,_,_,_,_,_,hk=>by simp only [gf] at hk;cases hk
 | .int _,.none,_,_,_,_,_,_,_,_,_,_,_,_,hk=>by simp only [gf] at hk;cases hk
 | .int _,.bool _,_,_,_,_,_,_,_,_,_,_,_,_,hk=>by simp only [gf] at hk;cases hk
 | .int _,.str _,_,_,_,_,_,_,_,_,_,_,_,_,hk=>by simp only [gf] at hk;cases hk
 | .int _,.list _,_,_,_,_,_,_,_,_,_,_,_,_,hk=>by simp only [gf] at hk;cases hk
 | .int _,.tuple _,_,_,_,_,_,_,_,_,_,_,_,_,hk=>by simp only [gf] at hk;cases hk
 | .int _,.dict _,_,_,_,_,_,_,_,_,_,_,_,_,hk=>by simp only [gf] at hk;cases hk
 | .tuple _,.none,_,_,_,_,_,_,_,_,_,_,_,_,hk=>by simp only [gf] at hk;cases hk
 | .tuple _,.bool _,_,_,_,_,_,_,_,_,_,_,_,_,hk=>by simp only [gf] at hk;cases hk
 | .tuple _,.int _,_,_,_,_,_,_,_,_,_,_,_,_,hk=>by simp only [gf] at hk;cases hk
 | .tuple _,.str _,_,_,_,_,_,_,_,_,_,_,_,_,hk=>by simp only [gf] at hk;cases hk
 | .tuple _,.list _,_,_,_,_,_,_,_,_,_,_,_,_,hk=>by simp only [gf] at hk;cases hk
 | .tuple _,.dict _,_,_,_,_,_,_,_,_,_,_,_,_,hk=>by simp only [gf] at hk;cases hk
theorem rc_readsAll {op:CmpOp} (ho:qO op=true):∀ (xs ys:List PyData) (A:Around) (s:Shared) (vs ws:List Value) (as bs:List Addr) (k:Bool),ReadsAll s.heap vs xs as->ReadsAll s.heap ws ys bs->PyData.canLayAll0 xs=true->PyData.canLayAll0 ys=true ->
  A.units+min (PyData.depthAll xs) (PyData.depthAll ys)<cLine->cmpPs op xs ys=some k->∃ eks,eB op A s vs ws eks/\fG (cq op (xs.length:Nat) (ys.length:Nat)) eks=k
 | [],ys,A,s,_,_,_,_,k,ra,rb,_,_,_,hk=>by
  cases ra
  simp only [cmpPs] at hk
  cases hk
  exact ⟨[],by unfold eB;trivial,rfl⟩
 | x::xs,[],A,s,_,_,_,_,k,ra,rb,_,_,_,hk=>by
  cases rb
  simp only [cmpPs] at hk
  cases hk
  cases ra
  refine ⟨[],by unfold eB;trivial,?_⟩
  simp [fG]
 | x::xs,y::ys,A,s,_,_,_,_,k,ra,rb,ha,hb,hu,hk=>by
  have ha':x.canLay0=true/\PyData.canLayAll0 xs=true:=by simpa [PyData.canLayAll0] using ha
  have hb':y.canLay0=true/\PyData.canLayAll0 ys=true:=by simpa [PyData.canLayAll0] using hb
  cases ra with
  | cons r rs=>
   cases rb with
   | cons r' rs'=>
    have he:=SeqAt.eqAt_reads x y A s _ _ _ _ r r' ha'.1 hb'.1 (SeqAt.room_head hu)
    simp only [cmpPs] at hk
    cases e:PyData.eqv x y with
    | true=>
     rw [Lp e] at hk
     rw [e] at he
     obtain ⟨eks,e1,e2⟩:=rc_readsAll ho xs ys A s _ _ _ _ k rs rs' ha'.2 hb'.2 (SeqAt.room_tail hu) hk
     refine ⟨(true,false)::eks,⟨he,fun z=>(by cases z),fun _=>e1⟩,?_⟩
     show fG (cq op ((xs.length+1:Nat):Int) ((ys.length+1:Nat):Int)) eks=k
     rw [w8];exact e2
    | false=>
     rw [Lq (by rw [e];exact LZ)] at hk
     rw [e] at he
     refine ⟨[(false,k)],⟨he,fun _=>uE ho x y A s _ _ _ _ k r r' ha'.1 hb'.1 (SeqAt.room_head hu) hk,fun z=>(by cases z)⟩,rfl⟩
end
def Ac (K:W.Frag) (op:CmpOp):R2:=fun x y H Q=>∃ a b k,mw K H a x/\mw K H b y/\gK a=true/\gK b=true/\gf op a b=some k/\Q (.bl k) H
theorem DM {X:Cx} (hu:X.A.units+64<cLine):∀ {op:CmpOp},qO op=true->gS X (compareOp op) (Ac X.K op):=by
 intro op ho pins s σ H x y v u Q I rx ry h
 obtain ⟨a,b,k,h1,h2,h3,h4,h5,q⟩:=h
 obtain ⟨as,r1⟩:=dJ I a x v h1 rx
 obtain ⟨bs,r2⟩:=dJ I b y u h2 ry
 have:=uE ho a b X.A s v u as bs k r1 r2 (cj h3) (cj h4) (mP h3 hu) h5 X.prog X.w X.xe (EP X pins σ Q) ⟨.bl k,H,I,rfl,q⟩
 cases op <;> first
  | exact absurd ho (by decide)
  | exact this
def eA (op:CmpOp) (a b:D) (μ:aw):ak D:=match tI μ a,tI μ b with
 | some p,some q=>if gK p=true/\gK q=true then (match gf op p q with | some k=>.ok (.bl k) μ | none=>.bad) else .bad
 | _,_=>.bad
theorem Hg {p:Pa}{op:CmpOp}:nq p (eA op) (Ac p.K op):=by
 intro a b v y H α μ Q S ra rb P
 unfold eA at P
 split at P
 ·rename_i x z hx hz
  split at P
  ·rename_i hf
   split at P
   ·rename_i k hk
    exact ⟨x,z,k,mD S hx ra,mD S hz rb,hf.1,hf.2,hk,P.now S _ (aT.mpr rfl)⟩
   ·exact P.elim
  ·exact P.elim
 ·exact P.elim
def dI (g:Int->Int->D) (a b:D) (μ:aw):ak D:=match a,b with
 | .int i,.int j=>.ok (g i j) μ
 | _,_=>.bad
open Classical in
noncomputable def zF (C:Int->Int->Prop) (g:Int->Int->D) (a b:D) (μ:aw):ak D:=match a,b with
 | .int i,.int j=>if C i j then .ok (g i j) μ else .bad
 | _,_=>.bad
section
variable {p:Pa}
theorem Ff {g:Int->Int->V}{gd:Int->Int->D} (h:∀ i j H α,p.R H α (gd i j) (g i j)):nq p (dI gd) (E7 g):=by
 intro a b v y H α μ Q S ra rb P
 unfold dI at P
 split at P
 ·rename_i i j
  exact ⟨i,j,ar.mp ra,ar.mp rb,P.now S _ (h i j H α)⟩
 ·exact P.elim
theorem uc {C:Int->Int->Prop}{g:Int->Int->V}{gd:Int->Int->D} (h:∀ i j H α,p.R H α (gd i j) (g i j)):nq p (zF C gd) (rI C g):=by
 intro a b v y H α μ Q S ra rb P
 unfold zF at P
 split at P
 ·rename_i i j
  split at P
  ·rename_i hc
   exact ⟨i,j,ar.mp ra,ar.mp rb,hc,P.now S _ (h i j H α)⟩
  ·exact P.elim
 ·exact P.elim
def rT (a:D) (μ:aw):ak D:=match a with
 | .int i=>.ok (.int (-i)) μ
 | _=>.bad
theorem Hi:K0 p rT (rU fun i=>.int (-i)):=by
 intro a v H α μ Q S ra P
 unfold rT at P
 split at P
 ·rename_i i
  exact ⟨i,ar.mp ra,P.now S _ (ar.mpr rfl)⟩
 ·exact P.elim
def ET (K:W.Frag):R2:=fun x y H Q=>∃ a b xs ys,x=.ref a/\y=.ref b/\gy K H a xs/\gy K H b ys/\xs.length+ys.length<=sizeLine /\
 (xs=[]->Q (.ref b) H)/\(xs≠[]->ys=[]->Q (.ref a) H)/\(xs≠[]->ys≠[]->∀ p,H p=none->Q (.ref p) (cI H p (.tup (xs++ys))))
theorem B7 {prog:Program}{w:World}{A:Around}{E:Value->Shared->Prop}{s:Shared}{t b:Addr}{ws:List Value}{Q:Value->Shared->Prop} (ht:IsTup s.heap t #[]) (hb:IsTup s.heap b ws.toArray) (h0:Q (.ref b) s):wpAny (model prog w) A (binaryOp .Add (.ref t) (.ref b)) Q E s:=by
 obtain ⟨⟨cls,dd,data,sl⟩,ho,hc,n,hd⟩:=id ht
 obtain ⟨⟨cls2,dd2,data2,sl2⟩,ho2,hc2,n2,hd2⟩:=id hb
 simp only at hc hd hc2 hd2
 subst hc hd hc2 hd2
 exact concat_meets ⟨_,ho,rfl⟩ ⟨_,ho2,rfl⟩ Mx seq_tuple_add My Mz (MC _ _)
  (tuple_addW0 t b #[] ws.toArray n n2 dd dd2 sl sl2 (by simp)) ⟨ho,ho2,h0⟩
theorem DO {X:Cx}:gS X (binaryOp .Add) (ET X.K):=by
 intro pins s σ H x y v u Q I rx ry h
 obtain ⟨a,b,xs,ys,rfl,rfl,ha,hb,hz,q0,q1,q2⟩:=h
 by_cases hx:xs=[]
 ·cases rx
  cases ry
  obtain ⟨its,r1,p1,_⟩:=I.tuple ha
  obtain ⟨its2,r2,p2,_⟩:=I.tuple hb
  subst hx
  cases r1
  exact B7 p1 p2 ⟨.ref b,H,I,rfl,q0 rfl⟩
 ·exact DN pins s σ H (.ref a) (.ref b) v u Q I rx ry ⟨a,b,xs,ys,rfl,rfl,ha,hb,hx,hz,q1 hx,q2 hx⟩
def Ad (K:W.Frag):R2:=fun x y H Q=>E7 (fun i j=>.int (i+j)) x y H Q\/ET K x y H Q\/II x y H Q\/(∃ i j,x=.str i/\y=.str j/\i.length+j.length<=sizeLine/\Q (.str (i++j)) H)
theorem DP {X:Cx}:gS X (binaryOp .Add) (Ad X.K):=G5.or (DO.or (G3.or wN))
def cJ (a b:D) (μ:aw):ak D:=match a,b with
 | .int i,.int j=>.ok (.int (i+j)) μ
 | .str x,.str y=>if x.length+y.length<=sizeLine then .ok (.str (x++y)) μ else .bad
 | .tup xs,.tup ys=>if xs.length+ys.length<=sizeLine then .ok (.tup (xs++ys)) μ else .bad
 | .obj m,.obj n=>match μ[m]?,μ[n]? with
  | some (.lst xs),some (.lst ys)=>if xs.length+ys.length<=sizeLine then .ok (.obj μ.length) (μ++[.lst (xs++ys)]) else .bad
  | _,_=>.bad
 | _,_=>.bad
theorem cu {H:Hp}{α:List Addr}{μ:aw}{n:Nat}{v:V}{xs:List D} (S:p.S H α μ) (r:p.R H α (.obj n) v) (hx:μ[n]?=some (.lst xs)):∃ a us,v=.ref a/\α[n]?=some a/\H a=some (.lst us)/\p.Rs H α xs us:=by
 obtain ⟨a,ea,us,hH,rr⟩:=S.at hx
 obtain ⟨a',rfl,ea'⟩:=aR.mp r
 rw [ea] at ea';cases ea'
 exact ⟨a,us,rfl,ea,hH,rr⟩
theorem Reps.nil_iff' {K:W.Frag}{H:Hp}{α:List Addr}{xs:List D}{vs:List V} (r:Reps K H α xs vs):vs=[]↔xs=[]:=by
 have:=r.length
 constructor
 ·intro h;subst h;simp at this;exact Pk this.symm
 ·intro h;subst h;simp at this;exact this
theorem Hh:nq p cJ (Ad p.K):=by
 intro a b v y H α μ Q S ra rb P
 unfold cJ at P
 split at P
 ·rename_i i j
  exact .inl ⟨i,j,ar.mp ra,ar.mp rb,P.now S _ (ar.mpr rfl)⟩
 ·rename_i i j
  split at P
  ·rename_i hl
   exact .inr (.inr (.inr ⟨i,j,bb.mp ra,bb.mp rb,hl,P.now S _ (bb.mpr rfl)⟩))
  ·exact P.elim
 ·rename_i xs ys
  split at P
  ·rename_i hl
   obtain ⟨a,us,rfl,h1,r1⟩:=aO.mp ra
   obtain ⟨b,ws,rfl,h2,r2⟩:=aO.mp rb
   refine .inr (.inl ⟨a,b,us,ws,rfl,rfl,h1,h2,by rw [r1.length,r2.length];exact hl,fun e=>?_,fun _ e=>?_,fun _ _ q hq=>?_⟩)
   ·have ex := r1.nil_iff'.mp e
    subst ex
    exact P.now S _ (by simpa using rb)
   ·have ey := r2.nil_iff'.mp e
    subst ey
    exact P.now S _ (by simpa using ra)
   ·exact P _ _ (bV hq) (S.tuple hq) _ (aO.mpr ⟨q,_,rfl,gy.of cg,(r1.append r2).mono (bV hq)⟩)
  ·exact P.elim
 ·rename_i m n
  split at P
  ·rename_i xs ys hx hy
   split at P
   ·rename_i hl
    obtain ⟨a,us,rfl,a1,h1,r1⟩:=cu S ra hx
    obtain ⟨b,ws,rfl,b1,h2,r2⟩:=cu S rb hy
    refine .inr (.inr (.inl ⟨a,b,us,ws,rfl,rfl,h1,h2,by rw [r1.length,r2.length];exact hl,fun q hq=>?_⟩))
    obtain ⟨x1,x2,x3⟩:=c6 S hq (r1.append r2)
    exact P _ _ x1 x2 _ x3
   ·exact P.elim
  ·exact P.elim
 ·exact P.elim
def EL:R2:=fun x y H Q=>rI tZ (fun i j=>.int (i * j)) x y H Q\/IC x y H Q
theorem DK {X:Cx}:gS X (binaryOp .Mult) EL:=GY.or GU
open Classical in
noncomputable def qx (a b:D) (μ:aw):ak D:=match a,b with
 | .int i,.int j=>if tZ i j then .ok (.int (i * j)) μ else .bad
 | .obj m,.int k=>match μ[m]? with
  | some (.lst xs)=>if -(2 ^ 63)<=k/\k<2 ^ 63/\xs.length * k.toNat<=sizeLine then .ok (.obj μ.length) (μ++[.lst (List.replicate k.toNat xs).flatten]) else .bad
  | _=>.bad
 | _,_=>.bad
theorem Reps.rep {K:W.Frag}{H:Hp}{α:List Addr}{xs:List D}{vs:List V} (h:Reps K H α xs vs):∀ k:Nat,Reps K H α (List.replicate k xs).flatten (List.replicate k vs).flatten
 | 0=>by simpa using Reps.nil
 | k+1=>by
  rw [Nk,Nk,Nl,Nl]
  exact h.append (Reps.rep h k)
theorem Hd:nq p qx EL:=by
 intro a b v y H α μ Q S ra rb P
 unfold qx at P
 split at P
 ·rename_i i j
  split at P
  ·rename_i hc
   exact .inl ⟨i,j,ar.mp ra,ar.mp rb,hc,P.now S _ (ar.mpr rfl)⟩
  ·exact P.elim
 ·rename_i m k
  split at P
  ·rename_i xs hx
   split at P
   ·rename_i hl
    obtain ⟨a,us,rfl,a1,h1,r1⟩:=cu S ra hx
    refine .inr ⟨a,k,us,rfl,ar.mp rb,h1,hl.1,hl.2.1,by rw [r1.length];exact hl.2.2,fun q hq=>?_⟩
    obtain ⟨x1,x2,x3⟩:=c6 S hq (r1.rep k.toNat)
    exact P _ _ x1 x2 _ x3
   ·exact P.elim
  ·exact P.elim
 ·exact P.elim
def b9 (a b:D) (μ:aw):ak D:=match a,b with
 | .tup xs,.int i=>match atI xs i with
  | some d=>.ok d μ
  | none=>.bad
 | .frz xs,.int i=>match atI xs i with
  | some d=>.ok d μ
  | none=>.bad
 | .obj n,.int i=>match μ[n]? with
  | some (.lst xs)=>match atI xs i with
   | some d=>.ok d μ
   | none=>.bad
  | _=>.bad
 | _,_=>.bad
theorem Reps.atI {K:W.Frag}{H:Hp}{α:List Addr}{xs:List D}{vs:List V}{i:Int}{d:D} (r:Reps K H α xs vs) (h:L2.atI xs i=some d):∃ v,L2.atI vs i=some v/\aQ K H α d v:=by
 unfold L2.atI at h ⊢
 rw [r.length]
 cases e:yf xs.length i with
 | none=>rw [e] at h;cases h
 | some j=>rw [e] at h;exact r.get h
theorem JC:nq p b9 (KY p.K):=by
 intro a b v y H α μ Q S ra rb P
 unfold b9 at P
 split at P
 ·rename_i xs i
  split at P
  ·rename_i d hd
   obtain ⟨a,us,rfl,h1,r1⟩:=aO.mp ra
   obtain ⟨v,hv,rv⟩:=r1.atI hd
   exact .inr (.inl ⟨a,us,i,v,rfl,ar.mp rb,h1,hv,P.now S _ rv⟩)
  ·exact P.elim
 ·rename_i xs i
  split at P
  ·rename_i d hd
   obtain ⟨a,us,rfl,h1,r1⟩:=bf.mp ra
   obtain ⟨v,hv,rv⟩:=r1.atI hd
   exact .inl ⟨a,us,i,v,rfl,ar.mp rb,h1.sq,hv,P.now S _ rv⟩
  ·exact P.elim
 ·rename_i n i
  split at P
  ·rename_i xs hx
   split at P
   ·rename_i d hd
    obtain ⟨a,us,rfl,a1,h1,r1⟩:=cu S ra hx
    obtain ⟨v,hv,rv⟩:=r1.atI hd
    exact .inl ⟨a,us,i,v,rfl,ar.mp rb,f7.of h1,hv,P.now S _ rv⟩
   ·exact P.elim
  ·exact P.elim
 ·exact P.elim
theorem Jn {X:Cx}{a b:Expr}{fa fb:ME}{pos:Pos} (hK:X.K=p.K) (ha:PE X a (tD p fa)) (hb:PE X b (tD p fb)) (hs:sN b):PE X (.Subscript a b pos) (tD p (aA b9 fa fb)):=
 (Jw HC ha hb hs).weak fun σ H Q ⟨α, ρ, μ, S, R, P⟩ => ⟨α, ρ, μ, S, R, (aH.bind P).imp fun x μ1 H1 α1 X1 S1 P1 v rv => ⟨α1, ρ, μ1, S1, R.mono X1, (aH.bind P1).imp fun y μ2 H2 α2 X2 S2 P2 u ru => by
  rw [hK];exact JC x y v u H2 α2 μ2 Q S2 (rv.mono X2) ru P2⟩⟩
theorem kG {prog:Program}{w:World}{A:Around}{E:Value->Shared->Prop}{s:Shared}{t sl:Addr}{items:Array Value}{vl vu:Value}{lo hi:Option Int}{Q:Value->Shared->Prop} (ht:IsTup s.heap t items) (hs:s.heap.IsSliceOf sl vl vu .none) (pl:IsPart vl lo) (pu:IsPart vu hi)
  (hw:HT.sIx items.size 0 lo=0/\HT.sIx items.size items.size hi=items.size) (h:Q (.ref t) s):wpAny (model prog w) A (getItem (.ref t) (.ref sl)) Q E s:=by
 obtain ⟨os,hos,hcs,hds⟩:=id hs
 have hTs:s.TypeIs (.ref sl) "slice" := ⟨os,hos,hcs⟩
 unfold getItem
 try with_reducible refine LW ?_
 first | refine LV (L4 ?_) | skip
 refine LV (MP ht.typeIs (by decide) ?_)
 refine LV (MQ (name:=Str.ofString "__getitem__") ht.typeIs MR
  (MU MR ht.typeIs MV ?_ (MW _ _)))
 show wpAny _ _ (Builtin.Tuple.tupleItemsOf (.ref t) >>= _) _ _ s
 refine LV (tupleItemsOf_ ht ?_)
 refine LV (MX hTs ?_)
 rw [Lp (by decide)]
 refine LV (HT.sliceApplied_gen hs pl pu ?_)
 have hno:(((HT.sIx items.size 0 lo:Nat):Int) == 0 && (1:Int) == 1 && (HT.sIx items.size items.size hi - HT.sIx items.size 0 lo) == items.size)=true:=by
  rw [hw.1,hw.2];simp
 show wpAny _ _ (if (((HT.sIx items.size 0 lo:Nat):Int) == 0 && (1:Int) == 1 && (HT.sIx items.size items.size hi - HT.sIx items.size 0 lo) == items.size)=true then _ else _) _ _ s
 rw [Lp hno]
 refine LV (m:=Builtin.Tuple.tupleIsExact (.ref t)) (LV (MX ht.typeIs (L4 ?_)))
 rw [Lp (by decide)]
 exact LV (NM (L4 ⟨_,rfl,L4 h⟩))
def jM {β:Type} (xs:List β) (lo hi:Option Int):List β:=(xs.drop (HT.sIx xs.length 0 lo)).take (HT.sIx xs.length xs.length hi - HT.sIx xs.length 0 lo)
theorem w6 {β:Type} (xs:List β) (lo hi:Option Int) (h:HT.sIx xs.length 0 lo=0/\HT.sIx xs.length xs.length hi=xs.length):jM xs lo hi=xs:=by
 unfold jM
 rw [h.1,h.2];simp
def EJ (K:W.Frag):V->Option Int->Option Int->Hp->VK->Prop:=fun x lo hi H Q=>∃ a xs,x=.ref a/\gy K H a xs /\
 (HT.sIx xs.length 0 lo=0/\HT.sIx xs.length xs.length hi=xs.length)/\Q (.ref a) H
theorem Dc {X:Cx}:Cp X (EJ X.K):=by
 intro pins s σ H x v vl vu lo hi sl Q I rx hs pl pu h
 obtain ⟨a,xs,rfl,hx,hw,q⟩:=h
 cases rx
 obtain ⟨its,r,ht,hz⟩:=I.tuple hx
 have hlen:its.toArray.size=xs.length:=by rw [Mf];exact r.length.symm
 refine ⟨"tuple",_,MR.lookup,ht.typeIs,?_⟩
 exact kG ht hs pl pu (by rw [hlen];exact hw) ⟨.ref a,H,I,rfl,q⟩
def IA (K:W.Frag):V->Option Int->Option Int->Hp->VK->Prop:=fun x lo hi H Q=>Iy K x lo hi H Q\/EJ K x lo hi H Q\/Iz K x lo hi H Q
theorem Kv {X:Cx}:Cp X (IA X.K):=F7.or (Dc.or Dd)
abbrev MO:=Ro->aw->ak (Option Int)
def E9:MO:=fun _ μ=>.ok none μ
def J1 (d:D) (μ:aw):ak (Option Int):=match d with
 | .int i=>.ok (some i) μ
 | _=>.bad
def lD (f:ME):MO:=fun ρ μ=>(f ρ μ).bind J1
def Ex (p:Pa) (f:MO):TO:=fun σ H Q=>∃ α ρ μ,p.S H α μ/\dD p.K H α ρ σ/\aH p H α (f ρ μ) (fun o _ H' _=>Q o H')
theorem PO.weak {X:Cx}{e:Option Expr}{t t':TO} (h:PO X e t) (k:∀ σ H Q,t' σ H Q->t σ H Q):PO X e t':=fun pins s σ H Q I q=>h pins s σ H Q I (k σ H Q q)
theorem C9 {X:Cx}:PO X none (Ex p E9):=DA.weak fun σ H Q ⟨α,ρ,μ,S,R,P⟩=>P.now S
theorem C8 {X:Cx}{e:Expr}{f:ME} (h:PE X e (tD p f)):PO X (some e) (Ex p (lD f)):=(Dz h).weak fun σ H Q ⟨α,ρ,μ,S,R,P⟩=>⟨α,ρ,μ,S,R,(aH.bind P).imp fun d μ1 H1 α1 X1 S1 P1 v rv=>by
 unfold J1 at P1
 split at P1
 ·rename_i i
  exact ⟨i,ar.mp rv,P1.now S1⟩
 ·exact P1.elim⟩
def Cg (a:D) (lo hi:Option Int) (μ:aw):ak D:=match a with
 | .tup xs=>.ok (.tup (jM xs lo hi)) μ
 | .frz xs=>.ok (.obj μ.length) (μ++[.lst (jM xs lo hi)])
 | .obj n=>match μ[n]? with
  | some (.lst xs)=>.ok (.obj μ.length) (μ++[.lst (jM xs lo hi)])
  | _=>.bad
 | _=>.bad
def Ey (fa:ME) (fl fh:MO):ME:=fun ρ μ=>(fa ρ μ).bind fun a μ1=>(fl ρ μ1).bind fun lo μ2=>(fh ρ μ2).bind fun hi μ3=>Cg a lo hi μ3
theorem Reps.cut' {K:W.Frag}{H:Hp}{α:List Addr}{xs:List D}{vs:List V} (r:Reps K H α xs vs) (lo hi:Option Int):Reps K H α (jM xs lo hi) (tT vs lo hi):=by
 unfold jM tT
 rw [r.length]
 exact (r.drop _).take _
theorem Jl {a:D}{v:V}{lo hi:Option Int}{H:Hp}{α:List Addr}{μ:aw}{Q:VK} (S:p.S H α μ) (ra:p.R H α a v) (P:aH p H α (Cg a lo hi μ) (RV p Q)):IA p.K v lo hi H Q:=by
 unfold Cg at P
 split at P
 ·rename_i xs
  obtain ⟨a,us,rfl,h1,r1⟩:=aO.mp ra
  by_cases hw:HT.sIx us.length 0 lo=0/\HT.sIx us.length us.length hi=us.length
  ·refine .inr (.inl ⟨a, us, rfl, h1, hw, ?_⟩)
   rw [r1.length] at hw
   rw [w6 xs lo hi hw] at P
   exact P.now S _ ra
  ·exact .inl ⟨a,us,rfl,h1,hw,fun q hq=>P _ _ (bV hq) (S.tuple hq) _ (aO.mpr ⟨q,_,rfl,gy.of cg,(r1.cut' lo hi).mono (bV hq)⟩)⟩
 ·rename_i xs
  obtain ⟨a,us,rfl,h1,r1⟩:=bf.mp ra
  refine .inr (.inr ⟨a,us,rfl,h1.sq,fun q hq=>?_⟩)
  obtain ⟨x1,x2,x3⟩:=c6 S hq (r1.cut' lo hi)
  exact P _ _ x1 x2 _ x3
 ·rename_i n
  split at P
  ·rename_i xs hx
   obtain ⟨a,us,rfl,a1,h1,r1⟩:=cu S ra hx
   refine .inr (.inr ⟨a,us,rfl,f7.of h1,fun q hq=>?_⟩)
   obtain ⟨x1,x2,x3⟩:=c6 S hq (r1.cut' lo hi)
   exact P _ _ x1 x2 _ x3
  ·exact P.elim
 ·exact P.elim
theorem Bh {X:Cx}{e:Expr}{lo hi:Option Expr}{fa:ME}{fl fh:MO}{pos p2:Pos} (hK:X.K=p.K) (he:PE X e (tD p fa)) (hl:PO X lo (Ex p fl)) (hu:PO X hi (Ex p fh)):PE X (.Subscript e (.Slice lo hi none p2) pos) (tD p (Ey fa fl fh)):=
 (BA Kv he hl hu).weak fun σ H Q ⟨α, ρ, μ, S, R, P⟩ => ⟨α, ρ, μ, S, R, (aH.bind P).imp fun a μ1 H1 α1 X1 S1 P1 v rv => ⟨α1, ρ, μ1, S1, R.mono X1, (aH.bind P1).imp fun l μ2 H2 α2 X2 S2 P2 => ⟨α2, ρ, μ2, S2, (R.mono X1).mono X2, (aH.bind P2).imp fun h μ3 H3 α3 X3 S3 P3 => by
  rw [hK];exact Jl S3 ((rv.mono X2).mono X3) P3⟩⟩⟩
theorem kd {β γ:Type}{f:β->Option γ}{g:β->γ}:∀ {l:List β},(∀ m∈l,f m=some (g m))->l.filterMap f=l.map g
 | [],_=>rfl
 | x::r,h=>by rw [LD,h x LF,Nb,kd fun m hm=>h m (LG _ hm)]
theorem uH (xs:Array Value):((List.range xs.size).filterMap fun (m:Nat)=>xs[(((xs.size:Int) - 1)+(m:Int) * (-1)).toNat]?).toArray=xs.toList.reverse.toArray:=by
 congr 1
 apply OT
 intro i
 have hf:∀ m∈List.range xs.size,xs[(((xs.size:Int) - 1)+(m:Int) * (-1)).toNat]?=some (xs.toList.reverse.getD m .none):=by
  intro m hm
  have hm':m<xs.size:=by simpa using hm
  have e:(((xs.size:Int) - 1)+(m:Int) * (-1)).toNat=xs.size - 1 - m:=by omega
  rw [e,OS,List.getElem?_reverse (by simpa using hm')]
  have h2:xs.size - 1 - m<xs.size:=by omega
  rw [Oj h2]
  simp [LR,h2]
 rw [kd hf]
 by_cases hi:i<xs.size
 ·rw [Ms, OU hi]
  simp only [Option.map_some]
  rw [OS,O5 (by simpa using hi)]
  rfl
 ·rw [OV (by simpa using hi),OV (by simpa using hi)]
theorem m5 {prog:Program}{w:World}{A:Around}{E:Value->Shared->Prop}{s:Shared}{sl:Addr}{n:Nat}{t:Tok}{Q:Int × Int × Nat->Shared->Prop} (hs:s.heap.IsSliceOf sl .none .none (.int (-1) t))
  (h:Q ((n:Int) - 1,-1,n) s):wpAny (model prog w) A (Builtin.Slice.sliceApplied (.ref sl) (pure (n:Int))) Q E s:=by
 obtain ⟨os,hos,hcs,hds⟩:=id hs
 unfold Builtin.Slice.sliceApplied Builtin.Slice.sliceFields
 refine LV (LV (ML hos hds (x:=.none) rfl (LV (ML hos hds (x:=.none) rfl (LV (ML hos hds (x:=.int (-1) t) rfl (L4 ?_)))))))
 refine LV (slicePart_int ?_)
 show wpAny _ _ (if ((-1:Int) == 0)=true then _ else _) _ _ s
 rw [Lq (by decide)]
 refine LV (MK (LV (MK (LV (L4 ?_)))))
 show wpAny _ _ (match Builtin.Slice.sliceAdjust none none (-1) (n:Int) with | (lo,hi)=>pure (lo,(-1:Int),Builtin.Slice.slicePlaces lo hi (-1))) _ _ s
 have e:Builtin.Slice.sliceAdjust none none (-1) (n:Int)=((n:Int) - 1,-1):=by unfold Builtin.Slice.sliceAdjust;simp
 rw [e]
 show wpAny _ _ (pure ((n:Int) - 1,(-1:Int),Builtin.Slice.slicePlaces ((n:Int) - 1) (-1) (-1))) _ _ s
 have e2:Builtin.Slice.slicePlaces ((n:Int) - 1) (-1) (-1)=n:=by
  unfold Builtin.Slice.slicePlaces
  rw [Lq (by decide)]
  split <;> simp <;> omega
 rw [e2]
 exact L4 h
theorem mq {prog:Program}{w:World}{A:Around}{E:Value->Shared->Prop}{s:Shared}{t sl:Addr}{tk:Tok}{items:Array Value}{Q:Value->Shared->Prop} (ht:IsTup s.heap t items) (hs:s.heap.IsSliceOf sl .none .none (.int (-1) tk))
  (h:Q (.ref s.heap.objs.size) { s with heap:=s.heap.push { cls:=.type "tuple",data:=.seq items.toList.reverse.toArray } }) (hsz:items.size<=sizeLine):wpAny (model prog w) A (getItem (.ref t) (.ref sl)) Q E s:=by
 have htake:sizeOk (.seq items.toList.reverse.toArray):=by
  show items.toList.reverse.toArray.size<=sizeLine
  simpa using hsz
 obtain ⟨os,hos,hcs,hds⟩:=id hs
 have hTs:s.TypeIs (.ref sl) "slice" := ⟨os,hos,hcs⟩
 unfold getItem
 try with_reducible refine LW ?_
 first | refine LV (L4 ?_) | skip
 refine LV (MP ht.typeIs (by decide) ?_)
 refine LV (MQ (name:=Str.ofString "__getitem__") ht.typeIs MR
  (MU MR ht.typeIs MV ?_ (MW _ _)))
 show wpAny _ _ (Builtin.Tuple.tupleItemsOf (.ref t) >>= _) _ _ s
 refine LV (tupleItemsOf_ ht ?_)
 refine LV (MX hTs ?_)
 rw [Lp (by decide)]
 refine LV (m5 hs ?_)
 show wpAny _ _ (if (((items.size:Int) - 1) == 0 && (-1:Int) == 1 && items.size == items.size)=true then _ else _) _ _ s
 rw [Lq (by simp),uH]
 first
  | exact LV (m:=Builtin.Tuple.tupleExact _) (MZ (L4 ⟨_,rfl,L4 h⟩) htake)
  | exact LV (m:=Builtin.Tuple.tupleExact _) (MZ (LV (L4 (L4 ⟨_,rfl,L4 h⟩))) htake)
  | exact LV (LV (m:=Builtin.Tuple.tupleExact _) (MZ (L4 (L4 ⟨_,rfl,L4 h⟩)) htake))
  | exact LV (LV (m:=Builtin.Tuple.tupleExact _) (MZ (L4 ⟨_,rfl,L4 h⟩) htake))
end
inductive zC (K:W.Frag) (H:Hp):V->String->Prop where
 | non:zC K H .non "NoneType"
 | bl (x:Bool):zC K H (.bl x) "bool"
 | int (i:Int):zC K H (.int i) "int"
 | str (x:Str):zC K H (.str x) "str"
 | lst {a:Addr}{xs:List V} (e:f7 K H a xs):zC K H (.ref a) "list"
 | tup {a:Addr}{xs:List V} (e:gy K H a xs):zC K H (.ref a) "tuple"
 | dic {a:Addr}{kvs:List (qu × V)} (e:H a=some (.dK kvs)):zC K H (.ref a) "dict"
def jL (tn T:String):Bool:=tn == T || (tn == "bool" && T == "int")
def sk:List String:=["NoneType", "bool", "int", "str", "list", "tuple", "dict"]
theorem Ht {K:W.Frag}:∀ tn∈sk,∀ T∈["int", "bool", "tuple", "list", "str", "dict"],W.kitOne K (.type tn) (.type T)=some (jL tn T):=by
 intro tn h1 T h2
 simp only [sk,LH,OK,OL] at h1 h2
 rcases h1 with rfl|rfl|rfl|rfl|rfl|rfl|rfl <;> rcases h2 with rfl|rfl|rfl|rfl|rfl|rfl <;> rfl
theorem zC.mem {K:W.Frag}{H:Hp}{x:V}{tn:String} (h:zC K H x tn):tn∈sk:=by
 cases h <;> decide
section
variable {X:Cx}
theorem HD {pins:List (Addr × Obj)}{σ:St}{H:Hp}{s:Shared}{A:Around}{E:Value->Shared->Prop}{Q:Value->Shared->Prop}{c:Value}{b:Bool}{x:V}{u:Value}{tn:String} (I:aV X pins σ H s) (rx:bL x u) (ty:zC X.K H x tn) (e:W.kitOne X.K (.type tn) c=some b) (h:∀ tk,Q (.bool b) { s with toks:=tk }) :
  wpAny (model X.prog X.w) A (call (.builtin "isinstance") [u,c]) Q E s:=by
 cases ty with
 | non=>cases (show u=Value.none from rx);exact W.kia_one W.kitx_none I.kIn True.intro e (fun z=>nomatch z) h
 | bl y=>cases (show u=Value.bool y from rx);exact W.kia_one W.kitx_bool I.kIn True.intro e (fun z=>nomatch z) h
 | int i=>obtain ⟨t,q⟩:=(show ∃ t,u=Value.int i t from rx);cases q;exact W.kia_one W.kitx_int I.kIn True.intro e (fun z=>nomatch z) h
 | str y=>obtain ⟨t,q⟩:=(show ∃ t,u=Value.str y t from rx);cases q;exact W.kia_one W.kitx_str I.kIn True.intro e (fun z=>nomatch z) h
 | @lst a xs ea=>
  cases (show u=Value.ref a from rx)
  obtain ⟨its,_,⟨o,n,h1,h2,_⟩,_⟩:=I.list ea
  exact W.kia_one W.kitx_list I.kIn ⟨o,h1,h2⟩ e (fun z=>nomatch z) h
 | @tup a xs ea=>
  cases (show u=Value.ref a from rx)
  obtain ⟨its,_,⟨o,h1,h2,_⟩,_⟩:=I.tuple ea
  exact W.kia_one W.kitx_tuple I.kIn ⟨o,h1,h2⟩ e (fun z=>nomatch z) h
 | @dic a kvs ea=>
  cases (show u=Value.ref a from rx)
  obtain ⟨_,_,vs,_,p⟩:=(show d9 X.prog X.w H s.heap a (.dK kvs) from I.hok a _ ea)
  obtain ⟨o,es,ep,h1,h2,_⟩:=p
  exact W.kia_one W.kitx_dict I.kIn ⟨o,h1,h2.1⟩ e (fun z=>nomatch z) h
def IG (K:W.Frag):List V->Hp->VK->Prop:=fun xs H Q=>∃ x T tn b,xs=[x,.ty T]/\zC K H x tn/\W.kitOne K (.type tn) (.type T)=some b/\Q (.bl b) H
theorem B9:cH X (.builtin "isinstance") (IG X.K):=by
 intro pins s σ H xs us Q I r h
 obtain ⟨x,T,tn,b,rfl,ty,e,q⟩:=h
 obtain ⟨u,u2,rfl,ru,ru2⟩:=zZ r
 cases ru2
 exact HD I ru ty e fun tk=>⟨.bl b,H,I.tok _,rfl,q⟩
end
def vM (μ:aw):D->Option String
 | .non=>some "NoneType"
 | .bl _=>some "bool"
 | .int _=>some "int"
 | .str _=>some "str"
 | .tup _=>some "tuple"
 | .frz _=>some "list"
 | .obj n=>match μ[n]? with
  | some (.lst _)=>some "list"
  | some .dic=>some "dict"
  | _=>none
theorem FI {p:Pa}{H:Hp}{α:List Addr}{μ:aw}{d:D}{v:V}{tn:String} (S:p.S H α μ) (r:p.R H α d v) (h:vM μ d=some tn):zC p.K H v tn:=by
 cases d with
 | non=>cases h;rw [bu.mp r];exact .non
 | bl b=>cases h;rw [aT.mp r];exact .bl b
 | int b=>cases h;rw [ar.mp r];exact .int b
 | str b=>cases h;rw [bb.mp r];exact .str b
 | tup xs=>cases h;obtain ⟨a,vs,rfl,h1,_⟩:=aO.mp r;exact .tup h1
 | frz xs=>cases h;obtain ⟨a,vs,rfl,h1,_⟩:=bf.mp r;exact .lst h1.sq
 | obj n=>
  unfold vM at h
  dsimp only at h
  split at h
  ·rename_i xs hx
   cases h
   obtain ⟨a,us,rfl,a1,h1,_⟩:=cu S r hx
   exact .lst (f7.of h1)
  ·rename_i hx
   cases h
   obtain ⟨a,ea,q⟩:=S.at hx
   obtain ⟨a',rfl,ea'⟩:=aR.mp r
   rw [ea] at ea';cases ea'
   exact .dic q
  ·cases h
def fH (T:String) (d:D) (μ:aw):ak D:=match vM μ d with
 | some tn=>.ok (.bl (jL tn T)) μ
 | none=>.bad
theorem Gg {p:Pa}{X:Cx}{a:Expr}{fa:ME}{T:String}{xT:Str}{px pt pos:Pos} (hK:X.K=p.K) (hT:T∈["int", "bool", "tuple", "list", "str", "dict"]) (hg:Gl X "isinstance") (hm:X.mg "isinstance" = none) (hgT:Gl X xT) (hmT:X.mg xT=none) (hbT:bootBuiltins xT=some (.type T)) (ha:PE X a (tD p fa))
  (hnT:xT ≠ "__name__") (hdT:(xT == ("__debug__" : Str))=false) (hs1:starEach [a,.Name xT pt] X.env=(false,eval a X.env)::starEach [.Name xT pt] X.env) :
  PE X (.Call (.Name "isinstance" px) [a,.Name xT pt] [] pos) (tD p (kH (fH T) fa)):=by
 have hb:PE X (.Name xT pt) (tC (.ty T)):=xJ hgT hmT hbT rfl hnT hdT
 refine (lV B9 hg hm Pl (jl ha (jl hb r9 rfl) hs1) (by decide) (by decide) hs1 rfl).weak fun σ H Q ⟨α,ρ,μ,S,R,P⟩=>⟨α,ρ,μ,S,R,(aH.bind P).imp fun d μ1 H1 α1 X1 S1 P1 v rv=>?_⟩
 show IG X.K [v,.ty T] H1 Q
 unfold fH at P1
 split at P1
 ·rename_i tn htn
  have ty:=FI S1 rv htn
  rw [hK]
  exact ⟨v,T,tn,_,rfl,ty,Ht tn ty.mem T hT,P1.now S1 _ (aT.mpr rfl)⟩
 ·exact P1.elim
def kY:List D->Option (List Bool)
 | []=>some []
 | .bl b::r=>(kY r).map (b::·)
 | _::_=>none
theorem p9:∀ {ds:List D}{bs:List Bool},kY ds=some bs->ds=bs.map D.bl
 | [],bs,h=>by cases h;rfl
 | .bl b::r,bs,h=>by
  unfold kY at h
  cases e:kY r with
  | none=>rw [e] at h;cases h
  | some cs=>rw [e] at h;cases h;rw [p9 e];rfl
 | .non::r,bs,h=>by cases h
 | .int _::r,bs,h=>by cases h
 | .str _::r,bs,h=>by cases h
 | .tup _::r,bs,h=>by cases h
 | .frz _::r,bs,h=>by cases h
 | .obj _::r,bs,h=>by cases h
theorem zy (bs:List Bool):kY (bs.map D.bl)=some bs:=by
 induction bs with
 | nil=>rfl
 | cons b r ih=>simp only [Nb,kY,ih];rfl
theorem Reps.bools {K:W.Frag}{H:Hp}{α:List Addr}:∀ {bs:List Bool}{vs:List V},Reps K H α (bs.map D.bl) vs->vs=bs.map V.bl
 | [],vs,h=>by simp only [Na,Reps] at h;exact h
 | n::ns,vs,h=>by
  simp only [Nb,Reps] at h
  obtain ⟨v,r,rfl,h1,h2⟩:=h
  rw [aT.mp h1,Reps.bools h2];rfl
theorem wu {bs:List Bool}{us:List Value} (h:ba (bs.map V.bl) us):us=bs.map Value.bool:=by
 induction bs generalizing us with
 | nil=>cases h;rfl
 | cons b r ih=>
  cases h with
  | cons h1 h2=>cases h1;rw [ih h2];rfl
theorem zA {bs:List Bool}:(List.range bs.length).all (fun i=>bs.getD i false)=bs.all id:=by
 induction bs with
 | nil=>rfl
 | cons b r ih=>
  rw [ND,NP,Ni,Pm,Ni]
  congr 1
section
variable {X:Cx}
def IJ (K:W.Frag):List V->Hp->VK->Prop:=fun xs H Q=>∃ (a:Addr) (bs:List Bool),xs=[.ref a]/\f7 K H a (bs.map V.bl)/\Q (.bl (bs.all id)) H
theorem aV.fresh_it {pins:List (Addr × Obj)}{σ:St}{H:Hp}{s:Shared} (I:aV X pins σ H s) {o:Obj}{h':Heap}{tk:Nat} (hk:∀ b ob,b ∉ [s.heap.objs.size]->(s.heap.push o).get? b=some ob->h'.get? b=some ob):aV X pins σ H { s with heap:=h',toks:=tk }:=
 I.kept fun b ob e=>hk b ob (fun hm=>by
  have:b=s.heap.objs.size:=by simpa using hm
  subst this
  exact absurd (Ls e) (Lx _)) (L7 _ e)
theorem zx (hc:X.calm=true):cH X (.builtin "all") (IJ X.K):=by
 intro pins s σ H xs us Q I r h
 obtain ⟨a,bs,rfl,ha,q⟩:=h
 obtain ⟨u,rfl,ru⟩:=fq r
 cases ru
 obtain ⟨its,rv,pl,hz⟩:=I.list ha
 have hi:its=bs.map Value.bool:=wu rv
 have hne:a≠s.heap.objs.size:=by
  obtain ⟨o,n,e,_⟩:=pl
  exact Ly (Ls e)
 refine call_all_walk (OI pl.isList ?_)
 refine ⟨s.heap.objs.size,[s.heap.objs.size,a],[s.heap.objs.size],_,_,_,fun i=>bs.getD i false,rfl,Walks.list (A:=X.A.in1) (show X.A.in1.handled=none from I.ok.hd hc) _ a hne its.toArray,⟨⟨_,L8 _ rfl,rfl,rfl⟩,pl.isList.at fun o e=>L7 _ e⟩,?_,?_⟩
 ·intro i v s' Q' E' hP hQ
  subst hi
  have hv:(bs.map Value.bool)[i]?=some v:=by simpa using hP
  rw [Ms] at hv
  cases e:bs[i]? with
  | none=>rw [e] at hv;cases hv
  | some b=>
   rw [e] at hv;cases hv
   have:bs.getD i false=b:=by rw [OS,e];rfl
   dsimp only at hQ
   rw [this] at hQ
   exact LQ hQ
 ·intro h' tk hk
  have e2:its.toArray.size=bs.length:=by subst hi;simp
  rw [e2,zA]
  exact ⟨.bl _,H,I.fresh_it hk,rfl,q⟩
end
def tS (ds:List D) (μ:aw):ak D:=match ds with
 | [.obj n]=>match μ[n]? with
  | some (.lst xs)=>match kY xs with
   | some bs=>.ok (.bl (bs.all id)) μ
   | none=>.bad
  | _=>.bad
 | _=>.bad
theorem Hc {p:Pa}:vL p tS (IJ p.K):=by
 intro ds vs H α μ Q S r P
 unfold tS at P
 split at P
 ·rename_i n
  split at P
  ·rename_i xs hx
   split at P
   ·rename_i bs hb
    obtain ⟨v,rfl,r1⟩:=r.one
    obtain ⟨a,us,rfl,a1,h1,rr⟩:=cu S r1 hx
    rw [p9 hb] at rr
    exact ⟨a,bs,rfl,by rw [<- rr.bools];exact f7.of h1,P.now S _ (aT.mpr rfl)⟩
   ·exact P.elim
  ·exact P.elim
 ·exact P.elim
def xo (ds:List D) (μ:aw):ak D:=match ds with
 | [.tup xs]=>.ok (.int xs.length) μ
 | [.frz xs]=>.ok (.int xs.length) μ
 | [.str x]=>if x.length<=sizeLine then .ok (.int x.length) μ else .bad
 | [.obj n]=>match μ[n]? with
  | some (.lst xs)=>.ok (.int xs.length) μ
  | _=>.bad
 | _=>.bad
theorem xK {p:Pa}:vL p xo (fun xs H Q=>∃ x n,xs=[x]/\Fw p.K x H n/\Q (.int n) H):=by
 intro ds vs H α μ Q S r P
 unfold xo at P
 split at P
 ·rename_i xs
  obtain ⟨v,rfl,r1⟩:=r.one
  obtain ⟨a,us,rfl,h1,rr⟩:=aO.mp r1
  exact ⟨_,xs.length,rfl,.inr ⟨us,h1,rr.length.symm⟩,P.now S _ (ar.mpr rfl)⟩
 ·rename_i xs
  obtain ⟨v,rfl,r1⟩:=r.one
  obtain ⟨a,us,rfl,h1,rr⟩:=bf.mp r1
  exact ⟨_,xs.length,rfl,.inl ⟨us,h1.sq,rr.length.symm⟩,P.now S _ (ar.mpr rfl)⟩
 ·rename_i x
  obtain ⟨v,rfl,r1⟩:=r.one
  split at P
  ·rename_i hl
   exact ⟨v,x.length,rfl,by rw [bb.mp r1];exact ⟨hl,rfl⟩,P.now S _ (ar.mpr rfl)⟩
  ·exact P.elim
 ·rename_i n
  split at P
  ·rename_i xs hx
   obtain ⟨v,rfl,r1⟩:=r.one
   obtain ⟨a,us,rfl,a1,h1,rr⟩:=cu S r1 hx
   exact ⟨_,xs.length,rfl,.inl ⟨us,f7.of h1,rr.length.symm⟩,P.now S _ (ar.mpr rfl)⟩
  ·exact P.elim
 ·exact P.elim
def jU (ds:List D) (μ:aw):ak D:=match ds with
 | [.tup xs]=>.ok (.tup xs) μ
 | [.frz xs]=>.ok (.tup xs) μ
 | [.obj n]=>match μ[n]? with
  | some (.lst xs)=>.ok (.tup xs) μ
  | _=>.bad
 | _=>.bad
theorem BH {p:Pa}:vL p jU (fun xs H Q=>∃ q ys,xs=[.ref q]/\((f7 p.K H q ys/\∀ l,H l=none->Q (.ref l) (cI H l (.tup ys)))\/(gy p.K H q ys/\Q (.ref q) H))):=by
 intro ds vs H α μ Q S r P
 unfold jU at P
 split at P
 ·rename_i xs
  obtain ⟨v,rfl,r1⟩:=r.one
  obtain ⟨a,us,rfl,h1,rr⟩:=aO.mp r1
  exact ⟨a,us,rfl,.inr ⟨h1,P.now S _ r1⟩⟩
 ·rename_i xs
  obtain ⟨v,rfl,r1⟩:=r.one
  obtain ⟨a,us,rfl,h1,rr⟩:=bf.mp r1
  exact ⟨a,us,rfl,.inl ⟨h1.sq,fun q hq=>P _ _ (bV hq) (S.tuple hq) _ (aO.mpr ⟨q,us,rfl,gy.of cg,rr.mono (bV hq)⟩)⟩⟩
 ·rename_i n
  split at P
  ·rename_i xs hx
   obtain ⟨v,rfl,r1⟩:=r.one
   obtain ⟨a,us,rfl,a1,h1,rr⟩:=cu S r1 hx
   exact ⟨a,us,rfl,.inl ⟨f7.of h1,fun q hq=>P _ _ (bV hq) (S.tuple hq) _ (aO.mpr ⟨q,us,rfl,gy.of cg,rr.mono (bV hq)⟩)⟩⟩
  ·exact P.elim
 ·exact P.elim
def jx (ds:List D) (μ:aw):ak D:=match ds with
 | [.tup xs]=>.ok (.obj μ.length) (μ++[.lst xs])
 | [.frz xs]=>.ok (.obj μ.length) (μ++[.lst xs])
 | [.obj n]=>match μ[n]? with
  | some (.lst xs)=>.ok (.obj μ.length) (μ++[.lst xs])
  | _=>.bad
 | _=>.bad
theorem DS {p:Pa}:vL p jx (fun xs H Q=>∃ q ys,xs=[.ref q]/\(f7 p.K H q ys\/gy p.K H q ys)/\∀ l,H l=none->Q (.ref l) (cI H l (.lst ys))):=by
 intro ds vs H α μ Q S r P
 unfold jx at P
 split at P
 ·rename_i xs
  obtain ⟨v,rfl,r1⟩:=r.one
  obtain ⟨a,us,rfl,h1,rr⟩:=aO.mp r1
  refine ⟨a,us,rfl,.inr h1,fun q hq=>?_⟩
  obtain ⟨x1,x2,x3⟩:=c6 S hq rr
  exact P _ _ x1 x2 _ x3
 ·rename_i xs
  obtain ⟨v,rfl,r1⟩:=r.one
  obtain ⟨a,us,rfl,h1,rr⟩:=bf.mp r1
  refine ⟨a,us,rfl,.inl h1.sq,fun q hq=>?_⟩
  obtain ⟨x1,x2,x3⟩:=c6 S hq rr
  exact P _ _ x1 x2 _ x3
 ·rename_i n
  split at P
  ·rename_i xs hx
   obtain ⟨v,rfl,r1⟩:=r.one
   obtain ⟨a,us,rfl,a1,h1,rr⟩:=cu S r1 hx
   refine ⟨a,us,rfl,.inl (f7.of h1),fun q hq=>?_⟩
   obtain ⟨x1,x2,x3⟩:=c6 S hq rr
   exact P _ _ x1 x2 _ x3
  ·exact P.elim
 ·exact P.elim
def uh (ds:List D) (μ:aw):ak D:=match ds with
 | [.int i]=>.ok (.int i) μ
 | [.bl k]=>.ok (.int (if k then 1 else 0)) μ
 | _=>.bad
theorem Hb {p:Pa}:vL p uh (fun xs H Q=>(∃ i,xs=[.int i]/\Q (.int i) H)\/∃ k,xs=[.bl k]/\Q (.int (if k then 1 else 0)) H):=by
 intro ds vs H α μ Q S r P
 unfold uh at P
 split at P
 ·rename_i i
  obtain ⟨v,rfl,r1⟩:=r.one
  exact .inl ⟨i,by rw [ar.mp r1],P.now S _ (ar.mpr rfl)⟩
 ·rename_i i
  obtain ⟨v,rfl,r1⟩:=r.one
  exact .inr ⟨i,by rw [aT.mp r1],P.now S _ (ar.mpr rfl)⟩
 ·exact P.elim
def Ak (ds:List D) (μ:aw):ak D:=match ds with
 | [.int i,.int j]=>.ok (.int (if j > i then j else i)) μ
 | _=>.bad
def Aj (ds:List D) (μ:aw):ak D:=match ds with
 | [.int i,.int j]=>.ok (.int (if j<i then j else i)) μ
 | _=>.bad
theorem DR {p:Pa}:vL p Ak (fun xs H Q=>∃ i j,xs=[.int i,.int j]/\Q (.int (if j > i then j else i)) H):=by
 intro ds vs H α μ Q S r P
 unfold Ak at P
 split at P
 ·rename_i i j
  obtain ⟨v,u,rfl,r1,r2⟩:=r.two
  exact ⟨i,j,by rw [ar.mp r1,ar.mp r2],P.now S _ (ar.mpr rfl)⟩
 ·exact P.elim
theorem DQ {p:Pa}:vL p Aj (fun xs H Q=>∃ i j,xs=[.int i,.int j]/\Q (.int (if j<i then j else i)) H):=by
 intro ds vs H α μ Q S r P
 unfold Aj at P
 split at P
 ·rename_i i j
  obtain ⟨v,u,rfl,r1,r2⟩:=r.two
  exact ⟨i,j,by rw [ar.mp r1,ar.mp r2],P.now S _ (ar.mpr rfl)⟩
 ·exact P.elim
end L2
namespace L2
open PySem PySem.Spec PyProof.Rows RS
section
variable {prog:Program}{w:World}{A:Around}{E:Value->Shared->Prop}{s:Shared}
theorem vC {T:String} (hT:T = "list" \/ T = "tuple") {l:Addr}{vs:List Value}{Q:List Value->Shared->Prop}{o:Obj}{n:Nat} (ho:s.heap.get? l=some o) (hc:o.cls=.type T) (hd:o.data=.seq vs.toArray n)
  (h:Q vs { s with heap:=(s.heap.push (seqObj "list" #[] 0)).update s.heap.objs.size (Obj.mapSeq (·++vs.toArray)) }) (hsz:vs.length<=sizeLine) :
  wpAny (model prog w) A (collect (.ref l)) Q E s:=by
 unfold collect
 refine LV (OJ (OA entry_proto_collect' ?_))
 show wpAny _ _ (do again (.builtin "list.__iadd__" ⟨[<- newList [],.ref l],[]⟩)) _ _ s
 refine LV (OZ (L4 ⟨OG _ (by decide +kernel),OA entry_list_iadd' ?_⟩))
 show wpAny _ _ (Builtin.List.listExtendWith (.ref s.heap.objs.size) (.ref l) (.ref s.heap.objs.size)) _ _ { s with heap:=s.heap.push (seqObj "list" #[] 0) }
 unfold Builtin.List.listExtendWith
 have ho':(s.heap.push (seqObj "list" #[] 0)).get? l=some o:=L7 _ ho
 refine LV (MX (T:=T) ⟨o,ho',hc⟩ ?_)
 have h1:(Value.type "list" == Value.type "list")=true:=by rfl
 have h2:(Value.type "tuple" == Value.type "tuple")=true:=by rfl
 rw [Lp (by rcases hT with rfl|rfl <;> simp [h1,h2])]
 refine LV (listItems_at ho' hd ?_)
 refine LV (listItems_at (xs:=#[]) (n:=0) (L8 _ rfl) rfl ?_)
 rw [Lq (by simp)]
 refine LV (OX (xs:=#[]) (n:=0) (L8 _ rfl) rfl ?_ (NN _) (by show (#[]++vs.toArray).size<=sizeLine+1;simp only [Array.size_append,Mf,NT];omega))
 refine L4 ?_
 show wpAny (model prog w) A (do
   let o <- load s.heap.objs.size
   match o.data with
   | .seq xs _=>pure xs.toList
   | _=>unsupported "internal:collect") Q E { s with heap:=(s.heap.push (seqObj "list" #[] 0)).update s.heap.objs.size (Obj.mapSeq (·++vs.toArray)) }
 refine LV (L5 (OY (L8 _ rfl) _) ?_)
 show wpAny _ _ (pure ((#[]:Array Value)++vs.toArray).toList) Q E _
 rw [show ((#[]:Array Value)++vs.toArray).toList=vs by simp]
 exact L4 h
theorem sS {T:String} (hT:T = "list" \/ T = "tuple") {l:Addr}{vs:List Value}{ns:List Int}{Q:Value->Shared->Prop}{o:Obj}{n:Nat} (ho:s.heap.get? l=some o) (hc:o.cls=.type T) (hd:o.data=.seq vs.toArray n) (hI:IntsAre vs ns) (h64:vs.length<64)
  (h:∀ (out:Array Value) (ns':List Int),IntsAre out.toList ns'->ns'.Perm ns->ns'.Pairwise (·<=·)->Q (.ref (s.heap.objs.size+1)) { s with heap:=sortedAll s.heap vs out }) :
  wpAny (model prog w) A (call (.builtin "sorted") [.ref l]) Q E s:=by
 have hsz0:vs.length<=sizeLine:=LB (LC h64) (by decide)
 refine O8 kind_sorted plain_sorted entry_sorted (args_sorted1 _) ?_
 unfold Builtin.«sorted»
 refine LV (m:=checkCount "sorted" 1 1 _) (L4 ?_)
 refine LV (vC hT ho hc hd ?_ hsz0)
 refine LV (OZ ?_ hsz0)
 have hsz:((s.heap.push (seqObj "list" #[] 0)).update s.heap.objs.size (Obj.mapSeq (·++vs.toArray))).objs.size=s.heap.objs.size+1:=by
  rw [O1,O0]
 have hoL:(((s.heap.push (seqObj "list" #[] 0)).update s.heap.objs.size (Obj.mapSeq (·++vs.toArray))).push (seqObj "list" vs.toArray 0)).get? (s.heap.objs.size+1)=some (seqObj "list" vs.toArray 0):=by
  rw [<- hsz];exact L8 _ rfl
 show wpAny _ _ _ _ _ { s with heap:=((s.heap.push (seqObj "list" #[] 0)).update s.heap.objs.size (Obj.mapSeq (·++vs.toArray))).push (seqObj "list" vs.toArray 0) }
 rw [hsz]
 refine LV (LW (MU slot_list_sort ⟨_,hoL,rfl⟩ O9 (list_sort_tree hoL hI h64 fun out ns' a1 a2 a3=>⟨_,rfl,?_⟩) (args_list_sort _)))
 exact L4 ⟨_,rfl,h out ns' a1 a2 a3⟩
end
theorem qA {h:Heap}{vs:List Value}{out:Array Value}{b:Addr}{u:Obj} (e:h.get? b=some u):(sortedAll h vs out).get? b=some u:=by
 have hb:=Ls e
 have n1:b≠h.objs.size:=Ly hb
 have n2:b≠h.objs.size+1:=Ly (NG hb)
 unfold sortedAll sortedHeap
 rw [O2 _ _ _ _ n2]
 refine L7 _ (L7 _ ?_)
 rw [O2 _ _ _ _ n2]
 refine L7 _ ?_
 rw [O2 _ _ _ _ n1]
 exact L7 _ e
theorem qB {h:Heap}{vs:List Value}{out:Array Value}:∃ n,(sortedAll h vs out).get? (h.objs.size+1)=some (seqObj "list" out n):=by
 unfold sortedAll sortedHeap
 have hsz:((h.push (seqObj "list" #[] 0)).update h.objs.size (Obj.mapSeq (·++vs.toArray))).objs.size=h.objs.size+1:=by
  rw [O1,O0]
 have hoL:(((h.push (seqObj "list" #[] 0)).update h.objs.size (Obj.mapSeq (·++vs.toArray))).push (seqObj "list" vs.toArray 0)).get? (h.objs.size+1)=some (seqObj "list" vs.toArray 0):=by
  rw [<- hsz];exact L8 _ rfl
 have g1:=OY hoL (fun _=>#[])
 have g2:=L7 (seqObj "list" #[] 0) (L7 (seqObj "tuple" vs.toArray 0) g1)
 exact ⟨_,OY g2 (fun _=>out)⟩
theorem lZ {us:List Value}{ns:List Int} (h:IntsAre us ns):ba (ns.map V.int) us:=by
 induction h with
 | nil=>exact .nil
 | cons n t _ ih=>exact .cons ⟨t,rfl⟩ ih
section
variable {X:Cx}
def AC (K:W.Frag):List V->Hp->VK->Prop:=fun xs H Q=>∃ (a:Addr) (ns:List Int),xs=[.ref a]/\(f7 K H a (ns.map V.int)\/gy K H a (ns.map V.int))/\ns.length<64 /\
 ∀ ns':List Int,ns'.Perm ns->ns'.Pairwise (·<=·)->∀ l,H l=none->Q (.ref l) (cI H l (.lst (ns'.map V.int)))
theorem xf:cH X (.builtin "sorted") (AC X.K):=by
 intro pins s σ H xs us Q I r h
 obtain ⟨a,ns,rfl,ha,hl,q⟩:=h
 obtain ⟨u,rfl,ru⟩:=fq r
 cases ru
 have core:∀ (T:String),T = "list" \/ T = "tuple" -> ∀ (its:List Value) (o:Obj) (n:Nat),s.heap.get? a=some o->o.cls=.type T->o.data=.seq its.toArray n->ba (ns.map V.int) its->wpAny (model X.prog X.w) X.A (call (.builtin "sorted") [.ref a]) (EP X pins σ Q) X.xe s:=by
  intro T hT its o n e1 e2 e3 rv
  have hI:IntsAre its ns:=fj rv
  refine sS hT e1 e2 e3 hI (by rw [hI.length];exact hl) fun out ns' h1 h2 h3=>?_
  refine ⟨.ref (s.heap.objs.size+1),cI H (s.heap.objs.size+1) (.lst (ns'.map V.int)),I.laid (t':=s.toks) (fun b ob e=>qA e) (Nat.le_succ _) ?_,rfl,q ns' h2 h3 _ (I.hok.fresh (Nat.le_succ _))⟩
  obtain ⟨m,e⟩:=qB (h:=s.heap) (vs:=its) (out:=out)
  refine ⟨?_,out.toList,m,lZ h1,by simpa using e⟩
  rw [Mw,h2.length_eq]
  exact LB (LC hl) (by decide)
 rcases ha with ha | ha
 ·obtain ⟨its, rv, ⟨o, n, e1, e2, _, e3⟩, hz⟩ := I.list ha
  exact core "list" (.inl rfl) its o n e1 e2 e3 rv
 ·obtain ⟨its, rv, ⟨o, e1, e2, n, e3⟩, hz⟩ := I.tuple ha
  exact core "tuple" (.inr rfl) its o n e1 e2 e3 rv
theorem z8 {pins:List (Addr × Obj)}{σ:St}{H:Hp}{s:Shared}{r:Addr}{k:List Int} (I:aV X pins σ H s) (h:gy X.K H r (k.map V.int)):Tk X.prog X.w s.heap k r:=by
 obtain ⟨its,rv,⟨o,e1,e2,n,e3⟩,_⟩:=I.tuple h
 refine ⟨o,its.toArray,n,e1,e2,e3,?_⟩
 have core:∀ (k:List Int) (its:List Value),ba (k.map V.int) its->PySem.ItemsAre (intKind X.prog X.w) k its:=by
  intro k
  induction k with
  | nil=>intro its h;cases h;exact .nil
  | cons i r ih=>
   intro its h
   cases h with
   | cons h1 h2=>
    obtain ⟨t,rfl⟩:=h1
    exact .cons (by simp [intKind,Value.isInt]) (ih _ h2)
 simpa using core k its rv
def jQ (qs:List KP):List V:=qs.map fun p=>V.ref p.2
theorem mH:∀ {qs:List KP}{its:List Value},ba (jQ qs) its->its=qs.map fun p=>Value.ref p.2
 | [],its,h=>by cases h;rfl
 | q::qs,its,h=>by
  cases h with
  | cons h1 h2=>cases h1;rw [mH h2];rfl
theorem nA:∀ (qs:List KP),ba (jQ qs) (aZ qs)
 | []=>.nil
 | q::qs=>.cons rfl (nA qs)
def Aa (K:W.Frag) (w:World):List V->Hp->VK->Prop:=fun xs H Q=>∃ (a:Addr) (qs:List KP),xs=[.ref a]/\(f7 K H a (jQ qs)\/gy K H a (jQ qs))/\(∀ p∈qs,p.1∈prs/\gy K H p.2 (p.1.map V.int)) /\
 ∀ l,H l=none->Q (.ref l) (cI H l (.ext fun h=>eH w h l (fg qs)))
theorem zl (hc:X.calm=true) (hu:X.A.units+64<cLine):cH X (.type "set") (Aa X.K X.w):=by
 intro pins s σ H xs us Q I r h
 obtain ⟨a,qs,rfl,ha,hq,q⟩:=h
 obtain ⟨u,rfl,ru⟩:=fq r
 cases ru
 have fin:∀ (h':Heap) (tk:Nat),eH X.w h' s.heap.objs.size (fg qs)->(∀ b o,b<s.heap.objs.size->s.heap.get? b=some o->h'.get? b=some o)->EP X pins σ Q (.ref s.heap.objs.size) { s with heap:=h',toks:=tk }:=by
  intro h' tk hS hk
  refine ⟨.ref s.heap.objs.size,cI H s.heap.objs.size (.ext fun h=>eH X.w h s.heap.objs.size (fg qs)),I.laid (t':=tk) (fun b ob e=>hk b ob (Ls e) e) (L9 _) ?_,rfl,q _ (I.hok.fresh (L9 _))⟩
  refine ⟨hS,?_,fun h1 h2 g k=>g.keeps k⟩
  obtain ⟨o,es,ep,t,Z,S0,_⟩:=hS
  exact ⟨o,S0.ho⟩
 rcases ha with ha | ha
 ·obtain ⟨its, rv, pl, hz⟩ := I.list ha
  exact vm (I.ok.hd hc) pl.isList (by simpa using mH rv) (fun p hp=>(hq p hp).1) (fun p hp=>z8 I (hq p hp).2) (by omega) fin
 ·obtain ⟨its, rv, pl, hz⟩ := I.tuple ha
  exact sU (I.ok.hd hc) pl (by simpa using mH rv) (fun p hp=>(hq p hp).1) (fun p hp=>z8 I (hq p hp).2) (by omega) fin
def AB (K:W.Frag) (w:World):List V->Hp->VK->Prop:=fun xs H Q=>∃ (a:Addr) (ps:List KP),xs=[.ref a]/\H a=some (.ext fun h=>eH w h a ps)/\(∀ p∈ps,gy K H p.2 (p.1.map V.int)) /\
 ∀ out:List KP,out.Perm ps->ix out->∀ l,H l=none->Q (.ref l) (cI H l (.lst (jQ out)))
theorem xc (hc:X.calm=true):cH X (.builtin "sorted") (AB X.K X.w):=by
 intro pins s σ H xs us Q I r h
 obtain ⟨a,ps,rfl,ha,hT,q⟩:=h
 obtain ⟨u,rfl,ru⟩:=fq r
 cases ru
 obtain ⟨hS,_⟩:=(show d9 X.prog X.w H s.heap a (.ext fun h=>eH X.w h a ps) from I.hok a _ ha)
 refine wF (I.ok.hd hc) hS (fun p hp=>z8 I (hT p hp)) fun out hp hr h' D hD hk hn=>?_
 refine ⟨.ref D,cI H D (.lst (jQ out)),I.laid (t':=s.toks) (fun b ob e=>hk b ob e) hD ?_,rfl,q out hp hr _ (I.hok.fresh hD)⟩
 obtain ⟨n,e⟩:=hn
 refine ⟨?_,aZ out,n,nA out,e⟩
 have hl:out.length<=15:=by
  rw [hp.length_eq]
  obtain ⟨o,es,ep,t,Z,S0,hk,hn⟩:=hS
  exact ki hk hn
 unfold jQ
 rw [Mw]
 exact LB hl (by decide)
end
end L2
namespace L2
open PySem PySem.Spec PyProof.Rows RS
def hV (qs:List KI):List KI:=qs.foldl (fun ps p=>tU ps p.1 p.2) []
theorem tG (qs:List KI) (p:KI):hV (qs++[p])=tU (hV qs) p.1 p.2:=by unfold hV;rw [Oz];rfl
def mG (ns:List Int):List Int:=ns.foldl (fun acc k=>if k∈acc then acc else acc++[k]) []
theorem mh:∀ (qs ps:List KI),(qs.foldl (fun ps p=>tU ps p.1 p.2) ps).map (·.1)=(qs.map (·.1)).foldl (fun acc k=>if k∈acc then acc else acc++[k]) (ps.map (·.1))
 | [],ps=>rfl
 | q::qs,ps=>by
  rw [Nq,mh qs,Nb,Nq]
  congr 1
  unfold tU
  split
  ·rfl
  ·rw [N7];rfl
theorem vH (qs:List KI):(hV qs).map (·.1)=mG (qs.map (·.1)):=mh qs []
theorem l6 {w:World}{h:Heap}{a:Addr} (e:h.get? a=some { cls:=.type "set",dict:=none,data:=.set #[] 0 (.fresh 0 0 (lE w)) }):cL w h a []:=
 ⟨_,_,_,_,[],⟨e,⟨rfl,rfl,rfl⟩,rfl,⟨rfl,rfl,List.Pairwise.nil,fun z hz=>by simp at hz,rfl,fun z hz=>by simp at hz⟩,rfl,rfl,.inl ⟨rfl,by decide⟩,List.Perm.nil⟩,fun p hp=>by simp at hp,Og⟩
def mz (p:KI):Value:=Value.int p.1 p.2
section
variable {prog:Program}{w:World}{A:Around}{E:Value->Shared->Prop}{s:Shared}
theorem rN {qs:List KI}{S:Addr}{u:Nat} (hk:∀ p∈qs,p.1∈ins):zV prog w u S (qs.map mz) (fun i h=>cL w h S (hV (qs.take i))):=by
 refine ⟨fun i h h' hk' j1=>j1.keeps fun o e=>hk' S o (L9 _) e,fun A i v s E Q hA hv j1 hQ=>?_⟩
 rw [Ms] at hv
 cases e:qs[i]? with
 | none=>rw [e] at hv;cases hv
 | some p=>
  rw [e] at hv
  cases hv
  have hpm:p∈qs:=Mu e
  unfold setAdd mz
  refine LW ?_
  refine LV (wpAny_pyHash_int ?_)
  refine Es (s:={ s with toks:=s.toks+1 }) j1 (hk p hpm) fun b h' hsb hS2=>?_
  have etk:qs.take (i+1)=qs.take i++[p]:=by rw [ON,e];rfl
  refine hQ b h' _ (OO _ _) hsb (by rw [etk,tG];exact hS2)
theorem rq:∀ (qs:List KI),IntsAre (qs.map mz) (qs.map (·.1))
 | []=>.nil
 | p::qs=>.cons p.1 p.2 (rq qs)
theorem uW {vs:List Value}{ns:List Int} (h:IntsAre vs ns):∃ qs:List KI,vs=qs.map mz/\qs.map (·.1)=ns:=by
 induction h with
 | nil=>exact ⟨[],rfl,rfl⟩
 | cons n t _ ih=>
  obtain ⟨qs,e1,e2⟩:=ih
  exact ⟨(n,t)::qs,by rw [e1];rfl,by rw [<- e2];rfl⟩
theorem vg {a:Addr}{ps:List KI}{Q:Value->Shared->Prop} (hh:A.handled=none) (S:cL w s.heap a ps)
  (h:∀ (out:List Value) (ns':List Int),IntsAre out ns'->ns'.Perm (ps.map (·.1))->ns'.Pairwise (·<=·)->∀ h' D,s.heap.objs.size<=D->(∀ b u,s.heap.get? b=some u->h'.get? b=some u)->(∃ n,h'.get? D=some (seqObj "list" out.toArray n))->Q (.ref D) { s with heap:=h' }) :
  wpAny (model prog w) A (call (.builtin "sorted") [.ref a]) Q E s:=by
 obtain ⟨o,es,ep,t,Z,S,hk,hn⟩:=S
 have h6:=jZ hk hn
 refine O8 kind_sorted plain_sorted entry_sorted (args_sorted1 _) ?_
 unfold Builtin.«sorted»
 refine LV (m:=checkCount "sorted" 1 1 _) (L4 ?_)
 refine LV (nF (by simpa using hh) S (by rw [S.len,Mw];omega) fun qs hqs h1 k1 hsz=>?_)
 obtain ⟨rs,q1,q2⟩:=me hqs ps rfl
 have q3:qs.map (·.2)=rs.map mz:=by rw [q2,NQ];rfl
 rw [q3]
 have hvl:(rs.map mz).length<=6:=by rw [Mw,q1.length_eq];exact h6
 refine LV (OZ ?_ (LB hvl (by decide)))
 have hoL:(h1.push (seqObj "list" (rs.map mz).toArray 0)).get? h1.objs.size=some (seqObj "list" (rs.map mz).toArray 0):=L8 _ rfl
 have hnn:∀ b u,h1.get? b=some u->b≠h1.objs.size:=fun b u q=>Ly (Ls q)
 refine LV (LW (MU slot_list_sort (s:={ s with heap:=h1.push (seqObj "list" (rs.map mz).toArray 0) }) ⟨_,hoL,rfl⟩ O9 ?body (args_list_sort _)))
 case body=>
  refine list_sort_tree (s:={ s with heap:=h1.push (seqObj "list" (rs.map mz).toArray 0) }) hoL (rq rs) (by omega) fun out ns' a1 a2 a3=>⟨_,rfl,?_⟩
  refine L4 ⟨_,rfl,h out.toList ns' a1 (a2.trans (q1.map _)) a3 _ h1.objs.size hsz (fun b u q=>?_) ?_⟩
  ·have hb := hnn b u (k1 b u q)
   unfold sortedHeap
   rw [O2 _ _ _ _ hb]
   refine L7 _ (L7 _ ?_)
   rw [O2 _ _ _ _ hb]
   exact L7 _ (k1 b u q)
  ·unfold sortedHeap
   have g1:=OY hoL (fun _=>#[])
   have g2:=L7 (seqObj "list" #[] 0) (L7 (seqObj "tuple" (rs.map mz).toArray 0) g1)
   exact ⟨_,OY g2 (fun _=>out)⟩
end
section
variable {X:Cx}
def Ab (K:W.Frag) (w:World):List V->Hp->VK->Prop:=fun xs H Q=>∃ (a:Addr) (ns:List Int),xs=[.ref a]/\(f7 K H a (ns.map V.int)\/gy K H a (ns.map V.int))/\(∀ n∈ns,n∈ins) /\
 ∀ l,H l=none->∀ ps:List KI,ps.map (·.1)=mG ns->(∀ p∈ps,p.1∈ins)->(ps.map (·.1)).Nodup->Q (.ref l) (cI H l (.ext fun h=>cL w h l ps))
theorem zm (hc:X.calm=true) (hu:X.A.units+64<cLine):cH X (.type "set") (Ab X.K X.w):=by
 intro pins s σ H xs us Q I r h
 obtain ⟨a,ns,rfl,ha,hq,q⟩:=h
 obtain ⟨u,rfl,ru⟩:=fq r
 cases ru
 have fin:∀ (qs:List KI),qs.map (·.1)=ns->∀ (h':Heap) (tk:Nat),cL X.w h' s.heap.objs.size (hV qs)->(∀ b o,b<s.heap.objs.size->s.heap.get? b=some o->h'.get? b=some o)->EP X pins σ Q (.ref s.heap.objs.size) { s with heap:=h',toks:=tk }:=by
  intro qs eq h' tk hS hk
  obtain ⟨o,es,ep,t,Z,S0,k1,k2⟩:=id hS
  refine ⟨.ref s.heap.objs.size,cI H s.heap.objs.size (.ext fun h=>cL X.w h s.heap.objs.size (hV qs)),I.laid (t':=tk) (fun b ob e=>hk b ob (Ls e) e) (L9 _) ?_,rfl,q _ (I.hok.fresh (L9 _)) _ (by rw [vH,eq]) k1 k2⟩
  exact ⟨hS,⟨o,S0.ho⟩,fun h1 h2 g k=>g.keeps k⟩
 rcases ha with ha | ha
 ·obtain ⟨its, rv, pl, hz⟩ := I.list ha
  obtain ⟨qs,e1,e2⟩:=uW (fj rv)
  subst e1
  have hsz:(qs.map mz).toArray.size=qs.length:=by rw [Mf,Mw]
  refine l0 (I.ok.hd hc) pl.isList (J:=fun i h=>cL X.w h s.heap.objs.size (hV (qs.take i))) ?_ (fun h' k e=>l6 e) fun h' tk j1=>fin qs e2 h' tk ?_
  ·exact rN fun p hp=>hq _ (by rw [<- e2];exact N4 hp)
  ·rw [hsz,OP] at j1;exact j1
 ·obtain ⟨its, rv, pl, hz⟩ := I.tuple ha
  obtain ⟨qs,e1,e2⟩:=uW (fj rv)
  subst e1
  have hsz:(qs.map mz).toArray.size=qs.length:=by rw [Mf,Mw]
  refine kL (I.ok.hd hc) pl (J:=fun i h=>cL X.w h s.heap.objs.size (hV (qs.take i))) ?_ (fun h' k e=>l6 e) fun h' tk j1=>fin qs e2 h' tk ?_
  ·exact rN fun p hp=>hq _ (by rw [<- e2];exact N4 hp)
  ·rw [hsz,OP] at j1;exact j1
def AA (w:World):List V->Hp->VK->Prop:=fun xs H Q=>∃ (a:Addr) (ps:List KI),xs=[.ref a]/\H a=some (.ext fun h=>cL w h a ps) /\
 ∀ ns':List Int,ns'.Perm (ps.map (·.1))->ns'.Pairwise (·<=·)->∀ l,H l=none->Q (.ref l) (cI H l (.lst (ns'.map V.int)))
theorem xb (hc:X.calm=true):cH X (.builtin "sorted") (AA X.w):=by
 intro pins s σ H xs us Q I r h
 obtain ⟨a,ps,rfl,ha,q⟩:=h
 obtain ⟨u,rfl,ru⟩:=fq r
 cases ru
 obtain ⟨hS,_⟩:=(show d9 X.prog X.w H s.heap a (.ext fun h=>cL X.w h a ps) from I.hok a _ ha)
 obtain ⟨o,es,ep,t,Z,S0,k1,k2⟩:=id hS
 have h6:=jZ k1 k2
 refine vg (I.ok.hd hc) hS fun out ns' a1 a2 a3 h' D hD hk hn=>?_
 refine ⟨.ref D,cI H D (.lst (ns'.map V.int)),I.laid (t':=s.toks) (fun b ob e=>hk b ob e) hD ?_,rfl,q ns' a2 a3 _ (I.hok.fresh hD)⟩
 obtain ⟨n,e⟩:=hn
 refine ⟨?_,out,n,lZ a1,e⟩
 rw [Mw,a2.length_eq,Mw]
 exact LB h6 (by decide)
def EO (w:World):List V->Hp->VK->Prop:=fun xs H Q=>∃ (a:Addr) (ps:List KI),xs=[.ref a]/\H a=some (.ext fun h=>cL w h a ps)/\Q (.int ps.length) H
theorem zt:cH X (.builtin "len") (EO X.w):=by
 intro pins s σ H xs us Q I r h
 obtain ⟨a,ps,rfl,ha,q⟩:=h
 obtain ⟨u,rfl,ru⟩:=fq r
 cases ru
 obtain ⟨hS,_⟩:=(show d9 X.prog X.w H s.heap a (.ext fun h=>cL X.w h a ps) from I.hok a _ ha)
 obtain ⟨o,es,ep,t,Z,S0,k1,k2⟩:=id hS
 have h6:=jZ k1 k2
 have hsz:es.size=ps.length:=by rw [S0.tab.size.2,S0.len,Mw]
 refine PySem.call_len_set S0.ho S0.ex S0.hd S0.fits (by rw [hsz];omega) ⟨.int ps.length,H,?_,⟨_,by rw [hsz]⟩,q⟩
 exact I.tok _
def ER (w:World):List V->Hp->VK->Prop:=fun xs H Q=>∃ (a:Addr) (ps:List KP),xs=[.ref a]/\H a=some (.ext fun h=>eH w h a ps)/\Q (.int ps.length) H
theorem zu:cH X (.builtin "len") (ER X.w):=by
 intro pins s σ H xs us Q I r h
 obtain ⟨a,ps,rfl,ha,q⟩:=h
 obtain ⟨u,rfl,ru⟩:=fq r
 cases ru
 obtain ⟨hS,_⟩:=(show d9 X.prog X.w H s.heap a (.ext fun h=>eH X.w h a ps) from I.hok a _ ha)
 obtain ⟨o,es,ep,t,Z,S0,k1,k2⟩:=id hS
 have h6:=ki k1 k2
 have hsz:es.size=ps.length:=by rw [S0.tab.size.2,S0.len,Mw]
 refine PySem.call_len_set S0.ho S0.ex S0.hd S0.fits (by rw [hsz];omega) ⟨.int ps.length,H,?_,⟨_,by rw [hsz]⟩,q⟩
 exact I.tok _
end
end L2
namespace L2
open PySem PySem.Spec PyProof.Rows RS
def aq (k:List Int):D:=.tup (k.map D.int)
def yi:D->Option (List Int)
 | .tup [.int a,.int b]=>if 0<=a/\a<b/\b<6 then some [a,b] else none
 | _=>none
def qN:List D->Option (List (List Int))
 | []=>some []
 | d::r=>match yi d,qN r with
  | some k,some ks=>some (k::ks)
  | _,_=>none
theorem D9 {d:D}{k:List Int} (h:yi d=some k):d=aq k/\k∈prs:=by
 unfold yi at h
 split at h
 ·split at h
  ·rename_i hc
   cases h
   exact ⟨rfl,sx hc.1 hc.2.1 hc.2.2⟩
  ·cases h
 ·cases h
theorem y4 {a b:Int} (h:0<=a/\a<b/\b<6):yi (.tup [.int a,.int b])=some [a,b]:=by
 simp only [yi,Lp h]
theorem uS:∀ {ds:List D}{ks:List (List Int)},qN ds=some ks->ds=ks.map aq/\∀ k∈ks,k∈prs
 | [],ks,h=>by cases h;exact ⟨rfl,fun k hk=>by simp at hk⟩
 | d::r,ks,h=>by
  unfold qN at h
  split at h
  ·rename_i k ks' h1 h2
   cases h
   obtain ⟨e1,e2⟩:=D9 h1
   obtain ⟨f1,f2⟩:=uS h2
   refine ⟨by rw [e1,f1];rfl,fun k' hk=>?_⟩
   rcases LH.mp hk with z | z
   ·rw [z];exact e2
   ·exact f2 k' z
  ·cases h
theorem uT:∀ {ks:List (List Int)},(∀ k∈ks,k∈prs)->qN (ks.map aq)=some ks
 | [],_=>rfl
 | k::ks,h=>by
  obtain ⟨a,b,rfl,h1,h2,h3⟩:=fB (h k LF)
  simp only [Nb,qN,uT fun k' hk=>h k' (LG _ hk)]
  have:yi (aq [a,b])=some [a,b]:=y4 ⟨h1,h2,h3⟩
  rw [this]
def zS (ks:List (List Int)) (k:List Int):List (List Int):=if k∈ks then ks else ks++[k]
def iW (ks:List (List Int)):List (List Int):=ks.foldl zS []
def fY (ks:List (List Int)):List (List Int):=prs.filter fun k=>decide (k∈ks)
theorem qe:∀ (qs ps:List KP),(qs.foldl (fun ps p=>lz ps p.1 p.2) ps).map (·.1)=(qs.map (·.1)).foldl zS (ps.map (·.1))
 | [],ps=>rfl
 | q::qs,ps=>by
  rw [Nq,Nb,Nq,qe qs]
  congr 1
  unfold lz zS
  split <;> simp
theorem zi (qs:List KP):(fg qs).map (·.1)=iW (qs.map (·.1)):=qe qs []
theorem zh {ks:List (List Int)}{k:List Int}:k∈iW ks↔k∈ks:=by
 have core:∀ (ks acc:List (List Int)),k∈ks.foldl zS acc↔k∈acc\/k∈ks:=by
  intro ks
  induction ks with
  | nil=>intro acc;simp
  | cons x r ih=>
   intro acc
   rw [Nq,ih]
   unfold zS
   split
   ·rename_i hx
    constructor
    ·rintro (h | h)
     ·exact .inl h
     ·exact .inr (LG _ h)
    ·rintro (h | h)
     ·exact .inl h
     ·rcases LH.mp h with z | z
      ·exact .inl (by rw [z];exact hx)
      ·exact .inr z
   ·simp [or_assoc]
 unfold iW
 rw [core]
 simp
theorem k8:prs.Pairwise fun a b=>jI a<jI b:=by decide +kernel
theorem B5 {l m:List (List Int)} (hl:l.Pairwise fun a b=>jI a<jI b) (hm:m.Pairwise fun a b=>jI a<jI b) (h:∀ k,k∈l↔k∈m):l=m:=by
 have nl:l.Nodup:=hl.imp fun h e=>by subst e;omega
 have nm:m.Nodup:=hm.imp fun h e=>by subst e;omega
 have hp:l.Perm m:=(List.perm_ext_iff_of_nodup nl nm).mpr h
 refine hp.eq_of_pairwise (le:=fun a b=>jI a<jI b) (fun a b _ _ h1 h2=>by omega) hl hm
theorem Ba {out:List KP}{ps:List KP} (hk:∀ p∈ps,p.1∈prs) (hp:out.Perm ps) (hr:ix out):out.map (·.1)=fY (ps.map (·.1)):=by
 refine B5 ?_ (k8.filter _) fun k=>?_
 ·unfold ix at hr
  rw [OW]
  exact hr
 ·have h1 : k ∈ out.map (·.1) ↔ k ∈ ps.map (·.1) := (hp.map _).mem_iff
  rw [h1]
  unfold fY
  rw [Lz,Pe]
  constructor
  ·intro h
   refine ⟨?_,h⟩
   obtain ⟨p,hp',rfl⟩:=N0.mp h
   exact hk p hp'
  ·exact fun h=>h.2
theorem vk (ks:List (List Int)):fY (iW ks)=fY ks:=by
 unfold fY
 apply List.filter_congr
 intro k _
 simp only [zh]
theorem Reps.keys {K:W.Frag}{H:Hp}{α:List Addr}:∀ {ks:List (List Int)}{vs:List V},Reps K H α (ks.map aq) vs->∃ qs:List KP,qs.map (·.1)=ks/\vs=jQ qs/\∀ p∈qs,gy K H p.2 (p.1.map V.int)
 | [],vs,h=>by simp only [Na,Reps] at h;exact ⟨[],rfl,h,fun p hp=>by simp at hp⟩
 | k::ks,vs,h=>by
  simp only [Nb,Reps] at h
  obtain ⟨v,r,rfl,h1,h2⟩:=h
  obtain ⟨a,us,rfl,h3,h4⟩:=aO.mp h1
  obtain ⟨qs,e1,e2,e3⟩:=Reps.keys h2
  refine ⟨(k,a)::qs,by rw [Nb,e1],by rw [e2];rfl,fun p hp=>?_⟩
  rcases LH.mp hp with z | z
  ·subst z
   rw [<- h4.ints];exact h3
  ·exact e3 p z
theorem nH {K:W.Frag}{H:Hp}{α:List Addr}:∀ {qs:List KP},(∀ p∈qs,gy K H p.2 (p.1.map V.int))->Reps K H α ((qs.map (·.1)).map aq) (jQ qs)
 | [],_=>Reps.nil
 | q::qs,h=>by
  refine Reps.cons (aO.mpr ⟨q.2,_,rfl,h q LF,j6 _⟩) (nH fun p hp=>h p (LG _ hp))
def kJ:List D->Option (List Int)
 | []=>some []
 | .int i::r=>(kJ r).map (i::·)
 | _::_=>none
theorem gm:∀ {ds:List D}{ns:List Int},kJ ds=some ns->ds=ns.map D.int
 | [],bs,h=>by cases h;rfl
 | .int b::r,bs,h=>by
  unfold kJ at h
  cases e:kJ r with
  | none=>rw [e] at h;cases h
  | some cs=>rw [e] at h;cases h;rw [gm e];rfl
 | .non::r,bs,h=>by cases h
 | .bl _::r,bs,h=>by cases h
 | .str _::r,bs,h=>by cases h
 | .tup _::r,bs,h=>by cases h
 | .frz _::r,bs,h=>by cases h
 | .obj _::r,bs,h=>by cases h
theorem wZ {ns:List Int} (h:∀ n∈ns,n∈ins):(mG ns).length<=6:=by
 have core:∀ (l acc:List Int),(∀ n∈l,n∈ins)->(∀ n∈acc,n∈ins)->acc.Nodup->(l.foldl (fun acc k=>if k∈acc then acc else acc++[k]) acc).length<=6:=by
  intro l
  induction l with
  | nil=>
   intro acc _ h2 h3
   have:=i6 h3 (l2:=ins) h2
   exact this
  | cons x l ih=>
   intro acc h1 h2 h3
   rw [Nq]
   have hx:=h1 x LF
   split
   ·exact ih acc (fun n hn=>h1 n (LG _ hn)) h2 h3
   ·rename_i hxa
    refine ih (acc++[x]) (fun n hn=>h1 n (LG _ hn)) (fun n hn=>?_) ?_
    ·rcases LJ.mp hn with z | z
     ·exact h2 n z
     ·rw [NO.mp z];exact hx
    ·refine Ou.mpr ⟨h3, by simp, fun u hu v hv e => ?_⟩
     rw [NO.mp hv] at e
     exact hxa (e ▸ hu)
 exact core ns [] h (fun n hn=>by simp at hn) Og
def Fh (xs:List D):Option (List Int):=match kJ xs with
 | some ns=>if ns.all (fun n=>decide (0<=n/\n<6))=true then some ns else none
 | none=>none
theorem Ee {xs:List D}{ns:List Int} (h:Fh xs=some ns):xs=ns.map D.int/\∀ n∈ns,n∈ins:=by
 unfold Fh at h
 split at h
 ·rename_i ms hm
  split at h
  ·rename_i ha
   cases h
   refine ⟨gm hm,fun n hn=>Ed.mpr ?_⟩
   simpa using Ol.mp ha n hn
  ·cases h
 ·cases h
def ua (xs:List D) (μ:aw):ak D:=match qN xs with
 | some ks=>.ok (.obj μ.length) (μ++[.set (iW ks)])
 | none=>match Fh xs with
  | some ns=>.ok (.obj μ.length) (μ++[.iset (mG ns)])
  | none=>.bad
def vW (ds:List D) (μ:aw):ak D:=match ds with
 | [.tup xs]=>ua xs μ
 | [.obj n]=>match μ[n]? with
  | some (.lst xs)=>ua xs μ
  | _=>.bad
 | _=>.bad
section
variable {p:Pa}
theorem DW {H:Hp}{α:List Addr}{μ:aw}{ks:List (List Int)}{vs:List V}{Q:VK} (S:p.S H α μ) (hk:∀ k∈ks,k∈prs) (r:p.Rs H α (ks.map aq) vs) (P:aH p H α (.ok (.obj μ.length) (μ++[.set (iW ks)])) (RV p Q)) :
  ∃ qs:List KP,vs=jQ qs/\(∀ q∈qs,q.1∈prs/\gy p.K H q.2 (q.1.map V.int))/\∀ l,H l=none->Q (.ref l) (cI H l (.ext fun h=>eH p.w h l (fg qs))):=by
 obtain ⟨qs,e1,e2,e3⟩:=r.keys
 refine ⟨qs,e2,fun q hq=>⟨hk _ (by rw [<- e1];exact N4 hq),e3 q hq⟩,fun l hl=>?_⟩
 have x1:p.X H (cI H l (.ext fun h=>eH p.w h l (fg qs))) α (α++[l]):=(bV hl).trans (i9 [l])
 refine P _ _ x1 (S.more hl ⟨fg qs,by rw [zi,e1],cg,fun q hq=>?_,tF,fun q hq=>?_⟩) _ (aR.mpr ⟨l,rfl,by rw [<- S.len];simp⟩)
 ·exact hk _ (by rw [<- e1];exact N4 (lh hq))
 ·exact x1.tup _ _ (e3 q (lh hq))
theorem BL {H:Hp}{α:List Addr}{μ:aw}{ns:List Int}{Q:VK} (S:p.S H α μ) (hk:∀ n∈ns,n∈ins) (P:aH p H α (.ok (.obj μ.length) (μ++[.iset (mG ns)])) (RV p Q)) :
  ∀ l,H l=none->∀ ps:List KI,ps.map (·.1)=mG ns->(∀ p∈ps,p.1∈ins)->(ps.map (·.1)).Nodup->Q (.ref l) (cI H l (.ext fun h=>cL p.w h l ps)):=fun l hl ps e _ _=>by
 have x1:p.X H (cI H l (.ext fun h=>cL p.w h l ps)) α (α++[l]):=(bV hl).trans (i9 [l])
 exact P _ _ x1 (S.more hl ⟨ps,e,cg,wZ hk⟩) _ (aR.mpr ⟨l,rfl,by rw [<- S.len];simp⟩)
theorem Aw {H:Hp}{α:List Addr}{μ:aw}{xs:List D}{us:List V}{a:Addr}{Q:VK} (S:p.S H α μ) (h1:f7 p.K H a us\/gy p.K H a us) (rr:p.Rs H α xs us) (P:aH p H α (ua xs μ) (RV p Q)):Aa p.K p.w [.ref a] H Q\/Ab p.K p.w [.ref a] H Q:=by
 unfold ua at P
 split at P
 ·rename_i ks hks
  obtain ⟨f1,f2⟩:=uS hks
  rw [f1] at rr
  obtain ⟨qs,e1,e2,e3⟩:=DW S f2 rr P
  exact .inl ⟨a,qs,rfl,by rw [<- e1];exact h1,e2,e3⟩
 ·split at P
  ·rename_i ns hns
   obtain ⟨f1,f2⟩:=Ee hns
   rw [f1] at rr
   exact .inr ⟨a,ns,rfl,by rw [<- rr.ints];exact h1,f2,BL S f2 P⟩
  ·exact P.elim
theorem G6:vL p vW (fun xs H Q=>Aa p.K p.w xs H Q\/Ab p.K p.w xs H Q):=by
 intro ds vs H α μ Q S r P
 unfold vW at P
 split at P
 ·rename_i xs
  obtain ⟨v,rfl,r1⟩:=r.one
  obtain ⟨a,us,rfl,h1,rr⟩:=aO.mp r1
  exact Aw S (.inr h1) rr P
 ·rename_i n
  split at P
  ·rename_i xs hx
   obtain ⟨v,rfl,r1⟩:=r.one
   obtain ⟨a,us,rfl,a1,h1,rr⟩:=cu S r1 hx
   exact Aw S (.inl (f7.of h1)) rr P
  ·exact P.elim
 ·exact P.elim
def oR (ns:List Int):List Int:=ns.mergeSort fun a b=>decide (a<=b)
theorem Bb {ns ns':List Int} (hp:ns'.Perm ns) (hs:ns'.Pairwise (·<=·)):ns'=oR ns:=by
 have h1:(oR ns).Perm ns:=List.mergeSort_perm ns _
 have h2:(oR ns).Pairwise (·<=·):=by
  have:=List.pairwise_mergeSort (le:=fun (a b:Int)=>decide (a<=b)) (fun a b c h1 h2=>by simp at *;omega) (fun a b=>by simp;omega) ns
  exact this.imp fun h=>by simpa using h
 exact (hp.trans h1.symm).eq_of_pairwise (fun a b _ _ h1 h2=>Po h1 h2) hs h2
def kx (ds:List D) (μ:aw):ak D:=match ds with
 | [.tup xs]=>match kJ xs with
  | some ns=>if ns.length<64 then .ok (.obj μ.length) (μ++[.lst ((oR ns).map D.int)]) else .bad
  | none=>.bad
 | [.obj n]=>match μ[n]? with
  | some (.lst xs)=>match kJ xs with
   | some ns=>if ns.length<64 then .ok (.obj μ.length) (μ++[.lst ((oR ns).map D.int)]) else .bad
   | none=>.bad
  | some (.set ks)=>.ok (.obj μ.length) (μ++[.lst ((fY ks).map aq)])
  | some (.iset ks)=>.ok (.obj μ.length) (μ++[.lst ((oR ks).map D.int)])
  | _=>.bad
 | _=>.bad
theorem yR:vL p kx (fun xs H Q=>(AC p.K xs H Q\/AB p.K p.w xs H Q)\/AA p.w xs H Q):=by
 intro ds vs H α μ Q S r P
 have fin:∀ {ns:List Int},aH p H α (.ok (.obj μ.length) (μ++[.lst ((oR ns).map D.int)])) (RV p Q)->∀ ns':List Int,ns'.Perm ns->ns'.Pairwise (·<=·)->∀ l,H l=none->Q (.ref l) (cI H l (.lst (ns'.map V.int))):=by
  intro ns P ns' h1 h2 l hl
  rw [<- Bb h1 h2] at P
  obtain ⟨x1,x2,x3⟩:=c6 S hl (j6 ns')
  exact P _ _ x1 x2 _ x3
 unfold kx at P
 split at P
 ·rename_i xs
  split at P
  ·rename_i ns hns
   split at P
   ·rename_i hl
    obtain ⟨v,rfl,r1⟩:=r.one
    obtain ⟨a,us,rfl,h1,rr⟩:=aO.mp r1
    rw [gm hns] at rr
    exact .inl (.inl ⟨a,ns,rfl,.inr (by rw [<- rr.ints];exact h1),hl,fin P⟩)
   ·exact P.elim
  ·exact P.elim
 ·rename_i n
  split at P
  ·rename_i xs hx
   split at P
   ·rename_i ns hns
    split at P
    ·rename_i hl
     obtain ⟨v,rfl,r1⟩:=r.one
     obtain ⟨a,us,rfl,a1,h1,rr⟩:=cu S r1 hx
     rw [gm hns] at rr
     exact .inl (.inl ⟨a,ns,rfl,.inl (by rw [<- rr.ints];exact f7.of h1),hl,fin P⟩)
    ·exact P.elim
   ·exact P.elim
  ·rename_i ks hx
   obtain ⟨v,rfl,r1⟩:=r.one
   obtain ⟨a,ea,ps,e1,e2,e3,e4,e5⟩:=S.at hx
   obtain ⟨a',rfl,ea'⟩:=aR.mp r1
   rw [ea] at ea';cases ea'
   refine .inl (.inr ⟨a,ps,rfl,e2,e5,fun out hp hr l hl=>?_⟩)
   have rr:p.Rs H α ((out.map (·.1)).map aq) (jQ out):=nH fun q hq=>e5 q (hp.mem_iff.mp hq)
   rw [Ba e3 hp hr,e1] at rr
   obtain ⟨x1,x2,x3⟩:=c6 S hl rr
   exact P _ _ x1 x2 _ x3
  ·rename_i ks hx
   obtain ⟨v,rfl,r1⟩:=r.one
   obtain ⟨a,ea,ps,e1,e2,e3⟩:=S.at hx
   obtain ⟨a',rfl,ea'⟩:=aR.mp r1
   rw [ea] at ea';cases ea'
   exact .inr ⟨a,ps,rfl,e2,by rw [e1];exact fin P⟩
  ·exact P.elim
 ·exact P.elim
def nO (ds:List D) (μ:aw):ak D:=match ds with
 | [.obj n]=>match μ[n]? with
  | some (.iset ks)=>.ok (.int ks.length) μ
  | some (.set ks)=>.ok (.int ks.length) μ
  | _=>xo [.obj n] μ
 | _=>xo ds μ
theorem G9:vL p nO (fun xs H Q=>((∃ x n,xs=[x]/\Fw p.K x H n/\Q (.int n) H)\/EO p.w xs H Q)\/ER p.w xs H Q):=by
 intro ds vs H α μ Q S r P
 unfold nO at P
 split at P
 ·rename_i n
  split at P
  ·rename_i ks hx
   obtain ⟨v,rfl,r1⟩:=r.one
   obtain ⟨a,ea,ps,e1,e2,e3⟩:=S.at hx
   obtain ⟨a',rfl,ea'⟩:=aR.mp r1
   rw [ea] at ea';cases ea'
   refine .inl (.inr ⟨a,ps,rfl,e2,P.now S _ (ar.mpr ?_)⟩)
   rw [<- e1,Mw]
  ·rename_i ks hx
   obtain ⟨v,rfl,r1⟩:=r.one
   obtain ⟨a,ea,ps,e1,e2,e3⟩:=S.at hx
   obtain ⟨a',rfl,ea'⟩:=aR.mp r1
   rw [ea] at ea';cases ea'
   refine .inr ⟨a,ps,rfl,e2,P.now S _ (ar.mpr ?_)⟩
   rw [<- e1,Mw]
  ·exact .inl (.inl (xK _ vs H α μ Q S r P))
 ·exact .inl (.inl (xK _ vs H α μ Q S r P))
end
section
variable {X:Cx}
def EM (K:W.Frag):List V->Hp->VK->Prop:=fun xs H Q=>∃ (a:Addr) (ns:List Int),xs=[.ref a]/\(f7 K H a (ns.map V.int)\/gy K H a (ns.map V.int))/\ns≠[]/\∀ m∈ns,(∀ j∈ns,m<=j)->Q (.int m) H
def EN (K:W.Frag):List V->Hp->VK->Prop:=fun xs H Q=>∃ (a:Addr) (ns:List Int),xs=[.ref a]/\(f7 K H a (ns.map V.int)\/gy K H a (ns.map V.int))/\ns≠[]/\∀ m∈ns,(∀ j∈ns,j<=m)->Q (.int m) H
theorem kj {its:List Value}{ns:List Int} (h:IntsAre its ns) {i:Nat}{v:Value} (e:its.toArray[i]?=some v):∃ t,v=.int (ns.getD i 0) t/\i<ns.length:=by
 have e':its[i]?=some v:=by simpa using e
 obtain ⟨n,t,rfl,hn⟩:=h.at i v e'
 have hi:=(LL.mp hn).1
 exact ⟨t,by rw [OS,hn];rfl,hi⟩
theorem uY {ns:List Int}{i:Nat} (h:i<ns.length):ns.getD i 0∈ns:=by
 rw [OS,O5 h]
 exact O4 h
theorem uQ {ns:List Int}{j:Int} (h:j∈ns):∃ i,i<ns.length/\ns.getD i 0=j:=by
 obtain ⟨i,hi,e⟩:=List.getElem_of_mem h
 exact ⟨i,hi,by rw [OS,O5 hi];exact e⟩
theorem zp (hc:X.calm=true):cH X (.builtin "min") (EM X.K):=by
 intro pins s σ H xs us Q I r h
 obtain ⟨a,ns,rfl,ha,hne,q⟩:=h
 obtain ⟨u,rfl,ru⟩:=fq r
 cases ru
 have hpos:0<ns.length:=List.length_pos_iff.mpr hne
 have core:∀ (its:List Value) (o:Obj),IntsAre its ns->∀ v s',its.toArray[argBest (fun i j=>decide (ns.getD i 0<ns.getD j 0)) (its.toArray.size - 1)]?=some v->Moved [s.heap.objs.size] (fun a b=>b=a) { s with heap:=s.heap.push o } s'->EP X pins σ Q v s':=by
  intro its o hI v s' hv hm
  obtain ⟨t,rfl,hi⟩:=kj hI hv
  have hsz:its.toArray.size - 1=ns.length - 1:=by rw [Mf,hI.length]
  rw [hsz] at hi ⊢
  obtain ⟨b1,b2⟩:=argBest_lt (fun i=>ns.getD i 0) (ns.length - 1)
  obtain ⟨hh,g,d,tk,os⟩:=s'
  have e1:g=s.gens:=hm.gens
  have e2:d=s.drawn:=hm.drawn
  have e3:os=s.os:=hm.os
  subst e1 e2 e3
  refine ⟨.int _,H,I.fresh_it (o:=o) (h':=hh) (tk:=tk) fun b ob hb e=>hm.heap b ob hb e,⟨t,rfl⟩,q _ (uY hi) fun j hj=>?_⟩
  obtain ⟨i,hi',rfl⟩:=uQ hj
  exact b2 i (by omega)
 have cmp:∀ (its:List Value),IntsAre its ns->CmpOf X.prog X.w X.A.in1 .Lt (fun i v=>its.toArray[i]?=some v) (fun i j=>decide (ns.getD i 0<ns.getD j 0)):=by
  intro its hI i j vi vj s' Q' E' h1 h2 hQ
  obtain ⟨t1,rfl,_⟩:=kj hI h1
  obtain ⟨t2,rfl,_⟩:=kj hI h2
  exact (PyProof.Rows.lt_int hQ:wpAny _ _ (compareOp .Lt _ _) _ _ _)
 rcases ha with ha | ha
 ·obtain ⟨its, rv, pl, hz⟩ := I.list ha
  have hI:IntsAre its ns:=fj rv
  have hne:a≠s.heap.objs.size:=by
   obtain ⟨o,n,e,_⟩:=pl
   exact Ly (Ls e)
  refine call_min_walkS (OI pl.isList ?_)
  refine ⟨s.heap.objs.size,[s.heap.objs.size,a],[s.heap.objs.size],_,_,_,_,_,rfl,(Walks.list (A:=X.A.in1) (show X.A.in1.handled=none from I.ok.hd hc) _ a hne its.toArray).toS,⟨⟨_,L8 _ rfl,rfl,rfl⟩,pl.isList.at fun o e=>L7 _ e⟩,fun b hb=>?_,by simp [hI.length,hpos],cmp its hI,fun v s' hv hm=>core its _ hI v s' hv hm⟩
  obtain ⟨o,n,e,_⟩:=pl
  have:=Ls e
  simp only [LH,OK,OL] at hb
  show b<(s.heap.push _).objs.size
  rw [O0]
  rcases hb with rfl|rfl
  ·exact NF _
  ·exact NG this
 ·obtain ⟨its, rv, pl, hz⟩ := I.tuple ha
  have hI:IntsAre its ns:=fj rv
  have hne:a≠s.heap.objs.size:=by
   obtain ⟨o,e,_⟩:=pl
   exact Ly (Ls e)
  refine call_min_walkS (OM (show s.heap.IsTuple a its.toArray from pl) ?_)
  refine ⟨s.heap.objs.size,[s.heap.objs.size,a],[s.heap.objs.size],_,_,_,_,_,rfl,(Walks.tuple (A:=X.A.in1) (show X.A.in1.handled=none from I.ok.hd hc) _ a hne its.toArray).toS,⟨⟨_,L8 _ rfl,rfl,rfl⟩,(show s.heap.IsTuple a its.toArray from pl).at fun o e=>L7 _ e⟩,fun b hb=>?_,by simp [hI.length,hpos],cmp its hI,fun v s' hv hm=>core its _ hI v s' hv hm⟩
  obtain ⟨o,e,_⟩:=pl
  have:=Ls e
  simp only [LH,OK,OL] at hb
  show b<(s.heap.push _).objs.size
  rw [O0]
  rcases hb with rfl|rfl
  ·exact NF _
  ·exact NG this
theorem zr (hc:X.calm=true):cH X (.builtin "max") (EN X.K):=by
 intro pins s σ H xs us Q I r h
 obtain ⟨a,ns,rfl,ha,hne,q⟩:=h
 obtain ⟨u,rfl,ru⟩:=fq r
 cases ru
 have hpos:0<ns.length:=List.length_pos_iff.mpr hne
 have core:∀ (its:List Value) (o:Obj),IntsAre its ns->∀ v s',its.toArray[argBest (fun i j=>decide (ns.getD i 0 > ns.getD j 0)) (its.toArray.size - 1)]?=some v->Moved [s.heap.objs.size] (fun a b=>b=a) { s with heap:=s.heap.push o } s'->EP X pins σ Q v s':=by
  intro its o hI v s' hv hm
  obtain ⟨t,rfl,hi⟩:=kj hI hv
  have hsz:its.toArray.size - 1=ns.length - 1:=by rw [Mf,hI.length]
  rw [hsz] at hi ⊢
  obtain ⟨b1,b2⟩:=argBest_gt (fun i=>ns.getD i 0) (ns.length - 1)
  obtain ⟨hh,g,d,tk,os⟩:=s'
  have e1:g=s.gens:=hm.gens
  have e2:d=s.drawn:=hm.drawn
  have e3:os=s.os:=hm.os
  subst e1 e2 e3
  refine ⟨.int _,H,I.fresh_it (o:=o) (h':=hh) (tk:=tk) fun b ob hb e=>hm.heap b ob hb e,⟨t,rfl⟩,q _ (uY hi) fun j hj=>?_⟩
  obtain ⟨i,hi',rfl⟩:=uQ hj
  exact b2 i (by omega)
 have cmp:∀ (its:List Value),IntsAre its ns->CmpOf X.prog X.w X.A.in1 .Gt (fun i v=>its.toArray[i]?=some v) (fun i j=>decide (ns.getD i 0 > ns.getD j 0)):=by
  intro its hI i j vi vj s' Q' E' h1 h2 hQ
  obtain ⟨t1,rfl,_⟩:=kj hI h1
  obtain ⟨t2,rfl,_⟩:=kj hI h2
  exact (PyProof.Rows.gt_int hQ:wpAny _ _ (compareOp .Gt _ _) _ _ _)
 rcases ha with ha | ha
 ·obtain ⟨its, rv, pl, hz⟩ := I.list ha
  have hI:IntsAre its ns:=fj rv
  have hne:a≠s.heap.objs.size:=by
   obtain ⟨o,n,e,_⟩:=pl
   exact Ly (Ls e)
  refine call_max_walkS (OI pl.isList ?_)
  refine ⟨s.heap.objs.size,[s.heap.objs.size,a],[s.heap.objs.size],_,_,_,_,_,rfl,(Walks.list (A:=X.A.in1) (show X.A.in1.handled=none from I.ok.hd hc) _ a hne its.toArray).toS,⟨⟨_,L8 _ rfl,rfl,rfl⟩,pl.isList.at fun o e=>L7 _ e⟩,fun b hb=>?_,by simp [hI.length,hpos],cmp its hI,fun v s' hv hm=>core its _ hI v s' hv hm⟩
  obtain ⟨o,n,e,_⟩:=pl
  have:=Ls e
  simp only [LH,OK,OL] at hb
  show b<(s.heap.push _).objs.size
  rw [O0]
  rcases hb with rfl|rfl
  ·exact NF _
  ·exact NG this
 ·obtain ⟨its, rv, pl, hz⟩ := I.tuple ha
  have hI:IntsAre its ns:=fj rv
  have hne:a≠s.heap.objs.size:=by
   obtain ⟨o,e,_⟩:=pl
   exact Ly (Ls e)
  refine call_max_walkS (OM (show s.heap.IsTuple a its.toArray from pl) ?_)
  refine ⟨s.heap.objs.size,[s.heap.objs.size,a],[s.heap.objs.size],_,_,_,_,_,rfl,(Walks.tuple (A:=X.A.in1) (show X.A.in1.handled=none from I.ok.hd hc) _ a hne its.toArray).toS,⟨⟨_,L8 _ rfl,rfl,rfl⟩,(show s.heap.IsTuple a its.toArray from pl).at fun o e=>L7 _ e⟩,fun b hb=>?_,by simp [hI.length,hpos],cmp its hI,fun v s' hv hm=>core its _ hI v s' hv hm⟩
  obtain ⟨o,e,_⟩:=pl
  have:=Ls e
  simp only [LH,OK,OL] at hb
  show b<(s.heap.push _).objs.size
  rw [O0]
  rcases hb with rfl|rfl
  ·exact NF _
  ·exact NG this
end
def IL:List Int->Int
 | []=>0
 | x::r=>r.foldl min x
def IM:List Int->Int
 | []=>0
 | x::r=>r.foldl max x
theorem zd (r:List Int):∀ x:Int,(r.foldl min x=x\/r.foldl min x∈r)/\r.foldl min x<=x/\∀ j∈r,r.foldl min x<=j:=by
 induction r with
 | nil=>intro x;exact ⟨.inl rfl,Int.le_refl _,fun j hj=>by simp at hj⟩
 | cons y r ih=>
  intro x
  obtain ⟨h1,h2,h3⟩:=ih (min x y)
  rw [Nq]
  have m1:min x y<=x:=Int.min_le_left _ _
  have m2:min x y<=y:=Int.min_le_right _ _
  refine ⟨?_,by omega,fun j hj=>?_⟩
  ·rcases h1 with h | h
   ·rcases (by omega : min x y = x \/ min x y = y) with e | e
    ·exact .inl (by omega)
    ·exact .inr (by rw [h,e];exact LF)
   ·exact .inr (LG _ h)
  ·rcases LH.mp hj with e | e
   ·rw [e];omega
   ·exact h3 j e
theorem ze (r:List Int):∀ x:Int,(r.foldl max x=x\/r.foldl max x∈r)/\x<=r.foldl max x/\∀ j∈r,j<=r.foldl max x:=by
 induction r with
 | nil=>intro x;exact ⟨.inl rfl,Int.le_refl _,fun j hj=>by simp at hj⟩
 | cons y r ih=>
  intro x
  obtain ⟨h1,h2,h3⟩:=ih (max x y)
  rw [Nq]
  have m1:x<=max x y:=Int.le_max_left _ _
  have m2:y<=max x y:=Int.le_max_right _ _
  refine ⟨?_,by omega,fun j hj=>?_⟩
  ·rcases h1 with h | h
   ·rcases (by omega : max x y = x \/ max x y = y) with e | e
    ·exact .inl (by omega)
    ·exact .inr (by rw [h,e];exact LF)
   ·exact .inr (LG _ h)
  ·rcases LH.mp hj with e | e
   ·rw [e];omega
   ·exact h3 j e
theorem D1 {ns:List Int}{m:Int} (h:m∈ns) (hm:∀ j∈ns,m<=j):m=IL ns:=by
 cases ns with
 | nil=>simp at h
 | cons x r=>
  obtain ⟨h1,h2,h3⟩:=zd r x
  have a1:m<=r.foldl min x:=by
   rcases h1 with e | e
   ·rw [e];exact hm x LF
   ·exact hm _ (LG _ e)
  have a2:r.foldl min x<=m:=by
   rcases LH.mp h with e | e
   ·rw [e];exact h2
   ·exact h3 m e
  exact Po a1 a2
theorem D2 {ns:List Int}{m:Int} (h:m∈ns) (hm:∀ j∈ns,j<=m):m=IM ns:=by
 cases ns with
 | nil=>simp at h
 | cons x r=>
  obtain ⟨h1,h2,h3⟩:=ze r x
  have a1:r.foldl max x<=m:=by
   rcases h1 with e | e
   ·rw [e];exact hm x LF
   ·exact hm _ (LG _ e)
  have a2:m<=r.foldl max x:=by
   rcases LH.mp h with e | e
   ·rw [e];exact h2
   ·exact h3 m e
  exact Po a2 a1
def Ct (d:D) (μ:aw):Option (List Int):=match d with
 | .tup xs=>kJ xs
 | .frz xs=>kJ xs
 | .obj n=>match μ[n]? with
  | some (.lst xs)=>kJ xs
  | _=>none
 | _=>none
theorem xD {p:Pa}{H:Hp}{α:List Addr}{μ:aw}{d:D}{v:V}{ns:List Int} (S:p.S H α μ) (r:p.R H α d v) (h:Ct d μ=some ns):∃ a,v=.ref a/\(f7 p.K H a (ns.map V.int)\/gy p.K H a (ns.map V.int)):=by
 unfold Ct at h
 split at h
 ·obtain ⟨a, us, rfl, h1, rr⟩ := aO.mp r
  rw [gm h] at rr
  exact ⟨a,rfl,.inr (by rw [<- rr.ints];exact h1)⟩
 ·obtain ⟨a, us, rfl, h1, rr⟩ := bf.mp r
  rw [gm h] at rr
  exact ⟨a,rfl,.inl (by rw [<- rr.ints];exact h1.sq)⟩
 ·split at h
  ·rename_i xs hx
   obtain ⟨a,us,rfl,a1,h1,rr⟩:=cu S r hx
   rw [gm h] at rr
   exact ⟨a,rfl,.inl (by rw [<- rr.ints];exact f7.of h1)⟩
  ·cases h
 ·cases h
def yk (ds:List D) (μ:aw):ak D:=match ds with
 | [d]=>match Ct d μ with
  | some (n::ns)=>.ok (.int (IL (n::ns))) μ
  | _=>.bad
 | ds=>Aj ds μ
def tR (ds:List D) (μ:aw):ak D:=match ds with
 | [d]=>match Ct d μ with
  | some (n::ns)=>.ok (.int (IM (n::ns))) μ
  | _=>.bad
 | ds=>Ak ds μ
theorem G7 {p:Pa}:vL p yk (fun xs H Q=>EM p.K xs H Q\/∃ i j,xs=[.int i,.int j]/\Q (.int (if j<i then j else i)) H):=by
 intro ds vs H α μ Q S r P
 unfold yk at P
 split at P
 ·rename_i d
  split at P
  ·rename_i n ns hns
   obtain ⟨v,rfl,r1⟩:=r.one
   obtain ⟨a,rfl,h1⟩:=xD S r1 hns
   refine .inl ⟨a,n::ns,rfl,h1,by simp,fun m hm hj=>?_⟩
   rw [D1 hm hj]
   exact P.now S _ (ar.mpr rfl)
  ·exact P.elim
 ·exact .inr (DQ ds vs H α μ Q S r P)
theorem G8 {p:Pa}:vL p tR (fun xs H Q=>EN p.K xs H Q\/∃ i j,xs=[.int i,.int j]/\Q (.int (if j > i then j else i)) H):=by
 intro ds vs H α μ Q S r P
 unfold tR at P
 split at P
 ·rename_i d
  split at P
  ·rename_i n ns hns
   obtain ⟨v,rfl,r1⟩:=r.one
   obtain ⟨a,rfl,h1⟩:=xD S r1 hns
   refine .inl ⟨a,n::ns,rfl,h1,by simp,fun m hm hj=>?_⟩
   rw [D2 hm hj]
   exact P.now S _ (ar.mpr rfl)
  ·exact P.elim
 ·exact .inr (DR ds vs H α μ Q S r P)
section
variable {X:Cx}
end
def jV (o1 o2:D->D->aw->ak D) (fa fb fc:ME):ME:=fun ρ μ=>(fa ρ μ).bind fun a μ1=>(fb ρ μ1).bind fun b μ2=>(o1 a b μ2).bind fun z μ3=>(xl z μ3).bind fun k μ4=>
 if k=true then (fc ρ μ4).bind fun c μ5=>o2 b c μ5 else .ok (.bl false) μ4
def oy (o1 o2 o3:D->D->aw->ak D) (fa fb fc fd:ME):ME:=fun ρ μ=>(fa ρ μ).bind fun a μ1=>(fb ρ μ1).bind fun b μ2=>(o1 a b μ2).bind fun z μ3=>(xl z μ3).bind fun k μ4=>
 if k=true then (fc ρ μ4).bind fun c μ5=>(o2 b c μ5).bind fun z2 μ6=>(xl z2 μ6).bind fun k2 μ7=>if k2=true then (fd ρ μ7).bind fun d μ8=>o3 c d μ8 else .ok (.bl false) μ7 else .ok (.bl false) μ4
def CQ (r r' r'':R2) (ta tb tc td:TE):TE:=fun σ H Q=>ta σ H fun x H1=>tb σ H1 fun y H2=>r x y H2 fun z H3=>∃ k,z=.bl k /\
 (if k=true then tc σ H3 fun w' H4=>r' y w' H4 fun z' H5=>∃ k',z'=.bl k'/\(if k'=true then td σ H5 fun v' H6=>r'' w' v' H6 Q else Q (.bl false) H5) else Q (.bl false) H3)
section
variable {X:Cx}{p:Pa}{a b c d:Expr}{ta tb tc td:TE}{fa fb fc fd:ME}{pos:Pos}{op op' op'':CmpOp}{r r' r'':R2}{o1 o2 o3:D->D->aw->ak D}
theorem yI (ho:gS X (compareOp op) r) (ho':gS X (compareOp op') r') (ho'':gS X (compareOp op'') r'') (ha:PE X a ta) (hb:PE X b tb) (hc:PE X c tc) (hd:PE X d td)
  (hm:lastMarks [op,op',op''] [b,c,d]=false):PT X (.Compare a [op,op',op''] [b,c,d] pos) (xm (CQ r r' r'' ta tb tc td)):=by
 intro pins s σ H Q I h
 refine isTrue_chain (cQ (ha pins s σ H _ I h) fun v s1 ⟨x,H1,I1,r1,q1⟩=>test_link (cQ (hb pins s1 σ H1 _ I1 q1) fun u s2 ⟨y,H2,I2,r2,q2⟩=>
  cQ (ho pins s2 σ H2 x y v u _ I2 r1 r2 q2) fun d s3 ⟨z,H3,I3,r3,k,e,q3⟩=>?_)) hm
 subst e
 cases r3
 refine LQ ?_
 cases k with
 | false=>
  obtain ⟨k',e',q'⟩:=q3
  cases e'
  exact ite_ff ⟨H3,I3,q'⟩
 | true=>
  refine ite_tt (test_link (cQ (hc pins s3 σ H3 _ I3 q3) fun w' s4 ⟨z',H4,I4,r4,q4⟩=>cQ (ho' pins s4 σ H4 y z' u w' _ I4 r2 r4 q4) fun d' s5 ⟨z2,H5,I5,r5,k2,e2,q5⟩=>?_))
  subst e2
  cases r5
  refine LQ ?_
  cases k2 with
  | false=>
   obtain ⟨k',e',q'⟩:=q5
   cases e'
   exact ite_ff ⟨H5,I5,q'⟩
  | true=>
   refine ite_tt (test_last (cQ (hd pins s5 σ H5 _ I5 q5) fun w'' s6 ⟨z'',H6,I6,r6,q6⟩=>cQ (ho'' pins s6 σ H6 z' z'' w' w'' _ I6 r4 r6 q6) fun d'' s7 ⟨z7,H7,I7,r7,k7,e7,q7⟩=>?_))
   subst e7
   cases r7
   exact LQ ⟨H7,I7,q7⟩
theorem p8 (hd1:nq p o1 r) (hd2:nq p o2 r') {σ:St}{H:Hp}{Q:VK} (h:tD p (jV o1 o2 fa fb fc) σ H Q):v3 r r' (tD p fa) (tD p fb) (tD p fc) σ H Q:=by
 obtain ⟨α,ρ,μ,S,R,P⟩:=h
 refine ⟨α,ρ,μ,S,R,(aH.bind P).imp fun x μ1 H1 α1 X1 S1 P1 v rv=>⟨α1,ρ,μ1,S1,R.mono X1,(aH.bind P1).imp fun y μ2 H2 α2 X2 S2 P2 u ru=>?_⟩⟩
 refine hd1 x y v u H2 α2 μ2 _ S2 (rv.mono X2) ru ((aH.bind P2).imp fun z μ3 H3 α3 X3 S3 P3 w rw'=>?_)
 obtain ⟨k,_,e,q⟩:=kZ (aH.bind P3) rw' S3
 refine ⟨k,e,?_⟩
 cases k with
 | true=>
  rw [Lp rfl] at q ⊢
  exact ⟨α3,ρ,μ3,S3,((R.mono X1).mono X2).mono X3,(aH.bind q).imp fun c μ5 H5 α5 X5 S5 P5 t rt=>hd2 y c u t H5 α5 μ5 Q S5 ((ru.mono X3).mono X5) rt P5⟩
 | false=>rw [Lq LZ] at q ⊢;exact q.now S3 _ (aT.mpr rfl)
theorem Bi (ho:gS X (compareOp op) r) (ho':gS X (compareOp op') r') (hd1:nq p o1 r) (hd2:nq p o2 r') (ha:PE X a (tD p fa)) (hb:PE X b (tD p fb)) (hc:PE X c (tD p fc))
  (hm:lastMarks [op,op'] [b,c]=false):PE X (.Compare a [op,op'] [b,c] pos) (tD p (jV o1 o2 fa fb fc)):=(BC ho ho' ha hb hc hm).weak fun σ H Q h=>p8 hd1 hd2 h
theorem qT {t:TE}{f:ME} (hk:∀ σ H Q,tD p f σ H Q->t σ H Q) {σ:St}{H:Hp}{Q:Bool->Hp->Prop} (h:iD p (kg f) σ H Q):xm t σ H Q:=by
 obtain ⟨α,ρ,μ,S,R,P⟩:=h
 refine hk σ H _ ⟨α,ρ,μ,S,R,(aH.bind P).imp fun d μ1 H1 α1 X1 S1 P1 v rv=>?_⟩
 obtain ⟨k,_,e,q⟩:=kZ P1 rv S1
 exact ⟨k,e,q⟩
theorem A2 (ho:gS X (compareOp op) r) (ho':gS X (compareOp op') r') (hd1:nq p o1 r) (hd2:nq p o2 r') (ha:PE X a (tD p fa)) (hb:PE X b (tD p fb)) (hc:PE X c (tD p fc))
  (hm:lastMarks [op,op'] [b,c]=false):PT X (.Compare a [op,op'] [b,c] pos) (iD p (kg (jV o1 o2 fa fb fc))):=(Br ho ho' ha hb hc hm).weak fun σ H Q h=>qT (fun σ H Q h=>p8 hd1 hd2 h) h
theorem yr (ho:gS X (compareOp op) r) (ho':gS X (compareOp op') r') (ho'':gS X (compareOp op'') r'') (hd1:nq p o1 r) (hd2:nq p o2 r') (hd3:nq p o3 r'') (ha:PE X a (tD p fa)) (hb:PE X b (tD p fb)) (hc:PE X c (tD p fc)) (hd:PE X d (tD p fd))
  (hm:lastMarks [op,op',op''] [b,c,d]=false):PT X (.Compare a [op,op',op''] [b,c,d] pos) (iD p (kg (oy o1 o2 o3 fa fb fc fd))):=(yI ho ho' ho'' ha hb hc hd hm).weak fun σ H Q h=>qT (fun σ H Q h=>by
 obtain ⟨α,ρ,μ,S,R,P⟩:=h
 refine ⟨α,ρ,μ,S,R,(aH.bind P).imp fun x μ1 H1 α1 X1 S1 P1 v rv=>⟨α1,ρ,μ1,S1,R.mono X1,(aH.bind P1).imp fun y μ2 H2 α2 X2 S2 P2 u ru=>?_⟩⟩
 refine hd1 x y v u H2 α2 μ2 _ S2 (rv.mono X2) ru ((aH.bind P2).imp fun z μ3 H3 α3 X3 S3 P3 w rw'=>?_)
 obtain ⟨k,_,e,q⟩:=kZ (aH.bind P3) rw' S3
 refine ⟨k,e,?_⟩
 cases k with
 | true=>
  rw [Lp rfl] at q ⊢
  refine ⟨α3,ρ,μ3,S3,((R.mono X1).mono X2).mono X3,(aH.bind q).imp fun c μ5 H5 α5 X5 S5 P5 t rt=>?_⟩
  refine hd2 y c u t H5 α5 μ5 _ S5 ((ru.mono X3).mono X5) rt ((aH.bind P5).imp fun z2 μ6 H6 α6 X6 S6 P6 w2 rw2=>?_)
  obtain ⟨k2,_,e2,q2⟩:=kZ (aH.bind P6) rw2 S6
  refine ⟨k2,e2,?_⟩
  cases k2 with
  | true=>
   rw [Lp rfl] at q2 ⊢
   exact ⟨α6,ρ,μ6,S6,((((R.mono X1).mono X2).mono X3).mono X5).mono X6,(aH.bind q2).imp fun d μ7 H7 α7 X7 S7 P7 t7 rt7=>hd3 c d t t7 H7 α7 μ7 _ S7 ((rt.mono X6).mono X7) rt7 P7⟩
  | false=>rw [Lq LZ] at q2 ⊢;exact q2.now S6 _ (aT.mpr rfl)
 | false=>rw [Lq LZ] at q ⊢;exact q.now S3 _ (aT.mpr rfl)) h
def yh (d:D) (μ:aw):ak Bool:=match d with
 | .non=>.ok false μ
 | .bl b=>.ok b μ
 | .int i=>.ok (i != 0) μ
 | .str x=>if x.length<=sizeLine then .ok ((x.length:Int) != 0) μ else .bad
 | .tup xs=>.ok (!xs.isEmpty) μ
 | .frz xs=>.ok (!xs.isEmpty) μ
 | .obj n=>match μ[n]? with
  | some (.lst xs)=>.ok (!xs.isEmpty) μ
  | _=>.bad
def ji (f:ME):MT:=fun ρ μ=>(f ρ μ).bind yh
theorem Reps.isEmpty {K:W.Frag}{H:Hp}{α:List Addr}{xs:List D}{vs:List V} (r:Reps K H α xs vs):vs.isEmpty=xs.isEmpty:=by
 have:=r.length
 cases xs with
 | nil=>have h:vs=[]:=Pk (by simpa using this);rw [h];rfl
 | cons x r=>cases vs with
  | nil=>simp at this
  | cons _ _=>rfl
theorem CM {d:D}{μ:aw}{H:Hp}{α:List Addr}{v:V}{R:Bool->aw->Hp->List Addr->Prop} (S:p.S H α μ) (r:p.R H α d v) (P:aH p H α (yh d μ) R):∃ k,Fu p.K v H k/\R k μ H α:=by
 unfold yh at P
 split at P
 ·rw [bu.mp r];exact ⟨false,rfl,P.now S⟩
 ·rename_i b;rw [aT.mp r];exact ⟨b,rfl,P.now S⟩
 ·rename_i i;rw [ar.mp r];exact ⟨_,rfl,P.now S⟩
 ·rename_i x
  split at P
  ·rename_i hl;rw [bb.mp r];exact ⟨_,⟨hl,rfl⟩,P.now S⟩
  ·exact P.elim
 ·obtain ⟨a, vs, rfl, h1, h2⟩ := aO.mp r
  exact ⟨_,.inr (.inl ⟨vs,h1,by rw [h2.isEmpty]⟩),P.now S⟩
 ·obtain ⟨a, vs, rfl, h1, h2⟩ := bf.mp r
  exact ⟨_,.inl ⟨vs,h1.sq,by rw [h2.isEmpty]⟩,P.now S⟩
 ·split at P
  ·rename_i xs hx
   obtain ⟨a,us,rfl,a1,h1,rr⟩:=cu S r hx
   exact ⟨_,.inl ⟨us,f7.of h1,by rw [rr.isEmpty]⟩,P.now S⟩
  ·exact P.elim
theorem A1 {e:Expr}{f:ME} (hK:X.K=p.K) (h:PE X e (tD p f)) (he:∀ whole,isTrue e X.env whole=(do let v <- whole;standAt e.pos;holding [v] (truthy v))):PT X e (iD p (ji f)):=
 (Bq h he).weak fun σ H Q ⟨α, ρ, μ, S, R, P⟩ => ⟨α, ρ, μ, S, R, (aH.bind P).imp fun d μ1 H1 α1 X1 S1 P1 v rv => by
  rw [hK];exact CM S1 rv P1⟩
def Jf:TE:=fun _ H Q=>∀ q,H q=none->Q (.ref q) (cI H q (.dK []))
theorem DE:PE X (.Dict [] [] pos) Jf:=fun pins s σ H Q I h=>by
 have hb:sysModules<s.heap.objs.size:=Nat.lt_trans (by decide) (I.mod.glob.keeps I.bk).lt
 refine wpAny_Dict_empty ⟨.ref s.heap.objs.size,_,I.laid (a:=s.heap.objs.size) (o:=.dK []) (t':=s.toks) (fun _ _ q=>L7 _ q) (L9 _) ?_,rfl,h _ (I.hok.fresh (L9 _))⟩
 exact ⟨NN _,Ln.mpr (LI (Ly hb)),[],.nil,Heap.DictOf.new s.heap⟩
def zR:ME:=fun _ μ=>.ok (.obj μ.length) (μ++[.dic])
theorem Gh:PE X (.Dict [] [] pos) (tD p zR):=DE.weak fun σ H Q ⟨α,ρ,μ,S,R,P⟩ q hq=>by
 have x1:p.X H (cI H q (.dK [])) α (α++[q]):=(bV hq).trans (i9 [q])
 exact P _ _ x1 (S.more hq cg) _ (aR.mpr ⟨q,rfl,by rw [<- S.len];simp⟩)
def Ir (p:Pa) (f:D->List D->aw->ak D) (r:V->List V->Hp->VK->Prop):Prop:=∀ d ds v vs H α μ Q,p.S H α μ->p.R H α d v->p.Rs H α ds vs->aH p H α (f d ds μ) (RV p Q)->r v vs H Q
def zE (d:D) (μ:aw):Bool:=match d with
 | .obj n=>match μ[n]? with
  | some (.lst _)=>true
  | _=>false
 | _=>false
def zB (f:D->List D->aw->ak D) (fo:ME) (fr:MA):ME:=fun ρ μ=>(fo ρ μ).bind fun o μ1=>if zE o μ1=true then (fr ρ μ1).bind fun ds μ2=>f o ds μ2 else .bad
theorem HE {d:D}{μ:aw}{H:Hp}{α:List Addr}{v:V} (S:p.S H α μ) (r:p.R H α d v) (h:zE d μ=true):Kd p.K "list" v H:=by
 unfold zE at h
 split at h
 ·split at h
  ·rename_i xs hx
   obtain ⟨a,us,rfl,a1,h1,rr⟩:=cu S r hx
   exact .inl ⟨rfl,us,f7.of h1⟩
  ·cases h
 ·cases h
theorem xn {o e:Expr}{es:List Expr}{fo:ME}{fr:MA}{name:Str}{apos cpos:Pos}{id:String}{rr:V->List V->Hp->VK->Prop}{f:D->List D->aw->ak D} (hK:X.K=p.K) (slot:Slot "list" name id) (hty:typeOf (.builtin id)=pure (.type "method_descriptor")) (hm:K1 X id rr) (hf:Ir p f rr)
  (ho:PE X o (tD p fo)) (ha:PA X (e::es) (mv p fr)) (hbase:attributeBase o name X.env (eval o X.env)=eval o X.env)
  (hfew : ((backTo cpos (starEach (e :: es) X.env)).all (fun x => !x.1) && (backToKw cpos (keywordEach [] X.env)).all (fun x => x.1.isSome)
   && decide ((e::es).length+([]:List Keyword).length+(if ([]:List Keyword).isEmpty then 0 else 1)<30))=true)
  (hline:(apos.endLine == cpos.line)=true) (hs:starEach (e::es) X.env=(false,eval e X.env)::starEach es X.env) (hplain:(backTo cpos (starEach es X.env)).any (·.1)=false) :
  PE X (.Call (.Attribute o name apos) (e::es) [] cpos) (tD p (zB f fo fr)):=
 (Jx PySem.F.plainAttrs_list slot hty hm ho ha hbase hfew hline hs hplain).weak fun σ H Q ⟨α, ρ, μ, S, R, P⟩ => ⟨α, ρ, μ, S, R, (aH.bind P).imp fun d μ1 H1 α1 X1 S1 P1 v rv => by
  by_cases hl:zE d μ1=true
  ·rw [Lp hl] at P1
   rw [hK]
   exact ⟨HE S1 rv hl,α1,ρ,μ1,S1,R.mono X1,(aH.bind P1).imp fun ds μ2 H2 α2 X2 S2 P2 vs rs=>hf d ds v vs H2 α2 μ2 Q S2 (rv.mono X2) rs P2⟩
  ·rw [Lq hl] at P1;exact P1.elim⟩
def kA (d:D) (ds:List D) (μ:aw):ak D:=match d,ds with
 | .obj n,[y]=>match μ[n]? with
  | some (.lst xs)=>if xs.length<sizeLine then .ok .non (μ.set n (.lst (xs++[y]))) else .bad
  | _=>.bad
 | _,_=>.bad
theorem D0:Ir p kA xG:=by
 intro d ds v vs H α μ Q S rd rs P
 unfold kA at P
 split at P
 ·rename_i n y
  split at P
  ·rename_i xs hx
   split at P
   ·rename_i hb
    obtain ⟨a,us,rfl,a1,h1,rr⟩:=cu S rd hx
    obtain ⟨w,rfl,rw'⟩:=rs.one
    have q:=rr.snoc rw'
    exact ⟨a,us,w,rfl,rfl,h1,by rw [rr.length];exact hb,P _ _ (iK h1) (S.put hx a1 h1 q) _ (bu.mpr rfl)⟩
   ·exact P.elim
  ·exact P.elim
 ·exact P.elim
end
abbrev dA (K:W.Frag) (w:World):Pa:=⟨K,w,fun _ _ _ _=>False⟩
abbrev i5:D->D->aw->ak D:=dI fun i j=>.int (i - j)
noncomputable abbrev ui:D->D->aw->ak D:=zF CB fun i j=>.int (i / j)
noncomputable abbrev tQ:D->D->aw->ak D:=zF (fun _ j=>0<j) fun i j=>.int (i % j)
noncomputable abbrev rS:D->D->aw->ak D:=zF qy fun i j=>.int (i ^ j.toNat)
def wm (N:List Str) (sc scope:Scope) (Nc:List Str) (cap:List (Option Nat)):Bool:=
 (scope.kind == .function) && scope.names.all (fun y=>scope.names.lookup y.1 == some y.2) &&
 scope.names.all (fun y=>y.2 != .free || sc.names.lookup y.1 == some .cell || sc.names.lookup y.1 == some .free) && f6 N { scope:=sc,globals:=0,builtins:=0,locals:=0,cells:=[],qual:="",func:=none,code:=.none,frame:=none } scope Nc cap
theorem mT {N:List Str}{e1 e2:Env}{scope:Scope}:∀ {Nc:List Str}{cap:List (Option Nat)},f6 N e1 scope Nc cap=f6 N e2 scope Nc cap
 | [],[]=>rfl
 | _::_,[]=>rfl
 | [],_::_=>rfl
 | _::Nc,none::cap=>by unfold f6;exact mT
 | x::Nc,some j::cap=>by unfold f6;rw [mT (Nc:=Nc) (cap:=cap) (e1:=e1) (e2:=e2)]
theorem zj {X:Cx}{N:List Str}{sc scope:Scope}{Nc:List Str}{cap:List (Option Nat)} (hN:X.N=N) (hk:∀ x,(sc.names.lookup x=some .cell\/sc.names.lookup x=some .free)->X.env.kindOf x=some .cell\/X.env.kindOf x=some .free) (h:wm N sc scope Nc cap=true):cv X.N X.env scope Nc cap:=by
 unfold wm at h
 simp only [MY] at h
 obtain ⟨⟨⟨h1,h3⟩,h4⟩,h5⟩:=h
 refine ⟨eq_of_beq h1,fun y hy=>?_,fun y hy hf=>?_,?_⟩
 ·exact eq_of_beq (Ol.mp h3 y hy)
 ·have := Ol.mp h4 y hy
  simp only [Bool.or_eq_true,hf] at this
  refine hk _ ?_
  rcases this with (z | z) | z
  ·exact absurd z (by decide)
  ·exact .inl (eq_of_beq z)
  ·exact .inr (eq_of_beq z)
 ·rw [hN,mT];exact h5
theorem dt {X:Cx}{N:List Str}{sc scope:Scope}{Nc:List Str}{cap:List (Option Nat)} (hN:X.N=N) (hs:X.env.scope=sc) (h:wm N sc scope Nc cap=true):cv X.N X.env scope Nc cap:=
 zj hN (fun x hx=>by subst hs;exact hx) h
structure Bx (P:Prop):Prop where
 h:P
section
variable {X:Cx}{p:Pa}{a b c d e:Expr}{es:List Expr}{fa fb fc fd f:ME}{fr:MA}{pos:Pos}{ft gt:MT}
theorem aF (i:Nat) {x:Str} (hN:X.N[i]?=some x:=by rfl) (hv:J2 X.env.scope x:=by first | exact Or.inl rfl | exact Or.inr (Or.inl rfl) | exact Or.inr (Or.inr rfl)) (hd:(x == ("__debug__" : Str))=false:=by decide) (hcd:(x == ("__classdict__" : Str))=false:=by decide):Bx (PE X (.Name x pos) (tD p (ah i))):=⟨Gc (GF hN hv hd hcd)⟩
theorem bE {i j}:Bx (PE X (.Constant (.int i) j pos) (tD p (cC (.int i)))):=⟨zK GM fun _ _=>ar.mpr rfl⟩
theorem xj {i j}:Bx (PE X (.Constant (.bool i) j pos) (tD p (cC (.bl i)))):=⟨zK Jy fun _ _=>aT.mpr rfl⟩
theorem Ew {j}:Bx (PE X (.Constant .none j pos) (tD p (cC .non))):=⟨zK GK fun _ _=>bu.mpr rfl⟩
theorem yb {x j}:Bx (PE X (.Constant (.str x) j pos) (tD p (cC (.str x)))):=⟨zK GH fun _ _=>bb.mpr rfl⟩
theorem Fe {x:Str}{i:Int} (h:∃ t,X.mg x=some (.int i t)) (hg:Gl X x:=by rfl) (hd:(x == ("__debug__" : Str))=false:=by decide):Bx (PE X (.Name x pos) (tD p (cC (.int i)))):=Bx.mk (by
 obtain ⟨t,ht⟩:=h
 exact zK (xI (v:=.int i) hg ht ⟨t,rfl⟩ hd) fun _ _=>ar.mpr rfl)
theorem cR (ha:Bx (PE X a (tD p fa))) (hb:Bx (PE X b (tD p fb))) (hK:X.K=p.K:=by rfl):Bx (PE X (.BinOp a .Add b pos) (tD p (aA cJ fa fb))):=⟨iV (r:=Ad p.K) (hK ▸ DP) Hh ha.h hb.h⟩
theorem oP (ha:Bx (PE X a (tD p fa))) (hb:Bx (PE X b (tD p fb))):Bx (PE X (.BinOp a .Sub b pos) (tD p (aA i5 fa fb))):=⟨iV GQ (Ff fun _ _ _ _=>ar.mpr rfl) ha.h hb.h⟩
theorem zX (ha:Bx (PE X a (tD p fa))) (hb:Bx (PE X b (tD p fb))):Bx (PE X (.BinOp a .Mult b pos) (tD p (aA qx fa fb))):=⟨iV DK Hd ha.h hb.h⟩
theorem Ao (ha:Bx (PE X a (tD p fa))) (hb:Bx (PE X b (tD p fb))):Bx (PE X (.BinOp a .FloorDiv b pos) (tD p (aA ui fa fb))):=⟨iV DL (uc fun _ _ _ _=>ar.mpr rfl) ha.h hb.h⟩
theorem t9 (ha:Bx (PE X a (tD p fa))) (hb:Bx (PE X b (tD p fb))):Bx (PE X (.BinOp a .Mod b pos) (tD p (aA tQ fa fb))):=⟨iV GZ (uc fun _ _ _ _=>ar.mpr rfl) ha.h hb.h⟩
theorem zW (ha:Bx (PE X a (tD p fa))) (hb:Bx (PE X b (tD p fb))):Bx (PE X (.BinOp a .Pow b pos) (tD p (aA rS fa fb))):=⟨iV GV (uc fun _ _ _ _=>ar.mpr rfl) ha.h hb.h⟩
theorem t6 (ha:Bx (PE X a (tD p fa))):Bx (PE X (.UnaryOp .USub a pos) (tD p (kH rT fa))):=⟨Jm FG Hi ha.h⟩
structure jN (X:Cx) (p:Pa) (op:CmpOp) (o:D->D->aw->ak D):Prop where
 ex:∃ r,gS X (compareOp op) r/\nq p o r
theorem qv (hu:X.A.units+64<cLine) (hK:X.K=p.K:=by rfl):jN X p .Eq (jH false):=⟨zN p.K false,hK ▸ G2 hu,EX⟩
theorem tO (hu:X.A.units+64<cLine) (hK:X.K=p.K:=by rfl):jN X p .NotEq (jH true):=⟨zN p.K true,hK ▸ GX hu,EX⟩
theorem Fg (hu:X.A.units+64<cLine) (hK:X.K=p.K:=by rfl):jN X p .In (vJ false):=⟨zM p.K false,hK ▸ G1 hu,EW⟩
theorem JF (hu:X.A.units+64<cLine) (hK:X.K=p.K:=by rfl):jN X p .NotIn (vJ true):=⟨zM p.K true,hK ▸ yQ hu,EW⟩
theorem JG:jN X p .Is (vX false):=⟨_,G0,He⟩
theorem Hy:jN X p .IsNot (vX true):=⟨_,DJ,DU⟩
theorem iq {op:CmpOp} (hu:X.A.units+64<cLine) (ho:qO op=true:=by rfl) (hK:X.K=p.K:=by rfl):jN X p op (eA op):=⟨Ac p.K op,hK ▸ DM hu ho,Hg⟩
variable {op op' op'':CmpOp}{o o' o'':D->D->aw->ak D}
theorem kI (k:jN X p op o) (ha:Bx (PE X a (tD p fa))) (hb:Bx (PE X b (tD p fb))) (hm:behindInMarks op b=false:=by rfl):Bx (PE X (.Compare a [op] [b] pos) (tD p (aA o fa fb))):=Bx.mk (let ⟨_,h1,h2⟩:=k.ex;Gi h1 h2 ha.h hb.h hm)
theorem dE (k:jN X p op o) (ha:Bx (PE X a (tD p fa))) (hb:Bx (PE X b (tD p fb))) (hm:behindInMarks op b=false:=by rfl):Bx (PT X (.Compare a [op] [b] pos) (iD p (kg (aA o fa fb)))):=Bx.mk (let ⟨_,h1,h2⟩:=k.ex;FS h1 h2 ha.h hb.h hm)
theorem IX (k:jN X p op o) (k':jN X p op' o') (ha:Bx (PE X a (tD p fa))) (hb:Bx (PE X b (tD p fb))) (hc:Bx (PE X c (tD p fc))) (hm:lastMarks [op,op'] [b,c]=false:=by rfl):Bx (PE X (.Compare a [op,op'] [b,c] pos) (tD p (jV o o' fa fb fc))):=Bx.mk (let ⟨_,h1,h2⟩:=k.ex;let ⟨_,h3,h4⟩:=k'.ex;Bi h1 h3 h2 h4 ha.h hb.h hc.h hm)
theorem IZ (k:jN X p op o) (k':jN X p op' o') (ha:Bx (PE X a (tD p fa))) (hb:Bx (PE X b (tD p fb))) (hc:Bx (PE X c (tD p fc))) (hm:lastMarks [op,op'] [b,c]=false:=by rfl):Bx (PT X (.Compare a [op,op'] [b,c] pos) (iD p (kg (jV o o' fa fb fc)))):=Bx.mk (let ⟨_,h1,h2⟩:=k.ex;let ⟨_,h3,h4⟩:=k'.ex;A2 h1 h3 h2 h4 ha.h hb.h hc.h hm)
theorem FO (k:jN X p op o) (k':jN X p op' o') (k'':jN X p op'' o'') (ha:Bx (PE X a (tD p fa))) (hb:Bx (PE X b (tD p fb))) (hc:Bx (PE X c (tD p fc))) (hd:Bx (PE X d (tD p fd))) (hm:lastMarks [op,op',op''] [b,c,d]=false:=by rfl):Bx (PT X (.Compare a [op,op',op''] [b,c,d] pos) (iD p (kg (oy o o' o'' fa fb fc fd)))):=Bx.mk (let ⟨_,h1,h2⟩:=k.ex;let ⟨_,h3,h4⟩:=k'.ex;let ⟨_,h5,h6⟩:=k''.ex;yr h1 h3 h5 h2 h4 h6 ha.h hb.h hc.h hd.h hm)
theorem yc (h:Bx (PE X e (tD p f))) (he:∀ whole,isTrue e X.env whole=(do let v <- whole;standAt e.pos;holding [v] (truthy v)):=by intro _;rfl) (hK:X.K=p.K:=by rfl):Bx (PT X e (iD p (ji f))):=⟨A1 hK h.h he⟩
theorem EE {rest:List Expr} (ha:Bx (PT X a (iD p ft))) (hb:Bx (PW X (.BoolOp .And (b::rest) pos) (iD p gt))):Bx (PW X (.BoolOp .And (a::b::rest) pos) (iD p (uk ft gt))):=⟨FQ ha.h hb.h⟩
theorem oI {rest:List Expr} (ha:Bx (PT X a (iD p ft))) (hb:Bx (PW X (.BoolOp .Or (b::rest) pos) (iD p gt))):Bx (PW X (.BoolOp .Or (a::b::rest) pos) (iD p (ly ft gt))):=⟨Ji ha.h hb.h⟩
theorem Ar (ha:Bx (PT X a (iD p ft))):Bx (PW X (.BoolOp .And [a] pos) (iD p ft)):=⟨Dr ha.h⟩
theorem oQ (ha:Bx (PT X a (iD p ft))):Bx (PW X (.BoolOp .Or [a] pos) (iD p ft)):=⟨Gs ha.h⟩
theorem jO {op} (ha:Bx (PE X a (tD p fa))):Bx (PE X (.BoolOp op [a] pos) (tD p fa)):=⟨GI ha.h⟩
def AG:Expr->Bool
 | .Starred _ _=>false
 | _=>true
theorem yq {a:Expr}{es:List Expr}{env:Env} (h:AG a=true):starEach (a::es) env=(false,eval a env)::starEach es env:=by
 cases a <;> first | rfl | cases h
theorem aK (ha:Bx (PE X a (tD p fa))) (hr:Bx (PA X es (mv p fr))) (hs:AG a=true:=by rfl):Bx (PA X (a::es) (mv p (af fa fr))):=⟨Dk ha.h hr.h (yq hs)⟩
theorem bo  : Bx (PA X [] (mv p aG)):=⟨Gk⟩
theorem aX {k n:Nat}{x:Str}{F:List D->aw->ak D}{px:Pos} (h:dC X.prog X.w X.K X.mg X.base p k x n F) (hr:fX k X.A) (ha:Bx (PA X (a::es) (mv p fr))) (hg:Gl X x:=by rfl) (hdb:(x == ("__debug__" : Str))=false:=by decide) (he:starEach (a::es) X.env=(false,eval a X.env)::starEach es X.env:=by rfl) (hpl:(backTo pos (starEach es X.env)).any (·.1)=false:=by rfl):Bx (PE X (.Call (.Name x px) (a::es) [] pos) (tD p (aL F fr))):=⟨Dj h hr hg ha.h hdb he hpl⟩
structure oO (X:Cx) (p:Pa) (x:Str) (F:List D->aw->ak D):Prop where
 ex:∃ (u:Value) (r:List V->Hp->VK->Prop),((∃ id,u=.builtin id)\/∃ T,u=.type T)/\bootBuiltins x=some u/\cH X u r/\vL p F r/\x ≠ "__name__" /\ (x == ("__debug__" : Str))=false
theorem c0 {x:Str}{F:List D->aw->ak D}{px:Pos} (k:oO X p x F) (hm:X.mg x=none) (ha:Bx (PA X (a::es) (mv p fr))) (hg:Gl X x:=by rfl) (he:starEach (a::es) X.env=(false,eval a X.env)::starEach es X.env:=by rfl) (hpl:(backTo pos (starEach es X.env)).any (·.1)=false:=by rfl):Bx (PE X (.Call (.Name x px) (a::es) [] pos) (tD p (aL F fr))):=Bx.mk (by
 obtain ⟨u,r,hu,h1,h2,h3,h4,h5⟩:=k.ex
 rcases hu with ⟨id,rfl⟩ | ⟨T,rfl⟩
 ·exact Bj h2 h3 hg hm h1 ha.h h4 h5 he hpl
 ·exact yD h2 h3 hg hm h1 ha.h h4 h5 he hpl)
theorem oX (hK:X.K=p.K:=by rfl) (hw:X.w=p.w:=by rfl):oO X p "len" nO:=⟨_,_,.inl ⟨_,rfl⟩,PySem.boot_len,(B8.or zt).or zu,by rw [hK,hw];exact G9,by decide,by decide⟩
theorem Al (hc:X.calm=true:=by rfl) (hK:X.K=p.K:=by rfl):oO X p "all" tS:=⟨_,_,.inl ⟨_,rfl⟩,by decide +kernel,zx hc,hK ▸ Hc,by decide,by decide⟩
theorem sL (hK:X.K=p.K:=by rfl):oO X p "tuple" jU:=⟨_,_,.inr ⟨_,rfl⟩,by decide +kernel,qJ,hK ▸ BH,by decide,by decide⟩
theorem si (hK:X.K=p.K:=by rfl):oO X p "list" jx:=⟨_,_,.inr ⟨_,rfl⟩,by decide +kernel,tE,hK ▸ DS,by decide,by decide⟩
theorem JS:oO X p "int" uh:=⟨_,_,.inr ⟨_,rfl⟩,by decide +kernel,zw,Hb,by decide,by decide⟩
theorem JR (hc:X.calm=true:=by rfl) (hK:X.K=p.K:=by rfl):oO X p "min" yk:=⟨_,_,.inl ⟨_,rfl⟩,by decide +kernel,(zp hc).or (zo hc),hK ▸ G7,by decide,by decide⟩
theorem E4 (hc:X.calm=true:=by rfl) (hK:X.K=p.K:=by rfl):oO X p "max" tR:=⟨_,_,.inl ⟨_,rfl⟩,by decide +kernel,(zr hc).or (zq hc),hK ▸ G8,by decide,by decide⟩
theorem JQ (hu:X.A.units+64<cLine) (hc:X.calm=true:=by rfl) (hK:X.K=p.K:=by rfl) (hw:X.w=p.w:=by rfl):oO X p "set" vW:=⟨_,_,.inr ⟨_,rfl⟩,by decide +kernel,(zl hc hu).or (zm hc hu),by rw [hK,hw];exact G6,by decide,by decide⟩
theorem Cb (hc:X.calm=true:=by rfl) (hK:X.K=p.K:=by rfl) (hw:X.w=p.w:=by rfl):oO X p "sorted" kx:=⟨_,_,.inl ⟨_,rfl⟩,by decide +kernel,(xf.or (xc hc)).or (xb hc),by rw [hK,hw];exact yR,by decide,by decide⟩
theorem jP {T:String}{xT:Str}{px pt:Pos} (hT:T∈["int", "bool", "tuple", "list", "str", "dict"]) (hbT:bootBuiltins xT=some (.type T)) (hnT:xT ≠ "__name__") (hdT:(xT == ("__debug__" : Str))=false) (hm:X.mg "isinstance" = none) (hmT:X.mg xT=none) (ha:Bx (PE X a (tD p fa))) (hg:Gl X "isinstance" := by rfl) (hgT:Gl X xT:=by rfl) (hs1:starEach [a,.Name xT pt] X.env=(false,eval a X.env)::starEach [.Name xT pt] X.env:=by rfl) (hK:X.K=p.K:=by rfl):Bx (PE X (.Call (.Name "isinstance" px) [a,.Name xT pt] [] pos) (tD p (kH (fH T) fa))):=⟨Gg hK hT hg hm hgT hmT hbT ha.h hnT hdT hs1⟩
theorem AY:bootBuiltins "int" = some (.type "int"):=by decide +kernel
theorem sJ:bootBuiltins "bool" = some (.type "bool"):=by decide +kernel
theorem ja:bootBuiltins "tuple" = some (.type "tuple"):=by decide +kernel
theorem bH (ha:Bx (PE X a (tD p fa))) (hb:Bx (PE X b (tD p fb))) (hs:sN b:=by exact fun _ _=>rfl) (hK:X.K=p.K:=by rfl):Bx (PE X (.Subscript a b pos) (tD p (aA b9 fa fb))):=⟨Jn hK ha.h hb.h hs⟩
theorem zG {lo hi:Option Expr}{fl fh:MO}{p2:Pos} (he:Bx (PE X e (tD p fa))) (hl:Bx (PO X lo (Ex p fl))) (hu:Bx (PO X hi (Ex p fh))) (hK:X.K=p.K:=by rfl):Bx (PE X (.Subscript e (.Slice lo hi none p2) pos) (tD p (Ey fa fl fh))):=⟨Bh hK he.h hl.h hu.h⟩
theorem IY {fo:ME}{ob:Expr}{apos:Pos} (ho:Bx (PE X ob (tD p fo))) (ha:Bx (PA X [e] (mv p fr))) (hbase:attributeBase ob "append" X.env (eval ob X.env)=eval ob X.env:=by rfl) (hfew:((backTo pos (starEach [e] X.env)).all (fun x=>!x.1) && (backToKw pos (keywordEach [] X.env)).all (fun x=>x.1.isSome)
   && decide ([e].length+([]:List Keyword).length+(if ([]:List Keyword).isEmpty then 0 else 1)<30))=true:=by rfl) (hline:(apos.endLine == pos.line)=true:=by rfl) (hs:starEach [e] X.env=(false,eval e X.env)::starEach [] X.env:=by rfl) (hpl:(backTo pos (starEach [] X.env)).any (·.1)=false:=by rfl) (hK:X.K=p.K:=by rfl):Bx (PE X (.Call (.Attribute ob "append" apos) [e] [] pos) (tD p (zB kA fo fr))):=⟨xn hK PySem.F.slot_list_append PySem.F.type_list_append rk D0 ho.h ha.h hbase hfew hline hs hpl⟩
variable {tg iter elt:Expr}{fi:MI}{g:MG}{u:Cq}
theorem vI (hl:Bx (PE X e (tD p f))) (hK:X.K=p.K:=by rfl):Bx (PI X tg e (yd p (i4 f))):=⟨F8 hK hl.h⟩
theorem vU {px:Pos} (hm:X.mg "range" = none) (ha:Bx (PA X [a] (mv p fr))) (hg:Gl X "range" := by rfl) (hs:starEach [a] X.env=[(false,eval a X.env)]:=by rfl):Bx (PI X tg (.Call (.Name "range" px) [a] [] pos) (yd p (kT lx fr))):=⟨yC hg hm ha.h hs⟩
theorem Fi {px:Pos} (hm:X.mg "range" = none) (ha:Bx (PA X [a,b] (mv p fr))) (hg:Gl X "range" := by rfl) (hs:starEach [a,b] X.env=[(false,eval a X.env),(false,eval b X.env)]:=by rfl) (hs2:starEach [b] X.env=[(false,eval b X.env)]:=by rfl):Bx (PI X tg (.Call (.Name "range" px) [a,b] [] pos) (yd p (kT tN fr))):=⟨yB hg hm ha.h hs hs2⟩
theorem jG (i:Nat) {x:Str} (hN:X.N.Nodup) (hi:X.N[i]?=some x:=by rfl) (hx:yg X.env.scope x:=by first | exact Or.inl rfl | exact Or.inr rfl) (hf:X.fn x=true\/X.env.scope.names.lookup x=some .local:=by first | exact .inl rfl | exact .inr rfl):Bx (PG X (.Name x pos) (rO p (ao i))):=⟨Df hN hi hx hf⟩
theorem nv  : Bx (vP X [] (tL p fv)):=⟨De⟩
theorem eC (h1:Bx (PG X e (rO p g))) (h2:Bx (vP X es (tL p u))) (hs:(assignEach (e::es) X.env).map (·.2)=assign e X.env::(assignEach es X.env).map (·.2):=by rfl):Bx (vP X (e::es) (tL p (bt g u))):=⟨Bc h1.h h2.h hs⟩
theorem nu {k n:Nat} (h:Bx (vP X es (tL p u))) (hc:X.calm=true:=by rfl) (hn:(assignEach es X.env).length=n:=by rfl) (hst:(assignEach es X.env).findIdx? (·.1)=none:=by rfl) (hK:X.K=p.K:=by rfl):Bx (PG X (.Tuple es k pos) (rO p (fu n u))):=⟨F9 hK hc h.h hn hst⟩
theorem qP {fo fi:ME} (ho:Bx (PE X a (tD p fo))) (hi:Bx (PE X b (tD p fi))) (ha:∀ v,assign (.Subscript a b pos) X.env v=(do
   let ov <- holding [v] (eval a X.env)
   let iv <- holding [v,ov] (eval b X.env)
   standAt pos
   holding [v,ov,iv] (setItem ov iv v)
   release [v,ov,iv] []):=by intro _;rfl):Bx (PG X (.Subscript a b pos) (rO p (kK fo fi))):=⟨Ga ho.h hi.h ha⟩
variable {ifs:List Expr}{scope:Scope}{Nc:List Str}{cap:List (Option Nat)}{tt:MT}{te:ME}
theorem ir (S:cv X.N X.env scope Nc cap) (hi:Bx (PI X tg iter (yd p fi))) (hg:∀ cl C s H fp,Bx (PG (jJ X Nc scope cl C s H fp) tg (rO p.nx g))) (ht:∀ cl C s H fp,Bx (vK (jJ X Nc scope cl C s H fp) ifs (iD p.nx tt))) (he:∀ cl C s H fp,Bx (PE (jJ X Nc scope cl C s H fp) elt (tD p.nx te))) (hc:X.calm=true:=by rfl) (hs:∀ x,foldedSetIterable iter X.env x=pure x:=by intro _;rfl):Bx (PE X (.ListComp elt [⟨tg,iter,ifs,0⟩] scope pos) (tD p (fw fi cap g tt te))):=⟨Di hc S hi.h (fun cl C s H fp=>(hg cl C s H fp).h) (fun cl C s H fp=>(ht cl C s H fp).h) (fun cl C s H fp=>(he cl C s H fp).h) hs⟩
variable {mb:MB}{cl0:Comprehension}{rest:List Comprehension}{d:Nat}{acc:Addr}
variable {fs gs:MS}{st:Stmt}{sts A B body:List Stmt}
theorem bG (i:Nat) {x:Str}{pos':Pos} (hN:X.N.Nodup) (he:Bx (PE X e (tD p f))) (hi:X.N[i]?=some x:=by rfl) (hx:yg X.env.scope x:=by first | exact Or.inl rfl | exact Or.inr rfl) (hs:swapsWith e (some (.Name x pos')) pos.line X.env=pure false:=by rfl) (hf:X.fn x=true\/X.env.scope.names.lookup x=some .local:=by first | exact .inl rfl | exact .inr rfl):Bx (PS X (.Assign [.Name x pos'] e pos) (gU p (bA f (ao i)))):=⟨FV hN hi hx he.h hs hf⟩
theorem v7 (i:Nat) {x:Str}{pos1 pos2:Pos} (hN:X.N.Nodup) (S:cv X.N X.env scope Nc cap) (hi:Bx (PI X tg iter (yd p fi))) (hg:∀ cl C s H fp,Bx (PG (jJ X Nc scope cl C s H fp) tg (rO p.nx g))) (ht:∀ cl C s H fp,Bx (vK (jJ X Nc scope cl C s H fp) ifs (iD p.nx tt))) (he:∀ cl C s H fp,Bx (PE (jJ X Nc scope cl C s H fp) elt (tD p.nx te))) (hix:X.N[i]?=some x:=by rfl) (hx:X.env.scope.names.lookup x=some .local:=by rfl) (hc:X.calm=true:=by rfl) (hsw:swapsWith (.ListComp elt [⟨tg,iter,ifs,0⟩] scope pos) (some (.Name x pos1)) pos2.line X.env=pure true:=by rfl) (hs:∀ x,foldedSetIterable iter X.env x=pure x:=by intro _;rfl):Bx (PS X (.Assign [.Name x pos1] (.ListComp elt [⟨tg,iter,ifs,0⟩] scope pos) pos2) (gU p (bA (fw fi cap g tt te) (ao i)))):=⟨CY hc hN hix hx S hi.h (fun cl C s H fp=>(hg cl C s H fp).h) (fun cl C s H fp=>(ht cl C s H fp).h) (fun cl C s H fp=>(he cl C s H fp).h) hsw hs⟩
theorem lB (he:Bx (PE X e (tD p f))) (hg:Bx (PG X tg (rO p g))) (hs:swapsWithSole [tg] e pos.line X.env=pure false:=by rfl) (hw:swappedStores [tg] e X.env=pure none:=by rfl) (h1:(assignEach [tg] X.env).map (·.2)=[assign tg X.env]:=by rfl):Bx (PS X (.Assign [tg] e pos) (gU p (bA f g))):=⟨F1 he.h hg.h hs hw h1⟩
theorem oZ (he:Bx (PE X e (tD p f))) (hs:swapsWith e none pos.line X.env=pure false:=by rfl):Bx (PS X (.Expr e pos) (gU p (nt f))):=⟨CZ he.h hs⟩
theorem jv (hp:PassesOwn (model X.prog X.w) X.A X.env X.xe) (hi:Bx (PI X tg iter (yd p fi))) (hg:Bx (PG X tg (rO p g))) (hb:Bx (iU X body (gU p fs))) (hc:X.calm=true:=by rfl) (hs:∀ x,foldedSetIterable iter X.env x=pure x:=by intro _;rfl):Bx (PS X (.For tg iter body [] pos) (gU p (kE fi g fs))):=⟨FZ hp hc hi.h hg.h hb.h hs⟩
theorem Dl (n:Nat) (hp:PassesOwn (model X.prog X.w) X.A X.env X.xe) (hc:Bx (PT X c (iD p ft))) (hb:Bx (iU X body (gU p fs))):Bx (PS X (.While c body [] pos) (gU p (rZ n ft fs))):=⟨A3 hp hc.h hb.h⟩
end
section
variable {X:Cx}{p:Pa}{a b c e:Expr}{es rest:List Expr}{fa fb f:ME}{fr:MA}{ft gt:MT}{pos:Pos}{fs gs:MS}{st:Stmt}{sts A B:List Stmt}
theorem EB (ha:Bx (PE X a (tD p fa))):Bx (PE X (.UnaryOp .Not a pos) (tD p (uj fa))):=⟨Ge ha.h⟩
theorem il (ha:Bx (PE X a (tD p fa))) (hb:Bx (PE X (.BoolOp .And (b::rest) pos) (tD p fb))):Bx (PE X (.BoolOp .And (a::b::rest) pos) (tD p (fA fa fb))):=⟨Gj ha.h hb.h⟩
theorem bP {k:Nat} (h:Bx (PA X es (mv p fr))):Bx (PE X (.Tuple es k pos) (tD p (cU fr))):=⟨Gd h.h⟩
theorem fI (h:Bx (PA X es (mv p fr))):Bx (PE X (.List es pos) (tD p (g8 fr))):=⟨Gf h.h⟩
theorem EC:Bx (PE X (.Dict [] [] pos) (tD p zR)):=⟨Gh⟩
theorem n4:Bx (PO X none (Ex p E9)):=⟨C9⟩
theorem kh (h:Bx (PE X e (tD p f))):Bx (PO X (some e) (Ex p (lD f))):=⟨C8 h.h⟩
theorem iG (ha:Bx (PT X a (iD p ft))):Bx (PT X (.UnaryOp .Not a pos) (iD p (gO ft))):=⟨FR ha.h⟩
theorem rQ (h:Bx (PW X e (iD p ft))):Bx (PT X e (iD p ft)):=⟨h.h.pt⟩
theorem t4:Bx (vK X [] (iD p gN)):=⟨CU⟩
theorem lA (h:Bx (PT X c (iD p ft))):Bx (vK X [c] (iD p ft)):=⟨CT h.h⟩
theorem ik:Bx (iU X [] (gU p fZ)):=⟨FY⟩
theorem aM (h1:Bx (PS X st (gU p fs))) (h2:Bx (iU X sts (gU p gs))):Bx (iU X (st::sts) (gU p (bp fs gs))):=⟨C0 h1.h h2.h⟩
theorem a9 (h1:Bx (PS X st (gU p fs))):Bx (iU X [st] (gU p fs)):=⟨FX h1.h⟩
theorem bB (h:Bx (PE X e (tD p f))):Bx (PS X (.Return (some e) pos) (gU p (cb f))):=⟨FW h.h⟩
theorem kS (hc:Bx (PT X c (iD p ft))) (ha:Bx (iU X A (gU p fs))) (hb:Bx (iU X B (gU p gs))):Bx (PS X (.If c A B pos) (gU p (tJ ft fs gs))):=⟨Jj hc.h ha.h hb.h⟩
end
theorem cG {P:Program}{w:World}{K:W.Frag}{mg:Str->Option Value}{base:Heap}{p:Pa}{k n:Nat}{x qual:Str}{st:Stmt}{f:Addr}{fd:FuncData}{N ps:List Str}{fb:MS}
  (F:gT K x qual st f fd) (S:aU N ps (av st)) (hn:ps.length=n) (hm:mg x=some (.ref f)) (hb:gP K fd ps [])
  (body : ∀ (cdv : Value) (A : Around) (outer : List Env) (s : Shared) (H : Hp) (E : XK), fX k (A.deeper (envOfC qual (av st) s.heap.objs.size f cdv)) ->
   Bx (iU (oJ vQ P w K mg base N qual (av st) f cdv A outer s H E).nox (bR st) (gU p fb))):dC P w K mg base p (k+1) x n (ic n N.length fb):=
 Ic F S hn hm hb fun cdv A outer s H E hr=>(body cdv A outer s H E hr).h
end L2
namespace L2
open PySem RS
section
variable {ρ:Ro}{μ:aw}{fa fb fc fd f:ME}{fr:MA}{ft gt:MT}{op o1 o2 o3:D->D->aw->ak D}{fs gs:MS}{g:MG}
@[simp] theorem ag {d:D}{r:Ro}:ah 0 (some d::r) μ=.ok d μ:=Pc (Pd _)
@[simp] theorem aj {i:Nat}{x:Option D}{r:Ro}:ah (i+1) (x::r) μ=ah i r μ:=Pc (Pd _)
@[simp] theorem bh {d:D}:cC d ρ μ=.ok d μ:=Pc (Pd _)
@[simp] theorem aJ:aA op fa fb ρ μ=(fa ρ μ).bind fun a μ1=>(fb ρ μ1).bind fun b μ2=>op a b μ2:=Pc (Pd _)
@[simp] theorem jw {o:D->aw->ak D}:kH o fa ρ μ=(fa ρ μ).bind fun a μ1=>o a μ1:=Pc (Pd _)
@[simp] theorem az:aG ρ μ=.ok [] μ:=Pc (Pd _)
@[simp] theorem au:af fa fr ρ μ=(fa ρ μ).bind fun a μ1=>(fr ρ μ1).bind fun r μ2=>.ok (a::r) μ2:=Pc (Pd _)
@[simp] theorem aB {F:List D->aw->ak D}:aL F fr ρ μ=(fr ρ μ).bind F:=Pc (Pd _)
@[simp] theorem dg:cU fr ρ μ=(fr ρ μ).bind fun ds μ=>if ds.length<=sizeLine then .ok (.tup ds) μ else .bad:=Pc (Pd _)
@[simp] theorem dH:g8 fr ρ μ=(fr ρ μ).bind fun ds μ=>if ds.length<=sizeLine then .ok (.obj μ.length) (μ++[.lst ds]) else .bad:=Pc (Pd _)
@[simp] theorem bj {b:Bool}:xl (.bl b) μ=.ok b μ:=Pc (Pd _)
@[simp] theorem eG:kg f ρ μ=(f ρ μ).bind xl:=Pc (Pd _)
@[simp] theorem sH:uk ft gt ρ μ=(ft ρ μ).bind fun b μ1=>if b=true then gt ρ μ1 else .ok false μ1:=Pc (Pd _)
@[simp] theorem sg:ly ft gt ρ μ=(ft ρ μ).bind fun b μ1=>if b=true then .ok true μ1 else gt ρ μ1:=Pc (Pd _)
@[simp] theorem lP:gO ft ρ μ=(ft ρ μ).bind fun b μ1=>.ok (!b) μ1:=Pc (Pd _)
@[simp] theorem eT:fA fa fb ρ μ=(fa ρ μ).bind fun a μ1=>(xl a μ1).bind fun b μ2=>if b=true then fb ρ μ2 else .ok (.bl false) μ2:=Pc (Pd _)
@[simp] theorem xX:uj f ρ μ=(f ρ μ).bind fun a μ1=>(xl a μ1).bind fun b μ2=>.ok (.bl (!b)) μ2:=Pc (Pd _)
@[simp] theorem u7:jV o1 o2 fa fb fc ρ μ=(fa ρ μ).bind fun a μ1=>(fb ρ μ1).bind fun b μ2=>(o1 a b μ2).bind fun z μ3=>(xl z μ3).bind fun k μ4=>
 if k=true then (fc ρ μ4).bind fun c μ5=>o2 b c μ5 else .ok (.bl false) μ4:=Pc (Pd _)
@[simp] theorem Il:oy o1 o2 o3 fa fb fc fd ρ μ=(fa ρ μ).bind fun a μ1=>(fb ρ μ1).bind fun b μ2=>(o1 a b μ2).bind fun z μ3=>(xl z μ3).bind fun k μ4=>
 if k=true then (fc ρ μ4).bind fun c μ5=>(o2 b c μ5).bind fun z2 μ6=>(xl z2 μ6).bind fun k2 μ7=>if k2=true then (fd ρ μ7).bind fun d μ8=>o3 c d μ8 else .ok (.bl false) μ7 else .ok (.bl false) μ4:=Pc (Pd _)
@[simp] theorem mF:ji f ρ μ=(f ρ μ).bind yh:=Pc (Pd _)
@[simp] theorem kn {b:Bool}:yh (.bl b) μ=.ok b μ:=Pc (Pd _)
@[simp] theorem Ah {fl fh:MO}:Ey fa fl fh ρ μ=(fa ρ μ).bind fun a μ1=>(fl ρ μ1).bind fun lo μ2=>(fh ρ μ2).bind fun hi μ3=>Cg a lo hi μ3:=Pc (Pd _)
@[simp] theorem AO:E9 ρ μ=.ok none μ:=Pc (Pd _)
@[simp] theorem pN:lD f ρ μ=(f ρ μ).bind J1:=Pc (Pd _)
@[simp] theorem we {i:Int}:J1 (.int i) μ=.ok (some i) μ:=Pc (Pd _)
@[simp] theorem AR:zR ρ μ=.ok (.obj μ.length) (μ++[.dic]):=Pc (Pd _)
@[simp] theorem qQ {F:D->List D->aw->ak D}{fo:ME}:zB F fo fr ρ μ=(fo ρ μ).bind fun o μ1=>if zE o μ1=true then (fr ρ μ1).bind fun ds μ2=>F o ds μ2 else .bad:=Pc (Pd _)
@[simp] theorem bc:cb f ρ μ=(f ρ μ).bindS fun d μ'=>.ret d μ':=Pc (Pd _)
@[simp] theorem dU:fZ ρ μ=.next ρ μ:=Pc (Pd _)
@[simp] theorem aP:bp fs gs ρ μ=(fs ρ μ).bind gs:=Pc (Pd _)
@[simp] theorem eD:tJ ft fs gs ρ μ=(ft ρ μ).bindS fun b μ1=>if b=true then fs ρ μ1 else gs ρ μ1:=Pc (Pd _)
@[simp] theorem aS:bA f g ρ μ=(f ρ μ).bindS fun d μ1=>(g d ρ μ1).bindS fun ρ' μ2=>.next ρ' μ2:=Pc (Pd _)
@[simp] theorem ku:nt f ρ μ=(f ρ μ).bindS fun _ μ1=>.next ρ μ1:=Pc (Pd _)
@[simp] theorem aC {g:MS}:(SO.next ρ μ).bind g=g ρ μ:=Pc (Pd _)
@[simp] theorem v5 {d:D}{g:MS}:(SO.ret d μ).bind g=.ret d μ:=Pc (Pd _)
@[simp] theorem xO {g:MS}:(SO.next ρ μ).loop g=g ρ μ:=Pc (Pd _)
@[simp] theorem KQ {d:D}{g:MS}:(SO.ret d μ).loop g=.ret d μ:=Pc (Pd _)
@[simp] theorem aW {d:D}:(SO.ret d μ).out=.ok d μ:=Pc (Pd _)
@[simp] theorem BG:(SO.next ρ μ).out=.ok .non μ:=Pc (Pd _)
@[simp] theorem br {i:Nat}{d:D}:ao i d ρ μ=.ok (ρ.set i (some d)) μ:=Pc (Pd _)
@[simp] theorem kr {fo fi:ME}{d:D}:kK fo fi d ρ μ=(fo ρ μ).bind fun o μ1=>(fi ρ μ1).bind fun i μ2=>(tM o i d μ2).bind fun _ μ3=>.ok ρ μ3:=Pc (Pd _)
@[simp] theorem Ej {n:Nat}{u:Cq}{xs:List D}:fu n u (.tup xs) ρ μ=if xs.length=n then u xs ρ μ else .bad:=Pc (Pd _)
@[simp] theorem Ek:fv [] ρ μ=.ok ρ μ:=Pc (Pd _)
@[simp] theorem B3 {u:Cq}{d:D}{r:List D}:bt g u (d::r) ρ μ=(g d ρ μ).bind fun ρ' μ'=>u r ρ' μ':=Pc (Pd _)
@[simp] theorem iu {fi:MI}:kE fi g fs ρ μ=(fi ρ μ).bindS fun src μ1=>dB src g fs src.items ρ μ1:=Pc (Pd _)
@[simp] theorem dm:i4 f ρ μ=(f ρ μ).bind vS:=Pc (Pd _)
@[simp] theorem fL {F:List D->aw->ak qq}:kT F fr ρ μ=(fr ρ μ).bind F:=Pc (Pd _)
@[simp] theorem ko {xs:List D}:vS (.tup xs) μ=.ok (.fix xs) μ:=Pc (Pd _)
@[simp] theorem dq {fi:MI}{cap:List (Option Nat)}:fw fi cap g ft f ρ μ=(fi ρ μ).bind fun src μ1=>compLoop src μ1.length g ft f src.items (gX cap ρ) (μ1++[.lst []]):=Pc (Pd _)
@[simp] theorem bD {xs:List D}:(qq.fix xs).items=xs:=Pc (Pd _)
@[simp] theorem fC {n:Nat}{xs:List D}:(qq.own n xs).items=xs:=Pc (Pd _)
@[simp] theorem Kc:gX [] ρ=[]:=Pc (Pd _)
@[simp] theorem JX {r:List (Option Nat)}:gX (none::r) ρ=none::gX r ρ:=Pc (Pd _)
@[simp] theorem JW {r:List (Option Nat)}{j:Nat}:gX (some j::r) ρ=(ρ[j]?).join::gX r ρ:=Pc (Pd _)
theorem eE {N:Nat}{a:D}:ic 1 N fs [a] μ=oG μ (fs (some a::List.replicate (N - 1) none) μ).out:=Lp rfl
theorem cf {N:Nat}{a b:D}:ic 2 N fs [a,b] μ=oG μ (fs (some a::some b::List.replicate (N - 2) none) μ).out:=Lp rfl
theorem jj {N:Nat}{a b c:D}:ic 3 N fs [a,b,c] μ=oG μ (fs (some a::some b::some c::List.replicate (N - 3) none) μ).out:=Lp rfl
@[simp] theorem gA {op:CmpOp}{i j:Int}:eA op (.int i) (.int j) μ=.ok (.bl (cq op i j)) μ:=Pc (Pd _)
@[simp] theorem dr {i j:Int}:cJ (.int i) (.int j) μ=.ok (.int (i+j)) μ:=Pc (Pd _)
@[simp] theorem Ai {gg:Int->Int->D}{i j:Int}:dI gg (.int i) (.int j) μ=.ok (gg i j) μ:=Pc (Pd _)
@[simp] theorem jk {C:Int->Int->Prop}{gg:Int->Int->D}{i j:Int} (h:C i j):zF C gg (.int i) (.int j) μ=.ok (gg i j) μ:=by unfold zF;simp [h]
@[simp] theorem Kb {i j:Int} (h:tZ i j):qx (.int i) (.int j) μ=.ok (.int (i * j)) μ:=by unfold qx;simp [h]
@[simp] theorem wc {i:Int}:rT (.int i) μ=.ok (.int (-i)) μ:=Pc (Pd _)
@[simp] theorem iw {neg:Bool}{i j:Int}:jH neg (.int i) (.int j) μ=.ok (.bl (if neg then !(i == j) else i == j)) μ:=Pc (Pd _)
@[simp] theorem HV {neg:Bool}{i j:Bool}:jH neg (.bl i) (.bl j) μ=.ok (.bl (if neg then !(i == j) else i == j)) μ:=Pc (Pd _)
@[simp] theorem AQ {neg:Bool}{a:D}:vX neg a .non μ=.ok (.bl (if neg then !a.isNon else a.isNon)) μ:=Pc (Pd _)
@[simp] theorem lQ {xs:List D}:nO [.tup xs] μ=.ok (.int xs.length) μ:=Pc (Pd _)
@[simp] theorem xY {xs:List D}:nO [.frz xs] μ=.ok (.int xs.length) μ:=Pc (Pd _)
theorem sG {n:Nat}{xs:List D} (h:μ[n]?=some (.lst xs)):jU [.obj n] μ=.ok (.tup xs) μ:=by unfold jU;simp [h]
theorem kv {n:Nat}{bs:List Bool} (h:μ[n]?=some (.lst (bs.map D.bl))):tS [.obj n] μ=.ok (.bl (bs.all id)) μ:=by unfold tS;simp [h,zy]
theorem ff {xs:List D}{i:Int}{d:D} (h:atI xs i=some d):b9 (.tup xs) (.int i) μ=.ok d μ:=by unfold b9;simp [h]
theorem HU {xs:List D}{i:Int}{d:D} (h:atI xs i=some d):b9 (.frz xs) (.int i) μ=.ok d μ:=by unfold b9;simp [h]
theorem dh {n:Nat}{xs:List D}{i:Int}{d:D} (hm:μ[n]?=some (.lst xs)) (h:atI xs i=some d):b9 (.obj n) (.int i) μ=.ok d μ:=by unfold b9;simp [hm,h]
theorem lO {n j:Nat}{xs:List D}{i:Int}{d:D} (hm:μ[n]?=some (.lst xs)) (h:yf xs.length i=some j):tM (.obj n) (.int i) d μ=.ok () (μ.set n (.lst (xs.set j d))):=by unfold tM;simp [hm,h]
theorem iL {n:Nat}{xs:List D} (hm:μ[n]?=some (.lst xs)):vS (.obj n) μ=.ok (.own n xs) μ:=by unfold vS;simp [hm]
theorem jm {j:Int} (h0:0<=j) (h:j<1000):lx [.int j] μ=.ok (.fix (bM 0 j.toNat)) μ:=by
 unfold lx;dsimp only;rw [Lp];omega
theorem ou {i j:Int} (h0:0<=i) (h1:i<1000) (h2:-1000<=j) (h:j<1000):tN [.int i,.int j] μ=.ok (.fix (bM i (j - i).toNat)) μ:=by
 unfold tN;dsimp only;rw [Lp];omega
theorem ny {α:Type}{x:α}{r:List α}:atI (x::r) 0=some x:=by unfold atI yf;simp
theorem oY {α:Type}{x y:α}{r:List α}:atI (x::y::r) 1=some y:=jn (j:=1) rfl
theorem E5 {α:Type}{x y z:α}{r:List α}:atI (x::y::z::r) 2=some z:=jn (j:=2) rfl
@[simp] theorem cK {x:D}{r:List D}:b9 (.tup (x::r)) (.int 0) μ=.ok x μ:=ff ny
@[simp] theorem kq {x y:D}{r:List D}:b9 (.tup (x::y::r)) (.int 1) μ=.ok y μ:=ff oY
theorem wq {α:Type}{xs:List α}{i:Int}{x:α} (h0:0<=i) (h:xs[i.toNat]?=some x):atI xs i=some x:=by
 have:=jn h
 rwa [show ((i.toNat:Nat):Int)=i by omega] at this
theorem pb {n:Nat}{i:Int} (h0:0<=i) (h:i<n):yf n i=some i.toNat:=by unfold yf;simp [h0,h]
end
section
variable {μ g:aw}{d:D}
@[simp] theorem D5 {n:Nat}{i:Int}:(D.int i).low n=True:=by simp [D.low]
@[simp] theorem KO {n:Nat}{i:Bool}:(D.bl i).low n=True:=by simp [D.low]
@[simp] theorem Ka {n:Nat}:D.non.low n=True:=by simp [D.low]
@[simp] theorem J9 {n:Nat}{x:Str}:(D.str x).low n=True:=by simp [D.low]
@[simp] theorem D4 {n:Nat}{xs:List D}:(D.tup xs).low n=D.lows n xs:=by simp [D.low]
@[simp] theorem lI {n m:Nat}:(D.obj m).low n=(m<n):=by simp [D.low]
@[simp] theorem JV {n:Nat}:D.lows n []=True:=by simp [D.lows]
@[simp] theorem Ik {n:Nat}{x:D}{xs:List D}:D.lows n (x::xs)=(x.low n/\D.lows n xs):=by simp [D.lows]
theorem lW {n:Nat}:∀ {xs:List D},D.lows n xs↔∀ x∈xs,x.low n
 | []=>by simp
 | x::xs=>by simp [lW (xs:=xs)]
theorem fK (hd:d.low μ.length):oG μ (.ok d (μ++g))=.ok d μ:=by
 unfold oG
 dsimp only
 rw [Lp]
 ·simp
 ·refine ⟨hd, by simp, fun i o hi h => .inl ?_⟩
  rw [Mr hi] at h
  exact h
theorem aI (hd:d.low μ.length):oG μ (.ok d μ)=.ok d μ:=by
 have:=fK (μ:=μ) (g:=[]) hd
 simpa using this
theorem AK {i:Nat}{o:O} (hd:d.low μ.length) (ho:o.low μ.length):oG μ (.ok d (μ.set i o++g))=.ok d (μ.set i o):=by
 unfold oG
 dsimp only
 rw [Lp]
 ·congr 1
  rw [Pp (by simp)]
  exact NY (by simp)
 ·refine ⟨hd, by simp, fun j o' hj h => ?_⟩
  rw [Mr (by simpa using hj)] at h
  by_cases hij:i=j
  ·subst hij
   rw [LN hj] at h
   cases h
   exact .inr ho
  ·rw [LO hij] at h
   exact .inl h
theorem xU {i:Nat}{o:O} (hd:d.low μ.length) (ho:o.low μ.length):oG μ (.ok d (μ.set i o))=.ok d (μ.set i o):=by
 have:=AK (μ:=μ) (g:=[]) (i:=i) hd ho
 simpa using this
theorem ud {μ':aw} (h:¬ d.low μ.length):oG μ (.ok d μ')=.ok d μ':=by
 unfold oG
 dsimp only
 rw [Lq fun z=>h z.1]
theorem AM {μ':aw}:oG μ (.ok d μ')=.ok d μ'\/(oG μ (.ok d μ')=.ok d (μ'.take μ.length)/\d.low μ.length):=by
 unfold oG
 dsimp only
 by_cases h:Fj μ μ' d
 ·rw [Lp h];exact .inr ⟨rfl,h.1⟩
 ·rw [Lq h];exact .inl rfl
end
theorem pD {μ1 g:aw}{a b:O}:(μ1++a::g).set μ1.length b=μ1++b::g:=by
 rw [Pq _ _ (L9 _),Oh];rfl
theorem aD {μ1 g:aw}{a:O}:(μ1++a::g)[μ1.length]?=some a:=by
 rw [Mp (L9 _),Oh];rfl
theorem mL {μ1 g:aw}{ys:List D}{y:D} (h:ys.length<sizeLine):ub μ1.length y (μ1++.lst ys::g)=.ok () (μ1++.lst (ys++[y])::g):=by
 unfold ub
 rw [aD]
 dsimp only
 rw [Lp h,pD]
theorem dX {src:qq}{g:MG}{t:MT}{e:ME}{μ1:aw}{q:D->Bool}{h:D->D} (R:Ro->Prop) (ho:∀ a,cA src (μ1++[.lst a])) :
  ∀ {xs acc:List D}{ρ:Ro},R ρ->acc.length+xs.length<=sizeLine->(∀ x∈xs,∀ a ρ,R ρ->∃ ρ1,R ρ1/\g x ρ (μ1++[.lst a])=.ok ρ1 (μ1++[.lst a])/\t ρ1 (μ1++[.lst a])=.ok (q x) (μ1++[.lst a])/\(q x=true->e ρ1 (μ1++[.lst a])=.ok (h x) (μ1++[.lst a]))) ->
   compLoop src μ1.length g t e xs ρ (μ1++[.lst acc])=.ok (.obj μ1.length) (μ1++[.lst (acc++(xs.filter q).map h)])
 | [],acc,ρ,hr,hl,he=>by
  unfold compLoop
  rw [Lp (ho acc)]
  simp
 | x::xs,acc,ρ,hr,hl,he=>by
  obtain ⟨ρ1,r1,e1,e2,e3⟩:=he x LF acc ρ hr
  unfold compLoop
  rw [Lp (ho acc),e1]
  simp only [ai,aa]
  rw [e2]
  simp only [ai,aa]
  have he':=fun y hy=>he y (LG _ hy)
  simp only [ND] at hl
  cases hq:q x with
  | false=>
   rw [Lq LZ,dX R ho r1 (by omega) he',Pr,hq]
   rfl
  | true=>
   rw [Lp rfl,e3 hq]
   simp only [ai,aa]
   rw [mL (by omega)]
   simp only [aa]
   rw [dX R ho r1 (by simp;omega) he',Pr,hq]
   simp
theorem pO {src:qq}{g:MG}{t:MT}{e:ME}{n:Nat} (J:List D->List D->Ro->aw->aw->Prop)
  (fin:∀ ys ρ μ1 s,J [] ys ρ μ1 s->μ1.length=n/\cA src (μ1++.lst ys::s))
  (step : ∀ x r ys ρ μ1 s, J (x :: r) ys ρ μ1 s -> μ1.length = n /\ cA src (μ1 ++ .lst ys :: s) /\ ∃ ρ1 μa sa b μb sb, g x ρ (μ1 ++ .lst ys :: s) = .ok ρ1 (μa ++ .lst ys :: sa) /\ t ρ1 (μa ++ .lst ys :: sa) = .ok b (μb ++ .lst ys :: sb) /\
   (b=true->∃ y μc sc,e ρ1 (μb++.lst ys::sb)=.ok y (μc++.lst ys::sc)/\ys.length<sizeLine/\μc.length=n/\J r (ys++[y]) ρ1 μc sc)/\(b=false->J r ys ρ1 μb sb)) :
  ∀ {xs ys:List D}{ρ:Ro}{μ1 s:aw},J xs ys ρ μ1 s->∃ ys' ρ' μ1' s',J [] ys' ρ' μ1' s'/\compLoop src n g t e xs ρ (μ1++.lst ys::s)=.ok (.obj n) (μ1'++.lst ys'::s')
 | [],ys,ρ,μ1,s,hJ=>by
  refine ⟨ys,ρ,μ1,s,hJ,?_⟩
  unfold compLoop
  rw [Lp (fin ys ρ μ1 s hJ).2]
 | x::xs,ys,ρ,μ1,s,hJ=>by
  obtain ⟨hn,ho,ρ1,μa,sa,b,μb,sb,e1,e2,e3,e4⟩:=step x xs ys ρ μ1 s hJ
  unfold compLoop
  rw [Lp ho,e1]
  simp only [ai,aa]
  rw [e2]
  simp only [ai,aa]
  cases b with
  | false=>
   rw [Lq LZ]
   exact pO J fin step (e4 rfl)
  | true=>
   obtain ⟨y,μc,sc,f1,f2,f3,f4⟩:=e3 rfl
   rw [Lp rfl,f1]
   simp only [ai,aa]
   subst f3
   rw [mL f2]
   simp only [aa]
   exact pO J fin step f4
theorem km {src:qq}{g:MG}{fb:MS} (J:List D->Ro->aw->Prop) (fin:∀ ρ μ,J [] ρ μ->cA src μ)
  (step:∀ x r ρ μ,J (x::r) ρ μ->cA src μ/\∃ ρ1 μ1 ρ2 μ2,g x ρ μ=.ok ρ1 μ1/\fb ρ1 μ1=.next ρ2 μ2/\J r ρ2 μ2) :
  ∀ {xs:List D}{ρ:Ro}{μ:aw},J xs ρ μ->∃ ρ' μ',J [] ρ' μ'/\dB src g fb xs ρ μ=.next ρ' μ'
 | [],ρ,μ,h=>⟨ρ,μ,h,by unfold dB;rw [Lp (fin ρ μ h)]⟩
 | x::xs,ρ,μ,h=>by
  obtain ⟨ho,ρ1,μ1,ρ2,μ2,e1,e2,h2⟩:=step x xs ρ μ h
  obtain ⟨ρ',μ',h3,e3⟩:=km J fin step h2
  refine ⟨ρ',μ',h3,?_⟩
  unfold dB
  rw [Lp ho,e1]
  simp only [ae]
  rw [e2]
  exact e3
end L2
namespace L2
open PySem PySem.Spec PyProof.Rows RS
theorem JO {P:Program}{w:World}{K:W.Frag}{mg:Str->Option Value}{base:Heap}{p:Pa}{k n:Nat}{x qual:Str}{st:Stmt}{f:Addr}{fd:FuncData}{N ps:List Str}{fb:MS}
  (F:gT K x qual st f fd) (S:aU N ps (av st)) (hn:ps.length=n)
  (body : ∀ (cdv : Value) (A : Around) (outer : List Env) (s : Shared) (H : Hp) (E : XK), fX k (A.deeper (envOfC qual (av st) s.heap.objs.size f cdv)) ->
   Bx (iU (oJ vQ P w K mg base N qual (av st) f cdv A outer s H E).nox (bR st) (gU p fb))):oN P w K mg base vQ (k+1) f fd ps (Ce p n (ic n N.length fb)):=by
 refine F.ok S (fun vs H Q E h=>h.1.trans hn.symm) fun cdv A outer s H vs Q E hr h=>?_
 refine ⟨_,(body cdv A outer s H E hr).h,?_⟩
 obtain ⟨hl,α,ds,μ,S1,R1,P1⟩:=h
 unfold ic at P1
 have hd:ds.length=n:=by rw [<- R1.length];exact hl
 rw [Lp hd] at P1
 have P2:=ot S1 P1
 unfold start
 rw [hl]
 refine ⟨α,_,μ,S1,jt R1 _,?_⟩
 cases e:fb (ds.map some++List.replicate (N.length - n) none) μ with
 | ret d μ'=>rw [e] at P2;exact fun H' α' v x s r=>P2 H' α' x s v r
 | next ρ μ'=>rw [e] at P2;exact fun H' α' σ' x s r=>P2 H' α' x s .non (bu.mpr rfl)
 | exc x μ'=>rw [e] at P2;exact P2
 | brk ρ μ'=>rw [e] at P2;exact P2.elim
 | cnt ρ μ'=>rw [e] at P2;exact P2.elim
 | bad=>rw [e] at P2;exact P2.elim
theorem qX {K:W.Frag}{H:Hp}{α:List Addr}:∀ ns:List Int,Reps K H α (ns.map D.int) (ns.map V.int)
 | []=>by simp only [Na,Reps]
 | n::ns=>by
  simp only [Nb,Reps]
  exact ⟨_,_,rfl,ar.mpr rfl,qX ns⟩
theorem BP {K:W.Frag}{w:World}{F:List D->aw->ak D}{H:Hp}{a:Addr}{ns:List Int}{E:XK} (hF:∃ μ',F [.frz (ns.map D.int)] []=.ok (.bl true) μ') (hO:Cy H) (hS:f7 K H a (ns.map V.int)) :
  Ce (dA K w) 1 F [.ref a] H (fun v _=>v=.bl true) E:=by
 obtain ⟨μ',e⟩:=hF
 have fz:EA K H a (ns.map V.int):=by
  rcases hS with (h | h) | h
  ·rcases hO a with z | ⟨o, xs, z⟩
   ·rw [h] at z;cases z
   ·rw [h] at z;cases z
  ·exact .inl h
  ·exact .inr h
 refine ⟨rfl,[],[.frz (ns.map D.int)],[],⟨rfl,Og,fun n o a h=>by simp at h⟩,?_,?_⟩
 ·simp only [Reps]
  exact ⟨_,_,rfl,bf.mpr ⟨a,_,rfl,fz,qX ns⟩,rfl⟩
 ·rw [e]
  exact fun H' α' x s v r=>aT.mp r
end L2
namespace L2
open PySem PySem.Spec PyProof.Rows RS
section
variable {X:Cx}{p:Pa}
def se:D->Bool
 | .tup _=>true
 | .frz _=>true
 | .obj _=>true
 | _=>false
theorem wV {K:W.Frag}{H:Hp}{α:List Addr}{d:D}{v:V} (h:se d=true) (r:aQ K H α d v):∃ a,v=.ref a:=by
 cases d with
 | tup xs=>obtain ⟨a,us,rfl,_⟩:=aO.mp r;exact ⟨a,rfl⟩
 | frz xs=>obtain ⟨a,us,rfl,_⟩:=bf.mp r;exact ⟨a,rfl⟩
 | obj n=>obtain ⟨a,rfl,_⟩:=aR.mp r;exact ⟨a,rfl⟩
 | _=>cases h
theorem qD:seqSlot? (.type "list") (dunderI "add")=pure (some (.builtin "list.__iadd__")):=PySem.seqSlot_of Pt.lookup (by decide +kernel)
theorem lq {M:Model}{A:Around}{E:Value->Shared->Prop}{s:Shared}{a b:Value}{Q:Value->Shared->Prop} (ha:s.TypeIs a "list") (hb:s.TypeIs b "list")
  (hc:wpAny M A (call (.builtin "list.__iadd__") [a,b]) Q E s):wpAny M A (inplaceOp .Add a b) Q E s:=by
 unfold inplaceOp
 refine LW ?_
 have hfi:fillsInplaceSlot (.type "list") "add" (Operator.Add == .Add)=pure false:=by
  unfold fillsInplaceSlot
  show (typeLookup (.type "list") (dunderI "add") >>= fun fi=>pure (fi.isSome && !isSeqSlot fi))=pure false
  rw [Pt.lookup]
  rfl
 refine LV (MX ha (LV (OD hfi ?_)))
 show wpAny M A (if false=true then _ else _) Q E s
 rw [Lq LZ]
 refine LV (wpAny_binaryOp1_none (nm:="add") ha hb noFill_list_add ?_)
 refine LV (OD qD ?_)
 exact LV (NM hc)
def ES:Ip:=fun x y H Q=>(∃ i j,x=.int i/\y=.int j/\Q (.int (i+j)) H) \/
 ∃ l b xs zs,x=.ref l/\y=.ref b/\H l=some (.lst xs)/\H b=some (.lst zs)/\xs.length+zs.length<=sizeLine/\Q (.ref l) (cI H l (.lst (xs++zs)))
theorem Ec:J4 X .Add ES:=by
 intro pins s σ H x y v u Q I r1 r2 h
 rcases h with h | h
 ·exact HF pins s σ H x y v u Q I r1 r2 h
 ·obtain ⟨l, b, xs, zs, rfl, rfl, hH, hB, hz, q⟩ := h
  cases r1
  cases r2
  obtain ⟨z,its,n,r,hl,e⟩:=I.lstM hH
  obtain ⟨z2,its2,n2,r2,hl2,e2⟩:=I.lstM hB
  have hsz:its.toArray.size+its2.toArray.size<=sizeLine:=by rw [Mf,Mf];omega
  have hlong:¬ (!its.toArray.isEmpty && Builtin.List.listTooLong (its.toArray.size+its2.toArray.size))=true:=by
   rw [pI hsz,Nu]
   exact LZ
  refine lq ⟨_,e,rfl⟩ ⟨_,e2,rfl⟩ ?_
  refine Nr Pt ⟨_,e,rfl⟩ F.entry_list_iadd (F.args_list_iadd_2 _ _)
   (AutoSeq1.list___iadd___list_list_0 l its.toArray n b its2.toArray n2 hlong (by rw [Mf];omega) (by omega)) ⟨e,e2,?_⟩
  refine ⟨.ref l,_,I.lset (its':=its++its2) hH e (by simp) (r.append r2) ?_,rfl,q⟩
  rw [Mv]
  omega
def oU (a b:D) (μ:aw):ak D:=match a,b with
 | .int i,.int j=>.ok (.int (i+j)) μ
 | .obj m,.obj n=>match μ[m]?,μ[n]? with
  | some (.lst xs),some (.lst ys)=>if xs.length+ys.length<=sizeLine then .ok (.obj m) (μ.set m (.lst (xs++ys))) else .bad
  | _,_=>.bad
 | _,_=>.bad
theorem DV:nq p oU ES:=by
 intro a b v y H α μ Q S ra rb P
 unfold oU at P
 split at P
 ·rename_i i j
  obtain rfl:=ar.mp ra
  obtain rfl:=ar.mp rb
  exact .inl ⟨i,j,rfl,rfl,P.now S _ (ar.mpr rfl)⟩
 ·rename_i m n
  split at P
  ·rename_i xs ys hx hy
   split at P
   ·rename_i hb
    obtain ⟨a,us,rfl,a1,h1,rr⟩:=cu S ra hx
    obtain ⟨a',us',rfl,a1',h1',rr'⟩:=cu S rb hy
    have q:=rr.append rr'
    exact .inr ⟨a,a',us,us',rfl,rfl,h1,h1',by rw [rr.length,rr'.length];exact hb,P _ _ (iK h1) (S.put hx a1 h1 q) _ (aR.mpr ⟨a,rfl,a1⟩)⟩
   ·exact P.elim
  ·exact P.elim
 ·exact P.elim
theorem EI {e:Expr}{f:ME}{pos pos':Pos} (i:Nat) {x:Str} (hN:X.N.Nodup) (he:Bx (PE X e (tD p f))) (hi:X.N[i]?=some x:=by rfl) (hx:yg X.env.scope x:=by first | exact Or.inl rfl | exact Or.inr rfl) (hf:X.fn x=true\/X.env.scope.names.lookup x=some .local:=by first | exact .inl rfl | exact .inr rfl) :
  Bx (PS X (.AugAssign (.Name x pos') .Add e pos) (gU p (vT i oU f))):=⟨F0 hN hi hx he.h Ec DV hf⟩
def gB (d:D) (ds:List D) (μ:aw):ak D:=match d,ds with
 | .obj m,[.obj n]=>match μ[m]?,μ[n]? with
  | some (.lst xs),some (.lst ys)=>if xs.length+ys.length<=sizeLine then .ok .non (μ.set m (.lst (xs++ys))) else .bad
  | _,_=>.bad
 | _,_=>.bad
theorem DZ:Ir p gB xF:=by
 intro d ds v vs H α μ Q S rd rs P
 unfold gB at P
 split at P
 ·rename_i m n
  split at P
  ·rename_i xs ys hx hy
   split at P
   ·rename_i hb
    obtain ⟨a,us,rfl,a1,h1,rr⟩:=cu S rd hx
    obtain ⟨w,rfl,rw'⟩:=rs.one
    obtain ⟨a',us',rfl,a1',h1',rr'⟩:=cu S rw' hy
    have q:=rr.append rr'
    exact ⟨a,a',us,us',rfl,rfl,h1,h1',by rw [rr.length,rr'.length];exact hb,P _ _ (iK h1) (S.put hx a1 h1 q) _ (bu.mpr rfl)⟩
   ·exact P.elim
  ·exact P.elim
 ·exact P.elim
def yl (neg:Bool) (a b:D) (μ:aw):ak D:=match a,b with
 | .str x,.str y=>.ok (.bl (if neg then !decide (x=y) else decide (x=y))) μ
 | _,_=>.bad
theorem CV {x y:Str}:decide (V.str x=V.str y)=decide (x=y):=by
 by_cases e:x=y
 ·subst e;simp
 ·rw [Lm e, Lm]
  intro z;cases z;exact e rfl
theorem Hf:nq p (yl false) Ke:=by
 intro a b v y H α μ Q S ra rb P
 unfold yl at P
 split at P
 ·rename_i x z
  obtain rfl:=bb.mp ra
  obtain rfl:=bb.mp rb
  exact ⟨rfl,by rw [CV];exact P.now S _ (aT.mpr rfl)⟩
 ·exact P.elim
theorem JH:jN X p .Eq (yl false):=⟨Ke,JB,Hf⟩
end
end L2
namespace L2
open PySem PySem.W PyProof.Rows RS
section
variable {prog:Program}{w:World}{A:Around}{E:Value->Shared->Prop}
end
section
variable {X:Cx}
end
theorem K5 {α:Type}{P:List α->Prop} (h:∀ a,P [a]):∀ us:List α,us.length=1->P us
 | [a],_=>h a
theorem K4 {α:Type}{P:List α->Prop} (h:∀ a b,P [a,b]):∀ us:List α,us.length=2->P us
 | [a,b],_=>h a b
theorem K3 {α:Type}{P:List α->Prop} (h:∀ a b c,P [a,b,c]):∀ us:List α,us.length=3->P us
 | [a,b,c],_=>h a b c
theorem gT.b1 {K:W.Frag}{x qual:Str}{st:Stmt}{f:Addr}{fd:FuncData}{ps:List Str} (F:gT K x qual st f fd) (hl:ps.length=1) (h:∀ (kV doc pm:Value) (an:Option Addr) (cdv ct a:Value),bindArgs (W.fnOf x qual (dW st) (bR st) (av st) .none kV doc pm an cdv ct) ⟨[a],[]⟩=pure (ps.zip [a])):gP K fd ps []:=
 F.binds fun kV doc pm an cdv ct us e=>K5 (P:=fun us=>bindArgs (W.fnOf x qual (dW st) (bR st) (av st) .none kV doc pm an cdv ct) ⟨us,[]⟩=pure (ps.zip us)) (fun a=>h kV doc pm an cdv ct a) us (e.trans hl)
theorem gT.b2 {K:W.Frag}{x qual:Str}{st:Stmt}{f:Addr}{fd:FuncData}{ps:List Str} (F:gT K x qual st f fd) (hl:ps.length=2) (h:∀ (kV doc pm:Value) (an:Option Addr) (cdv ct a b:Value),bindArgs (W.fnOf x qual (dW st) (bR st) (av st) .none kV doc pm an cdv ct) ⟨[a,b],[]⟩=pure (ps.zip [a,b])):gP K fd ps []:=
 F.binds fun kV doc pm an cdv ct us e=>K4 (P:=fun us=>bindArgs (W.fnOf x qual (dW st) (bR st) (av st) .none kV doc pm an cdv ct) ⟨us,[]⟩=pure (ps.zip us)) (fun a b=>h kV doc pm an cdv ct a b) us (e.trans hl)
theorem gT.b3 {K:W.Frag}{x qual:Str}{st:Stmt}{f:Addr}{fd:FuncData}{ps:List Str} (F:gT K x qual st f fd) (hl:ps.length=3) (h:∀ (kV doc pm:Value) (an:Option Addr) (cdv ct a b c:Value),bindArgs (W.fnOf x qual (dW st) (bR st) (av st) .none kV doc pm an cdv ct) ⟨[a,b,c],[]⟩=pure (ps.zip [a,b,c])):gP K fd ps []:=
 F.binds fun kV doc pm an cdv ct us e=>K3 (P:=fun us=>bindArgs (W.fnOf x qual (dW st) (bR st) (av st) .none kV doc pm an cdv ct) ⟨us,[]⟩=pure (ps.zip us)) (fun a b c=>h kV doc pm an cdv ct a b c) us (e.trans hl)
end L2
namespace L2
open PySem PySem.Spec PyProof.Rows RS
section
variable {X:Cx}{d:Nat}{acc:Addr}
variable {e:Expr}{cl0:Comprehension}{rest:List Comprehension}{scope:Scope}{Nc:List Str}{cap:List (Option Nat)}{wi:TI}{g:TG}{tt:TT}{tb:Addr->Fc}{elt:Expr}{pos:Pos}
end
section
variable {K:W.Frag}{w:World}{H:Hp}{α:List Addr}{μ:aw}
end
section
variable {p:Pa}
variable {X:Cx}{elt tg iter:Expr}{ifs:List Expr}{rest:List Comprehension}{scope:Scope}{Nc:List Str}{cap:List (Option Nat)}{fi:MI}{g:MG}{tt:MT}{te:ME}{mb:MB}{pos:Pos}{d:Nat}{acc:Addr}
end
theorem yL (its:List Value):slicePick its.toArray none none (some (-1))=its.reverse.toArray:=by
 unfold slicePick
 have hb:sliceBounds none none (some (-1)) its.toArray.size=((its.toArray.size:Int) - 1,-1,-1):=by
  simp [sliceBounds]
 rw [hb]
 dsimp only
 have hr:sliceRange ((its.toArray.size:Int) - 1) (-1) (-1)=(List.range its.toArray.size).map fun m:Nat=>(((its.toArray.size:Int) - 1)+(m:Int) * (-1)).toNat:=by
  unfold sliceRange
  have hc:(if (-1:Int) > 0 then if (its.toArray.size:Int) - 1 < -1 then (-1 - ((its.toArray.size:Int) - 1)+-1 - 1) / -1 else 0 else if (its.toArray.size:Int) - 1 > -1 then ((its.toArray.size:Int) - 1 - -1 - -1 - 1) / - -1 else 0)=(its.toArray.size:Int):=by
   rw [Lq (by decide)]
   split
   ·rw [show - (-1:Int)=1 from rfl,Int.ediv_one];omega
   ·omega
  simp only [hc,MD]
  apply NR
  intro m _
  congr 1
  omega
 rw [hr,MM]
 exact uH its.toArray
def Ja (K:W.Frag) (te ts:TE):TE:=fun σ H Q=>te σ H fun x H1=>ts σ H1 fun y H2=>y=.int (-1)/\∃ a xs,x=.ref a /\
 ((gy K H2 a xs/\∀ p,H2 p=none->Q (.ref p) (cI H2 p (.tup xs.reverse)))\/(f7 K H2 a xs/\∀ p,H2 p=none->Q (.ref p) (cI H2 p (.lst xs.reverse))))
theorem DD {X:Cx}{e st:Expr}{te ts:TE}{pos p2:Pos} (he:PE X e te) (hs:PE X st ts):PE X (.Subscript e (.Slice none none (some st) p2) pos) (Ja X.K te ts):=by
 intro pins s σ H Q I h
 refine Subscript_ (cQ (he pins s σ H _ I h) fun v s1 ⟨x,H1,I1,r1,q1⟩=>?_)
 refine wpAny_Slice ?_
 rw [evalPart_none]
 refine L4 (L4 ?_)
 rw [evalPart_some]
 refine cQ (hs pins s1 σ H1 _ I1 q1) fun vs s3 ⟨y,H3,I3,r3,q3⟩=>?_
 obtain ⟨rfl,a,xs,rfl,hq⟩:=q3
 obtain ⟨tk,rfl⟩:=r3
 cases r1
 have I4:aV X pins σ H3 { s3 with heap:=s3.heap.push { cls:=.type "slice",data:=.fields #[.none,.none,.int (-1) tk] } }:=I3.kept (t':=s3.toks) fun b ob q=>L7 _ q
 show wpAny (model X.prog X.w) X.A (subscriptTail e (.Slice none none (some st) p2) (.ref a) (.ref s3.heap.objs.size)) (EP X pins σ Q) X.xe { s3 with heap:=s3.heap.push { cls:=.type "slice",data:=.fields #[.none,.none,.int (-1) tk] } }
 have hsl:=Nd s3.heap .none .none (.int (-1) tk)
 rcases hq with ⟨hx,q⟩ | ⟨hx,q⟩
 ·obtain ⟨its, r, ht, hz⟩ := I4.tuple hx
  refine tail_any (ops:=[.ref a,.ref s3.heap.objs.size]) ht.typeIs MR.lookup ?_ (by with_unfolding_all rfl)
  refine mq ht (Nd ..) ?_ (by rw [Mf,<- r.length];exact hz)
  generalize { s3 with heap:=s3.heap.push { cls:=.type "slice",data:=.fields #[.none,.none,.int (-1) tk] } }=s5 at I4 ht
  refine ⟨.ref s5.heap.objs.size,_,I4.laid (t':=s5.toks) (o:=.tup xs.reverse) (fun b ob q=>L7 _ q) (L9 _) ?_,rfl,q _ (I4.hok.fresh (L9 _))⟩
  exact ⟨by rw [Pu];exact hz,its.reverse,r.reverse,IsTup.new _ _⟩
 ·obtain ⟨its, r, ht, hz⟩ := I4.list hx
  refine tail_any (ops:=[.ref a,.ref s3.heap.objs.size]) ht.isList.typeIs Nf.lookup ?_ (by with_unfolding_all rfl)
  refine wpAny_getItem_list_slice ht.isList (Nd ..) .none .none (.int (-1) tk) (by simp) ?_ (by rw [Mf,<- r.length];exact hz)
  rw [yL]
  generalize { s3 with heap:=s3.heap.push { cls:=.type "slice",data:=.fields #[.none,.none,.int (-1) tk] } }=s5 at I4 ht
  refine ⟨.ref s5.heap.objs.size,_,I4.laid (t':=s5.toks) (o:=.lst xs.reverse) (fun b ob q=>L7 _ q) (L9 _) ?_,rfl,q _ (I4.hok.fresh (L9 _))⟩
  exact ⟨by rw [Pu];exact hz,its.reverse,0,r.reverse,L8 _ rfl⟩
def ug (a b:D) (μ:aw):ak D:=match a,b with
 | .tup xs,.int i=>if i=-1 then .ok (.tup xs.reverse) μ else .bad
 | .obj n,.int i=>match μ[n]? with
  | some (.lst xs)=>if i=-1 then .ok (.obj μ.length) (μ++[.lst xs.reverse]) else .bad
  | _=>.bad
 | _,_=>.bad
theorem FD {p:Pa}{X:Cx}{e st:Expr}{fa fs:ME}{pos p2:Pos} (he:Bx (PE X e (tD p fa))) (hs:Bx (PE X st (tD p fs))) (hK:X.K=p.K:=by rfl):Bx (PE X (.Subscript e (.Slice none none (some st) p2) pos) (tD p (aA ug fa fs))):=
 ⟨(DD he.h hs.h).weak fun σ H Q ⟨α, ρ, μ, S, R, P⟩ => ⟨α, ρ, μ, S, R, (aH.bind P).imp fun x μ1 H1 α1 X1 S1 P1 v rv => ⟨α1, ρ, μ1, S1, R.mono X1, (aH.bind P1).imp fun y μ2 H2 α2 X2 S2 P2 u ru => by
   rw [hK]
   unfold ug at P2
   split at P2
   ·rename_i xs i
    split at P2
    ·rename_i hi
     subst hi
     obtain ⟨a,us,rfl,h1,r1⟩:=aO.mp (rv.mono X2)
     exact ⟨ar.mp ru,a,us,rfl,.inl ⟨h1,fun q hq=>P2 _ _ (bV hq) (S2.tuple hq) _ (aO.mpr ⟨q,_,rfl,gy.of cg,r1.reverse.mono (bV hq)⟩)⟩⟩
    ·exact P2.elim
   ·rename_i n i
    split at P2
    ·rename_i xs hx
     split at P2
     ·rename_i hi
      subst hi
      obtain ⟨a,rfl,h1⟩:=aR.mp (rv.mono X2)
      obtain ⟨a',ea,vs,hH,rr⟩:=S2.at hx
      have eaa:a=a':=Lr (h1.symm.trans ea)
      subst eaa
      refine ⟨ar.mp ru,a,vs,rfl,.inr ⟨.inl (.inl hH),fun q hq=>?_⟩⟩
      obtain ⟨x1,s1,r1⟩:=c6 S2 hq rr.reverse
      exact P2 _ _ x1 s1 _ r1
     ·exact P2.elim
    ·exact P2.elim
   ·exact P2.elim⟩⟩⟩
section
variable {p:Pa}{X:Cx}{e:Expr}{fr:MA}{pos:Pos}
theorem zY {fo:ME}{ob:Expr}{apos:Pos} (ho:Bx (PE X ob (tD p fo))) (ha:Bx (PA X [e] (mv p fr))) (hbase:attributeBase ob "extend" X.env (eval ob X.env)=eval ob X.env:=by rfl) (hfew:((backTo pos (starEach [e] X.env)).all (fun x=>!x.1) && (backToKw pos (keywordEach [] X.env)).all (fun x=>x.1.isSome)
   && decide ([e].length+([]:List Keyword).length+(if ([]:List Keyword).isEmpty then 0 else 1)<30))=true:=by rfl) (hline:(apos.endLine == pos.line)=true:=by rfl) (hs:starEach [e] X.env=(false,eval e X.env)::starEach [] X.env:=by rfl) (hpl:(backTo pos (starEach [] X.env)).any (·.1)=false:=by rfl) (hK:X.K=p.K:=by rfl):Bx (PE X (.Call (.Attribute ob "extend" apos) [e] [] pos) (tD p (zB gB fo fr))):=⟨xn hK PySem.F.slot_list_extend PySem.F.type_list_extend yX DZ ho.h ha.h hbase hfew hline hs hpl⟩
end
end L2
namespace L2
open PySem PySem.Spec PyProof.Rows RS
abbrev E8 (K:W.Frag) (w:World) (E:XK):Pa:=⟨K,w,fun x _ H _=>∃ C,W.nsIn K mainGlobals x.cls=some (some (.ref C))/\∀ ea,H ea=none->E (.ref C) (some ea) H⟩
def KW (K:W.Frag) (w:World) (n:Nat) (F:List D->aw->ak D):Sp:=fun vs H Q E=>vs.length=n/\∃ α ds μ,gL K w H α μ/\Reps K H α ds vs/\aH (E8 K w E) H α (F ds μ) (RV (E8 K w E) Q)
structure tY (P:Program) (w:World) (K:W.Frag) (mg:Str->Option Value) (base:Heap) (k:Nat) (x:Str) (n:Nat) (F:List D->aw->ak D):Prop where
 len:∀ ds μ,ds.length≠n->F ds μ=.bad
 fn:∃ f fd ps,mg x=some (.ref f)/\W.keepIn K (.ref f)=true/\gP K fd ps []/\oN P w K mg base (Iu P w) k f fd ps (KW K w n F)
theorem vY {P:Program}{w:World}{K:W.Frag}{mg:Str->Option Value}{base:Heap}{k n:Nat}{x qual:Str}{st:Stmt}{f:Addr}{fd:FuncData}{N ps:List Str}{fb:MS}
  (F:gT K x qual st f fd) (S:aU N ps (av st)) (hn:ps.length=n) (hm:mg x=some (.ref f)) (hb:gP K fd ps [])
  (body : ∀ (cdv : Value) (A : Around) (outer : List Env) (s : Shared) (H : Hp) (E : XK), fX k (A.deeper (envOfC qual (av st) s.heap.objs.size f cdv)) ->
   Bx (iU (Ci P w K mg base N qual (av st) f cdv A outer s H E) (bR st) (gU (E8 K w E) fb))):tY P w K mg base (k+1) x n (ic n N.length fb):=by
 refine ⟨fun ds μ h=>by unfold ic;rw [Lq h],f,fd,ps,hm,F.kp,hb,?_⟩
 obtain ⟨oc,od,kV,doc,pm,an,cdv,ct,osl,rfl,lk,hcd⟩:=F.ex
 refine EZ lk hcd S (fun vs H Q E h=>h.1.trans hn.symm) fun A outer s H vs Q E hr h=>?_
 refine ⟨_,(body cdv A outer s H E hr).h,?_⟩
 obtain ⟨hl,α,ds,μ,S1,R1,P1⟩:=h
 unfold ic at P1
 have hd:ds.length=n:=by rw [<- R1.length];exact hl
 rw [Lp hd] at P1
 have P2:=ot S1 P1
 unfold start
 rw [hl]
 refine ⟨α,_,μ,S1,jt R1 _,?_⟩
 cases e:fb (ds.map some++List.replicate (N.length - n) none) μ with
 | ret d μ'=>rw [e] at P2;exact fun H' α' v x s r=>P2 H' α' x s v r
 | next ρ μ'=>rw [e] at P2;exact fun H' α' σ' x s r=>P2 H' α' x s .non (bu.mpr rfl)
 | exc x μ'=>rw [e] at P2;exact P2
 | brk ρ μ'=>rw [e] at P2;exact P2.elim
 | cnt ρ μ'=>rw [e] at P2;exact P2.elim
 | bad=>rw [e] at P2;exact P2.elim
section
variable {X:Cx}{E:XK}{k n:Nat}{x:Str}{F:List D->aw->ak D}{a:Expr}{es:List Expr}{fr:MA}{pos px:Pos}
theorem sj (h:tY X.prog X.w X.K X.mg X.base k x n F) (hp:jW (Iu X.prog X.w) X E) (hr:fX k X.A) (ha:Bx (PA X (a::es) (mv (E8 X.K X.w E) fr))) (hg:Gl X x:=by rfl) (hdb:(x == ("__debug__" : Str))=false:=by decide)
  (he:starEach (a::es) X.env=(false,eval a X.env)::starEach es X.env:=by rfl) (hpl:(backTo pos (starEach es X.env)).any (·.1)=false:=by rfl):Bx (PE X (.Call (.Name x px) (a::es) [] pos) (tD (E8 X.K X.w E) (aL F fr))):=Bx.mk (by
 obtain ⟨f,fd,ps,h1,h2,h3,h4⟩:=h.fn
 refine (sy (dvs:=[]) (E:=E) h4 hr hg h1 h2 h3 .nil hp ha.h hdb he hpl).weak fun σ H Q ⟨α,ρ,μ,S,R,P⟩=>⟨α,ρ,μ,S,R,(aH.bind P).imp fun ds μ1 H1 α1 X1 S1 P1 vs rv=>?_⟩
 show KW X.K X.w n F (vs++[]) H1 Q E
 rw [Mg]
 refine ⟨?_,α1,ds,μ1,S1,rv,P1⟩
 by_cases hl:ds.length=n
 ·rw [rv.length];exact hl
 ·rw [h.len ds μ1 hl] at P1;exact P1.elim)
theorem og {p:Pa} (h:dC X.prog X.w X.K X.mg X.base p.nx k x n F) (hr:fX k X.A) (ha:Bx (PA X (a::es) (mv p fr))) (hg:Gl X x:=by rfl) (hdb:(x == ("__debug__" : Str))=false:=by decide)
  (he:starEach (a::es) X.env=(false,eval a X.env)::starEach es X.env:=by rfl) (hpl:(backTo pos (starEach es X.env)).any (·.1)=false:=by rfl):Bx (PE X (.Call (.Name x px) (a::es) [] pos) (tD p (aL (fun ds μ=>(F ds μ).nox) fr))):=Bx.mk (by
 obtain ⟨f,fd,ps,h1,h2,h3,h4⟩:=h.fn
 refine (sy (dvs:=[]) (E:=E0) h4 hr hg h1 h2 h3 .nil Ae ha.h hdb he hpl).weak fun σ H Q ⟨α,ρ,μ,S,R,P⟩=>⟨α,ρ,μ,S,R,(aH.bind P).imp fun ds μ1 H1 α1 X1 S1 P1 vs rv=>?_⟩
 show Ce p.nx n F (vs++[]) H1 Q E0
 rw [Mg]
 have P2:aH p.nx H1 α1 (F ds μ1) (RV p.nx Q):=by
  cases e:F ds μ1 with
  | ok d μ'=>rw [e] at P1;exact P1
  | exc y μ'=>rw [e] at P1;exact False.elim P1
  | bad=>rw [e] at P1;exact P1
 refine ⟨?_,α1,ds,μ1,S1,rv,P2⟩
 by_cases hl:ds.length=n
 ·rw [rv.length];exact hl
 ·rw [h.len ds μ1 hl] at P2;exact P2.elim)
end
def r8 (c:Str):MS:=fun _ μ=>.exc ⟨c,[]⟩ μ
section
variable {P:Program}{w:World}{K:W.Frag}{mg:Str->Option Value}{base:Heap}{N:List Str}{qual:Str}{scope:Scope}{f:Addr}{cdv:Value}{A:Around}{outer:List Env}{s0:Shared}{H0:Hp}{E:XK}
theorem xq {c:Str}{C:Addr}{np cpos pos:Pos} (hc:W.nsIn K mainGlobals c=some (some (.ref C))) (O:tV mg base c C) (hg:Gl (Ci P w K mg base N qual scope f cdv A outer s0 H0 E) c:=by rfl) (hd:(c == ("__debug__" : Str))=false:=by decide) :
  Bx (PS (Ci P w K mg base N qual scope f cdv A outer s0 H0 E) (.Raise (some (.Call (.Name c np) [] [] cpos)) none pos) (gU (E8 K w E) (r8 c))):=Bx.mk (by
 refine (yJ O hg hd).weak fun D σ H ⟨α,ρ,μ,S,R,P⟩=>?_
 obtain ⟨C',h1,h2⟩:=P H α kD.refl S
 rw [hc] at h1
 cases h1
 exact h2)
end
def SO.ro (o:SO):SO:=match o with
 | .ret d μ=>.ret d μ
 | _=>.bad
def zL (known:List Str) (i N:Nat) (fb fh:MS):MS:=fun ρ μ=>match fb ρ μ with
 | .exc x μ'=>if known.contains x.cls=true then (fh ((List.replicate N none).set i (some (.obj μ'.length))) (μ'++[.exc x.cls])).ro else .bad
 | o=>o
def um (K:W.Frag) (r:Str) (R:Addr) (known:List Str):Prop:=∀ c∈known,∃ C,W.nsIn K mainGlobals c=some (some (.ref C))/\W.exmOne K (.ref C) (.ref R)=some true
theorem dk.ro {p:Pa}{H:Hp}{α:List Addr}{o:SO}{D:mC} (h:dk p H α o.ro D):dk p H α o { nx:=fun _ _=>False,rt:=D.rt }:=by
 cases o with
 | ret d μ=>exact h
 | next ρ μ=>exact False.elim h
 | brk ρ μ=>exact False.elim h
 | cnt ρ μ=>exact False.elim h
 | exc x μ=>exact False.elim h
 | bad=>exact False.elim h
theorem IS {X:Cx}{xw:DX->aw->Hp->List Addr->Prop}{r n:Str}{R:Addr}{known:List Str}{i m:Nat}{np hpos pos:Pos}{body suite:List Stmt}{b0:Stmt}{fb fh:MS}
  (F:X.Fn) (hN:X.N.Nodup) (hk:um X.K r R known) (hm:X.mg r=some (.ref R)) (hb:∀ pins E,Bx (iU (X.tri pins E) body (gU (E8 X.K X.w E) fb))) (hs:∀ ea,Bx (iU (X.hnd ea) (b0::suite) (gU ⟨X.K,X.w,xw⟩ fh)))
  (hl:X.N.length=m:=by rfl) (hi:X.N[i]?=some n:=by rfl) (hx:yg X.env.scope n:=by exact Or.inl rfl) (hlo:X.env.kindOf n=some .local:=by rfl) (hg:Gl X r:=by rfl) (hd:(r == ("__debug__" : Str))=false:=by decide) :
  Bx (PS X (.Try body [.ExceptHandler (some (.Name r np)) (some n) (b0::suite) hpos] [] [] pos) (gU ⟨X.K,X.w,xw⟩ (zL known i m fb fh))):=Bx.mk (by
 refine (Gw F hN hi hx hlo hg hm hd (fun pins E=>(hb pins E).h) fun ea=>(hs ea).h).weak fun D σ H ⟨α,ρ,μ,S,Rl,P⟩=>?_
 refine ⟨fun cls ea' H'=>∃ C ea,cls=.ref C/\ea'=some ea/\(W.exmOne X.K (.ref C) (.ref R)=some true/\∀ σ':St,σ'.length=X.N.length->gU ⟨X.K,X.w,xw⟩ fh { nx:=fun _ _=>False,rt:=D.rt } (σ'.set i (some (.ref ea))) (cI H' ea (tX ea C))),
  fun C ea H' h _=>?_,α,ρ,μ,S,Rl,?_⟩
 ·obtain ⟨C', ea', h1, h2, h3⟩ := h
  cases h1
  cases h2
  exact h3
 ·unfold zL at P
  cases e:fb ρ μ with
  | ret d μ'=>rw [e] at P;exact P
  | next ρ' μ'=>rw [e] at P;exact P
  | brk ρ' μ'=>rw [e] at P;exact P
  | cnt ρ' μ'=>rw [e] at P;exact P
  | bad=>rw [e] at P;exact P
  | exc x μ'=>
   rw [e] at P
   dsimp only at P
   by_cases hc:known.contains x.cls=true
   ·rw [Lp hc] at P
    obtain ⟨C,c1,c2⟩:=hk x.cls (List.contains_iff_mem.mp hc)
    intro H' α' X' S'
    refine ⟨C,c1,fun ea hea=>⟨C,ea,rfl,rfl,c2,fun σ' hσ=>?_⟩⟩
    have X3:kD X.K H H' α α':=X'
    have X2:kD X.K H' (cI H' ea (tX ea C)) α' (α'++[ea]):=(bV hea).trans (i9 [ea])
    have S2:gL X.K X.w (cI H' ea (tX ea C)) (α'++[ea]) (μ'++[.exc x.cls]):=gL.more S' hea ⟨C,c1,cg⟩
    refine ⟨α'++[ea],_,_,S2,⟨by simp [hσ,hl],fun j d hj=>?_⟩,(dk.from (p:=⟨X.K,X.w,xw⟩) (X3.trans X2) P).ro⟩
    by_cases hji:j=i
    ·subst hji
     have hlt:j<(List.replicate m (none:Option L2.D)).length:=by
      have:=(LL.mp hi).1
      simp;omega
     rw [LN hlt] at hj
     cases hj
     refine ⟨.ref ea,by rw [LN (by rw [hσ];simpa [hl] using hlt)],aR.mpr ⟨ea,rfl,?_⟩⟩
     have hla:α'.length=μ'.length:=S'.len
     rw [<- hla,Mp (L9 _)]
     simp
    ·rw [LO (LI hji), Mq] at hj
     split at hj <;> cases hj
   ·rw [Lq hc] at P
    exact False.elim P)
theorem AN {CX:tK}{P:Program}{w:World}{K:W.Frag}{mg:Str->Option Value}{base:Heap}{N:List Str}{qual:Str}{scope:Scope}{f:Addr}{cdv:Value}{A:Around}{outer:List Env}{s:Shared}{H:Hp}{E:XK}:(oJ CX P w K mg base N qual scope f cdv A outer s H E).nox.Fn:=⟨rfl,rfl,rfl⟩
theorem rH {x:V}:∀ {xs:List V}{us:List Value},ba xs us->xs.all jS=true->us.countP (Fb x)=xs.countP fun y=>xk y x
 | _,_,.nil,_=>rfl
 | y::xs,u::us,.cons r t,f=>by
  rw [Ni,MY] at f
  rw [List.countP_cons,List.countP_cons,wg r f.1,rH t f.2]
def AF:V->List V->Hp->VK->Prop:=fun x vs H Q=>∃ l xs y,x=.ref l/\vs=[y]/\H l=some (.lst xs)/\jS y=true/\xs.all jS=true/\Q (.int (xs.countP fun z=>xk z y:Nat)) H
def AE:V->List V->Hp->VK->Prop:=fun x vs H Q=>∃ l xs y j,x=.ref l/\vs=[y]/\H l=some (.lst xs)/\jS y=true/\xs.all jS=true/\(∃ z,xs[j]?=some z/\xk z y=true)/\(∀ m z,m<j->xs[m]?=some z->xk z y=false)/\xs.length<1000/\Q (.int (j:Nat)) H
section
variable {X:Cx}
theorem BN:J7 X "list.count" AF:=by
 intro pins s σ H x vs v us Q I rx rv h
 obtain ⟨l,xs,y,rfl,rfl,hH,fy,fs,q⟩:=h
 cases rx
 obtain ⟨u,rfl,ru⟩:=rv.one
 obtain ⟨z,its,n,r,hl,e⟩:=I.lstM hH
 refine Nr F.slot_list_count ⟨_,e,rfl⟩ F.entry_list_count (F.args_list_count_2 _ _) (SeqAt.list_countAt l its.toArray n none #[] u (Fb y)) ⟨e,fun w hw=>pJ ru fy r fs w (by simpa using hw),?_⟩
 refine ⟨.int (xs.countP fun z=>xk z y:Nat),H,I.tok _,⟨s.toks,?_⟩,q⟩
 rw [<- rH r fs]
theorem BM:J7 X "list.index" AE:=by
 intro pins s σ H x vs v us Q I rx rv h
 obtain ⟨l,xs,y,j,rfl,rfl,hH,fy,fs,⟨z0,hz,ht⟩,hno,hsz,q⟩:=h
 cases rx
 obtain ⟨u,rfl,ru⟩:=rv.one
 obtain ⟨z,its,n,r,hl,e⟩:=I.lstM hH
 have hlt:j<xs.length:=(LL.mp hz).1
 have hb:∀ m w,its[m]?=some w->∃ z,xs[m]?=some z/\Fb y w=xk z y:=fun m w hw=>by
  have hm:m<its.length:=(LL.mp hw).1
  have hm':m<xs.length:=by rw [r.length];exact hm
  obtain ⟨u',hu',ru'⟩:=r.get (O5 hm')
  rw [hw] at hu'
  cases hu'
  exact ⟨_,O5 hm',wg ru' (Ol.mp fs _ (O4 hm'))⟩
 have hlen:=r.length
 refine Nr F.slot_list_index ⟨_,e,rfl⟩ F.entry_list_index (F.args_list_index_2 _ _) (SeqAt.list_indexAt l its.toArray n none #[] u (Fb y) j (by rw [Mf];omega) (by omega) ?_ ?_) ⟨e,fun w hw=>pJ ru fy r fs w (by simpa using hw),?_⟩
 ·have hw : its[j]? = some its[j] := O5 (by omega)
  obtain ⟨z1,a1,a2⟩:=hb j _ hw
  rw [hz] at a1
  cases a1
  show Fb y its.toArray[j]=true
  rw [List.getElem_toArray,a2];exact ht
 ·intro m hm hmj
  have hm':m<its.length:=by rw [Mf] at hm;exact hm
  obtain ⟨z1,a1,a2⟩:=hb m _ (O5 hm')
  rw [List.getElem_toArray,a2]
  exact hno m z1 hmj a1
 ·exact ⟨.int (j:Nat),H,I.tok _,⟨s.toks,rfl⟩,q⟩
end
def jR:List D->Bool
 | []=>true
 | .bl _::r=>jR r
 | _::_=>false
def mB:D->Bool
 | .bl b=>b
 | _=>false
theorem vb {K:W.Frag}{H:Hp}{α:List Addr}{xs:List D}:∀ {vs:List V},Reps K H α xs vs->jR xs=true->vs=xs.map fun d=>V.bl (mB d):=by
 induction xs with
 | nil=>intro vs h _;simp only [Reps] at h;exact h
 | cons d r ih=>
  intro vs h q
  simp only [Reps] at h
  obtain ⟨v,r',rfl,h1,h2⟩:=h
  cases d with
  | bl b=>rw [aT.mp h1,ih h2 (by simpa only [jR] using q)];rfl
  | non=>simp only [jR] at q;cases q
  | int i=>simp only [jR] at q;cases q
  | str i=>simp only [jR] at q;cases q
  | tup i=>simp only [jR] at q;cases q
  | frz i=>simp only [jR] at q;cases q
  | obj i=>simp only [jR] at q;cases q
theorem pQ:∀ xs:List D,(xs.map fun d=>V.bl (mB d)).all jS=true
 | []=>rfl
 | _::xs=>by rw [Nb,Ni,pQ xs];rfl
def kz (d:D) (ds:List D) (μ:aw):ak D:=match d,ds with
 | .obj n,[.bl true]=>match μ[n]? with
  | some (.lst xs)=>if jR xs=true then .ok (.int (xs.countP mB:Nat)) μ else .bad
  | _=>.bad
 | _,_=>.bad
def ky (d:D) (ds:List D) (μ:aw):ak D:=match d,ds with
 | .obj n,[.bl true]=>match μ[n]? with
  | some (.lst xs)=>if jR xs=true/\xs.length<1000/\xs.any mB=true then .ok (.int (xs.findIdx mB:Nat)) μ else .bad
  | _=>.bad
 | _,_=>.bad
section
variable {p:Pa}
theorem yY:Ir p kz AF:=by
 intro d ds v vs H α μ Q S rd rs P
 unfold kz at P
 split at P
 ·split at P
  ·rename_i n xs hx
   split at P
   ·rename_i hb
    obtain ⟨a,us,rfl,a1,h1,rr⟩:=cu S rd hx
    have hv:=vb rr hb
    simp only [Reps] at rs
    obtain ⟨y,r',rfl,h3,rfl⟩:=rs
    rw [aT.mp h3]
    refine ⟨a,us,.bl true,rfl,rfl,h1,rfl,by rw [hv];exact pQ xs,?_⟩
    have z:=P.now S (.int (xs.countP mB:Nat)) (ar.mpr rfl)
    have e:(us.countP fun z=>xk z (.bl true))=xs.countP mB:=by
     rw [hv,List.countP_map]
     congr 1
     funext d
     cases h:mB d <;> simp [xk,h]
    rw [e];exact z
   ·exact P.elim
  ·exact P.elim
 ·exact P.elim
theorem yW:Ir p ky AE:=by
 intro d ds v vs H α μ Q S rd rs P
 unfold ky at P
 split at P
 ·split at P
  ·rename_i n xs hx
   split at P
   ·rename_i hb
    obtain ⟨hb,hlen,hany⟩:=hb
    obtain ⟨a,us,rfl,a1,h1,rr⟩:=cu S rd hx
    have hv:=vb rr hb
    simp only [Reps] at rs
    obtain ⟨y,r',rfl,h3,rfl⟩:=rs
    rw [aT.mp h3]
    have hlt:xs.findIdx mB<xs.length:=List.findIdx_lt_length_of_exists (by simpa using hany)
    refine ⟨a,us,.bl true,xs.findIdx mB,rfl,rfl,h1,rfl,by rw [hv];exact pQ xs,⟨.bl true,?_,rfl⟩,fun m z hm hz=>?_,by rw [hv,Mw];exact hlen,P.now S (.int (xs.findIdx mB:Nat)) (ar.mpr rfl)⟩
    ·rw [hv, Ms, O5 hlt]
     have:=List.findIdx_getElem (w:=hlt)
     simp [this]
    ·rw [hv, Ms, O5 (by omega : m < xs.length)] at hz
     cases hz
     have hf:=List.not_of_lt_findIdx hm
     show (mB _ == true)=false
     rw [beq_true]
     cases z:mB xs[m] with
     | false=>rfl
     | true=>rw [z] at hf;exact absurd hf (by decide)
   ·exact P.elim
  ·exact P.elim
 ·exact P.elim
end
def kU (subs known:List Str) (d:D) (μ:aw):ak D:=match d with
 | .obj n=>match μ[n]? with
  | some (.exc c)=>if known.contains c=true then .ok (.bl (subs.contains c)) μ else .bad
  | _=>.bad
 | _=>.bad
def bI (K:W.Frag) (u:Value) (subs known:List Str):Prop:=∀ c∈known,∃ C,W.nsIn K mainGlobals c=some (some (.ref C))/\W.excCls K C=true/\W.kitOne K (.ref C) u=some (subs.contains c)
theorem AI {p:Pa}{K:W.Frag}{u:Value}{v x:V}{subs known:List Str}{d:D}{H:Hp}{α:List Addr}{μ:aw}{Q:VK} (hK:K=p.K) (hk:bI K u subs known) (ru:bL v u) (S:p.S H α μ) (r:p.R H α d x) (P:aH p H α (kU subs known d μ) (RV p Q)):IH K u [x,v] H Q:=by
 subst hK
 unfold kU at P
 split at P
 ·split at P
  ·rename_i n c hx
   split at P
   ·rename_i hc
    obtain ⟨a,ea,C,h1,h2⟩:=S.at hx
    obtain ⟨a',rfl,ea'⟩:=aR.mp r
    rw [ea] at ea';cases ea'
    obtain ⟨C',k1,k2,k3⟩:=hk c (List.contains_iff_mem.mp hc)
    rw [h1] at k1
    cases k1
    exact ⟨a,C,_,v,rfl,ru,h2,k2,k3,P.now S _ (aT.mpr rfl)⟩
   ·exact P.elim
  ·exact P.elim
 ·exact P.elim
section
variable {X:Cx}{p:Pa}{a e ob:Expr}{fa fo:ME}{fr:MA}{pos px pt apos:Pos}{xT:Str}{subs known:List Str}
theorem nr {C:Addr} (hk:bI X.K (.ref C) subs known) (hm:X.mg "isinstance" = none) (hmT:X.mg xT=some (.ref C)) (ha:Bx (PE X a (tD p fa))) (hg:Gl X "isinstance" := by rfl) (hgT:Gl X xT:=by rfl) (hdT:(xT == ("__debug__" : Str))=false:=by decide)
  (hs1:starEach [a,.Name xT pt] X.env=(false,eval a X.env)::starEach [.Name xT pt] X.env:=by rfl) (hK:X.K=p.K:=by rfl):Bx (PE X (.Call (.Name "isinstance" px) [a,.Name xT pt] [] pos) (tD p (kH (kU subs known) fa))):=Bx.mk (by
 have hb:PE X (.Name xT pt) (tC (.ref C)):=xI hgT hmT rfl hdT
 refine (lV (va (u:=.ref C) fun v w h1 h2=>?_) hg hm Pl (jl ha.h (jl hb r9 rfl) hs1) (by decide) (by decide) hs1 rfl).weak fun σ H Q ⟨α,ρ,μ,S,R,P⟩=>⟨α,ρ,μ,S,R,(aH.bind P).imp fun d μ1 H1 α1 X1 S1 P1 v rv=>?_⟩
 ·cases v with
  | ref b=>cases (show Value.ref C=Value.ref b from h1);exact h2
  | non=>cases (show Value.ref C=Value.none from h1)
  | bl b=>cases (show Value.ref C=Value.bool b from h1)
  | int b=>obtain ⟨t,z⟩:=(show ∃ t,Value.ref C=Value.int b t from h1);cases z
  | str b=>obtain ⟨t,z⟩:=(show ∃ t,Value.ref C=Value.str b t from h1);cases z
  | byt b=>obtain ⟨t,z⟩:=(show ∃ t,Value.ref C=Value.bytes b t from h1);cases z
  | flt b=>obtain ⟨t,z⟩:=(show ∃ t,Value.ref C=Value.float b t from h1);cases z
  | ty b=>cases (show Value.ref C=Value.type b from h1)
 ·exact AI hK hk rfl S1 rv P1)
theorem FE {T:String} (hk:bI X.K (.type T) subs known) (hm:X.mg "isinstance" = none) (hmT:X.mg xT=none) (hbT:bootBuiltins xT=some (.type T)) (ha:Bx (PE X a (tD p fa))) (hg:Gl X "isinstance" := by rfl) (hgT:Gl X xT:=by rfl) (hnT:xT ≠ "__name__" := by decide) (hdT:(xT == ("__debug__" : Str))=false:=by decide)
  (hs1:starEach [a,.Name xT pt] X.env=(false,eval a X.env)::starEach [.Name xT pt] X.env:=by rfl) (hK:X.K=p.K:=by rfl):Bx (PE X (.Call (.Name "isinstance" px) [a,.Name xT pt] [] pos) (tD p (kH (kU subs known) fa))):=Bx.mk (by
 have hb:PE X (.Name xT pt) (tC (.ty T)):=xJ hgT hmT hbT rfl hnT hdT
 refine (lV (va (u:=.type T) fun v w h1 h2=>?_) hg hm Pl (jl ha.h (jl hb r9 rfl) hs1) (by decide) (by decide) hs1 rfl).weak fun σ H Q ⟨α,ρ,μ,S,R,P⟩=>⟨α,ρ,μ,S,R,(aH.bind P).imp fun d μ1 H1 α1 X1 S1 P1 v rv=>?_⟩
 ·cases v with
  | ty b=>cases (show Value.type T=Value.type b from h1);exact h2
  | non=>cases (show Value.type T=Value.none from h1)
  | bl b=>cases (show Value.type T=Value.bool b from h1)
  | int b=>obtain ⟨t,z⟩:=(show ∃ t,Value.type T=Value.int b t from h1);cases z
  | str b=>obtain ⟨t,z⟩:=(show ∃ t,Value.type T=Value.str b t from h1);cases z
  | byt b=>obtain ⟨t,z⟩:=(show ∃ t,Value.type T=Value.bytes b t from h1);cases z
  | flt b=>obtain ⟨t,z⟩:=(show ∃ t,Value.type T=Value.float b t from h1);cases z
  | ref b=>cases (show Value.type T=Value.ref b from h1)
 ·exact AI hK hk rfl S1 rv P1)
theorem IW (ho:Bx (PE X ob (tD p fo))) (ha:Bx (PA X [e] (mv p fr))) (hbase:attributeBase ob "count" X.env (eval ob X.env)=eval ob X.env:=by rfl) (hfew:((backTo pos (starEach [e] X.env)).all (fun x=>!x.1) && (backToKw pos (keywordEach [] X.env)).all (fun x=>x.1.isSome)
   && decide ([e].length+([]:List Keyword).length+(if ([]:List Keyword).isEmpty then 0 else 1)<30))=true:=by rfl) (hline:(apos.endLine == pos.line)=true:=by rfl) (hs:starEach [e] X.env=(false,eval e X.env)::starEach [] X.env:=by rfl) (hpl:(backTo pos (starEach [] X.env)).any (·.1)=false:=by rfl) (hK:X.K=p.K:=by rfl):Bx (PE X (.Call (.Attribute ob "count" apos) [e] [] pos) (tD p (zB kz fo fr))):=
 ⟨xn hK PySem.F.slot_list_count PySem.F.type_list_count BN yY ho.h ha.h hbase hfew hline hs hpl⟩
theorem IV (ho:Bx (PE X ob (tD p fo))) (ha:Bx (PA X [e] (mv p fr))) (hbase:attributeBase ob "index" X.env (eval ob X.env)=eval ob X.env:=by rfl) (hfew:((backTo pos (starEach [e] X.env)).all (fun x=>!x.1) && (backToKw pos (keywordEach [] X.env)).all (fun x=>x.1.isSome)
   && decide ([e].length+([]:List Keyword).length+(if ([]:List Keyword).isEmpty then 0 else 1)<30))=true:=by rfl) (hline:(apos.endLine == pos.line)=true:=by rfl) (hs:starEach [e] X.env=(false,eval e X.env)::starEach [] X.env:=by rfl) (hpl:(backTo pos (starEach [] X.env)).any (·.1)=false:=by rfl) (hK:X.K=p.K:=by rfl):Bx (PE X (.Call (.Attribute ob "index" apos) [e] [] pos) (tD p (zB ky fo fr))):=
 ⟨xn hK PySem.F.slot_list_index PySem.F.type_list_index BM yW ho.h ha.h hbase hfew hline hs hpl⟩
end
structure CA (P:Program) (w:World) (K:W.Frag) (mg:Str->Option Value) (base:Heap) (p:Pa) (k:Nat) (x:Str) (n:Nat) (F:List D->aw->ak D):Prop where
 len:∀ ds μ,ds.length≠n->F ds μ=.bad
 fn:∃ f fd ps,mg x=some (.ref f)/\W.keepIn K (.ref f)=true/\gP K fd ps []/\uo P w K mg base vQ k f fd ps (Ce p n F)
theorem FA {P:Program}{w:World}{K:W.Frag}{mg:Str->Option Value}{base:Heap}{p:Pa}{k n:Nat}{x qual:Str}{st:Stmt}{f:Addr}{fd:FuncData}{N ps:List Str}{fb:MS}
  (F:gT K x qual st f fd) (S:aU N ps (av st)) (hn:ps.length=n) (hm:mg x=some (.ref f)) (hb:gP K fd ps [])
  (body : ∀ (cdv : Value) (A : Around) (outer : List Env) (s : Shared) (H : Hp) (E : XK), eJ k (A.deeper (envOfC qual (av st) s.heap.objs.size f cdv)) ->
   Bx (iU (oV vQ P w K mg base N qual (av st) f cdv A outer s H E).nox (bR st) (gU p fb))):CA P w K mg base p (k+1) x n (ic n N.length fb):=by
 refine ⟨fun ds μ h=>by unfold ic;rw [Lq h],f,fd,ps,hm,F.kp,hb,?_⟩
 refine F.okH S (fun vs H Q E h=>h.1.trans hn.symm) fun cdv A outer s H vs Q E hr h=>?_
 refine ⟨_,(body cdv A outer s H E hr).h,?_⟩
 obtain ⟨hl,α,ds,μ,S1,R1,P1⟩:=h
 unfold ic at P1
 have hd:ds.length=n:=by rw [<- R1.length];exact hl
 rw [Lp hd] at P1
 have P2:=ot S1 P1
 unfold start
 rw [hl]
 refine ⟨α,_,μ,S1,jt R1 _,?_⟩
 cases e:fb (ds.map some++List.replicate (N.length - n) none) μ with
 | ret d μ'=>rw [e] at P2;exact fun H' α' v x s r=>P2 H' α' x s v r
 | next ρ μ'=>rw [e] at P2;exact fun H' α' σ' x s r=>P2 H' α' x s .non (bu.mpr rfl)
 | exc x μ'=>rw [e] at P2;exact P2
 | brk ρ μ'=>rw [e] at P2;exact P2.elim
 | cnt ρ μ'=>rw [e] at P2;exact P2.elim
 | bad=>rw [e] at P2;exact P2.elim
theorem CJ {X:Cx}{p:Pa}{k n:Nat}{x:Str}{F:List D->aw->ak D}{a:Expr}{es:List Expr}{fr:MA}{pos px:Pos} (h:CA X.prog X.w X.K X.mg X.base p k x n F) (hr:eJ k X.A) (ha:Bx (PA X (a::es) (mv p fr))) (hg:Gl X x:=by rfl) (hdb:(x == ("__debug__" : Str))=false:=by decide)
  (he:starEach (a::es) X.env=(false,eval a X.env)::starEach es X.env:=by rfl) (hpl:(backTo pos (starEach es X.env)).any (·.1)=false:=by rfl):Bx (PE X (.Call (.Name x px) (a::es) [] pos) (tD p (aL F fr))):=Bx.mk (by
 obtain ⟨f,fd,ps,h1,h2,h3,h4⟩:=h.fn
 refine (BD (dvs:=[]) (E:=E0) h4 hr hg h1 h2 h3 .nil Ae ha.h hdb he hpl).weak fun σ H Q ⟨α,ρ,μ,S,R,P⟩=>⟨α,ρ,μ,S,R,(aH.bind P).imp fun ds μ1 H1 α1 X1 S1 P1 vs rv=>?_⟩
 show Ce p n F (vs++[]) H1 Q E0
 rw [Mg]
 refine ⟨?_,α1,ds,μ1,S1,rv,P1⟩
 by_cases hl:ds.length=n
 ·rw [rv.length];exact hl
 ·rw [h.len ds μ1 hl] at P1;exact P1.elim)
theorem qK:bootBuiltins "ValueError" = some (.type "ValueError"):=PyProof.Rows.Boot.«ValueError»
def BR (K:W.Frag) (u:Value) (subs known:List Str):Bool:=known.all fun c=>match W.nsIn K mainGlobals c with
 | some (some (.ref C))=>W.excCls K C && W.kitOne K (.ref C) u == some (subs.contains c)
 | _=>false
theorem bI.of {K:W.Frag}{u:Value}{subs known:List Str} (h:BR K u subs known=true):bI K u subs known:=fun c hc=>by
 have q:=Ol.mp h c hc
 split at q
 ·rename_i C e
  rw [MY] at q
  exact ⟨C,e,q.1,Pb.mp q.2⟩
 ·cases q
def Hs (K:W.Frag) (R:Addr) (known:List Str):Bool:=known.all fun c=>match W.nsIn K mainGlobals c with
 | some (some (.ref C))=>W.exmOne K (.ref C) (.ref R) == some true
 | _=>false
theorem um.of {K:W.Frag}{r:Str}{R:Addr}{known:List Str} (h:Hs K R known=true):um K r R known:=fun c hc=>by
 have q:=Ol.mp h c hc
 split at q
 ·rename_i C e
  exact ⟨C,e,Pb.mp q⟩
 ·cases q
theorem tV.of {K:W.Frag}{base:Heap}{mg:Str->Option Value}{x nm q:Str}{C N:Addr}{bs bm:List Value}{hd:Bool}{sn:List Str}{sub:List Value}{ab:Bool}{col:Option Bool}{dd:Option Addr}{k0 k1 k2 k3 k5:Option Value} (X:K.In base) (G:base.Ns mainGlobals mg) (e:W.nsIn K mainGlobals x=some (some (.ref C)))
  (l:K.lookup C=some (excClassObj nm q C N bs bm hd sn sub ab col dd k0 k1 k2 k3 k5 "ValueError.__new__")) (h1:W.nsOkIn K N=true) (h2:W.nsIn K N "__init__" = some none) (h3:W.tailIn K [.type "ValueError",.type "Exception",.type "BaseException",.type "object"] bm=true):tV mg base x C:=
 ⟨_,_,_,_,⟨W.mg_of X G e,bm,N,nm,q,bs,hd,sn,sub,ab,col,dd,k0,k1,k2,k3,k5,_,X _ _ l,.of_isNs (W.isNs_of_in X h1),W.nsMap_none_of_in X h1 h2,W.tail_of_in X h3⟩,PySem.F.excBase_ValueError⟩
end L2
namespace L2
open PySem PySem.Spec PyProof.Rows RS
section
variable {X:Cx}{k n:Nat}{x:Str}{F:List D->aw->ak D}{a b c d:Expr}{es:List Expr}{fr:MA}{pos px:Pos}
variable {p:Pa}{ta tb tc td:TE}{fa fb fc fd:ME}{op op' op'':CmpOp}{r r' r'':R2}{o1 o2 o3:D->D->aw->ak D}
end
section
variable {X:Cx}
end
section
variable {p:Pa}
end
section
variable {X:Cx}{p:Pa}{e ob:Expr}{fo:ME}{fr:MA}{pos apos:Pos}
end
end L2
namespace L2
open PySem PySem.Spec PyProof.Rows RS
noncomputable abbrev Fl:D->D->aw->ak D:=zF qy fun i j=>.int (i * 2 ^ j.toNat)
noncomputable abbrev Fk:D->D->aw->ak D:=zF (fun _ j=>0<=j) fun i j=>.int (i / 2 ^ j.toNat)
abbrev Fm:D->D->aw->ak D:=dI fun i j=>.int (Builtin.bitAnd i j)
abbrev J0:D->D->aw->ak D:=dI fun i j=>.int (Builtin.bitOr i j)
section
variable {X:Cx}{p:Pa}{a b:Expr}{fa fb:ME}{pos:Pos}
theorem IU (ha:Bx (PE X a (tD p fa))) (hb:Bx (PE X b (tD p fb))):Bx (PE X (.BinOp a .LShift b pos) (tD p (aA Fl fa fb))):=⟨iV GS (uc fun _ _ _ _=>ar.mpr rfl) ha.h hb.h⟩
theorem IT (ha:Bx (PE X a (tD p fa))) (hb:Bx (PE X b (tD p fb))):Bx (PE X (.BinOp a .RShift b pos) (tD p (aA Fk fa fb))):=⟨iV GR (uc fun _ _ _ _=>ar.mpr rfl) ha.h hb.h⟩
theorem FF (ha:Bx (PE X a (tD p fa))) (hb:Bx (PE X b (tD p fb))):Bx (PE X (.BinOp a .BitAnd b pos) (tD p (aA Fm fa fb))):=⟨iV G4 (Ff fun _ _ _ _=>ar.mpr rfl) ha.h hb.h⟩
theorem ED (ha:Bx (PE X a (tD p fa))) (hb:Bx (PE X b (tD p fb))):Bx (PE X (.BinOp a .BitOr b pos) (tD p (aA J0 fa fb))):=⟨iV JA (Ff fun _ _ _ _=>ar.mpr rfl) ha.h hb.h⟩
end
section
variable (K:W.Frag) (H:Hp)
mutual
def qt:PyData->V->Prop
 | .none,v=>v=.non
 | .bool b,v=>v=.bl b
 | .int i,v=>v=.int i
 | .str x,v=>v=.str x
 | .tuple xs,v=>∃ a vs,v=.ref a/\gy K H a vs/\RdGs xs vs
 | .list xs,v=>∃ a vs,v=.ref a/\f7 K H a vs/\RdGs xs vs
 | .dict kvs,v=>kvs=[]/\∃ a,v=.ref a/\H a=some (.dK [])
def RdGs:List PyData->List V->Prop
 | [],vs=>vs=[]
 | x::xs,vs=>∃ v r,vs=v::r/\qt x v/\RdGs xs r
end
end
mutual
def Ii:PyData->Bool
 | .list _=>false
 | .tuple xs=>noLs xs
 | _=>true
def noLs:List PyData->Bool
 | []=>true
 | x::xs=>Ii x && noLs xs
end
section
variable {X:Cx}{pins:List (Addr × Obj)}{σ:St}{H:Hp}{s:Shared}
theorem Hj {a:Addr} (h:(a == sysModules)=false):a≠sysModules:=by simpa using h
mutual
theorem qY (I:aV X pins σ H s):∀ (d:PyData) (x:V) (v:Value),qt X.K H d x->bL x v->∃ as,Reads s.heap v d as/\(Ii d=true->sysModules ∉ as)
 | .none,_,_,h,r=>by simp only [qt] at h;subst h;cases r;exact ⟨_,.none,fun _ z=>by cases z⟩
 | .bool b,_,_,h,r=>by simp only [qt] at h;subst h;cases r;exact ⟨_,.bool b,fun _ z=>by cases z⟩
 | .int b,_,_,h,r=>by simp only [qt] at h;subst h;obtain ⟨t,rfl⟩:=r;exact ⟨_,.int b t,fun _ z=>by cases z⟩
 | .str b,_,_,h,r=>by simp only [qt] at h;subst h;obtain ⟨t,rfl⟩:=r;exact ⟨_,.str b t,fun _ z=>by cases z⟩
 | .tuple xs,_,_,h,r=>by
  simp only [qt] at h
  obtain ⟨a,vs,rfl,h1,h2⟩:=h
  cases r
  obtain ⟨its,rv,⟨o,e1,e2,n,e3⟩,_⟩:=I.tuple h1
  obtain ⟨as,q,hn⟩:=readsAllG_of I xs vs its h2 rv
  exact ⟨_,.tuple e1 e2 e3 (by simpa using q),fun z=>hn (by simpa only [Ii] using z)⟩
 | .list xs,_,_,h,r=>by
  simp only [qt] at h
  obtain ⟨a,vs,rfl,h1,h2⟩:=h
  cases r
  obtain ⟨its,rv,⟨o,n,e1,e2,_,e3⟩,_⟩:=I.list h1
  obtain ⟨as,q,_⟩:=readsAllG_of I xs vs its h2 rv
  exact ⟨_,.list e1 e2 e3 (by simpa using q),fun z=>by simp only [Ii] at z;cases z⟩
 | .dict kvs,_,_,h,r=>by
  simp only [qt] at h
  obtain ⟨rfl,a,rfl,h1⟩:=h
  cases r
  obtain ⟨_,hS,vs,rv,o,es,n,e1,e2,e3,_,e4,_⟩:([]:List (qu × V)).length<=sizeLine/\(a == sysModules)=false/\∃ vs,KV ([]:List (qu × V)) vs/\s.heap.DictOf (oj X.prog X.w) a vs:=I.hok a _ h1
  cases rv
  have hes:es.toList=[]:=by
   generalize es.toList=l at e4
   cases e4
   rfl
  refine ⟨[a]++[],Reads.dict (as:=[]) (bs:=[]) e1 e2.1 e3 ?_ ?_,fun _ z=>?_⟩
  ·rw [hes];exact .nil
  ·rw [hes];exact .nil
  ·simp at z;exact Hj hS z.symm
theorem readsAllG_of (I:aV X pins σ H s):∀ (ds:List PyData) (xs:List V) (vs:List Value),RdGs X.K H ds xs->ba xs vs->∃ as,ReadsAll s.heap vs ds as/\(noLs ds=true->sysModules ∉ as)
 | [],_,_,h,r=>by simp only [RdGs] at h;subst h;cases r;exact ⟨_,.nil,fun _ z=>by cases z⟩
 | d::ds,_,_,h,r=>by
  simp only [RdGs] at h
  obtain ⟨v,q,rfl,h1,h2⟩:=h
  cases r with
  | cons r rr=>
   obtain ⟨as,g1,n1⟩:=qY I d _ _ h1 r
   obtain ⟨bs,g2,n2⟩:=readsAllG_of I ds _ _ h2 rr
   refine ⟨_,.cons g1 g2,fun z=>?_⟩
   simp only [noLs,MY] at z
   intro y
   rcases LJ.mp y with y | y
   ·exact n1 z.1 y
   ·exact n2 z.2 y
end
end
def AD (K:W.Frag):List V->Hp->VK->Prop:=fun xs H Q=>(∃ a d,xs=[.ref a]/\qt K H d (.ref a)/\d.showable=true/\(d.hasDict=true->Ii d=true)/\d.depth<=60/\d.shown.length<=sizeLine/\Q (.str d.shown) H) \/
 (xs=[.non]/\Q (.str "None") H)\/(∃ a:Int,xs=[.int a]/\a.natAbs.log2<1920/\Q (.str (toString a)) H)\/(∃ b:Bool,xs=[.bl b]/\Q (.str (if b then "True" else "False")) H)\/∃ x:Str,xs=[.str x]/\(reprText x).length<=sizeLine/\Q (.str (reprText x)) H
theorem xg {X:Cx} (hu:X.A.units+64<cLine) (hg:X.A.guards=some []):cH X (.builtin "repr") (AD X.K):=by
 intro pins s σ H xs us Q I r h
 rcases h with ⟨a,d,rfl,h1,hs,hd,hdp,hz,q⟩ | ⟨rfl,q⟩ | ⟨a,rfl,ha,q⟩ | ⟨b,rfl,q⟩ | ⟨x,rfl,hx,q⟩
 ·obtain ⟨u, rfl, ru⟩ := fq r
  cases ru
  obtain ⟨as,r1,hn⟩:=qY I d (.ref a) (.ref a) h1 rfl
  exact PySem.repr_of_reads' (h₀:=s.heap) r1 hs (fun z=>hn (hd z)) hg (by omega) (fun _ _ e=>e) (fun h' u tk hk=>⟨.str _,H,I.kept hk,⟨u,rfl⟩,q⟩) hz
 ·obtain ⟨u, rfl, ru⟩ := fq r
  cases ru
  exact PySem.P.repr_of_none ⟨.str _,H,I.kept (fun _ _ e=>e),⟨_,rfl⟩,q⟩
 ·obtain ⟨u, rfl, t, rfl⟩ := fq r
  exact PySem.P.repr_of_int ha ⟨.str _,H,I.kept (fun _ _ e=>e),⟨_,rfl⟩,q⟩
 ·obtain ⟨u, rfl, ru⟩ := fq r
  cases ru
  refine PySem.P.repr_of_bool ⟨.str _,H,I.kept (fun _ _ e=>e),⟨_,rfl⟩,?_⟩
  cases b <;> exact q
 ·obtain ⟨u, rfl, t, rfl⟩ := fq r
  exact PySem.P.repr_of_str ⟨.str _,H,I.kept (fun _ _ e=>e),⟨_,rfl⟩,q⟩ hx
def uf:D->Option PyData
 | .non=>some .none
 | .bl b=>some (.bool b)
 | .int i=>some (.int i)
 | .str x=>some (.str x)
 | _=>none
def my (f:D->Option PyData):List D->Option (List PyData)
 | []=>some []
 | x::xs=>(f x).bind fun a=>(my f xs).map fun r=>a::r
def vO (μ:aw):Nat->D->Option PyData
 | 0,d=>uf d
 | n+1,d=>match d with
  | .tup xs=>(my (vO μ n) xs).map .tuple
  | .frz xs=>(my (vO μ n) xs).map .list
  | .obj k=>match μ[k]? with
   | some (.lst xs)=>(my (vO μ n) xs).map .list
   | some .dic=>some (.dict [])
   | _=>none
  | d=>uf d
section
variable {K:W.Frag}{w:World}{H:Hp}{α:List Addr}{μ:aw}
theorem u5 {d:D}{q:PyData}{v:V} (h:uf d=some q) (r:aQ K H α d v):qt K H q v:=by
 cases d with
 | non=>cases h;simp only [qt];exact bu.mp r
 | bl b=>cases h;simp only [qt];exact aT.mp r
 | int b=>cases h;simp only [qt];exact ar.mp r
 | str b=>cases h;simp only [qt];exact bb.mp r
 | tup _=>cases h
 | frz _=>cases h
 | obj _=>cases h
theorem sA {f:D->Option PyData} (hf:∀ d q v,f d=some q->aQ K H α d v->qt K H q v):∀ {ds:List D}{qs:List PyData}{vs:List V},my f ds=some qs->Reps K H α ds vs->RdGs K H qs vs:=by
 intro ds
 induction ds with
 | nil=>intro qs vs h r;cases h;simp only [Reps] at r;simp only [RdGs];exact r
 | cons d ds ih=>
  intro qs vs h r
  simp only [my] at h
  cases e1:f d with
  | none=>rw [e1] at h;cases h
  | some a=>
   rw [e1] at h
   cases e2:my f ds with
   | none=>rw [e2] at h;cases h
   | some t=>
    rw [e2] at h
    cases h
    simp only [Reps] at r
    obtain ⟨v,r',rfl,h1,h2⟩:=r
    simp only [RdGs]
    exact ⟨v,r',rfl,hf d a v e1 h1,ih e2 h2⟩
theorem FN (S:gL K w H α μ):∀ (n:Nat) (d:D) (q:PyData) (v:V),vO μ n d=some q->aQ K H α d v->qt K H q v:=by
 intro n
 induction n with
 | zero=>intro d q v h r;exact u5 h r
 | succ n ih=>
  intro d q v h r
  unfold vO at h
  split at h
  ·rename_i xs
   cases e:my (vO μ n) xs with
   | none=>rw [e] at h;cases h
   | some qs=>
    rw [e] at h
    cases h
    obtain ⟨a,us,rfl,h1,h2⟩:=aO.mp r
    simp only [qt]
    exact ⟨a,us,rfl,h1,sA ih e h2⟩
  ·rename_i xs
   cases e:my (vO μ n) xs with
   | none=>rw [e] at h;cases h
   | some qs=>
    rw [e] at h
    cases h
    obtain ⟨a,us,rfl,h1,h2⟩:=bf.mp r
    simp only [qt]
    exact ⟨a,us,rfl,h1.sq,sA ih e h2⟩
  ·rename_i k
   split at h
   ·rename_i xs hx
    cases e:my (vO μ n) xs with
    | none=>rw [e] at h;cases h
    | some qs=>
     rw [e] at h
     cases h
     obtain ⟨a,ea,us,h1,h2⟩:=S.at hx
     obtain ⟨a',rfl,ea'⟩:=aR.mp r
     rw [ea] at ea'
     cases ea'
     simp only [qt]
     exact ⟨a,us,rfl,.inl (.inl h1),sA ih e h2⟩
   ·rename_i hx
    cases h
    obtain ⟨a,ea,h1⟩:=S.at hx
    obtain ⟨a',rfl,ea'⟩:=aR.mp r
    rw [ea] at ea'
    cases ea'
    simp only [qt]
    exact ⟨trivial,a,rfl,h1⟩
   ·cases h
  ·exact u5 h r
end
def oi (q:PyData):Bool:=q.showable && (!q.hasDict || Ii q) && decide (q.depth<=60) && decide (q.shown.length<=sizeLine)
def gZ (ds:List D) (μ:aw):ak D:=match ds with
 | [.non]=>.ok (.str "None") μ
 | [.int a]=>if a.natAbs.log2<1920 then .ok (.str (toString a)) μ else .bad
 | [.bl b]=>.ok (.str (if b then "True" else "False")) μ
 | [.str x]=>if (reprText x).length<=sizeLine then .ok (.str (reprText x)) μ else .bad
 | [d]=>match vO μ 5 d with
  | some q=>if se d=true/\oi q=true then .ok (.str q.shown) μ else .bad
  | none=>.bad
 | _=>.bad
theorem BI {p:Pa}:vL p gZ (AD p.K):=by
 intro ds vs H α μ Q S r P
 unfold gZ at P
 split at P
 ·obtain ⟨v, rfl, r1⟩ := r.one
  rw [bu.mp r1]
  exact .inr (.inl ⟨rfl,P.now S _ (bb.mpr rfl)⟩)
 ·obtain ⟨v, rfl, r1⟩ := r.one
  rw [ar.mp r1]
  split at P
  ·rename_i ha
   exact .inr (.inr (.inl ⟨_,rfl,ha,P.now S _ (bb.mpr rfl)⟩))
  ·exact P.elim
 ·obtain ⟨v, rfl, r1⟩ := r.one
  rw [aT.mp r1]
  exact .inr (.inr (.inr (.inl ⟨_,rfl,P.now S _ (bb.mpr rfl)⟩)))
 ·obtain ⟨v, rfl, r1⟩ := r.one
  rw [bb.mp r1]
  split at P
  ·rename_i ha
   exact .inr (.inr (.inr (.inr ⟨_,rfl,ha,P.now S _ (bb.mpr rfl)⟩)))
  ·exact P.elim
 ·rename_i d _ _ _ _
  split at P
  ·rename_i q hq
   split at P
   ·rename_i hf
    obtain ⟨v,rfl,r1⟩:=r.one
    obtain ⟨a,rfl⟩:=wV hf.1 r1
    have h2:=hf.2
    unfold oi at h2
    simp only [MY,Pe] at h2
    refine .inl ⟨a,q,rfl,FN S 5 d q _ hq r1,h2.1.1.1,fun z=>?_,h2.1.2,h2.2,P.now S _ (bb.mpr rfl)⟩
    have h3:=h2.1.1.2
    rw [z] at h3
    simpa using h3
   ·exact P.elim
  ·exact P.elim
 ·exact P.elim
theorem x9 {X:Cx}{p:Pa}{k:Nat} (hr:fX k X.A) (hK:X.K=p.K:=by rfl):oO X p "repr" gZ:=⟨_,_,.inl ⟨_,rfl⟩,by decide +kernel,xg hr.units hr.gd,hK ▸ BI,by decide,by decide⟩
end L2
namespace Lw
open PySem L2
section
variable {P:Program}{w:World}{K:W.Frag}{mg:Str->Option Value}{base:Heap}
structure Nm (mg:Str->Option Value):Prop where
 ValueError:mg "ValueError" = none
 all:mg "all" = none
 bool:mg "bool" = none
 int:mg "int" = none
 isinstance:mg "isinstance" = none
 len:mg "len" = none
 list:mg "list" = none
 max:mg "max" = none
 min:mg "min" = none
 range:mg "range" = none
 repr:mg "repr" = none
 set:mg "set" = none
 sorted:mg "sorted" = none
 tuple:mg "tuple" = none
theorem vn:aU ["thing"] ["thing"] (av iP):=⟨rfl,rfl,rfl,by decide +kernel,rfl,by decide +kernel,by decide +kernel⟩
noncomputable def ju:MS:=cb (fA (kH (fH "int") (ah 0)) (uj (kH (fH "bool") (ah 0))))
noncomputable def cW:List D->aw->ak D:=ic 1 1 ju
theorem m7:aU ["thing", "least", "most"] ["thing", "least", "most"] (av d3):=⟨rfl,rfl,rfl,by decide +kernel,rfl,by decide +kernel,by decide +kernel⟩
noncomputable def eZ:MS:=cb (fA (aL cW (af (ah 0) (aG))) (jV (eA .LtE) (eA .LtE) (ah 1) (ah 0) (ah 2)))
noncomputable def aY:List D->aw->ak D:=ic 3 3 eZ
theorem vp:aU ["many", "thing"] ["many", "thing"] (av iQ):=⟨rfl,rfl,rfl,by decide +kernel,rfl,by decide +kernel,by decide +kernel⟩
noncomputable def lp:MS:=cb (aL aY (af (ah 1) (af (cC (.int 0)) (af (aA i5 (ah 0) (cC (.int 1))) (aG)))))
noncomputable def fm:List D->aw->ak D:=ic 2 2 lp
theorem sW:aU ["many", "thing"] ["many", "thing"] (av fP):=⟨rfl,rfl,rfl,by decide +kernel,rfl,by decide +kernel,by decide +kernel⟩
theorem qo:(["place", "many"]:List Str).Nodup:=by decide +kernel
noncomputable def gJ:ME:=aL fm (af (ah 1) (af (ah 0) (aG)))
noncomputable def j8:MS:=cb (fA (kH (fH "tuple") (ah 1)) (aL tS (af (fw (i4 (ah 1)) [none,some 0] (ao 0) (gN) (gJ)) (aG))))
noncomputable def cT:List D->aw->ak D:=ic 2 2 j8
theorem sV:aU ["things"] ["things"] (av fO):=⟨rfl,rfl,rfl,by decide +kernel,rfl,by decide +kernel,by decide +kernel⟩
theorem qm:(["at", "things"]:List Str).Nodup:=by decide +kernel
noncomputable def i3:ME:=aA (eA .Lt) (aA b9 (ah 1) (aA i5 (ah 0) (cC (.int 1)))) (aA b9 (ah 1) (ah 0))
noncomputable def j7:MS:=cb (aL tS (af (fw (kT tN (af (cC (.int 1)) (af (aL nO (af (ah 0) (aG))) (aG)))) [none,some 0] (ao 0) (gN) (i3)) (aG)))
noncomputable def cS:List D->aw->ak D:=ic 1 1 j7
theorem wJ:aU ["thing"] ["thing"] (av jq):=⟨rfl,rfl,rfl,by decide +kernel,rfl,by decide +kernel,by decide +kernel⟩
noncomputable def mY:MS:=cb (aL aY (af (ah 0) (af (cC (.int 1)) (af (cC (.int 6)) (aG)))))
noncomputable def gq:List D->aw->ak D:=ic 1 1 mY
theorem wI:aU ["many", "thing"] ["many", "thing"] (av jo):=⟨rfl,rfl,rfl,by decide +kernel,rfl,by decide +kernel,by decide +kernel⟩
noncomputable def mX:MS:=cb (fA (aL cT (af (ah 0) (af (ah 1) (aG)))) (fA (aA (jH false) (aL nO (af (ah 1) (aG))) (cC (.int 2))) (aA (jH true) (aA b9 (ah 1) (cC (.int 0))) (aA b9 (ah 1) (cC (.int 1))))))
noncomputable def gp:List D->aw->ak D:=ic 2 2 mX
theorem yF:aU ["many", "thing"] ["many", "thing"] (av kB):=⟨rfl,rfl,rfl,by decide +kernel,rfl,by decide +kernel,by decide +kernel⟩
noncomputable def pT:MS:=cb (fA (aL gp (af (ah 0) (af (ah 1) (aG)))) (aA (eA .Lt) (aA b9 (ah 1) (cC (.int 0))) (aA b9 (ah 1) (cC (.int 1)))))
noncomputable def iy:List D->aw->ak D:=ic 2 2 pT
theorem wH:aU ["many", "thing"] ["many", "thing"] (av iz):=⟨rfl,rfl,rfl,by decide +kernel,rfl,by decide +kernel,by decide +kernel⟩
theorem tu:(["tie", "many"]:List Str).Nodup:=by decide +kernel
noncomputable def iS:ME:=aL iy (af (ah 1) (af (ah 0) (aG)))
noncomputable def mW:MS:=cb (fA (kH (fH "tuple") (ah 1)) (fA (aL tS (af (fw (i4 (ah 1)) [none,some 0] (ao 0) (gN) (iS)) (aG))) (aL cS (af (ah 1) (aG)))))
noncomputable def gn:List D->aw->ak D:=ic 2 2 mW
theorem j4:aU ["thing", "many", "ties"] ["thing"] (av iO):=⟨rfl,rfl,rfl,by decide +kernel,rfl,by decide +kernel,by decide +kernel⟩
noncomputable def ll:MS:=bp (tJ (ly (gO (ji (kH (fH "tuple") (ah 0)))) (kg (aA (jH true) (aL nO (af (ah 0) (aG))) (cC (.int 2))))) (cb (cC (.bl false))) (fZ))
 (bp (bA (ah 0) (fu 2 (bt (ao 1) (bt (ao 2) (fv)))))
 (cb (fA (aL gq (af (ah 1) (aG))) (aL gn (af (ah 1) (af (ah 2) (aG)))))))
noncomputable def fk:List D->aw->ak D:=ic 1 3 ll
theorem qg:aU ["ties", "front"] ["ties", "front"] (av cM):=⟨rfl,rfl,rfl,by decide +kernel,rfl,by decide +kernel,by decide +kernel⟩
theorem jf:(["a", "b", "front"]:List Str).Nodup:=by decide +kernel
theorem je:(["a", "b", "front"]:List Str).Nodup:=by decide +kernel
noncomputable def jB:ME:=ah 1
noncomputable def g6:MT:=kg (aA (vJ false) (ah 0) (ah 2))
noncomputable def jA:ME:=ah 0
noncomputable def g5:MT:=kg (aA (vJ false) (ah 1) (ah 2))
noncomputable def kP:MS:=cb (aA cJ (fw (i4 (ah 0)) [none,none,some 1] (fu 2 (bt (ao 0) (bt (ao 1) (fv)))) (g6) (jB)) (fw (i4 (ah 0)) [none,none,some 1] (fu 2 (bt (ao 0) (bt (ao 1) (fv)))) (g5) (jA)))
noncomputable def eR:List D->aw->ak D:=ic 2 2 kP
theorem bW:aU ["web", "start", "many", "ties", "fars", "far", "front", "place"] ["web", "start"] (av fQ):=⟨rfl,rfl,rfl,by decide +kernel,rfl,by decide +kernel,by decide +kernel⟩
theorem qp:(["place", "fars"]:List Str).Nodup:=by decide +kernel
noncomputable def kO:ME:=ah 0
noncomputable def iY:MT:=kg (aA (vX false) (aA b9 (ah 1) (ah 0)) (cC .non))
noncomputable def eP:MS:=bA (ah 5) (kK (ah 4) (ah 7))
noncomputable def eO:MS:=bp (vT 5 oU (cC (.int 1)))
 (bp (bA (fw (i4 (aL eR (af (ah 3) (af (ah 6) (aG))))) [none,some 4] (ao 0) (iY) (kO)) (ao 6))
 (kE (i4 (ah 6)) (ao 7) eP))
noncomputable def nK:MS:=bp (bA (ah 0) (fu 2 (bt (ao 2) (bt (ao 3) (fv)))))
 (bp (bA (aA qx (g8 (af (cC .non) (aG))) (ah 2)) (ao 4))
 (bp (bA (cC (.int 0)) (kK (ah 4) (ah 1)))
 (bp (bA (cC (.int 0)) (ao 5))
 (bp (bA (g8 (af (ah 1) (aG))) (ao 6))
 (bp (rZ 100 (ji (ah 6)) eO)
 (cb (ah 4)))))))
noncomputable def fE:List D->aw->ak D:=ic 2 8 nK
theorem dY:aU ["web", "k", "many", "ties", "one", "fars"] ["web", "k"] (av fN):=⟨rfl,rfl,rfl,by decide +kernel,rfl,by decide +kernel,by decide +kernel⟩
theorem ql:(["other", "one", "k", "fars"]:List Str).Nodup:=by decide +kernel
noncomputable def gI:ME:=cU (af (ah 1) (af (ah 0) (aG)))
noncomputable def gG:MT:=uk (kg (aA (vX true) (aA b9 (ah 3) (ah 0)) (cC .non))) (kg (aA (eA .LtE) (aA b9 (ah 3) (ah 0)) (ah 2)))
noncomputable def gH:MS:=bp (bA (aL (fun ds μ=>(fE ds μ).nox) (af (ah 0) (af (ah 4) (aG)))) (ao 5))
 (vT 3 oU (fw (kT tN (af (aA cJ (ah 4) (cC (.int 1))) (af (ah 2) (aG)))) [none,some 4,some 1,some 5] (ao 0) (gG) (gI)))
noncomputable def nJ:MS:=bp (tJ (gO (ji (aL (fun ds μ=>(aY ds μ).nox) (af (ah 1) (af (cC (.int 1)) (af (cC (.int 6)) (aG))))))) (r8 "NoNumber") (fZ))
 (bp (bA (aA b9 (ah 0) (cC (.int 0))) (ao 2))
 (bp (bA (g8 (aG)) (ao 3))
 (bp (kE (kT lx (af (ah 2) (aG))) (ao 4) gH)
 (cb (cU (af (ah 2) (af (aL jU (af (ah 3) (aG))) (aG))))))))
noncomputable def fD:List D->aw->ak D:=ic 2 6 nJ
theorem vq:aU ["k"] ["k"] (av iR):=⟨rfl,rfl,rfl,by decide +kernel,rfl,by decide +kernel,by decide +kernel⟩
noncomputable def qf:MS:=tJ (gO (ji (aL (fun ds μ=>(aY ds μ).nox) (af (ah 0) (af (cC (.int 1)) (af (cC (.int 5)) (aG))))))) (r8 "NoNumber") (fZ)
noncomputable def iA:List D->aw->ak D:=ic 1 1 qf
theorem nQ:aU ["web", "k", "thing"] ["web", "k", "thing"] (av eU):=⟨rfl,rfl,rfl,by decide +kernel,rfl,by decide +kernel,by decide +kernel⟩
noncomputable def iB:MS:=bp (nt (aL iA (af (ah 1) (aG))))
 (cb (fA (aL (fun ds μ=>(fk ds μ).nox) (af (ah 2) (aG))) (aA (jH false) (aL fD (af (ah 2) (af (ah 1) (aG)))) (ah 0))))
noncomputable def ck:List D->aw->ak D:=ic 3 3 iB
theorem nS:aU ["_law_script", "_law_k"] ["_law_script", "_law_k"] (av eX):=⟨rfl,rfl,rfl,by decide +kernel,rfl,by decide +kernel,by decide +kernel⟩
noncomputable def iC:MS:=bp (tJ (kg (aA (eA .Lt) (ah 1) (aL nO (af (ah 0) (aG))))) (cb (aA b9 (ah 0) (ah 1))) (fZ))
 (cb (cC (.int 0)))
noncomputable def dR:List D->aw->ak D:=ic 2 2 iC
theorem l9:aU ["_law_seed"] ["_law_seed"] (av h7):=⟨rfl,rfl,rfl,by decide +kernel,rfl,by decide +kernel,by decide +kernel⟩
noncomputable def nL:MS:=bp (bA (aA tQ (aA cJ (ah 0) (cC (.int 7919))) (cC (.int 2147483647))) (ao 0))
 (cb (aA tQ (aA cJ (aA cJ (aA qx (ah 0) (ah 0)) (aA qx (cC (.int 48271)) (ah 0))) (cC (.int 12345))) (cC (.int 2147483629))))
noncomputable def fF:List D->aw->ak D:=ic 1 1 nL
theorem kb:aU ["_law_cell", "_law_left"] ["_law_cell"] (av fR):=⟨rfl,rfl,rfl,by decide +kernel,rfl,by decide +kernel,by decide +kernel⟩
noncomputable def kR:MS:=bp (bA (aL tR (af (ah 0) (af (aA i5 (cC (.int 0)) (ah 0)) (aG)))) (ao 1))
 (cb (g8 (af (ah 1) (af (aL uh (af (aA (eA .GtE) (ah 1) (aA rS (cC (.int 10)) (cC (.int 18)))) (aG))) (af (aA tQ (ah 1) (cC (.int 1000003))) (aG))))))
noncomputable def eS:List D->aw->ak D:=ic 1 2 kR
theorem ma:aU ["_law_pen", "_law_many", "_law_found"] ["_law_pen", "_law_many"] (av ia):=⟨rfl,rfl,rfl,by decide +kernel,rfl,by decide +kernel,by decide +kernel⟩
noncomputable def ka:MS:=bp (tJ (kg (aA (jH false) (aA b9 (ah 0) (cC (.int 1))) (cC (.int 1)))) (bp (bA (aA tQ (aA b9 (ah 0) (cC (.int 0))) (ah 1)) (ao 2))
 (bp (bA (aA ui (aA b9 (ah 0) (cC (.int 0))) (ah 1)) (kK (ah 0) (cC (.int 0))))
 (cb (ah 2)))) (fZ))
 (bp (bA (aL fF (af (aA cJ (aL fF (af (aA b9 (ah 0) (cC (.int 2))) (aG))) (cC (.int 7))) (aG))) (kK (ah 0) (cC (.int 2))))
 (cb (aA tQ (aA ui (aA b9 (ah 0) (cC (.int 2))) (cC (.int 64))) (ah 1))))
noncomputable def aE:List D->aw->ak D:=ic 2 3 ka
theorem qE:aU ["_law_found"] ["_law_found"] (av gC):=⟨rfl,rfl,rfl,by decide +kernel,rfl,by decide +kernel,by decide +kernel⟩
noncomputable def tH:MS:=cb (fA (kH (fH "int") (ah 0)) (uj (kH (fH "bool") (ah 0))))
noncomputable def dZ:List D->aw->ak D:=ic 1 1 tH
theorem g4:aU ["_law_e", "_law_marks"] ["_law_e"] (av eV):=⟨rfl,rfl,rfl,by decide +kernel,rfl,by decide +kernel,by decide +kernel⟩
noncomputable def kf:MS:=bp (bA (g8 (af (kH (kU [] ["NoNumber"]) (ah 0)) (af (kH (kU ["NoNumber"] ["NoNumber"]) (ah 0)) (af (kH (kU [] ["NoNumber"]) (ah 0)) (af (kH (kU [] ["NoNumber"]) (ah 0)) (aG)))))) (ao 1))
 (bp (bA (aA cJ (ah 1) (g8 (af (kH (kU [] ["NoNumber"]) (ah 0)) (af (kH (kU [] ["NoNumber"]) (ah 0)) (af (kH (kU [] ["NoNumber"]) (ah 0)) (af (kH (kU [] ["NoNumber"]) (ah 0)) (aG))))))) (ao 1))
 (bp (tJ (ly (gO (ji (kH (kU ["NoNumber"] ["NoNumber"]) (ah 0)))) (kg (aA (jH true) (zB kz (ah 1) (af (cC (.bl true)) (aG))) (cC (.int 1))))) (cb (cC (.str "other"))) (fZ))
 (cb (aA b9 (g8 (af (cC (.str "place")) (af (cC (.str "number")) (af (cC (.str "line")) (af (cC (.str "root")) (af (cC (.str "tree")) (af (cC (.str "web")) (af (cC (.str "text")) (af (cC (.str "great")) (aG)))))))))) (zB ky (ah 1) (af (cC (.bl true)) (aG)))))))
noncomputable def dQ:List D->aw->ak D:=ic 1 2 kf
theorem qh:aU ["_law_many", "_law_ties"] ["_law_many", "_law_ties"] (av dO):=⟨rfl,rfl,rfl,by decide +kernel,rfl,by decide +kernel,by decide +kernel⟩
theorem jg:(["_law_a", "_law_b"]:List Str).Nodup:=by decide +kernel
noncomputable def g7:ME:=cU (af (aL yk (af (ah 0) (af (ah 1) (aG)))) (af (aL tR (af (ah 0) (af (ah 1) (aG)))) (aG)))
noncomputable def kQ:MS:=cb (cU (af (ah 0) (af (aL jU (af (aL kx (af (aL vW (af (fw (i4 (ah 1)) [none,none] (fu 2 (bt (ao 0) (bt (ao 1) (fv)))) (gN) (g7)) (aG))) (aG))) (aG))) (aG))))
noncomputable def bF:List D->aw->ak D:=ic 2 2 kQ
theorem cE:aU ["_law_pen", "_law_most", "_law_many", "_law_share", "_law_ties", "_law_one"] ["_law_pen", "_law_most"] (av cD):=⟨rfl,rfl,rfl,by decide +kernel,rfl,by decide +kernel,by decide +kernel⟩
theorem kF:(["_law_other", "_law_one", "_law_pen", "_law_share"]:List Str).Nodup:=by decide +kernel
noncomputable def cY:ME:=cU (af (ah 0) (af (ah 1) (aG)))
noncomputable def cX:MT:=kg (aA (jH false) (aL aE (af (ah 2) (af (ah 3) (aG)))) (cC (.int 0)))
noncomputable def cm:MS:=nt (zB gB (ah 4) (af (fw (kT lx (af (ah 5) (aG))) [none,some 5,some 0,some 3] (ao 0) (cX) (cY)) (aG)))
noncomputable def jh:MS:=bp (bA (aA cJ (cC (.int 1)) (aL aE (af (ah 0) (af (ah 1) (aG))))) (ao 2))
 (bp (bA (aA cJ (cC (.int 2)) (aL aE (af (ah 0) (af (cC (.int 3)) (aG))))) (ao 3))
 (bp (bA (g8 (aG)) (ao 4))
 (bp (kE (kT lx (af (ah 2) (aG))) (ao 5) cm)
 (cb (aL bF (af (ah 2) (af (ah 4) (aG))))))))
noncomputable def bz:List D->aw->ak D:=ic 2 6 jh
theorem nR:aU ["_law_web", "_law_place"] ["_law_web", "_law_place"] (av c9):=⟨rfl,rfl,rfl,by decide +kernel,rfl,by decide +kernel,by decide +kernel⟩
theorem iT:(["_law_a", "_law_b", "_law_place"]:List Str).Nodup:=by decide +kernel
noncomputable def gv:ME:=aA i5 (aA cJ (ah 0) (ah 1)) (ah 2)
noncomputable def gu:MT:=kg (aA (vJ false) (ah 2) (cU (af (ah 0) (af (ah 1) (aG)))))
noncomputable def ke:MS:=cb (fw (i4 (aA b9 (ah 0) (cC (.int 1)))) [none,none,some 1] (fu 2 (bt (ao 0) (bt (ao 1) (fv)))) (gu) (gv))
noncomputable def dP:List D->aw->ak D:=ic 2 2 ke
theorem cP:aU ["_law_web", "_law_ties", "_law_place", "_law_near", "_law_one"] ["_law_web"] (av cN):=⟨rfl,rfl,rfl,by decide +kernel,rfl,by decide +kernel,by decide +kernel⟩
theorem lr:(["_law_other", "_law_one"]:List Str).Nodup:=by decide +kernel
noncomputable def dz:ME:=cU (af (ah 1) (af (ah 0) (aG)))
noncomputable def du:MT:=kg (aA (eA .Lt) (ah 1) (ah 0))
noncomputable def dw:MS:=nt (zB gB (ah 1) (af (fw (i4 (ah 3)) [none,some 4] (ao 0) (du) (dz)) (aG)))
noncomputable def dv:MS:=bp (bA (aL dP (af (ah 0) (af (ah 2) (aG)))) (ao 3))
 (kE (i4 (ah 3)) (ao 4) dw)
noncomputable def jD:MS:=bp (bA (aL jx (af (aA b9 (ah 0) (cC (.int 1))) (aG))) (ao 1))
 (bp (kE (kT lx (af (aA b9 (ah 0) (cC (.int 0))) (aG))) (ao 2) dv)
 (cb (aL bF (af (aA b9 (ah 0) (cC (.int 0))) (af (ah 1) (aG))))))
noncomputable def de:List D->aw->ak D:=ic 1 5 jD
theorem bK:aU ["_law_pen", "_law_most", "_law_web", "_law_way", "_law_one", "_law_pair", "_law_some"] ["_law_pen", "_law_most"] (av dc):=⟨rfl,rfl,rfl,by decide +kernel,rfl,by decide +kernel,by decide +kernel⟩
theorem mn:(["_law_tie", "_law_pair"]:List Str).Nodup:=by decide +kernel
noncomputable def d8:ME:=ah 0
noncomputable def d7:MT:=kg (aA (jH true) (ah 0) (ah 1))
noncomputable def fV:MS:=bp (bA (aL bz (af (ah 0) (af (ah 1) (aG)))) (ao 2))
 (bp (bA (aL aE (af (ah 0) (af (cC (.int 4)) (aG)))) (ao 3))
 (bp (tJ (kg (aA (jH false) (ah 3) (cC (.int 0)))) (cb (ah 2)) (fZ))
 (bp (bA (aL de (af (ah 2) (aG))) (ao 2))
 (bp (tJ (uk (kg (aA (jH false) (ah 3) (cC (.int 3)))) (kg (aA (eA .Gt) (aA b9 (ah 2) (cC (.int 0))) (cC (.int 1))))) (bp (bA (aL aE (af (ah 0) (af (aA i5 (aA b9 (ah 2) (cC (.int 0))) (cC (.int 1))) (aG)))) (ao 4))
 (bp (bA (cU (af (ah 4) (af (aA cJ (aA cJ (ah 4) (cC (.int 1))) (aL aE (af (ah 0) (af (aA i5 (aA i5 (aA b9 (ah 2) (cC (.int 0))) (cC (.int 1))) (ah 4)) (aG))))) (aG)))) (ao 5))
 (bp (bA (fw (i4 (aA b9 (ah 2) (cC (.int 1)))) [none,some 5] (ao 0) (d7) (d8)) (ao 6))
 (bp (tJ (kg (aA (vJ true) (ah 5) (aA b9 (ah 2) (cC (.int 1))))) (nt (zB kA (ah 6) (af (ah 5) (aG)))) (fZ))
 (bA (aL bF (af (aA b9 (ah 2) (cC (.int 0))) (af (ah 6) (aG)))) (ao 2)))))) (fZ))
 (cb (ah 2))))))
noncomputable def bQ:List D->aw->ak D:=ic 2 7 fV
theorem d6:aU ["_law_thing", "_law_last", "_law_tie"] ["_law_thing"] (av d4):=⟨rfl,rfl,rfl,by decide +kernel,rfl,by decide +kernel,by decide +kernel⟩
noncomputable def bJ:MS:=bp (tJ (ly (gO (ji (kH (fH "tuple") (ah 2)))) (ly (kg (aA (jH true) (aL nO (af (ah 2) (aG))) (cC (.int 2)))) (ly (gO (ji (aL dZ (af (aA b9 (ah 2) (cC (.int 0))) (aG))))) (gO (ji (aL dZ (af (aA b9 (ah 2) (cC (.int 1))) (aG)))))))) (cb (cC (.bl false))) (fZ))
 (bp (tJ (ly (gO (kg (oy (eA .LtE) (eA .Lt) (eA .Lt) (cC (.int 0)) (aA b9 (ah 2) (cC (.int 0))) (aA b9 (ah 2) (cC (.int 1))) (aA b9 (ah 0) (cC (.int 0)))))) (kg (aA (eA .LtE) (ah 2) (ah 1)))) (cb (cC (.bl false))) (fZ))
 (bA (ah 2) (ao 1)))
noncomputable def jC:MS:=bp (tJ (ly (gO (ji (kH (fH "tuple") (ah 0)))) (ly (kg (aA (jH true) (aL nO (af (ah 0) (aG))) (cC (.int 2)))) (ly (gO (ji (aL dZ (af (aA b9 (ah 0) (cC (.int 0))) (aG))))) (gO (kg (jV (eA .Lt) (eA .Lt) (cC (.int 0)) (aA b9 (ah 0) (cC (.int 0))) (cC (.int 7)))))))) (cb (cC (.bl false))) (fZ))
 (bp (tJ (gO (ji (kH (fH "tuple") (aA b9 (ah 0) (cC (.int 1)))))) (cb (cC (.bl false))) (fZ))
 (bp (bA (cU (af (kH rT (cC (.int 1))) (af (kH rT (cC (.int 1))) (aG)))) (ao 1))
 (bp (kE (i4 (aA b9 (ah 0) (cC (.int 1)))) (ao 2) bJ)
 (cb (cC (.bl true))))))
noncomputable def cw:List D->aw->ak D:=ic 1 3 jC
theorem bq:aU ["_law_pen", "_law_web", "_law_many", "_law_ties", "_law_odd", "_law_spot", "_law_pair", "_law_wrong", "_law_bent", "_law_some"] ["_law_pen", "_law_web"] (av d5):=⟨rfl,rfl,rfl,by decide +kernel,rfl,by decide +kernel,by decide +kernel⟩
noncomputable def jF:MS:=bp (bA (ah 1) (fu 2 (bt (ao 2) (bt (ao 3) (fv)))))
 (bp (bA (aA b9 (g8 (af (aA cJ (ah 2) (cC (.int 1))) (af (cC (.int 0)) (af (cC (.int 7)) (af (kH rT (cC (.int 1))) (af (cC (.bl true)) (af (cC .non) (af (cC (.str "2")) (af (cU (af (cC (.int 2)) (aG))) (af (aA rS (cC (.int 10)) (cC (.int 30))) (aG))))))))))) (aL aE (af (ah 0) (af (cC (.int 9)) (aG))))) (ao 4))
 (bp (bA (aL aE (af (ah 0) (af (aA cJ (aL nO (af (ah 3) (aG))) (cC (.int 1))) (aG)))) (ao 5))
 (bp (bA (aA b9 (aA cJ (ah 3) (cU (af (cU (af (cC (.int 0)) (af (cC (.int 1)) (aG)))) (aG)))) (ah 5)) (ao 6))
 (bp (bA (g8 (af (cU (af (aA b9 (ah 6) (cC (.int 1))) (af (aA b9 (ah 6) (cC (.int 0))) (aG)))) (af (aL jx (af (ah 6) (aG))) (af (cU (af (aA b9 (ah 6) (cC (.int 0))) (aG))) (af (aA cJ (ah 6) (cU (af (cC (.int 0)) (aG)))) (af (cU (af (aA b9 (ah 6) (cC (.int 0))) (af (ah 2) (aG)))) (af (cU (af (aA b9 (ah 6) (cC (.int 0))) (af (ah 4) (aG)))) (af (cC .non) (af (cU (af (cC (.int 0)) (af (cC (.int 0)) (aG)))) (aG)))))))))) (ao 7))
 (bp (bA (aA cJ (aA cJ (Ey (ah 3) (E9) (lD (ah 5))) (cU (af (aA b9 (ah 7) (aL aE (af (ah 0) (af (cC (.int 8)) (aG))))) (aG)))) (Ey (ah 3) (lD (aA cJ (ah 5) (cC (.int 1)))) (E9))) (ao 8))
 (bp (bA (g8 (af (cU (af (ah 4) (af (ah 3) (aG)))) (af (cU (af (ah 2) (af (ah 8) (aG)))) (af (cU (af (ah 2) (af (ah 8) (aG)))) (af (cU (af (ah 2) (af (aL jx (af (ah 3) (aG))) (aG)))) (af (g8 (af (ah 2) (af (ah 3) (aG)))) (af (cU (af (ah 2) (aG))) (af (cU (af (ah 2) (af (ah 3) (af (cU (aG)) (aG))))) (aG))))))))) (ao 9))
 (bp (bA (aA cJ (ah 9) (g8 (af (cU (af (ah 2) (af (aA ug (ah 3) (kH rT (cC (.int 1)))) (aG)))) (af (cU (af (ah 2) (af (aA cJ (ah 3) (Ey (ah 3) (E9) (lD (cC (.int 1))))) (aG)))) (af (cC .non) (af (ah 3) (af (zR) (af (cU (af (ah 2) (af (Ey (ah 3) (lD (cC (.int 1))) (E9)) (aG)))) (af (cU (af (ah 2) (af (cU (aG)) (aG)))) (aG)))))))))) (ao 9))
 (cb (aA b9 (ah 9) (aL aE (af (ah 0) (af (cC (.int 14)) (aG)))))))))))))
noncomputable def cy:List D->aw->ak D:=ic 2 10 jF
theorem bO:aU ["_law_many", "_law_ties", "_law_k", "_law_found", "_law_turn", "_law_later", "_law_a", "_law_b"] ["_law_many", "_law_ties", "_law_k"] (av cO):=⟨rfl,rfl,rfl,by decide +kernel,rfl,by decide +kernel,by decide +kernel⟩
theorem lu:(["_law_place"]:List Str).Nodup:=by decide +kernel
noncomputable def fW:ME:=aA Fl (cC (.int 1)) (ah 0)
noncomputable def dy:MS:=bp (bA (aA J0 (aA b9 (ah 5) (ah 6)) (aA b9 (ah 3) (ah 7))) (kK (ah 5) (ah 6)))
 (bA (aA J0 (aA b9 (ah 5) (ah 7)) (aA b9 (ah 3) (ah 6))) (kK (ah 5) (ah 7)))
noncomputable def cF:MS:=bp (bA (aL jx (af (ah 3) (aG))) (ao 5))
 (bp (kE (i4 (ah 1)) (fu 2 (bt (ao 6) (bt (ao 7) (fv)))) dy)
 (bA (ah 5) (ao 3)))
noncomputable def jE:MS:=bp (bA (fw (kT lx (af (ah 0) (aG))) [none] (ao 0) (gN) (fW)) (ao 3))
 (bp (kE (kT lx (af (ah 2) (aG))) (ao 4) cF)
 (cb (ah 3)))
noncomputable def cx:List D->aw->ak D:=ic 3 8 jE
theorem l7:aU ["_law_web", "_law_k", "_law_thing", "_law_e"] ["_law_web", "_law_k", "_law_thing"] (av hZ):=⟨rfl,rfl,rfl,by decide +kernel,rfl,by decide +kernel,by decide +kernel⟩
noncomputable def eQ:MS:=cb (aL ck (af (ah 0) (af (ah 1) (af (ah 2) (aG)))))
noncomputable def iZ:MS:=cb (aL dQ (af (ah 3) (aG)))
noncomputable def j9:MS:=zL ["NoNumber"] 3 4 eQ iZ
noncomputable def bY:List D->aw->ak D:=ic 3 4 j9
theorem gE:aU ["_law_web", "_law_k", "_law_reach", "_law_ties", "_law_one"] ["_law_web", "_law_k"] (av eN):=⟨rfl,rfl,rfl,by decide +kernel,rfl,by decide +kernel,by decide +kernel⟩
theorem nY:(["_law_other", "_law_one", "_law_reach"]:List Str).Nodup:=by decide +kernel
noncomputable def fU:ME:=cU (af (ah 1) (af (ah 0) (aG)))
noncomputable def fS:MT:=kg (aA (jH false) (aA Fm (aA Fk (aA b9 (ah 2) (ah 1)) (ah 0)) (cC (.int 1))) (cC (.int 1)))
noncomputable def fT:MS:=nt (zB gB (ah 3) (af (fw (kT tN (af (aA cJ (ah 4) (cC (.int 1))) (af (aA b9 (ah 0) (cC (.int 0))) (aG)))) [none,some 4,some 2] (ao 0) (fS) (fU)) (aG)))
noncomputable def mi:MS:=bp (bA (aL cx (af (aA b9 (ah 0) (cC (.int 0))) (af (aA b9 (ah 0) (cC (.int 1))) (af (ah 1) (aG))))) (ao 2))
 (bp (bA (g8 (aG)) (ao 3))
 (bp (kE (kT lx (af (aA b9 (ah 0) (cC (.int 0))) (aG))) (ao 4) fT)
 (cb (cU (af (aA b9 (ah 0) (cC (.int 0))) (af (aL jU (af (ah 3) (aG))) (aG)))))))
noncomputable def bX:List D->aw->ak D:=ic 2 5 mi
theorem gF:aU ["_law_web", "_law_k", "_law_thing", "_law_held", "_law_found", "_law_due"] ["_law_web", "_law_k", "_law_thing"] (av gD):=⟨rfl,rfl,rfl,by decide +kernel,rfl,by decide +kernel,by decide +kernel⟩
noncomputable def mj:MS:=bp (bA (aL gZ (af (ah 2) (aG))) (ao 3))
 (bp (bA (aL bY (af (ah 0) (af (ah 1) (af (ah 2) (aG))))) (ao 4))
 (bp (bA (fA (aL cw (af (ah 2) (aG))) (fA (aA (jH false) (aA b9 (ah 2) (cC (.int 0))) (aA b9 (ah 0) (cC (.int 0)))) (aA (jH false) (aL bX (af (ah 2) (af (ah 1) (aG)))) (ah 0)))) (ao 5))
 (cb (fA (kH (fH "bool") (ah 4)) (fA (aA (jH false) (ah 4) (ah 5)) (aA (yl false) (aL gZ (af (ah 2) (aG))) (ah 3)))))))
noncomputable def d0:List D->aw->ak D:=ic 3 6 mj
theorem jT:aU ["_law_script", "_law_cell", "_law_pen", "_law_one", "_law_k", "_law_web", "_law_thing", "_law_odd"] ["_law_script"] (av kX):=⟨rfl,rfl,rfl,by decide +kernel,rfl,by decide +kernel,by decide +kernel⟩
noncomputable def oF:MS:=tJ (ly (gO (ji (aL d0 (af (ah 5) (af (ah 4) (af (ah 6) (aG))))))) (gO (ji (aL d0 (af (ah 5) (af (aA cJ (cC (.int 1)) (aL aE (af (ah 2) (af (cC (.int 5)) (aG))))) (af (ah 6) (aG)))))))) (cb (cC (.bl false))) (fZ)
noncomputable def lS:MS:=kE (i4 (g8 (af (ah 3) (af (ah 5) (af (cU (af (aA b9 (ah 5) (cC (.int 0))) (af (cU (aG)) (aG)))) (af (aL cy (af (ah 2) (af (ah 3) (aG)))) (af (aL cy (af (ah 2) (af (ah 5) (aG)))) (aG)))))))) (ao 6) oF
noncomputable def oE:MS:=bp (bA (aL eS (af (ah 1) (aG))) (ao 2))
 (bp (bA (aL bz (af (ah 2) (af (cC (.int 6)) (aG)))) (ao 3))
 (bp (bA (aA cJ (cC (.int 1)) (aL aE (af (ah 2) (af (cC (.int 5)) (aG))))) (ao 4))
 (bp (kE (i4 (g8 (af (aL bX (af (ah 3) (af (ah 4) (aG)))) (af (aL bQ (af (ah 2) (af (cC (.int 6)) (aG)))) (aG))))) (ao 5) lS)
 (bp (bA (aA b9 (g8 (af (cC (.int 0)) (af (cC (.int 6)) (af (kH rT (cC (.int 1))) (af (cC (.bl true)) (af (cC (.bl false)) (af (cC .non) (af (cC (.str "2")) (af (cU (af (cC (.int 2)) (aG))) (af (g8 (af (cC (.int 2)) (aG))) (af (zR) (af (aA cJ (cC (.int 7)) (aL aE (af (ah 2) (af (aA rS (cC (.int 10)) (cC (.int 9))) (aG))))) (aG))))))))))))) (aL aE (af (ah 2) (af (cC (.int 11)) (aG))))) (ao 7))
 (tJ (ly (kg (aA (jH true) (aL bY (af (ah 3) (af (ah 7) (af (ah 3) (aG))))) (cC (.str "number")))) (kg (aA (jH true) (aL bY (af (ah 3) (af (ah 7) (af (cC .non) (aG))))) (cC (.str "number"))))) (cb (cC (.bl false))) (fZ))))))
noncomputable def E6:MS:=bp (kE (i4 (aA cJ (g8 (af (aL dR (af (ah 0) (af (cC (.int 0)) (aG)))) (aG))) (Ey (ah 0) (lD (cC (.int 1))) (lD (cC (.int 8)))))) (ao 1) oE)
 (cb (cC (.bl true)))
noncomputable def uq:List D->aw->ak D:=ic 1 8 E6
theorem vv (nm:Nm mg) {f:Addr}{fd:FuncData} (F:gT K "is_whole" "is_whole" iP f fd) (hm:mg "is_whole" = some (.ref f)):dC P w K mg base (dA K w) 1 "is_whole" 1 cW:=
 cG F vn rfl hm (F.b1 (by rfl) fun _ _ _ _ _ _ _=>by rfl) fun cdv A outer s H E hr=>
 a9 (bB (il (jP (T:="int") (by decide) AY (by decide) (by decide) nm.isinstance nm.int (aF 0)) (jO (EB (jP (T:="bool") (by decide) sJ (by decide) (by decide) nm.isinstance nm.bool (aF 0))))))
theorem m8 (nm:Nm mg) {f:Addr}{fd:FuncData} (F:gT K "is_whole_from" "is_whole_from" d3 f fd) (hm:mg "is_whole_from" = some (.ref f)) (d_is_whole:dC P w K mg base (dA K w) 1 "is_whole" 1 cW):dC P w K mg base (dA K w) 2 "is_whole_from" 3 aY:=
 cG F m7 rfl hm (F.b3 (by rfl) fun _ _ _ _ _ _ _ _ _=>by rfl) fun cdv A outer s H E hr=>
 a9 (bB (il (aX d_is_whole (hr.mono (by decide)) (aK (aF 0) (bo))) (jO (IX (iq (op:=.LtE) hr.units) (iq (op:=.LtE) hr.units) (aF 1) (aF 0) (aF 2)))))
theorem vw (nm:Nm mg) {f:Addr}{fd:FuncData} (F:gT K "is_place" "is_place" iQ f fd) (hm:mg "is_place" = some (.ref f)) (d_is_whole_from:dC P w K mg base (dA K w) 2 "is_whole_from" 3 aY):dC P w K mg base (dA K w) 3 "is_place" 2 fm:=
 cG F vp rfl hm (F.b2 (by rfl) fun _ _ _ _ _ _ _ _=>by rfl) fun cdv A outer s H E hr=>
 a9 (bB (aX d_is_whole_from (hr.mono (by decide)) (aK (aF 1) (aK (bE) (aK (oP (aF 0) (bE)) (bo))))))
theorem sZ (nm:Nm mg) {f:Addr}{fd:FuncData} (F:gT K "is_places" "is_places" fP f fd) (hm:mg "is_places" = some (.ref f)) (d_is_place:dC P w K mg base (dA K w) 3 "is_place" 2 fm):dC P w K mg base (dA K w) 4 "is_places" 2 cT:=
 cG F sW rfl hm (F.b2 (by rfl) fun _ _ _ _ _ _ _ _=>by rfl) fun cdv A outer s H E hr=>
 a9 (bB (il (jP (T:="tuple") (by decide) ja (by decide) (by decide) nm.isinstance nm.tuple (aF 1)) (jO (c0 Al nm.all (aK (ir (dt (N:=["many", "thing"]) (sc:=av fP) (Nc:=["place", "many"]) (cap:=[none,some 0]) rfl rfl (by decide +kernel)) (vI (aF 1)) (fun _ _ _ _ _=>jG 0 qo) (fun _ _ _ _ _=>t4) (fun _ _ _ _ _=>aX d_is_place (hr.mono (by decide)) (aK (aF 1) (aK (aF 0) (bo))))) (bo))))))
theorem sY (nm:Nm mg) {f:Addr}{fd:FuncData} (F:gT K "is_rising" "is_rising" fO f fd) (hm:mg "is_rising" = some (.ref f)):dC P w K mg base (dA K w) 1 "is_rising" 1 cS:=
 cG F sV rfl hm (F.b1 (by rfl) fun _ _ _ _ _ _ _=>by rfl) fun cdv A outer s H E hr=>
 a9 (bB (c0 Al nm.all (aK (ir (dt (N:=["things"]) (sc:=av fO) (Nc:=["at", "things"]) (cap:=[none,some 0]) rfl rfl (by decide +kernel)) (Fi nm.range (aK (bE) (aK (c0 oX nm.len (aK (aF 0) (bo))) (bo)))) (fun _ _ _ _ _=>jG 0 qm) (fun _ _ _ _ _=>t4) (fun _ _ _ _ _=>kI (iq (op:=.Lt) hr.units) (bH (aF 1) (oP (aF 0) (bE))) (bH (aF 1) (aF 0)))) (bo))))
theorem wR (nm:Nm mg) {f:Addr}{fd:FuncData} (F:gT K "is_many" "is_many" jq f fd) (hm:mg "is_many" = some (.ref f)) (c_MOST_PLACES:∃ t,mg "MOST_PLACES" = some (.int 6 t)) (d_is_whole_from:dC P w K mg base (dA K w) 2 "is_whole_from" 3 aY):dC P w K mg base (dA K w) 3 "is_many" 1 gq:=
 cG F wJ rfl hm (F.b1 (by rfl) fun _ _ _ _ _ _ _=>by rfl) fun cdv A outer s H E hr=>
 a9 (bB (aX d_is_whole_from (hr.mono (by decide)) (aK (aF 0) (aK (bE) (aK (Fe c_MOST_PLACES) (bo))))))
theorem wQ (nm:Nm mg) {f:Addr}{fd:FuncData} (F:gT K "is_pair" "is_pair" jo f fd) (hm:mg "is_pair" = some (.ref f)) (d_is_places:dC P w K mg base (dA K w) 4 "is_places" 2 cT):dC P w K mg base (dA K w) 5 "is_pair" 2 gp:=
 cG F wI rfl hm (F.b2 (by rfl) fun _ _ _ _ _ _ _ _=>by rfl) fun cdv A outer s H E hr=>
 a9 (bB (il (aX d_is_places (hr.mono (by decide)) (aK (aF 0) (aK (aF 1) (bo)))) (il (kI (qv hr.units) (c0 oX nm.len (aK (aF 1) (bo))) (bE)) (jO (kI (tO hr.units) (bH (aF 1) (bE)) (bH (aF 1) (bE)))))))
theorem yS (nm:Nm mg) {f:Addr}{fd:FuncData} (F:gT K "is_tie" "is_tie" kB f fd) (hm:mg "is_tie" = some (.ref f)) (d_is_pair:dC P w K mg base (dA K w) 5 "is_pair" 2 gp):dC P w K mg base (dA K w) 6 "is_tie" 2 iy:=
 cG F yF rfl hm (F.b2 (by rfl) fun _ _ _ _ _ _ _ _=>by rfl) fun cdv A outer s H E hr=>
 a9 (bB (il (aX d_is_pair (hr.mono (by decide)) (aK (aF 0) (aK (aF 1) (bo)))) (jO (kI (iq (op:=.Lt) hr.units) (bH (aF 1) (bE)) (bH (aF 1) (bE))))))
theorem wO (nm:Nm mg) {f:Addr}{fd:FuncData} (F:gT K "is_ties" "is_ties" iz f fd) (hm:mg "is_ties" = some (.ref f)) (d_is_tie:dC P w K mg base (dA K w) 6 "is_tie" 2 iy) (d_is_rising:dC P w K mg base (dA K w) 1 "is_rising" 1 cS):dC P w K mg base (dA K w) 7 "is_ties" 2 gn:=
 cG F wH rfl hm (F.b2 (by rfl) fun _ _ _ _ _ _ _ _=>by rfl) fun cdv A outer s H E hr=>
 a9 (bB (il (jP (T:="tuple") (by decide) ja (by decide) (by decide) nm.isinstance nm.tuple (aF 1)) (il (c0 Al nm.all (aK (ir (dt (N:=["many", "thing"]) (sc:=av iz) (Nc:=["tie", "many"]) (cap:=[none,some 0]) rfl rfl (by decide +kernel)) (vI (aF 1)) (fun _ _ _ _ _=>jG 0 tu) (fun _ _ _ _ _=>t4) (fun _ _ _ _ _=>aX d_is_tie (hr.mono (by decide)) (aK (aF 1) (aK (aF 0) (bo))))) (bo))) (jO (aX d_is_rising (hr.mono (by decide)) (aK (aF 1) (bo)))))))
theorem vt (nm:Nm mg) {f:Addr}{fd:FuncData} (F:gT K "web_good" "web_good" iO f fd) (hm:mg "web_good" = some (.ref f)) (d_is_many:dC P w K mg base (dA K w) 3 "is_many" 1 gq) (d_is_ties:dC P w K mg base (dA K w) 7 "is_ties" 2 gn):dC P w K mg base (dA K w) 8 "web_good" 1 fk:=
 cG F j4 rfl hm (F.b1 (by rfl) fun _ _ _ _ _ _ _=>by rfl) fun cdv A outer s H E hr=>
 aM (kS (rQ (oI (iG (yc (jP (T:="tuple") (by decide) ja (by decide) (by decide) nm.isinstance nm.tuple (aF 0)))) (oQ (dE (tO hr.units) (c0 oX nm.len (aK (aF 0) (bo))) (bE))))) (a9 (bB (xj))) (ik))
 (aM (lB (aF 0) (nu (eC (jG 1 j4.nd) (eC (jG 2 j4.nd) (nv)))))
 (a9 (bB (il (aX d_is_many (hr.mono (by decide)) (aK (aF 1) (bo))) (jO (aX d_is_ties (hr.mono (by decide)) (aK (aF 1) (aK (aF 2) (bo)))))))))
theorem qi (nm:Nm mg) {f:Addr}{fd:FuncData} (F:gT K "next_places" "next_places" cM f fd) (hm:mg "next_places" = some (.ref f)):dC P w K mg base (dA K w) 1 "next_places" 2 eR:=
 cG F qg rfl hm (F.b2 (by rfl) fun _ _ _ _ _ _ _ _=>by rfl) fun cdv A outer s H E hr=>
 a9 (bB (cR (ir (dt (N:=["ties", "front"]) (sc:=av cM) (Nc:=["a", "b", "front"]) (cap:=[none,none,some 1]) rfl rfl (by decide +kernel)) (vI (aF 0)) (fun _ _ _ _ _=>nu (eC (jG 0 jf) (eC (jG 1 jf) (nv)))) (fun _ _ _ _ _=>lA (dE (Fg hr.units) (aF 0) (aF 2))) (fun _ _ _ _ _=>aF 1)) (ir (dt (N:=["ties", "front"]) (sc:=av cM) (Nc:=["a", "b", "front"]) (cap:=[none,none,some 1]) rfl rfl (by decide +kernel)) (vI (aF 0)) (fun _ _ _ _ _=>nu (eC (jG 0 je) (eC (jG 1 je) (nv)))) (fun _ _ _ _ _=>lA (dE (Fg hr.units) (aF 1) (aF 2))) (fun _ _ _ _ _=>aF 0))))
theorem tf (nm:Nm mg) {f:Addr}{fd:FuncData} (F:gT K "fars_from" "fars_from" fQ f fd) (hm:mg "fars_from" = some (.ref f)) (d_next_places:dC P w K mg base (dA K w) 1 "next_places" 2 eR):dC P w K mg base (dA K w) 2 "fars_from" 2 fE:=
 cG F bW rfl hm (F.b2 (by rfl) fun _ _ _ _ _ _ _ _=>by rfl) fun cdv A outer s H E hr=>
 aM (lB (aF 0) (nu (eC (jG 2 bW.nd) (eC (jG 3 bW.nd) (nv)))))
 (aM (bG 4 bW.nd (zX (fI (aK (Ew) (bo))) (aF 2)))
 (aM (lB (bE) (qP (aF 4) (aF 1)))
 (aM (bG 5 bW.nd (bE))
 (aM (bG 6 bW.nd (fI (aK (aF 1) (bo))))
 (aM (Dl 100 Pv (yc (aF 6)) (aM (EI 5 bW.nd (bE))
 (aM (v7 6 bW.nd (dt (N:=["web", "start", "many", "ties", "fars", "far", "front", "place"]) (sc:=av fQ) (Nc:=["place", "fars"]) (cap:=[none,some 4]) rfl rfl (by decide +kernel)) (vI (aX d_next_places (hr.mono (by decide)) (aK (aF 3) (aK (aF 6) (bo))))) (fun _ _ _ _ _=>jG 0 qp) (fun _ _ _ _ _=>lA (dE (JG) (bH (aF 1) (aF 0)) (Ew))) (fun _ _ _ _ _=>aF 0))
 (a9 (jv Pv (vI (aF 6)) (jG 7 bW.nd) (a9 (lB (aF 5) (qP (aF 4) (aF 7)))))))))
 (a9 (bB (aF 4))))))))
theorem sX (nm:Nm mg) {f:Addr}{fd:FuncData} (F:gT K "steps_web" "steps_web" fN f fd) (hm:mg "steps_web" = some (.ref f)) (c_MOST_STEPS:∃ t,mg "MOST_STEPS" = some (.int 6 t)) {a_NoNumber:Addr} (k_NoNumber:W.nsIn K mainGlobals "NoNumber" = some (some (.ref a_NoNumber))) (o_NoNumber:tV mg base "NoNumber" a_NoNumber) (d_is_whole_from:dC P w K mg base (dA K w) 2 "is_whole_from" 3 aY) (d_fars_from:dC P w K mg base (dA K w) 2 "fars_from" 2 fE):tY P w K mg base 3 "steps_web" 2 fD:=
 vY F dY rfl hm (F.b2 (by rfl) fun _ _ _ _ _ _ _ _=>by rfl) fun cdv A outer s H E hr=>
 aM (kS (iG (yc (og d_is_whole_from (hr.mono (by decide)) (aK (aF 1) (aK (bE) (aK (Fe c_MOST_STEPS) (bo))))))) (a9 (xq k_NoNumber o_NoNumber)) (ik))
 (aM (bG 2 dY.nd (bH (aF 0) (bE)))
 (aM (bG 3 dY.nd (fI (bo)))
 (aM (jv PassesOwn.leaving (vU nm.range (aK (aF 2) (bo))) (jG 4 dY.nd) (aM (bG 5 dY.nd (og d_fars_from (hr.mono (by decide)) (aK (aF 0) (aK (aF 4) (bo)))))
 (a9 (EI 3 dY.nd (ir (dt (N:=["web", "k", "many", "ties", "one", "fars"]) (sc:=av fN) (Nc:=["other", "one", "k", "fars"]) (cap:=[none,some 4,some 1,some 5]) rfl rfl (by decide +kernel)) (Fi nm.range (aK (cR (aF 4) (bE)) (aK (aF 2) (bo)))) (fun _ _ _ _ _=>jG 0 ql) (fun _ _ _ _ _=>lA (rQ (EE (dE (Hy) (bH (aF 3) (aF 0)) (Ew)) (Ar (dE (iq (op:=.LtE) hr.units) (bH (aF 3) (aF 0)) (aF 2)))))) (fun _ _ _ _ _=>bP (aK (aF 1) (aK (aF 0) (bo)))))))))
 (a9 (bB (bP (aK (aF 2) (aK (c0 sL nm.tuple (aK (aF 3) (bo))) (bo)))))))))
theorem vx (nm:Nm mg) {f:Addr}{fd:FuncData} (F:gT K "check_by" "check_by" iR f fd) (hm:mg "check_by" = some (.ref f)) (c_MOST_BY:∃ t,mg "MOST_BY" = some (.int 5 t)) {a_NoNumber:Addr} (k_NoNumber:W.nsIn K mainGlobals "NoNumber" = some (some (.ref a_NoNumber))) (o_NoNumber:tV mg base "NoNumber" a_NoNumber) (d_is_whole_from:dC P w K mg base (dA K w) 2 "is_whole_from" 3 aY):tY P w K mg base 3 "check_by" 1 iA:=
 vY F vq rfl hm (F.b1 (by rfl) fun _ _ _ _ _ _ _=>by rfl) fun cdv A outer s H E hr=>
 a9 (kS (iG (yc (og d_is_whole_from (hr.mono (by decide)) (aK (aF 0) (aK (bE) (aK (Fe c_MOST_BY) (bo))))))) (a9 (xq k_NoNumber o_NoNumber)) (ik))
theorem nT (nm:Nm mg) {f:Addr}{fd:FuncData} (F:gT K "root_by_good" "root_by_good" eU f fd) (hm:mg "root_by_good" = some (.ref f)) (d_check_by:tY P w K mg base 3 "check_by" 1 iA) (d_web_good:dC P w K mg base (dA K w) 8 "web_good" 1 fk) (d_steps_web:tY P w K mg base 3 "steps_web" 2 fD):tY P w K mg base 9 "root_by_good" 3 ck:=
 vY F nQ rfl hm (F.b3 (by rfl) fun _ _ _ _ _ _ _ _ _=>by rfl) fun cdv A outer s H E hr=>
 aM (oZ (sj d_check_by EU (hr.mono (by decide)) (aK (aF 1) (bo))))
 (a9 (bB (il (og d_web_good (hr.mono (by decide)) (aK (aF 2) (bo))) (jO (kI (qv hr.units) (sj d_steps_web EU (hr.mono (by decide)) (aK (aF 2) (aK (aF 1) (bo)))) (aF 0))))))
theorem nW (nm:Nm mg) {f:Addr}{fd:FuncData} (F:gT K "_law_cell_at" "_law_cell_at" eX f fd) (hm:mg "_law_cell_at" = some (.ref f)):dC P w K mg base (dA K w) 1 "_law_cell_at" 2 dR:=
 cG F nS rfl hm (F.b2 (by rfl) fun _ _ _ _ _ _ _ _=>by rfl) fun cdv A outer s H E hr=>
 aM (kS (dE (iq (op:=.Lt) hr.units) (aF 1) (c0 oX nm.len (aK (aF 0) (bo)))) (a9 (bB (bH (aF 0) (aF 1)))) (ik))
 (a9 (bB (bE)))
theorem tm (nm:Nm mg) {f:Addr}{fd:FuncData} (F:gT K "_law_next" "_law_next" h7 f fd) (hm:mg "_law_next" = some (.ref f)):dC P w K mg base (dA K w) 1 "_law_next" 1 fF:=
 cG F l9 rfl hm (F.b1 (by rfl) fun _ _ _ _ _ _ _=>by rfl) fun cdv A outer s H E hr=>
 aM (bG 0 l9.nd (t9 (cR (aF 0) (bE)) (bE)))
 (a9 (bB (t9 (cR (cR (zX (aF 0) (aF 0)) (zX (bE) (aF 0))) (bE)) (bE))))
theorem qk (nm:Nm mg) {f:Addr}{fd:FuncData} (F:gT K "_law_pen_of" "_law_pen_of" fR f fd) (hm:mg "_law_pen_of" = some (.ref f)):dC P w K mg base (dA K w) 1 "_law_pen_of" 1 eS:=
 cG F kb rfl hm (F.b1 (by rfl) fun _ _ _ _ _ _ _=>by rfl) fun cdv A outer s H E hr=>
 aM (bG 1 kb.nd (c0 E4 nm.max (aK (aF 0) (aK (oP (bE) (aF 0)) (bo)))))
 (a9 (bB (fI (aK (aF 1) (aK (c0 JS nm.int (aK (kI (iq (op:=.GtE) hr.units) (aF 1) (zW (bE) (bE))) (bo))) (aK (t9 (aF 1) (bE)) (bo)))))))
theorem tq (nm:Nm mg) {f:Addr}{fd:FuncData} (F:gT K "_law_draw" "_law_draw" ia f fd) (hm:mg "_law_draw" = some (.ref f)) (d__law_next:dC P w K mg base (dA K w) 1 "_law_next" 1 fF):dC P w K mg base (dA K w) 2 "_law_draw" 2 aE:=
 cG F ma rfl hm (F.b2 (by rfl) fun _ _ _ _ _ _ _ _=>by rfl) fun cdv A outer s H E hr=>
 aM (kS (dE (qv hr.units) (bH (aF 0) (bE)) (bE)) (aM (bG 2 ma.nd (t9 (bH (aF 0) (bE)) (aF 1)))
 (aM (lB (Ao (bH (aF 0) (bE)) (aF 1)) (qP (aF 0) (bE)))
 (a9 (bB (aF 2))))) (ik))
 (aM (lB (aX d__law_next (hr.mono (by decide)) (aK (cR (aX d__law_next (hr.mono (by decide)) (aK (bH (aF 0) (bE)) (bo))) (bE)) (bo))) (qP (aF 0) (bE)))
 (a9 (bB (t9 (Ao (bH (aF 0) (bE)) (bE)) (aF 1)))))
theorem qF (nm:Nm mg) {f:Addr}{fd:FuncData} (F:gT K "_law_whole" "_law_whole" gC f fd) (hm:mg "_law_whole" = some (.ref f)):dC P w K mg base (dA K w) 1 "_law_whole" 1 dZ:=
 cG F qE rfl hm (F.b1 (by rfl) fun _ _ _ _ _ _ _=>by rfl) fun cdv A outer s H E hr=>
 a9 (bB (il (jP (T:="int") (by decide) AY (by decide) (by decide) nm.isinstance nm.int (aF 0)) (jO (EB (jP (T:="bool") (by decide) sJ (by decide) (by decide) nm.isinstance nm.bool (aF 0))))))
theorem nV (nm:Nm mg) {f:Addr}{fd:FuncData} (F:gT K "_law_kind_of" "_law_kind_of" eV f fd) (hm:mg "_law_kind_of" = some (.ref f)) {a_NoLine a_NoNumber a_NoPlace a_NoRoot a_NoText a_NoTree a_NoWeb a_TooGreat:Addr} (q_NoLine:bI K (.ref a_NoLine) [] ["NoNumber"]) (q_NoNumber:bI K (.ref a_NoNumber) ["NoNumber"] ["NoNumber"]) (q_NoPlace:bI K (.ref a_NoPlace) [] ["NoNumber"]) (q_NoRoot:bI K (.ref a_NoRoot) [] ["NoNumber"]) (q_NoText:bI K (.ref a_NoText) [] ["NoNumber"]) (q_NoTree:bI K (.ref a_NoTree) [] ["NoNumber"]) (q_NoWeb:bI K (.ref a_NoWeb) [] ["NoNumber"]) (q_TooGreat:bI K (.ref a_TooGreat) [] ["NoNumber"]) (q_ValueError:bI K (.type "ValueError") ["NoNumber"] ["NoNumber"]) (m_NoLine:mg "NoLine" = some (.ref a_NoLine)) (m_NoNumber:mg "NoNumber" = some (.ref a_NoNumber)) (m_NoPlace:mg "NoPlace" = some (.ref a_NoPlace)) (m_NoRoot:mg "NoRoot" = some (.ref a_NoRoot)) (m_NoText:mg "NoText" = some (.ref a_NoText)) (m_NoTree:mg "NoTree" = some (.ref a_NoTree)) (m_NoWeb:mg "NoWeb" = some (.ref a_NoWeb)) (m_TooGreat:mg "TooGreat" = some (.ref a_TooGreat)):CA P w K mg base (dA K w) 1 "_law_kind_of" 1 dQ:=
 FA F g4 rfl hm (F.b1 (by rfl) fun _ _ _ _ _ _ _=>by rfl) fun cdv A outer s H E hr=>
 aM (bG 1 g4.nd (fI (aK (nr q_NoPlace nm.isinstance m_NoPlace (aF 0)) (aK (nr q_NoNumber nm.isinstance m_NoNumber (aF 0)) (aK (nr q_NoLine nm.isinstance m_NoLine (aF 0)) (aK (nr q_NoRoot nm.isinstance m_NoRoot (aF 0)) (bo)))))))
 (aM (bG 1 g4.nd (cR (aF 1) (fI (aK (nr q_NoTree nm.isinstance m_NoTree (aF 0)) (aK (nr q_NoWeb nm.isinstance m_NoWeb (aF 0)) (aK (nr q_NoText nm.isinstance m_NoText (aF 0)) (aK (nr q_TooGreat nm.isinstance m_TooGreat (aF 0)) (bo))))))))
 (aM (kS (rQ (oI (iG (yc (FE q_ValueError nm.isinstance nm.ValueError qK (aF 0)))) (oQ (dE (tO hr.units) (IW (aF 1) (aK (xj) (bo))) (bE))))) (a9 (bB (yb))) (ik))
 (a9 (bB (bH (fI (aK (yb) (aK (yb) (aK (yb) (aK (yb) (aK (yb) (aK (yb) (aK (yb) (aK (yb) (bo)))))))))) (IV (aF 1) (aK (xj) (bo))))))))
theorem qj (nm:Nm mg) {f:Addr}{fd:FuncData} (F:gT K "_law_web_of" "_law_web_of" dO f fd) (hm:mg "_law_web_of" = some (.ref f)):dC P w K mg base (dA K w) 1 "_law_web_of" 2 bF:=
 cG F qh rfl hm (F.b2 (by rfl) fun _ _ _ _ _ _ _ _=>by rfl) fun cdv A outer s H E hr=>
 a9 (bB (bP (aK (aF 0) (aK (c0 sL nm.tuple (aK (c0 Cb nm.sorted (aK (c0 (JQ hr.units) nm.set (aK (ir (dt (N:=["_law_many", "_law_ties"]) (sc:=av dO) (Nc:=["_law_a", "_law_b"]) (cap:=[none,none]) rfl rfl (by decide +kernel)) (vI (aF 1)) (fun _ _ _ _ _=>nu (eC (jG 0 jg) (eC (jG 1 jg) (nv)))) (fun _ _ _ _ _=>t4) (fun _ _ _ _ _=>bP (aK (c0 JR nm.min (aK (aF 0) (aK (aF 1) (bo)))) (aK (c0 E4 nm.max (aK (aF 0) (aK (aF 1) (bo)))) (bo))))) (bo))) (bo))) (bo))) (bo)))))
theorem ml (nm:Nm mg) {f:Addr}{fd:FuncData} (F:gT K "_law_drawn_web" "_law_drawn_web" cD f fd) (hm:mg "_law_drawn_web" = some (.ref f)) (d__law_draw:dC P w K mg base (dA K w) 2 "_law_draw" 2 aE) (d__law_web_of:dC P w K mg base (dA K w) 1 "_law_web_of" 2 bF):dC P w K mg base (dA K w) 3 "_law_drawn_web" 2 bz:=
 cG F cE rfl hm (F.b2 (by rfl) fun _ _ _ _ _ _ _ _=>by rfl) fun cdv A outer s H E hr=>
 aM (bG 2 cE.nd (cR (bE) (aX d__law_draw (hr.mono (by decide)) (aK (aF 0) (aK (aF 1) (bo))))))
 (aM (bG 3 cE.nd (cR (bE) (aX d__law_draw (hr.mono (by decide)) (aK (aF 0) (aK (bE) (bo))))))
 (aM (bG 4 cE.nd (fI (bo)))
 (aM (jv Pv (vU nm.range (aK (aF 2) (bo))) (jG 5 cE.nd) (a9 (oZ (zY (aF 4) (aK (ir (dt (N:=["_law_pen", "_law_most", "_law_many", "_law_share", "_law_ties", "_law_one"]) (sc:=av cD) (Nc:=["_law_other", "_law_one", "_law_pen", "_law_share"]) (cap:=[none,some 5,some 0,some 3]) rfl rfl (by decide +kernel)) (vU nm.range (aK (aF 5) (bo))) (fun _ _ _ _ _=>jG 0 kF) (fun _ _ _ _ _=>lA (dE (qv hr.units) (aX d__law_draw (hr.mono (by decide)) (aK (aF 2) (aK (aF 3) (bo)))) (bE))) (fun _ _ _ _ _=>bP (aK (aF 0) (aK (aF 1) (bo))))) (bo))))))
 (a9 (bB (aX d__law_web_of (hr.mono (by decide)) (aK (aF 2) (aK (aF 4) (bo)))))))))
theorem nU (nm:Nm mg) {f:Addr}{fd:FuncData} (F:gT K "_law_near_of" "_law_near_of" c9 f fd) (hm:mg "_law_near_of" = some (.ref f)):dC P w K mg base (dA K w) 1 "_law_near_of" 2 dP:=
 cG F nR rfl hm (F.b2 (by rfl) fun _ _ _ _ _ _ _ _=>by rfl) fun cdv A outer s H E hr=>
 a9 (bB (ir (dt (N:=["_law_web", "_law_place"]) (sc:=av c9) (Nc:=["_law_a", "_law_b", "_law_place"]) (cap:=[none,none,some 1]) rfl rfl (by decide +kernel)) (vI (bH (aF 0) (bE))) (fun _ _ _ _ _=>nu (eC (jG 0 iT) (eC (jG 1 iT) (nv)))) (fun _ _ _ _ _=>lA (dE (Fg hr.units) (aF 2) (bP (aK (aF 0) (aK (aF 1) (bo)))))) (fun _ _ _ _ _=>oP (cR (aF 0) (aF 1)) (aF 2))))
theorem ng (nm:Nm mg) {f:Addr}{fd:FuncData} (F:gT K "_law_two_step" "_law_two_step" cN f fd) (hm:mg "_law_two_step" = some (.ref f)) (d__law_near_of:dC P w K mg base (dA K w) 1 "_law_near_of" 2 dP) (d__law_web_of:dC P w K mg base (dA K w) 1 "_law_web_of" 2 bF):dC P w K mg base (dA K w) 2 "_law_two_step" 1 de:=
 cG F cP rfl hm (F.b1 (by rfl) fun _ _ _ _ _ _ _=>by rfl) fun cdv A outer s H E hr=>
 aM (bG 1 cP.nd (c0 si nm.list (aK (bH (aF 0) (bE)) (bo))))
 (aM (jv Pv (vU nm.range (aK (bH (aF 0) (bE)) (bo))) (jG 2 cP.nd) (aM (bG 3 cP.nd (aX d__law_near_of (hr.mono (by decide)) (aK (aF 0) (aK (aF 2) (bo)))))
 (a9 (jv Pv (vI (aF 3)) (jG 4 cP.nd) (a9 (oZ (zY (aF 1) (aK (ir (dt (N:=["_law_web", "_law_ties", "_law_place", "_law_near", "_law_one"]) (sc:=av cN) (Nc:=["_law_other", "_law_one"]) (cap:=[none,some 4]) rfl rfl (by decide +kernel)) (vI (aF 3)) (fun _ _ _ _ _=>jG 0 lr) (fun _ _ _ _ _=>lA (dE (iq (op:=.Lt) hr.units) (aF 1) (aF 0))) (fun _ _ _ _ _=>bP (aK (aF 1) (aK (aF 0) (bo))))) (bo)))))))))
 (a9 (bB (aX d__law_web_of (hr.mono (by decide)) (aK (bH (aF 0) (bE)) (aK (aF 1) (bo)))))))
theorem nX (nm:Nm mg) {f:Addr}{fd:FuncData} (F:gT K "_law_any_web" "_law_any_web" dc f fd) (hm:mg "_law_any_web" = some (.ref f)) (d__law_drawn_web:dC P w K mg base (dA K w) 3 "_law_drawn_web" 2 bz) (d__law_draw:dC P w K mg base (dA K w) 2 "_law_draw" 2 aE) (d__law_two_step:dC P w K mg base (dA K w) 2 "_law_two_step" 1 de) (d__law_web_of:dC P w K mg base (dA K w) 1 "_law_web_of" 2 bF):dC P w K mg base (dA K w) 4 "_law_any_web" 2 bQ:=
 cG F bK rfl hm (F.b2 (by rfl) fun _ _ _ _ _ _ _ _=>by rfl) fun cdv A outer s H E hr=>
 aM (bG 2 bK.nd (aX d__law_drawn_web (hr.mono (by decide)) (aK (aF 0) (aK (aF 1) (bo)))))
 (aM (bG 3 bK.nd (aX d__law_draw (hr.mono (by decide)) (aK (aF 0) (aK (bE) (bo)))))
 (aM (kS (dE (qv hr.units) (aF 3) (bE)) (a9 (bB (aF 2))) (ik))
 (aM (bG 2 bK.nd (aX d__law_two_step (hr.mono (by decide)) (aK (aF 2) (bo))))
 (aM (kS (rQ (EE (dE (qv hr.units) (aF 3) (bE)) (Ar (dE (iq (op:=.Gt) hr.units) (bH (aF 2) (bE)) (bE))))) (aM (bG 4 bK.nd (aX d__law_draw (hr.mono (by decide)) (aK (aF 0) (aK (oP (bH (aF 2) (bE)) (bE)) (bo)))))
 (aM (bG 5 bK.nd (bP (aK (aF 4) (aK (cR (cR (aF 4) (bE)) (aX d__law_draw (hr.mono (by decide)) (aK (aF 0) (aK (oP (oP (bH (aF 2) (bE)) (bE)) (aF 4)) (bo))))) (bo)))))
 (aM (v7 6 bK.nd (dt (N:=["_law_pen", "_law_most", "_law_web", "_law_way", "_law_one", "_law_pair", "_law_some"]) (sc:=av dc) (Nc:=["_law_tie", "_law_pair"]) (cap:=[none,some 5]) rfl rfl (by decide +kernel)) (vI (bH (aF 2) (bE))) (fun _ _ _ _ _=>jG 0 mn) (fun _ _ _ _ _=>lA (dE (tO hr.units) (aF 0) (aF 1))) (fun _ _ _ _ _=>aF 0))
 (aM (kS (dE (JF hr.units) (aF 5) (bH (aF 2) (bE))) (a9 (oZ (IY (aF 6) (aK (aF 5) (bo))))) (ik))
 (a9 (bG 2 bK.nd (aX d__law_web_of (hr.mono (by decide)) (aK (bH (aF 2) (bE)) (aK (aF 6) (bo)))))))))) (ik))
 (a9 (bB (aF 2)))))))
theorem nc (nm:Nm mg) {f:Addr}{fd:FuncData} (F:gT K "_law_web_like" "_law_web_like" d4 f fd) (hm:mg "_law_web_like" = some (.ref f)) (d__law_whole:dC P w K mg base (dA K w) 1 "_law_whole" 1 dZ):dC P w K mg base (dA K w) 2 "_law_web_like" 1 cw:=
 cG F d6 rfl hm (F.b1 (by rfl) fun _ _ _ _ _ _ _=>by rfl) fun cdv A outer s H E hr=>
 aM (kS (rQ (oI (iG (yc (jP (T:="tuple") (by decide) ja (by decide) (by decide) nm.isinstance nm.tuple (aF 0)))) (oI (dE (tO hr.units) (c0 oX nm.len (aK (aF 0) (bo))) (bE)) (oI (iG (yc (aX d__law_whole (hr.mono (by decide)) (aK (bH (aF 0) (bE)) (bo))))) (oQ (iG (IZ (iq (op:=.Lt) hr.units) (iq (op:=.Lt) hr.units) (bE) (bH (aF 0) (bE)) (bE)))))))) (a9 (bB (xj))) (ik))
 (aM (kS (iG (yc (jP (T:="tuple") (by decide) ja (by decide) (by decide) nm.isinstance nm.tuple (bH (aF 0) (bE))))) (a9 (bB (xj))) (ik))
 (aM (bG 1 d6.nd (bP (aK (t6 (bE)) (aK (t6 (bE)) (bo)))))
 (aM (jv Pv (vI (bH (aF 0) (bE))) (jG 2 d6.nd) (aM (kS (rQ (oI (iG (yc (jP (T:="tuple") (by decide) ja (by decide) (by decide) nm.isinstance nm.tuple (aF 2)))) (oI (dE (tO hr.units) (c0 oX nm.len (aK (aF 2) (bo))) (bE)) (oI (iG (yc (aX d__law_whole (hr.mono (by decide)) (aK (bH (aF 2) (bE)) (bo))))) (oQ (iG (yc (aX d__law_whole (hr.mono (by decide)) (aK (bH (aF 2) (bE)) (bo)))))))))) (a9 (bB (xj))) (ik))
 (aM (kS (rQ (oI (iG (FO (iq (op:=.LtE) hr.units) (iq (op:=.Lt) hr.units) (iq (op:=.Lt) hr.units) (bE) (bH (aF 2) (bE)) (bH (aF 2) (bE)) (bH (aF 0) (bE)))) (oQ (dE (iq (op:=.LtE) hr.units) (aF 2) (aF 1))))) (a9 (bB (xj))) (ik))
 (a9 (bG 1 d6.nd (aF 2))))))
 (a9 (bB (xj))))))
theorem ni (nm:Nm mg) {f:Addr}{fd:FuncData} (F:gT K "_law_bent_web" "_law_bent_web" d5 f fd) (hm:mg "_law_bent_web" = some (.ref f)) (d__law_draw:dC P w K mg base (dA K w) 2 "_law_draw" 2 aE):dC P w K mg base (dA K w) 3 "_law_bent_web" 2 cy:=
 cG F bq rfl hm (F.b2 (by rfl) fun _ _ _ _ _ _ _ _=>by rfl) fun cdv A outer s H E hr=>
 aM (lB (aF 1) (nu (eC (jG 2 bq.nd) (eC (jG 3 bq.nd) (nv)))))
 (aM (bG 4 bq.nd (bH (fI (aK (cR (aF 2) (bE)) (aK (bE) (aK (bE) (aK (t6 (bE)) (aK (xj) (aK (Ew) (aK (yb) (aK (bP (aK (bE) (bo))) (aK (zW (bE) (bE)) (bo))))))))))) (aX d__law_draw (hr.mono (by decide)) (aK (aF 0) (aK (bE) (bo))))))
 (aM (bG 5 bq.nd (aX d__law_draw (hr.mono (by decide)) (aK (aF 0) (aK (cR (c0 oX nm.len (aK (aF 3) (bo))) (bE)) (bo)))))
 (aM (bG 6 bq.nd (bH (cR (aF 3) (bP (aK (bP (aK (bE) (aK (bE) (bo)))) (bo)))) (aF 5)))
 (aM (bG 7 bq.nd (fI (aK (bP (aK (bH (aF 6) (bE)) (aK (bH (aF 6) (bE)) (bo)))) (aK (c0 si nm.list (aK (aF 6) (bo))) (aK (bP (aK (bH (aF 6) (bE)) (bo))) (aK (cR (aF 6) (bP (aK (bE) (bo)))) (aK (bP (aK (bH (aF 6) (bE)) (aK (aF 2) (bo)))) (aK (bP (aK (bH (aF 6) (bE)) (aK (aF 4) (bo)))) (aK (Ew) (aK (bP (aK (bE) (aK (bE) (bo)))) (bo)))))))))))
 (aM (bG 8 bq.nd (cR (cR (zG (aF 3) (n4) (kh (aF 5))) (bP (aK (bH (aF 7) (aX d__law_draw (hr.mono (by decide)) (aK (aF 0) (aK (bE) (bo))))) (bo)))) (zG (aF 3) (kh (cR (aF 5) (bE))) (n4))))
 (aM (bG 9 bq.nd (fI (aK (bP (aK (aF 4) (aK (aF 3) (bo)))) (aK (bP (aK (aF 2) (aK (aF 8) (bo)))) (aK (bP (aK (aF 2) (aK (aF 8) (bo)))) (aK (bP (aK (aF 2) (aK (c0 si nm.list (aK (aF 3) (bo))) (bo)))) (aK (fI (aK (aF 2) (aK (aF 3) (bo)))) (aK (bP (aK (aF 2) (bo))) (aK (bP (aK (aF 2) (aK (aF 3) (aK (bP (bo)) (bo))))) (bo))))))))))
 (aM (bG 9 bq.nd (cR (aF 9) (fI (aK (bP (aK (aF 2) (aK (FD (aF 3) (t6 (bE))) (bo)))) (aK (bP (aK (aF 2) (aK (cR (aF 3) (zG (aF 3) (n4) (kh (bE)))) (bo)))) (aK (Ew) (aK (aF 3) (aK (EC) (aK (bP (aK (aF 2) (aK (zG (aF 3) (kh (bE)) (n4)) (bo)))) (aK (bP (aK (aF 2) (aK (bP (bo)) (bo)))) (bo)))))))))))
 (a9 (bB (bH (aF 9) (aX d__law_draw (hr.mono (by decide)) (aK (aF 0) (aK (bE) (bo))))))))))))))
theorem nh (nm:Nm mg) {f:Addr}{fd:FuncData} (F:gT K "_law_reach_of" "_law_reach_of" cO f fd) (hm:mg "_law_reach_of" = some (.ref f)):dC P w K mg base (dA K w) 1 "_law_reach_of" 3 cx:=
 cG F bO rfl hm (F.b3 (by rfl) fun _ _ _ _ _ _ _ _ _=>by rfl) fun cdv A outer s H E hr=>
 aM (v7 3 bO.nd (dt (N:=["_law_many", "_law_ties", "_law_k", "_law_found", "_law_turn", "_law_later", "_law_a", "_law_b"]) (sc:=av cO) (Nc:=["_law_place"]) (cap:=[none]) rfl rfl (by decide +kernel)) (vU nm.range (aK (aF 0) (bo))) (fun _ _ _ _ _=>jG 0 lu) (fun _ _ _ _ _=>t4) (fun _ _ _ _ _=>IU (bE) (aF 0)))
 (aM (jv Pv (vU nm.range (aK (aF 2) (bo))) (jG 4 bO.nd) (aM (bG 5 bO.nd (c0 si nm.list (aK (aF 3) (bo))))
 (aM (jv Pv (vI (aF 1)) (nu (eC (jG 6 bO.nd) (eC (jG 7 bO.nd) (nv)))) (aM (lB (ED (bH (aF 5) (aF 6)) (bH (aF 3) (aF 7))) (qP (aF 5) (aF 6)))
 (a9 (lB (ED (bH (aF 5) (aF 7)) (bH (aF 3) (aF 6))) (qP (aF 5) (aF 7))))))
 (a9 (bG 3 bO.nd (aF 5))))))
 (a9 (bB (aF 3))))
theorem tj (nm:Nm mg) {f:Addr}{fd:FuncData} (F:gT K "_law_told" "_law_told" hZ f fd) (hm:mg "_law_told" = some (.ref f)) {a_RootError:Addr} (m_RootError:mg "RootError" = some (.ref a_RootError)) (kn_RootError:um K "RootError" a_RootError ["NoNumber"]) (d_root_by_good:tY P w K mg base 9 "root_by_good" 3 ck) (d__law_kind_of:CA P w K mg base (dA K w) 1 "_law_kind_of" 1 dQ):dC P w K mg base (dA K w) 10 "_law_told" 3 bY:=
 cG F l7 rfl hm (F.b3 (by rfl) fun _ _ _ _ _ _ _ _ _=>by rfl) fun cdv A outer s H E hr=>
 a9 (IS AN l7.nd kn_RootError m_RootError (fun pins E=>a9 (bB (sj d_root_by_good (Jz AN) (hr.mono (by decide)) (aK (aF 0) (aK (aF 1) (aK (aF 2) (bo))))))) (fun ea=>a9 (bB (CJ d__law_kind_of ((hr.h.mark _).mono (by decide)) (aK (aF 3) (bo))))))
theorem qG (nm:Nm mg) {f:Addr}{fd:FuncData} (F:gT K "_law_steps" "_law_steps" eN f fd) (hm:mg "_law_steps" = some (.ref f)) (d__law_reach_of:dC P w K mg base (dA K w) 1 "_law_reach_of" 3 cx):dC P w K mg base (dA K w) 2 "_law_steps" 2 bX:=
 cG F gE rfl hm (F.b2 (by rfl) fun _ _ _ _ _ _ _ _=>by rfl) fun cdv A outer s H E hr=>
 aM (bG 2 gE.nd (aX d__law_reach_of (hr.mono (by decide)) (aK (bH (aF 0) (bE)) (aK (bH (aF 0) (bE)) (aK (aF 1) (bo))))))
 (aM (bG 3 gE.nd (fI (bo)))
 (aM (jv Pv (vU nm.range (aK (bH (aF 0) (bE)) (bo))) (jG 4 gE.nd) (a9 (oZ (zY (aF 3) (aK (ir (dt (N:=["_law_web", "_law_k", "_law_reach", "_law_ties", "_law_one"]) (sc:=av eN) (Nc:=["_law_other", "_law_one", "_law_reach"]) (cap:=[none,some 4,some 2]) rfl rfl (by decide +kernel)) (Fi nm.range (aK (cR (aF 4) (bE)) (aK (bH (aF 0) (bE)) (bo)))) (fun _ _ _ _ _=>jG 0 nY) (fun _ _ _ _ _=>lA (dE (qv hr.units) (FF (IT (bH (aF 2) (aF 1)) (aF 0)) (bE)) (bE))) (fun _ _ _ _ _=>bP (aK (aF 1) (aK (aF 0) (bo))))) (bo))))))
 (a9 (bB (bP (aK (bH (aF 0) (bE)) (aK (c0 sL nm.tuple (aK (aF 3) (bo))) (bo))))))))
theorem qH (nm:Nm mg) {f:Addr}{fd:FuncData} (F:gT K "_law_right" "_law_right" gD f fd) (hm:mg "_law_right" = some (.ref f)) (d__law_told:dC P w K mg base (dA K w) 10 "_law_told" 3 bY) (d__law_web_like:dC P w K mg base (dA K w) 2 "_law_web_like" 1 cw) (d__law_steps:dC P w K mg base (dA K w) 2 "_law_steps" 2 bX):dC P w K mg base (dA K w) 11 "_law_right" 3 d0:=
 cG F gF rfl hm (F.b3 (by rfl) fun _ _ _ _ _ _ _ _ _=>by rfl) fun cdv A outer s H E hr=>
 aM (bG 3 gF.nd (c0 (x9 hr) nm.repr (aK (aF 2) (bo))))
 (aM (bG 4 gF.nd (aX d__law_told (hr.mono (by decide)) (aK (aF 0) (aK (aF 1) (aK (aF 2) (bo))))))
 (aM (bG 5 gF.nd (il (aX d__law_web_like (hr.mono (by decide)) (aK (aF 2) (bo))) (il (kI (qv hr.units) (bH (aF 2) (bE)) (bH (aF 0) (bE))) (jO (kI (qv hr.units) (aX d__law_steps (hr.mono (by decide)) (aK (aF 2) (aK (aF 1) (bo)))) (aF 0))))))
 (a9 (bB (il (jP (T:="bool") (by decide) sJ (by decide) (by decide) nm.isinstance nm.bool (aF 4)) (il (kI (qv hr.units) (aF 4) (aF 5)) (jO (kI (JH) (c0 (x9 hr) nm.repr (aK (aF 2) (bo))) (aF 3)))))))))
theorem HR (nm:Nm mg) {f:Addr}{fd:FuncData} (F:gT K "law" "law" kX f fd) (d__law_cell_at:dC P w K mg base (dA K w) 1 "_law_cell_at" 2 dR) (d__law_pen_of:dC P w K mg base (dA K w) 1 "_law_pen_of" 1 eS) (d__law_drawn_web:dC P w K mg base (dA K w) 3 "_law_drawn_web" 2 bz) (d__law_draw:dC P w K mg base (dA K w) 2 "_law_draw" 2 aE) (d__law_steps:dC P w K mg base (dA K w) 2 "_law_steps" 2 bX) (d__law_any_web:dC P w K mg base (dA K w) 4 "_law_any_web" 2 bQ) (d__law_bent_web:dC P w K mg base (dA K w) 3 "_law_bent_web" 2 cy) (d__law_right:dC P w K mg base (dA K w) 11 "_law_right" 3 d0) (d__law_told:dC P w K mg base (dA K w) 10 "_law_told" 3 bY):oN P w K mg base vQ 12 f fd ["_law_script"] (Ce (dA K w) 1 uq):=
 JO F jT rfl fun cdv A outer s H E hr=>
 aM (jv Pv (vI (cR (fI (aK (aX d__law_cell_at (hr.mono (by decide)) (aK (aF 0) (aK (bE) (bo)))) (bo))) (zG (aF 0) (kh (bE)) (kh (bE))))) (jG 1 jT.nd) (aM (bG 2 jT.nd (aX d__law_pen_of (hr.mono (by decide)) (aK (aF 1) (bo))))
 (aM (bG 3 jT.nd (aX d__law_drawn_web (hr.mono (by decide)) (aK (aF 2) (aK (bE) (bo)))))
 (aM (bG 4 jT.nd (cR (bE) (aX d__law_draw (hr.mono (by decide)) (aK (aF 2) (aK (bE) (bo))))))
 (aM (jv Pv (vI (fI (aK (aX d__law_steps (hr.mono (by decide)) (aK (aF 3) (aK (aF 4) (bo)))) (aK (aX d__law_any_web (hr.mono (by decide)) (aK (aF 2) (aK (bE) (bo)))) (bo))))) (jG 5 jT.nd) (a9 (jv Pv (vI (fI (aK (aF 3) (aK (aF 5) (aK (bP (aK (bH (aF 5) (bE)) (aK (bP (bo)) (bo)))) (aK (aX d__law_bent_web (hr.mono (by decide)) (aK (aF 2) (aK (aF 3) (bo)))) (aK (aX d__law_bent_web (hr.mono (by decide)) (aK (aF 2) (aK (aF 5) (bo)))) (bo)))))))) (jG 6 jT.nd) (a9 (kS (rQ (oI (iG (yc (aX d__law_right (hr.mono (by decide)) (aK (aF 5) (aK (aF 4) (aK (aF 6) (bo))))))) (oQ (iG (yc (aX d__law_right (hr.mono (by decide)) (aK (aF 5) (aK (cR (bE) (aX d__law_draw (hr.mono (by decide)) (aK (aF 2) (aK (bE) (bo))))) (aK (aF 6) (bo)))))))))) (a9 (bB (xj))) (ik))))))
 (aM (bG 7 jT.nd (bH (fI (aK (bE) (aK (bE) (aK (t6 (bE)) (aK (xj) (aK (xj) (aK (Ew) (aK (yb) (aK (bP (aK (bE) (bo))) (aK (fI (aK (bE) (bo))) (aK (EC) (aK (cR (bE) (aX d__law_draw (hr.mono (by decide)) (aK (aF 2) (aK (zW (bE) (bE)) (bo))))) (bo))))))))))))) (aX d__law_draw (hr.mono (by decide)) (aK (aF 2) (aK (bE) (bo))))))
 (a9 (kS (rQ (oI (dE (tO hr.units) (aX d__law_told (hr.mono (by decide)) (aK (aF 3) (aK (aF 7) (aK (aF 3) (bo))))) (yb)) (oQ (dE (tO hr.units) (aX d__law_told (hr.mono (by decide)) (aK (aF 3) (aK (aF 7) (aK (Ew) (bo))))) (yb))))) (a9 (bB (xj))) (ik)))))))))
 (a9 (bB (xj)))
end
end Lw
namespace Lv
variable {adj:Int->Int->Prop}{p:Int}
def R (adj:Int->Int->Prop) (p:Int):Nat->Int->Prop
 | 0,q=>q=p
 | n+1,q=>R adj p n q\/∃ r,adj r q/\R adj p n r
def rP (adj:Int->Int->Prop) (p:Int):Nat->Int->Prop
 | 0,q=>q=p
 | n+1,q=>R adj p (n+1) q/\¬ R adj p n q
theorem R.up {n:Nat}{q:Int} (h:R adj p n q):R adj p (n+1) q:=.inl h
theorem R.mono {n m:Nat}{q:Int} (h:R adj p n q) (hm:n<=m):R adj p m q:=by
 induction hm with
 | refl=>exact h
 | step _ ih=>exact ih.up
theorem rP.r {n:Nat}{q:Int} (h:rP adj p n q):R adj p n q:=by
 cases n with
 | zero=>exact h
 | succ n=>exact h.1
theorem R.lev {n:Nat}{q:Int} (h:R adj p n q):∃ j,j<=n/\rP adj p j q:=by
 induction n with
 | zero=>exact ⟨0,L9 _,h⟩
 | succ n ih=>
  by_cases hr:R adj p n q
  ·obtain ⟨j, hj, hl⟩ := ih hr
   exact ⟨j,by omega,hl⟩
  ·exact ⟨n+1,L9 _,h,hr⟩
theorem rP.low {n j:Nat}{q:Int} (h:rP adj p n q) (hj:j<n):¬ R adj p j q:=by
 cases n with
 | zero=>omega
 | succ n=>exact fun hr=>h.2 (hr.mono (by omega))
theorem rP.one {n m:Nat}{q:Int} (h:rP adj p n q) (h':rP adj p m q):n=m:=by
 rcases Nat.lt_trichotomy n m with z | z | z
 ·exact absurd h.r (h'.low z)
 ·exact z
 ·exact absurd h'.r (h.low z)
theorem i8 {n:Nat}{q:Int}:rP adj p (n+1) q↔¬ R adj p n q/\∃ r,adj r q/\rP adj p n r:=by
 constructor
 ·rintro ⟨h1, h2⟩
  refine ⟨h2,?_⟩
  rcases h1 with h1 | ⟨r,ha,hr⟩
  ·exact absurd h1 h2
  ·refine ⟨r, ha, ?_⟩
   cases n with
   | zero=>exact hr
   | succ n=>exact ⟨hr,fun z=>h2 (.inr ⟨r,ha,z⟩)⟩
 ·rintro ⟨h1, r, ha, hr⟩
  exact ⟨.inr ⟨r,ha,hr.r⟩,h1⟩
def Up (adj:Int->Int->Prop) (p:Int) (D:Int->Prop) (n:Nat) (f:Int->Option Nat):Prop:=∀ q,D q->∀ j,f q=some j↔(j<=n/\rP adj p j q)
theorem Up.none {D:Int->Prop}{n:Nat}{f:Int->Option Nat} (h:Up adj p D n f) {q:Int} (hq:D q):f q=none↔¬ R adj p n q:=by
 constructor
 ·intro e hr
  obtain ⟨j,hj,hl⟩:=hr.lev
  have:=(h q hq j).mpr ⟨hj,hl⟩
  rw [e] at this;cases this
 ·intro hr
  cases e:f q with
  | none=>rfl
  | some j=>
   obtain ⟨hj,hl⟩:=(h q hq j).mp e
   exact absurd (hl.r.mono hj) hr
theorem Et {D:Int->Prop}{f:Int->Option Nat} (h:∀ q,D q->f q=if q=p then some 0 else Option.none):Up adj p D 0 f:=fun q hq j=>by
 rw [h q hq]
 by_cases e:q=p
 ·rw [Lp e]
  constructor
  ·intro z;cases z;exact ⟨L9 _,e⟩
  ·rintro ⟨h1, _⟩
   have:j=0:=by omega
   rw [this]
 ·rw [Lq e]
  constructor
  ·intro z;cases z
  ·rintro ⟨h1, h2⟩
   have:j=0:=by omega
   subst this
   exact absurd h2 e
theorem Up.next {D:Int->Prop}{n:Nat}{f f':Int->Option Nat} (h:Up adj p D n f) (hD:∀ a b,adj a b->D a) (e:∀ q,D q->∀ j,f' q=some j↔(f q=some j\/(f q=Option.none/\j=n+1/\∃ r,adj r q/\f r=some n))):Up adj p D (n+1) f':=fun q hq j=>by
 rw [e q hq j]
 constructor
 ·rintro (z | ⟨z1, z2, r, z3, z4⟩)
  ·obtain ⟨hj, hl⟩ := (h q hq j).mp z
   exact ⟨by omega,hl⟩
  ·subst z2
   refine ⟨L9 _,i8.mpr ⟨(h.none hq).mp z1,r,z3,?_⟩⟩
   exact ((h r (hD r q z3) n).mp z4).2
 ·rintro ⟨hj, hl⟩
  by_cases hn:j<=n
  ·exact .inl ((h q hq j).mpr ⟨hn,hl⟩)
  ·have : j = n + 1 := by omega
   subst this
   obtain ⟨h1,r,ha,hr⟩:=i8.mp hl
   exact .inr ⟨(h.none hq).mpr h1,rfl,r,ha,(h r (hD r q ha) n).mpr ⟨L9 _,hr⟩⟩
def oM (adj:Int->Int->Prop) (p:Int) (D:Int->Prop) (f:Int->Option Nat):Prop:=∀ q,D q->∀ j,f q=some j↔rP adj p j q
theorem oM.eq {D:Int->Prop}{f g:Int->Option Nat} (h:oM adj p D f) (h':oM adj p D g) {q:Int} (hq:D q):f q=g q:=by
 apply Option.ext
 intro j
 rw [h q hq j,h' q hq j]
theorem rP.below {n:Nat}:∀ {q:Int},rP adj p n q->∀ j,j<=n->∃ r,rP adj p j r:=by
 induction n with
 | zero => intro q h j hj; exact ⟨q, by have : j = 0 := by omega
                                        subst this;exact h⟩
 | succ n ih=>
  intro q h j hj
  by_cases e:j=n+1
  ·subst e;exact ⟨q,h⟩
  ·obtain ⟨_, r, _, hr⟩ := i8.mp h
   exact ih hr j (by omega)
theorem Up.full {D:Int->Prop}{n:Nat}{f:Int->Option Nat} (h:Up adj p D n f) (hD:∀ a b,adj a b->D b) (e:∀ q,D q->¬ rP adj p (n+1) q):oM adj p D f:=fun q hq j=>by
 rw [h q hq j]
 constructor
 ·exact fun z=>z.2
 ·intro hl
  refine ⟨?_,hl⟩
  apply Nat.le_of_not_lt
  intro hj
  obtain ⟨r,hr⟩:=hl.below (n+1) (by omega)
  obtain ⟨_,s,hs,_⟩:=i8.mp hr
  exact e r (hD s r hs) hr
theorem Ho {m:Nat} (hp:0<=p/\p<m) (hD:∀ a b,adj a b->0<=b/\b<m) {n:Nat}{q:Int} (h:rP adj p n q):n<m:=by
 have hr:∀ j,∃ r,j<=n->rP adj p j r:=fun j=>by
  by_cases hj:j<=n
  ·obtain ⟨r,hr⟩:=h.below j hj;exact ⟨r,fun _=>hr⟩
  ·exact ⟨0,fun z=>absurd z hj⟩
 let r:Nat->Int:=fun j=>(hr j).choose
 have hr':∀ j,j<=n->rP adj p j (r j):=fun j hj=>(hr j).choose_spec hj
 have rng:∀ j,j<=n->0<=r j/\r j<m:=fun j hj=>by
  have:=hr' j hj
  cases j with
  | zero=>rw [show r 0=p from this];exact hp
  | succ j=>
   obtain ⟨_,s,hs,_⟩:=i8.mp this
   exact hD s _ hs
 have nd:((List.range (n+1)).map fun j=>(r j).toNat).Nodup:=by
  rw [List.Nodup,OW]
  refine Pw (R:=(·<·)) ?_ Oi
  intro a b ha hb hab e
  rw [LA] at ha hb
  have r1:=rng a (by omega)
  have r2:=rng b (by omega)
  have e':r a=r b:=by omega
  have h1:=hr' a (by omega)
  have h2:=hr' b (by omega)
  rw [e'] at h1
  have:=h1.one h2
  omega
 have sub:((List.range (n+1)).map fun j=>(r j).toNat) ⊆ List.range m:=fun x hx=>by
  obtain ⟨j,hj,rfl⟩:=N0.mp hx
  rw [LA] at hj ⊢
  have:=rng j (by omega)
  omega
 have:=nd.length_le_of_subset sub
 rw [Mw,NS,NS] at this;omega
end Lv
namespace Lv
def oH (f:Int->Option Nat) (r:Int) (v:Nat):Int->Option Nat:=fun q=>if q=r then some v else f q
end Lv
namespace Lw
open PySem L2 RS
theorem bS:1000<=sizeLine:=by decide
theorem lU {lo:Int}{n:Nat}:bM lo n=(List.range n).map fun (i:Nat)=>D.int (lo+(i:Int)):=rfl
theorem xy {μ:aw} (s:Int):∃ r:Int,fF [.int s] μ=.ok (.int r) μ:=by
 have h0:0<=(s+7919) % 2147483647:=Px _ (by decide)
 have h1:(s+7919) % 2147483647<2147483647:=Py _ (by decide)
 generalize ht:(s+7919) % 2147483647=t at h0 h1
 refine ⟨(t * t+48271 * t+12345) % 2147483629,?_⟩
 have c1:tZ t t:=.inl ⟨by omega,by omega⟩
 have c2:tZ 48271 t:=.inl ⟨by omega,by omega⟩
 unfold fF
 rw [eE]
 simp [nL,ht,c1,c2]
 exact aI (by simp)
def bZ (a b c:Int):O:=.lst [.int a,.int b,.int c]
theorem sC {n:Nat}{a b c:Int}:(bZ a b c).low n:=by simp [bZ,O.low]
theorem F4 {μ:aw} (x:Int):∃ a b c:Int,eS [.int x] μ=.ok (.obj μ.length) (μ++[bZ a b c]):=by
 have e:∀ i j:Int,tR [.int i,.int j] μ=.ok (.int (if j > i then j else i)) μ:=fun _ _=>rfl
 have p1:qy 10 18:=⟨by decide,by decide,by decide⟩
 have ib:∀ k:Bool,∀ μ,uh [.bl k] μ=.ok (.int (if k then 1 else 0)) μ:=fun _ _=>rfl
 refine ⟨(if 0 - x > x then 0 - x else x),(if cq .GtE (if 0 - x > x then 0 - x else x) (10 ^ (18:Int).toNat) then 1 else 0),(if 0 - x > x then 0 - x else x) % 1000003,?_⟩
 unfold eS
 rw [eE]
 have l3:(3:Nat)<=sizeLine:=by decide
 simp only [kR,aP,aS,aB,au,az,ag,aj,aJ,bh,aa,ai,ae,Ai,e,br,aC,bc,dH,List.set,List.replicate,Pz,PB]
 have pw:rS (.int 10) (.int 18) μ=.ok (.int (10 ^ (18:Int).toNat)) μ:=jk p1
 have md:∀ x,tQ (.int x) (.int 1000003) μ=.ok (.int (x % 1000003)) μ:=fun x=>jk (show (0:Int)<1000003 by decide)
 simp only [pw,md,aa,ai,gA,ib,ND,NT,Lp l3,ae,aW]
 rw [ud (by simp)]
 rfl
theorem su {μ:aw}{i:Nat}{a b c m:Int} (hp:μ[i]?=some (bZ a b c)) (h0:0<m) (h1:m<1073741824) :
  ∃ r a' b' c':Int,0<=r/\r<m/\aE [.obj i,.int m] μ=.ok (.int r) (μ.set i (bZ a' b' c')):=by
 have hi:i<μ.length:=(LL.mp hp).1
 have hp':μ[i]?=some (.lst [.int a,.int b,.int c]):=hp
 have md:∀ {x:Int}{μ:aw},tQ (.int x) (.int m) μ=.ok (.int (x % m)) μ:=fun {x μ}=>jk (show (fun _ j=>(0:Int)<j) x m from h0)
 have fd:∀ {x:Int}{μ:aw},ui (.int x) (.int m) μ=.ok (.int (x / m)) μ:=fun {x μ}=>jk (show CB x m from ⟨h0,by omega⟩)
 have f64:∀ {x:Int}{μ:aw},ui (.int x) (.int 64) μ=.ok (.int (x / 64)) μ:=fun {x μ}=>jk (show CB x 64 from ⟨by decide,by decide⟩)
 unfold aE
 rw [cf]
 by_cases hb:b=1
 ·subst hb
  refine ⟨a % m,a / m,1,c,Px _ (by omega),Py _ h0,?_⟩
  simp only [ka,aP,eD,eG,aJ,ag,aj,bh,aa,ai]
  rw [dh hp' oY]
  simp only [aa,ai,iw,NB,MJ,bj,ae,aP,aS,aJ,ag,aj,bh]
  simp only [NC,MH,MJ,aP,aS,aJ,ag,aj,bh,aa,ai]
  rw [dh hp' ny]
  simp only [aa,ai,md,ae,br,aC,List.replicate,Pz,PB,ag,aj,bh,aJ,aS,aP]
  rw [dh hp' ny]
  simp only [aa,ai,fd,ae,kr,ag,aj,bh]
  rw [lO hp' (pb (by decide) (by simp))]
  simp only [aa,ai,ae,aC,bc,ag,aj,v5,aW]
  exact xU (by simp only [D5]) (sC (a:=a / m) (b:=1) (c:=c))
 ·obtain ⟨s1, e1⟩ := xy (μ := μ) c
  obtain ⟨s2,e2⟩:=xy (μ:=μ) (s1+7)
  refine ⟨s2 / 64 % m,a,b,s2,Px _ (by omega),Py _ h0,?_⟩
  have hb':(b == 1)=false:=by simpa using hb
  simp only [ka,aP,eD,eG,aJ,ag,aj,bh,aa,ai]
  rw [dh hp' oY]
  simp only [aa,ai,iw,hb',bj,ae,NC,MH,dU,aC,aP,aS,aB,au,az,aJ,ag,aj,bh]
  rw [dh hp' E5]
  simp only [aa,ai,e1,dr,e2,ae,kr,ag,aj,bh]
  rw [lO hp' (pb (by decide) (by simp))]
  have hg:(μ.set i (.lst ([D.int a,D.int b,D.int c].set (2:Int).toNat (.int s2))))[i]?=some (.lst [D.int a,D.int b,D.int s2]):=by rw [LN hi];rfl
  simp only [aa,ai,ae,aC,bc,aJ,ag,aj,bh]
  rw [dh hg E5]
  simp only [aa,ai,f64,md,ae,aW]
  exact xU (by simp) (sC (a:=a) (b:=b) (c:=s2))
theorem aN {μ g:aw}{i:Nat}{o:O} (h:μ[i]?=some o):(μ++g)[i]?=some o:=by
 rw [Mr (LL.mp h).1];exact h
theorem xC {μ g:aw}{i:Nat}{o:O} (h:i<μ.length):(μ++g).set i o=μ.set i o++g:=by
 rw [List.set_append_left _ _ h]
theorem dS {μ:aw}{i:Nat}{o:O} (h:i<μ.length):(μ.set i o)[i]?=some o:=LN h
def qr (m:Int) (k:List Int):Prop:=∃ a b:Int,k=[a,b]/\0<=a/\a<b/\b<m
theorem qr.prs {m:Int}{k:List Int} (h:qr m k) (hm:m<=6):k∈prs:=by
 obtain ⟨a,b,rfl,h1,h2,h3⟩:=h
 exact sx h1 h2 (by omega)
def jy (d:D) (m:Int) (ks:List (List Int)):Prop:=d=.tup [.int m,.tup (ks.map aq)]/\1<=m/\m<=6/\(ks.Pairwise fun a b=>jI a<jI b)/\∀ k∈ks,qr m k
theorem vh {m:Int}{ks:List (List Int)} (h0:1<=m) (h1:m<=6) (hk:∀ k∈ks,qr m k):jy (.tup [.int m,.tup ((fY ks).map aq)]) m (fY ks):=by
 refine ⟨rfl,h0,h1,k8.filter _,fun k h=>?_⟩
 unfold fY at h
 rw [Lz,Pe] at h
 exact hk k h.2
theorem dM {m:Int}{ks:List (List Int)}{d:D} (h:jy d m ks):ks.length<=15:=by
 obtain ⟨_,_,hm,hp,hk⟩:=h
 have hn:ks.Nodup:=hp.imp fun h e=>by subst e;omega
 have hs:ks ⊆ prs:=fun k h=>(hk k h).prs hm
 have:=hn.length_le_of_subset hs
 rw [xH] at this
 exact this
def gx (p:Int × Int):D:=.tup [.int p.1,.int p.2]
theorem l2:(2:Nat)<=sizeLine:=by decide
theorem Lf {u v:Int}{μ:aw}:yk [.tup [.int u,.int v]] μ=.ok (.int (min u v)) μ:=rfl
theorem Lg {u v:Int}{μ:aw}:tR [.tup [.int u,.int v]] μ=.ok (.int (max u v)) μ:=rfl
theorem gQ {n:Nat}{d:D}{m:Int}{ks:List (List Int)} (h:jy d m ks):d.low n:=by
 obtain ⟨rfl,_⟩:=h
 simp
 exact lW.mpr fun x hx=>by
  obtain ⟨k,_,rfl⟩:=N0.mp hx
  simp [aq]
  exact lW.mpr (by simp)
theorem ie {lo:Int}{n:Nat}:bM lo (n+1)=.int lo::bM (lo+1) n:=by
 unfold bM
 rw [NP,Nb,NQ]
 congr 1
 ·simp
 ·apply NR
  intro i _
  simp only [Function.comp_apply]
  congr 1
  omega
theorem jc {lo:Int}:bM lo 0=[]:=rfl
theorem pG {lo:Int}{n:Nat} (h:bM lo n=[]):n=0:=by
 cases n with
 | zero=>rfl
 | succ n=>rw [ie] at h;cases h
theorem uZ {x:D}:∀ k:Nat,(List.replicate k [x]).flatten=List.replicate k x
 | 0=>rfl
 | k+1=>by rw [Nk,Nl,uZ k];rfl
theorem l1:(1:Nat)<=sizeLine:=by decide
end Lw
namespace Lw
open PySem L2 RS Lv
def zO:Option Nat->D
 | none=>.non
 | some n=>.int n
def fe (m:Nat) (f:Int->Option Nat):List D:=(List.range m).map fun q:Nat=>zO (f q)
theorem uC {m:Nat}{f:Int->Option Nat}{q:Int} (q0:0<=q) (q1:q<m):atI (fe m f) q=some (zO (f q)):=by
 refine wq q0 ?_
 unfold fe
 rw [Ms,OU (by omega)]
 simp only [Option.map_some,Om q0]
theorem uB {m:Nat}{f:Int->Option Nat}{q:Int}{v:Nat} (q0:0<=q) (q1:q<m):(fe m f).set q.toNat (.int v)=fe m (oH f q v):=by
 unfold fe
 apply OT
 intro i
 rw [List.getElem?_set,Mw,NS,Ms,Ms]
 by_cases e:q.toNat=i
 ·rw [Lp e, Lp (by omega), OU (by omega), <- e]
  simp only [Option.map_some,Om q0,oH,Lp rfl]
  rfl
 ·rw [Lq e]
  by_cases hi:i<m
  ·rw [OU hi]
   simp only [Option.map_some,oH]
   rw [Lq (by omega)]
  ·rw [OV (by rw [NS]; omega)]
   rfl
def zQ (ks:List (List Int)):List (Int × Int):=ks.flatMap fun k=>match k with
 | [u,v]=>[(u,v),(v,u)]
 | _=>[]
def ij (ks:List (List Int)) (a b:Int):Prop:=(a,b)∈zQ ks
theorem rp {o:Option Nat}:(zO o).isNon=decide (o=none):=by
 cases o <;> rfl
section
variable {μ0 μ:aw}{m a:Nat}{web:D}{M p u v q r:Int}{n:Nat}{T:Int->Int->Option Nat}{f:Int->Option Nat}
theorem iM {ks:List (List Int)} (hk:∀ k∈ks,qr m k) {x y:Int} (h:ij ks x y):(0<=x/\x<m)/\(0<=y/\y<m):=by
 unfold ij zQ at h
 obtain ⟨k,hk',hm⟩:=PD.mp h
 obtain ⟨u,v,rfl,u0,uv,v1⟩:=hk k hk'
 simp at hm
 omega
end
theorem yG {m:Nat}:fe m (fun _=>none)=List.replicate m .non:=by
 unfold fe zO
 rw [List.map_const',NS]
def Im (k:Int):Option Nat->Bool
 | some j=>decide ((j:Int)<=k)
 | none=>false
def jK (T:Int->Int->Option Nat) (k p lo:Int) (c:Nat):List (List Int):=(((List.range c).map fun i:Nat=>lo+(i:Int)).filter fun q=>Im k (T p q)).map fun q=>[p,q]
def Cd (m:Nat) (T:Int->Int->Option Nat) (k:Int):List (List Int):=(List.range m).flatMap fun p:Nat=>jK T k p ((p:Int)+1) (m - (p+1))
theorem uA {T:Int->Int->Option Nat}{k p lo:Int}{c:Nat}:(jK T k p lo c).length<=c:=by
 unfold jK
 rw [Mw]
 refine LB (PF _ _) ?_
 rw [Mw,NS]
 exact L9 _
theorem pF {T:Int->Int->Option Nat}{k p lo:Int}{c:Nat}{x:List Int} (h:x∈jK T k p lo c):∃ q:Int,x=[p,q]/\lo<=q/\q<lo+c:=by
 unfold jK at h
 obtain ⟨q,hq,rfl⟩:=N0.mp h
 obtain ⟨hq,_⟩:=Lz.mp hq
 obtain ⟨i,hi,rfl⟩:=N0.mp hq
 rw [LA] at hi
 exact ⟨_,rfl,by omega,by omega⟩
theorem Dn {T:Int->Int->Option Nat}{k p lo:Int}{c:Nat}:(jK T k p lo c).Pairwise fun a b=>jI a<jI b:=by
 unfold jK
 rw [OW]
 apply List.Pairwise.filter
 rw [OW]
 exact Oi.imp fun {a b} h=>by show p * 6+(lo+(a:Int))<p * 6+(lo+(b:Int));omega
theorem uu {m:Nat}{T:Int->Int->Option Nat}{k:Int} (h0:1<=m) (h1:m<=6):jy (.tup [.int m,.tup ((Cd m T k).map aq)]) m (Cd m T k):=by
 refine ⟨rfl,by omega,by omega,?_,fun x hx=>?_⟩
 ·unfold Cd
  rw [List.pairwise_flatMap]
  refine ⟨fun p _=>Dn,?_⟩
  refine Pw (R:=(·<·)) ?_ Oi
  intro a b ha hb hab x hx y hy
  rw [LA] at ha hb
  obtain ⟨q,rfl,q0,q1⟩:=pF hx
  obtain ⟨r,rfl,r0,r1⟩:=pF hy
  show (a:Int) * 6+q<(b:Int) * 6+r
  omega
 ·unfold Cd at hx
  obtain ⟨p,hp,hx⟩:=PD.mp hx
  rw [LA] at hp
  obtain ⟨q,rfl,q0,q1⟩:=pF hx
  exact ⟨_,_,rfl,by omega,by omega,by omega⟩
theorem Bl {T:Int->Int->Option Nat}{k p lo:Int}{c:Nat}:((bM lo c).filter fun d=>match d with | .int q=>Im k (T p q) | _=>false).map (fun d=>match d with | .int q=>aq [p,q] | _=>.non)=(jK T k p lo c).map aq:=by
 unfold bM jK
 rw [PH,NQ,PH,NQ,NQ]
 rfl
section
variable {μ0 μ:aw}{m a:Nat}{p q:Int}{k:Int}{T:Int->Int->Option Nat}
end
theorem lX {m:Nat}{T:Int->Int->Option Nat}{k:Int} (h:m<=6):∀ n,((List.range n).flatMap fun p:Nat=>jK T k p ((p:Int)+1) (m - (p+1))).length<=6 * n
 | 0=>by simp
 | n+1=>by
  rw [PJ,PL,Mv]
  have:=lX (T:=T) (k:=k) h n
  have h2:=uA (T:=T) (k:=k) (p:=n) (lo:=(n:Int)+1) (c:=m - (n+1))
  simp only [PM,PN,Mg]
  omega
theorem uV {μ:aw}:∀ fs:List Int,iH μ (fs.map D.int)=some (fs.map PyData.int)
 | []=>rfl
 | x::fs=>by simp only [Nb,iH,uV fs];rfl
theorem uX:∀ fs:List Int,PyData.canLayAll0 (fs.map PyData.int)=true/\PyData.depthAll (fs.map PyData.int)=0
 | []=>by simp [PyData.canLayAll0,PyData.depthAll]
 | x::fs=>by
  have:=uX fs
  simp only [Nb,PyData.canLayAll0,PyData.depthAll,PyData.canLay0,PyData.depth,this.1,this.2]
  exact ⟨rfl,rfl⟩
theorem xS {μ:aw}{F:Nat}{fs:List Int}{a:Int} (h:μ[F]?=some (.lst (fs.map D.int))):vJ false (.int a) (.obj F) μ=.ok (.bl (decide (a∈fs))) μ:=by
 have e1:tI μ (.int a)=some (.int a):=rfl
 have e2:tI μ (.obj F)=some (.list (fs.map PyData.int)):=by
  unfold tI
  dsimp only
  rw [h]
  dsimp only
  rw [uV]
  rfl
 have f1:gK (.int a)=true:=rfl
 have f2:gK (.list (fs.map PyData.int))=true:=by
  have:=uX fs
  simp only [gK,PyData.canLay0,this.1,PyData.depth,this.2,PQ]
  rfl
 unfold vJ
 rw [e1,e2]
 dsimp only [v9]
 rw [Lp ⟨f1,f2⟩]
 simp only [NC,MH]
 congr 2
 rw [List.any_map]
 apply Md.mpr
 rw [List.any_eq_true,Pe]
 constructor
 ·rintro ⟨x, hx, e⟩
  have:x=a:=by simpa [PyData.eqv] using e
  subst this;exact hx
 ·intro hx
  exact ⟨a,hx,by simp [PyData.eqv]⟩
theorem iN {m:Int}{ks:List (List Int)} (hk:∀ k∈ks,qr m k) {a b:Int}:ij ks a b↔([a,b]∈ks\/[b,a]∈ks):=by
 unfold ij zQ
 rw [PD]
 constructor
 ·rintro ⟨k, hk', hm⟩
  obtain ⟨u,v,rfl,_⟩:=hk k hk'
  simp at hm
  rcases hm with ⟨rfl,rfl⟩ | ⟨rfl,rfl⟩
  ·exact .inl hk'
  ·exact .inr hk'
 ·rintro (h | h)
  ·exact ⟨_,h,by simp⟩
  ·exact ⟨_,h,by simp⟩
theorem mQ {m:Int}{t e:List Int->Int}:∀ {ks:List (List Int)},(∀ k∈ks,qr m k)->∀ (P:Int->Bool),∃ l:List Int,
  ((ks.map aq).filter (fun d=>match d with | .tup [.int a,.int b]=>P (t [a,b]) | _=>false)).map (fun d=>match d with | .tup [.int a,.int b]=>.int (e [a,b]) | _=>.non)=l.map D.int/\l.length<=ks.length/\∀ x,x∈l↔∃ k∈ks,P (t k)=true/\x=e k
 | [],_,P=>⟨[],rfl,L9 _,by simp⟩
 | k::ks,h,P=>by
  obtain ⟨l,e1,e2,e3⟩:=mQ (t:=t) (e:=e) (ks:=ks) (fun x hx=>h x (LG _ hx)) P
  obtain ⟨a,b,rfl,_⟩:=h k LF
  rw [Nb,Pr]
  show ∃ l:List Int,List.map _ (if P (t [a,b])=true then _ else _)=_/\_
  by_cases c:P (t [a,b])=true
  ·rw [Lp c, Nb, e1]
   refine ⟨e [a,b]::l,rfl,by simp;omega,fun x=>?_⟩
   simp only [LH,e3]
   constructor
   ·rintro (rfl | ⟨k, hk, z⟩)
    ·exact ⟨[a,b],.inl rfl,c,rfl⟩
    ·exact ⟨k,.inr hk,z⟩
   ·rintro ⟨k, rfl | hk, z1, z2⟩
    ·exact .inl z2
    ·exact .inr ⟨k,hk,z1,z2⟩
  ·rw [Lq c, e1]
   refine ⟨l,rfl,by simp;omega,fun x=>?_⟩
   simp only [LH,e3]
   constructor
   ·rintro ⟨k,hk,z⟩;exact ⟨k,.inr hk,z⟩
   ·rintro ⟨k, rfl | hk, z1, z2⟩
    ·exact absurd z1 c
    ·exact ⟨k,hk,z1,z2⟩
def Cv:List Int->Int
 | [a,_]=>a
 | _=>0
def Cs:List Int->Int
 | [_,b]=>b
 | _=>0
theorem A8 {μ:aw}{m:Int}{F:Nat}{fs:List Int}{ks:List (List Int)} (hk:∀ k∈ks,qr m k) (hl:ks.length<=15) (h:μ[F]?=some (.lst (fs.map D.int))) :
  ∃ (t:Nat) (g:aw) (ns:List Int),eR [.tup (ks.map aq),.obj F] μ=.ok (.obj t) (μ++g)/\(μ++g)[t]?=some (.lst (ns.map D.int))/\ns.length<=30/\μ.length<=t/\∀ q,q∈ns↔∃ r∈fs,ij ks r q:=by
 obtain ⟨l1,a1,a2,a3⟩:=mQ (t:=Cv) (e:=Cs) hk fun x=>decide (x∈fs)
 obtain ⟨l2',b1,b2,b3⟩:=mQ (t:=Cs) (e:=Cv) hk fun x=>decide (x∈fs)
 have c1:=dX (src:=.fix (ks.map aq)) (g:=fu 2 (bt (ao 0) (bt (ao 1) (fv)))) (t:=g6) (e:=jB) (μ1:=μ)
  (q:=fun d=>match d with | .tup [.int a,.int b]=>decide (Cv [a,b]∈fs) | _=>false) (h:=fun d=>match d with | .tup [.int a,.int b]=>.int (Cs [a,b]) | _=>.non)
  (fun ρ=>∃ o1 o2,ρ=[o1,o2,some (.obj F)]) (fun _=>trivial) (xs:=ks.map aq) (acc:=[]) (ρ:=[none,none,some (.obj F)]) ⟨_,_,rfl⟩
  (by rw [Mw,NT];exact LB (by omega) bS)
  (fun x hx a ρ hJJ => by
   obtain ⟨o1,o2,ho⟩:=hJJ
   obtain ⟨k,hk',rfl⟩:=N0.mp hx
   obtain ⟨u,v,rfl,_⟩:=hk k hk'
   subst ho
   refine ⟨[some (.int u),some (.int v),some (.obj F)],⟨_,_,rfl⟩,rfl,?_,fun _=>rfl⟩
   unfold g6
   simp only [eG,aJ,aj,ag,aa,ai]
   rw [xS (aN h)]
   rfl)
 have c2:=fun M:aw=>fun hM:M[F]?=some (.lst (fs.map D.int))=>dX (src:=.fix (ks.map aq)) (g:=fu 2 (bt (ao 0) (bt (ao 1) (fv)))) (t:=g5) (e:=jA) (μ1:=M)
  (q:=fun d=>match d with | .tup [.int a,.int b]=>decide (Cs [a,b]∈fs) | _=>false) (h:=fun d=>match d with | .tup [.int a,.int b]=>.int (Cv [a,b]) | _=>.non)
  (fun ρ=>∃ o1 o2,ρ=[o1,o2,some (.obj F)]) (fun _=>trivial) (xs:=ks.map aq) (acc:=[]) (ρ:=[none,none,some (.obj F)]) ⟨_,_,rfl⟩
  (by rw [Mw,NT];exact LB (by omega) bS)
  (fun x hx a ρ hJJ => by
   obtain ⟨o1,o2,ho⟩:=hJJ
   obtain ⟨k,hk',rfl⟩:=N0.mp hx
   obtain ⟨u,v,rfl,_⟩:=hk k hk'
   subst ho
   refine ⟨[some (.int u),some (.int v),some (.obj F)],⟨_,_,rfl⟩,rfl,?_,fun _=>rfl⟩
   unfold g5
   simp only [eG,aJ,aj,ag,aa,ai]
   rw [xS (aN hM)]
   rfl)
 rw [Ny,a1] at c1
 have c2':=c2 (μ++[O.lst (l1.map D.int)]) (aN h)
 rw [Ny,b1] at c2'
 refine ⟨((μ++[O.lst (l1.map D.int)])++[O.lst (l2'.map D.int)]).length,([O.lst (l1.map D.int)]++[O.lst (l2'.map D.int)])++[O.lst ((l1++l2').map D.int)],l1++l2',?_,?_,by rw [Mv];omega,by simp,fun q=>?_⟩
 ·unfold eR
  rw [cf]
  simp only [kP,bc,aJ,dq,dm,ag,aa,ai,ko,bD,List.replicate]
  rw [show gX [none,none,some 1] (some (D.tup (List.map aq ks))::some (D.obj F)::List.replicate (2 - 2) none)=[none,none,some (.obj F)] from rfl,c1]
  simp only [aa,ai]
  rw [c2']
  simp only [aa,ai]
  have ad:cJ (.obj μ.length) (.obj (μ++[O.lst (l1.map D.int)]).length) ((μ++[O.lst (l1.map D.int)])++[O.lst (l2'.map D.int)])=.ok (.obj ((μ++[O.lst (l1.map D.int)])++[O.lst (l2'.map D.int)]).length) (((μ++[O.lst (l1.map D.int)])++[O.lst (l2'.map D.int)])++[O.lst ((l1++l2').map D.int)]):=by
   unfold cJ
   dsimp only
   rw [aD,aN aD]
   dsimp only
   rw [Lp,N7]
   rw [Mw,Mw]
   exact LB (show _<=1000 by omega) bS
  rw [ad,ae,aW,ud (by simp)]
  simp only [Np]
 ·rw [<- Np,<- Np];exact aD
 ·rw [LJ, a3, b3]
  constructor
  ·rintro (⟨k, hk', z1, z2⟩ | ⟨k, hk', z1, z2⟩)
   ·obtain ⟨u, v, rfl, _⟩ := hk k hk'
    subst z2
    exact ⟨u,PR z1,(iN hk).mpr (.inl hk')⟩
   ·obtain ⟨u, v, rfl, _⟩ := hk k hk'
    subst z2
    exact ⟨v,PR z1,(iN hk).mpr (.inr hk')⟩
  ·rintro ⟨r, hr, ha⟩
   rcases (iN hk).mp ha with z | z
   ·exact .inl ⟨_,z,Nz hr,rfl⟩
   ·exact .inr ⟨_,z,Nz hr,rfl⟩
theorem pM {μ:aw}{i j:Nat}{o o':O} (h:μ[j]?=some o') (ne:i≠j):(μ.set i o)[j]?=some o':=by rw [LO ne];exact h
def iI (k:List Int):PyData:=.tuple (k.map PyData.int)
theorem rf {μ:aw}{m:Int}:∀ {ks:List (List Int)},(∀ k∈ks,qr m k)->iH μ (ks.map aq)=some (ks.map iI)
 | [],_=>rfl
 | k::ks,h=>by
  obtain ⟨a,b,rfl,_⟩:=h k LF
  have ih:=rf (μ:=μ) fun x hx=>h x (LG _ hx)
  simp only [Nb,iH,ih]
  rfl
theorem mM {μ:aw}{m:Int}:∀ {ks:List (List Int)},(∀ k∈ks,qr m k)->toPs μ (ks.map aq)=some (ks.map iI)
 | [],_=>rfl
 | k::ks,h=>by
  obtain ⟨a,b,rfl,_⟩:=h k LF
  have ih:=mM (μ:=μ) fun x hx=>h x (LG _ hx)
  simp only [Nb,toPs,ih]
  rfl
theorem mO {m:Int}:∀ {ks:List (List Int)},(∀ k∈ks,qr m k)->PyData.canLayAll0 (ks.map iI)=true/\PyData.depthAll (ks.map iI)<=1
 | [],_=>by simp [PyData.canLayAll0,PyData.depthAll]
 | k::ks,h=>by
  obtain ⟨a,b,rfl,_⟩:=h k LF
  have ih:=mO fun x hx=>h x (LG _ hx)
  simp only [Nb,PyData.canLayAll0,PyData.depthAll,ih.1,iI,Na,PyData.canLay0,PyData.depth]
  refine ⟨rfl,?_⟩
  have:=ih.2
  omega
def vR (m:Int) (ks:List (List Int)):PyData:=.tuple [.int m,.tuple (ks.map iI)]
theorem n6 {μ:aw}{d:D}{m:Int}{ks:List (List Int)} (h:jy d m ks):tI μ d=some (vR m ks):=by
 obtain ⟨rfl,_,_,_,hk⟩:=h
 have e:vN μ (.tup (ks.map aq))=some (.tuple (ks.map iI)):=by
  simp only [vN,mM hk,Option.map_some]
 unfold tI
 dsimp only
 simp only [iH,zI,vN,e,mM hk,Option.map_some,NJ]
 rfl
theorem oa {d:D}{m:Int}{ks:List (List Int)} (h:jy d m ks):gK (vR m ks)=true:=by
 obtain ⟨_,_,_,_,hk⟩:=h
 have:=mO hk
 simp only [gK,vR,PyData.canLay0,PyData.canLayAll0,this.1,PyData.depth,PyData.depthAll,PQ,PU]
 exact Nz (by have:=this.2;omega)
end Lw
namespace Lw
open PySem L2 RS
def Pn (μ0:aw) (i:Nat) (μ:aw):Prop:=∃ a b c g,μ=μ0.set i (bZ a b c)++g
theorem Pn.app {μ0 μ g:aw}{i:Nat} (h:Pn μ0 i μ):Pn μ0 i (μ++g):=by
 obtain ⟨a,b,c,g',rfl⟩:=h
 exact ⟨a,b,c,g'++g,by rw [Np]⟩
theorem Pn.get {μ0 μ:aw}{i:Nat} (h:Pn μ0 i μ) (hi:i<μ0.length):∃ a b c,μ[i]?=some (bZ a b c):=by
 obtain ⟨a,b,c,g',rfl⟩:=h
 exact ⟨a,b,c,aN (dS hi)⟩
theorem Pn.set {μ0 μ:aw}{i:Nat}{a b c:Int} (h:Pn μ0 i μ) (hi:i<μ0.length):Pn μ0 i (μ.set i (bZ a b c)):=by
 obtain ⟨a',b',c',g',rfl⟩:=h
 exact ⟨a,b,c,g',by rw [xC (by simpa using hi),List.set_set]⟩
theorem Pn.len {μ0 μ:aw}{i:Nat} (h:Pn μ0 i μ):μ0.length<=μ.length:=by
 obtain ⟨a',b',c',g',rfl⟩:=h
 simp
theorem Pn.self {μ0:aw}{i:Nat}{a b c:Int} (h:μ0[i]?=some (bZ a b c)):Pn μ0 i μ0:=by
 refine ⟨a,b,c,[],?_⟩
 rw [Mg]
 apply OT
 intro j
 by_cases e:i=j
 ·subst e;rw [dS (LL.mp h).1,h]
 ·rw [LO e]
theorem Pn.draw {μ0 μ:aw}{i:Nat}{m:Int} (h:Pn μ0 i μ) (hi:i<μ0.length) (h0:0<m) (h1:m<1073741824) :
  ∃ r a b c:Int,0<=r/\r<m/\aE [.obj i,.int m] μ=.ok (.int r) (μ.set i (bZ a b c))/\Pn μ0 i (μ.set i (bZ a b c)):=by
 obtain ⟨a,b,c,hp⟩:=h.get hi
 obtain ⟨r,a',b',c',r0,r1,e⟩:=su hp h0 h1
 exact ⟨r,a',b',c',r0,r1,e,h.set hi⟩
theorem Pn.gc {μ0 μ:aw}{i:Nat}{d:D} (h:Pn μ0 i μ) (hd:d.low μ0.length):∃ a b c,oG μ0 (.ok d μ)=.ok d (μ0.set i (bZ a b c)):=by
 obtain ⟨a,b,c,g',rfl⟩:=h
 exact ⟨a,b,c,AK hd sC⟩
theorem yP {m:Int}{ks:List (List Int)} (h:∀ k∈ks,qr m k):gK (.tuple (ks.map iI))=true:=by
 have:=mO h
 simp only [gK,PyData.canLay0,this.1,PyData.depth,PQ]
 exact Nz (by omega)
theorem AV {β:Type}{xs:List β}{r:Nat} (h:r<=xs.length):jM xs none (some (r:Int))=xs.take r:=by
 unfold jM
 rw [HT.sIx_none,HT.sIx_nat]
 simp [Nat.min_eq_left h]
end Lw
namespace Lv
def rg (m:Nat):List Int:=(List.range m).map Int.ofNat
theorem Hk {m:Nat}{p:Int}:p∈rg m↔0<=p/\p<m:=by
 unfold rg
 rw [N0]
 constructor
 ·rintro ⟨i, hi, rfl⟩
  have:=LA.mp hi
  exact ⟨Int.natCast_nonneg _,by simpa using this⟩
 ·rintro ⟨h0, h1⟩
  exact ⟨p.toNat,LA.mpr (by omega),by simp;omega⟩
theorem Az {m:Nat}:(rg m).length=m:=by simp [rg]
structure Lj (m k:Nat) (w:List Int):Prop where
 len:w.length=k+1
 nd:w.Nodup
 rng:∀ p∈w,0<=p/\p<(m:Int)
theorem lX {m:Nat}{f:List Int->List (List Int)} (h:∀ w,(f w).length<=m):∀ l:List (List Int),(l.flatMap f).length<=l.length * m
 | []=>by simp
 | w::l=>by
  rw [PM,Mv,ND,Nv]
  have:=h w;have:=lX h l;omega
end Lv
namespace Lw
open PySem L2 RS Lv
theorem eM {U:Type}{en:U->D}{src:qq}{g:MG}{t:MT}{e:ME}{μ1:aw}{q:U->Bool}{h:U->D} (R:Ro->Prop) (ho:∀ a,cA src (μ1++[.lst a])) :
  ∀ {us:List U}{acc:List D}{ρ:Ro},R ρ->acc.length+us.length<=sizeLine->(∀ x∈us,∀ a ρ,R ρ->∃ ρ1,R ρ1/\g (en x) ρ (μ1++[.lst a])=.ok ρ1 (μ1++[.lst a])/\t ρ1 (μ1++[.lst a])=.ok (q x) (μ1++[.lst a])/\(q x=true->e ρ1 (μ1++[.lst a])=.ok (h x) (μ1++[.lst a]))) ->
   compLoop src μ1.length g t e (us.map en) ρ (μ1++[.lst acc])=.ok (.obj μ1.length) (μ1++[.lst (acc++(us.filter q).map h)])
 | [],acc,ρ,hr,hl,he=>by
  rw [Na]
  unfold compLoop
  rw [Lp (ho acc)]
  simp
 | x::xs,acc,ρ,hr,hl,he=>by
  obtain ⟨ρ1,r1,e1,e2,e3⟩:=he x LF acc ρ hr
  rw [Nb]
  unfold compLoop
  rw [Lp (ho acc),e1]
  simp only [ai,aa]
  rw [e2]
  simp only [ai,aa]
  have he':=fun y hy=>he y (LG _ hy)
  simp only [ND] at hl
  cases hq:q x with
  | false=>
   rw [Lq LZ,eM R ho r1 (by omega) he',Pr,hq]
   rfl
  | true=>
   rw [Lp rfl,e3 hq]
   simp only [ai,aa]
   rw [mL (by omega)]
   simp only [aa,ai]
   rw [eM R ho r1 (by simp;omega) he',Pr,hq]
   simp
theorem j3 {U:Type}:∀ {us:List U},us.filter (fun _=>true)=us
 | []=>rfl
 | _::us=>by rw [Pr,Lp rfl,j3]
def Io:D->Bool
 | .int _=>true
 | _=>false
def Cf (m:Nat):D->Bool
 | .int i=>decide (0<=i/\i<(m:Int))
 | _=>false
def Cm (μ:aw) (d:D):Prop:=vM μ d≠none
theorem xM {μ:aw}{n:Nat} (h:Cm μ (.obj n)):(∃ xs,μ[n]?=some (.lst xs))\/μ[n]?=some .dic:=by
 unfold Cm vM at h
 dsimp only at h
 split at h
 ·rename_i xs e;exact .inl ⟨xs,e⟩
 ·rename_i e;exact .inr e
 ·exact absurd rfl h
theorem Eb {μ:aw}{d:D} (h:Cm μ d):∃ b,fH "int" d μ=.ok (.bl b) μ/\(b=true->∃ c,fH "bool" d μ=.ok (.bl c) μ/\(!c)=Io d)/\(b=false->Io d=false):=by
 cases d with
 | non=>exact ⟨false,rfl,nofun,fun _=>rfl⟩
 | bl b=>exact ⟨true,rfl,fun _=>⟨true,rfl,rfl⟩,nofun⟩
 | int i=>exact ⟨true,rfl,fun _=>⟨false,rfl,rfl⟩,nofun⟩
 | str x=>exact ⟨false,rfl,nofun,fun _=>rfl⟩
 | tup xs=>exact ⟨false,rfl,nofun,fun _=>rfl⟩
 | frz xs=>exact ⟨false,rfl,nofun,fun _=>rfl⟩
 | obj n=>
  refine ⟨false,?_,nofun,fun _=>rfl⟩
  unfold fH vM
  rcases xM h with ⟨xs,e⟩ | e <;> simp only [e] <;> rfl
theorem A4 {μ:aw}{d:D} (h:Cm μ d):cW [d] μ=.ok (.bl (Io d)) μ:=by
 obtain ⟨b,h1,h2,h3⟩:=Eb h
 unfold cW
 rw [eE]
 simp only [ju,List.replicate,bc,eT,xX,jw,ag,aa,ai,h1,bj]
 cases b with
 | false=>
  rw [Lq LZ,ae,aW,h3 rfl]
  exact aI (by simp)
 | true=>
  obtain ⟨c,c1,c2⟩:=h2 rfl
  rw [Lp rfl,c1]
  simp only [aa,ai,bj,ae,aW,c2]
  exact aI (by simp)
theorem A7 {μ:aw}{m:Nat}{d:D} (h:Cm μ d):fm [.int m,d] μ=.ok (.bl (Cf m d)) μ:=by
 have hw:aY [d,.int 0,.int ((m:Int) - 1)] μ=.ok (.bl (Cf m d)) μ:=by
  unfold aY
  rw [jj]
  simp only [eZ,List.replicate,bc,eT,aB,au,az,ag,aj,aa,ai,A4 h,bj,u7]
  cases d with
  | int i=>
   rw [show Io (.int i)=true from rfl,Lp rfl]
   simp only [gA,aa,ai,bj]
   by_cases c:cq .LtE 0 i=true
   ·rw [Lp c, ae, aW]
    rw [show cq .LtE i ((m:Int) - 1)=Cf m (.int i) from by
     have c':(0:Int)<=i:=PR c
     show decide (i<=(m:Int) - 1)=decide (0<=i/\i<(m:Int))
     exact OR.mpr ⟨fun z=>⟨c',by omega⟩,fun z=>by omega⟩]
    exact aI (by simp)
   ·rw [Lq c, ae, aW]
    rw [show Cf m (.int i)=false from by
     have c':¬ (0:Int)<=i:=fun z=>c (Nz z)
     exact Lm (fun z=>c' z.1)]
    exact aI (by simp)
  | _=>
   rw [show Io _=false from rfl,Lq LZ,ae,aW]
   exact aI (by simp)
 unfold fm
 rw [cf]
 simp only [lp,List.replicate,bc,aB,au,az,ag,aj,bh,aJ,aa,ai]
 rw [show i5 (.int m) (.int 1) μ=.ok (.int ((m:Int) - 1)) μ from rfl]
 simp only [aa,ai,hw,ae,aW]
 exact aI (by simp)
theorem BJ {μ g:aw}{d:D} (h:Cm μ d):Cm (μ++g) d:=by
 cases d with
 | obj n=>
  unfold Cm vM
  rcases xM h with ⟨xs,e⟩ | e <;> simp only [aN e] <;> exact nofun
 | _=>exact h
theorem Av:100000<=sizeLine:=by decide
theorem wC {μ:aw}{m:Nat}{xs:List D} (h:∀ x∈xs,Cm μ x) (hl:xs.length<=1000):cT [.int m,.tup xs] μ=.ok (.bl (xs.all (Cf m))) μ:=by
 have c:=eM (U:=D) (en:=fun x=>x) (src:=.fix xs) (g:=ao 0) (t:=gN) (e:=gJ) (μ1:=μ) (q:=fun _=>true) (h:=fun x=>.bl (Cf m x)) (fun ρ=>∃ o,ρ=[o,some (.int m)]) (fun _=>trivial) (us:=xs) (acc:=[]) (ρ:=[none,some (.int m)]) ⟨_,rfl⟩
  (by rw [NT];exact LB (by omega) bS)
  (fun x hx a ρ hJJ => by
   obtain ⟨o,e⟩:=hJJ
   subst e
   refine ⟨[some x,some (.int m)],⟨_,rfl⟩,rfl,rfl,fun _=>?_⟩
   unfold gJ
   simp only [aB,au,az,aj,ag,aa,ai,A7 (BJ (h x hx))])
 rw [List.map_id',Ny,j3] at c
 unfold cT
 rw [cf]
 simp only [j8,List.replicate,bc,eT,jw,aj,ag,aa,ai]
 rw [show fH "tuple" (.tup xs) μ=.ok (.bl true) μ from rfl]
 simp only [aa,ai,bj,MJ,aB,au,az,dq,dm,aj,ag,ko,bD]
 rw [show gX [none,some 0] _=[none,some (.int m)] from rfl,c]
 simp only [aa,ai]
 rw [kv (bs:=xs.map (Cf m)) (by rw [aD,NQ];rfl)]
 simp only [ae,ai,aW]
 rw [show (xs.map (Cf m)).all id=xs.all (Cf m) from by rw [Pm];rfl]
 exact fK (by simp)
theorem BW {μ:aw}{m:Int}{ks:List (List Int)}{a b:Int} (hk:∀ k∈ks,qr m k):vJ false (.tup [.int a,.int b]) (.tup (ks.map aq)) μ=.ok (.bl (decide ([a,b]∈ks))) μ:=by
 have e1:tI μ (.tup [.int a,.int b])=some (.tuple [.int a,.int b]):=rfl
 have e2:tI μ (.tup (ks.map aq))=some (.tuple (ks.map iI)):=by
  simp only [tI,rf hk,Option.map_some]
 unfold vJ
 rw [e1,e2]
 dsimp only [v9]
 rw [Lp ⟨rfl,yP hk⟩]
 simp only [NC,MH]
 congr 2
 rw [List.any_map]
 apply Md.mpr
 rw [List.any_eq_true,Pe]
 constructor
 ·rintro ⟨k, hk', e⟩
  obtain ⟨u,v,rfl,_⟩:=hk k hk'
  have:u=a/\v=b:=by simpa [iI,PyData.eqv,PyData.eqvAll] using e
  rw [<- this.1,<- this.2];exact hk'
 ·intro h
  exact ⟨_,h,by simp [iI,PyData.eqv,PyData.eqvAll]⟩
theorem JD {μ:aw}{a b:Int}:yk [.int a,.int b] μ=.ok (.int (min a b)) μ:=by
 show ak.ok (D.int (if b<a then b else a)) μ=_
 congr 2
 split <;> omega
theorem JE {μ:aw}{a b:Int}:tR [.int a,.int b] μ=.ok (.int (max a b)) μ:=by
 show ak.ok (D.int (if b > a then b else a)) μ=_
 congr 2
 split <;> omega
theorem Gq {m:Nat}:bM 0 ((m:Int)).toNat=(rg m).map D.int:=by
 unfold bM rg
 rw [NQ]
 simp
theorem dN {f g:MS}{ρ ρ':Ro}{μ μ':aw} (h:f ρ μ=.next ρ' μ'):bp f g ρ μ=g ρ' μ':=by rw [aP,h,aC]
def rV (v:Nat) (f:Int->Option Nat) (qs:List Int):Int->Option Nat:=qs.foldl (fun f q=>oH f q v) f
theorem pS {v:Nat}:∀ (qs:List Int) (f:Int->Option Nat) (q:Int),rV v f qs q=if q∈qs then some v else f q
 | [],f,q=>by simp [rV]
 | x::qs,f,q=>by
  have:=pS (v:=v) qs (oH f x v) q
  unfold rV at this ⊢
  rw [Nq,this]
  by_cases h:q∈qs
  ·rw [Lp h,Lp (LG _ h)]
  ·rw [Lq h]
   unfold oH
   by_cases e:q=x
   ·rw [Lp e,Lp (by simp [e])]
   ·rw [Lq e,Lq (by simp [e,h])]
section
variable {μ0:aw}{m A:Nat}{p:Int}{ks:List (List Int)}{w:D}
theorem Ei {M:aw}{A t n:Nat}{f:Int->Option Nat}{fs:List Int}{o0 o1 o2 o3:Option D}{o7:Option D} (hA:M[A]?=some (.lst (fe m f))) (ht:M[t]?=some (.lst (fs.map D.int))) (hne:A≠t) (hfs:∀ q∈fs,0<=q/\q<(m:Int)) :
  ∃ o7',kE (i4 (ah 6)) (ao 7) eP [o0,o1,o2,o3,some (.obj A),some (.int n),some (.obj t),o7] M=.next [o0,o1,o2,o3,some (.obj A),some (.int n),some (.obj t),o7'] (M.set A (.lst (fe m (rV n f fs)))):=by
 have hAl:A<M.length:=(LL.mp hA).1
 have run:=km (src:=.own t (fs.map D.int)) (g:=ao 7) (fb:=eP)
  (fun xs ρ μ1=>∃ ys zs:List Int,xs=zs.map D.int/\fs=ys++zs/\μ1=M.set A (.lst (fe m (rV n f ys)))/\∃ o7,ρ=[o0,o1,o2,o3,some (.obj A),some (.int n),some (.obj t),o7])
  (fun ρ μ1 ⟨ys,zs,_,_,e,_⟩=>by subst e;exact pM ht hne)
  (fun x xs ρ μ1 hJJ => by
   obtain ⟨ys,zs,hx,hf,e,o7,eρ⟩:=hJJ
   subst e eρ
   cases zs with
   | nil=>cases hx
   | cons z zs=>
    injection hx with h1 h2
    subst h1 h2
    have hz:=hfs z (by rw [hf];simp)
    have hlen:(fe m (rV n f ys)).length=m:=by unfold fe;rw [Mw,NS]
    refine ⟨pM ht hne,_,_,[o0,o1,o2,o3,some (.obj A),some (.int n),some (.obj t),some (.int z)],M.set A (.lst (fe m (rV n f (ys++[z])))),rfl,?_,ys++[z],zs,rfl,by rw [hf];simp,rfl,_,rfl⟩
    show eP [o0,o1,o2,o3,some (.obj A),some (.int n),some (.obj t),some (.int z)] _=_
    unfold eP
    simp only [aS,aj,ag,ae,kr,aa,ai]
    rw [lO (dS hAl) (pb hz.1 (by rw [hlen];exact hz.2)),uB hz.1 hz.2]
    simp only [aa,ai,ae,List.set_set]
    unfold rV
    rw [Oz]
    rfl)
  (xs:=fs.map D.int) (ρ:=[o0,o1,o2,o3,some (.obj A),some (.int n),some (.obj t),o7]) (μ:=M)
  ⟨[], fs, rfl, rfl, by
   apply OT
   intro j
   by_cases e:A=j
   ·subst e;rw [dS hAl,hA];rfl
   ·rw [LO e],_,rfl⟩
 obtain ⟨ρ',μ',⟨ys,zs,hx,hf,e,o7',eρ⟩,run⟩:=run
 subst e eρ
 have hz:zs=[]:=by cases zs with
  | nil=>rfl
  | cons=>cases hx
 subst hz
 rw [Mg] at hf
 subst hf
 refine ⟨o7',?_⟩
 simp only [iu,dm,aj,ag,aa,ai]
 rw [iL ht]
 simp only [ae,ai,fC]
 exact run
theorem Eh {M:aw}{A t n:Nat}{f:Int->Option Nat}{fs:List Int}{o0 o1 o2 o7:Option D} (hk:∀ k∈ks,qr m k) (hl:ks.length<=15) (hA:M[A]?=some (.lst (fe m f))) (ht:M[t]?=some (.lst (fs.map D.int))) (hne:A≠t)
  (hU:Up (ij ks) p (fun q=>0<=q/\q<m) n f) (hfs:∀ q,q∈fs↔((0<=q/\q<(m:Int))/\f q=some n)) :
  ∃ (t':Nat) (fs':List Int) (f':Int->Option Nat) (g:aw) (o7':Option D),eO [o0,o1,o2,some (.tup (ks.map aq)),some (.obj A),some (.int n),some (.obj t),o7] M=.next [o0,o1,o2,some (.tup (ks.map aq)),some (.obj A),some (.int ((n+1:Nat):Int)),some (.obj t'),o7'] ((M++g).set A (.lst (fe m f'))) /\
   (M++g)[t']?=some (.lst (fs'.map D.int))/\A≠t'/\Up (ij ks) p (fun q=>0<=q/\q<m) (n+1) f'/\∀ q,q∈fs'↔((0<=q/\q<(m:Int))/\f' q=some (n+1)):=by
 obtain ⟨s,g,ns,e1,e2,e3,e4,e5⟩:=A8 hk hl ht
 have hA':=aN (g:=g) hA
 have hAl:A<M.length:=(LL.mp hA).1
 have hnsD:∀ q∈ns,0<=q/\q<(m:Int):=fun q hq=>by
  obtain ⟨r,_,ha⟩:=(e5 q).mp hq
  exact (iM hk ha).2
 have c:=dX (src:=.own s (ns.map D.int)) (g:=ao 0) (t:=iY) (e:=kO) (μ1:=M++g) (q:=fun d=>match d with | .int q=>decide (f q=none) | _=>false) (h:=fun d=>d)
  (fun ρ=>∃ o,ρ=[o,some (.obj A)]) (fun a=>aN e2) (xs:=ns.map D.int) (acc:=[]) (ρ:=[none,some (.obj A)]) ⟨_,rfl⟩
  (by rw [Mw,NT];exact LB (by omega) bS)
  (fun x hx a ρ hJJ => by
   obtain ⟨o,ho⟩:=hJJ
   obtain ⟨q,hq,rfl⟩:=N0.mp hx
   subst ho
   refine ⟨[some (.int q),some (.obj A)],⟨_,rfl⟩,rfl,?_,fun _=>rfl⟩
   unfold iY
   simp only [eG,aJ,aj,ag,bh,aa,ai]
   rw [dh (aN hA') (uC (hnsD q hq).1 (hnsD q hq).2)]
   simp only [aa,ai,AQ,rp,NC,MH,bj])
 have hfl:((ns.map D.int).filter fun d=>match d with | .int q=>decide (f q=none) | _=>false).map (fun d=>d)=(ns.filter fun q=>decide (f q=none)).map D.int:=by
  rw [List.map_id',PH]
  rfl
 rw [Ny,hfl] at c
 have hmem:∀ q,q∈(ns.filter fun q=>decide (f q=none))↔(f q=none/\∃ r,ij ks r q/\f r=some n):=fun q=>by
  rw [Lz,Pe,e5]
  constructor
  ·rintro ⟨⟨r, hr, ha⟩, hn⟩
   exact ⟨hn,r,ha,((hfs r).mp hr).2⟩
  ·rintro ⟨hn, r, ha, hr⟩
   exact ⟨⟨r,(hfs r).mpr ⟨(iM hk ha).1,hr⟩,ha⟩,hn⟩
 have hD':∀ q,q∈(ns.filter fun q=>decide (f q=none))->0<=q/\q<(m:Int):=fun q hq=>hnsD q (Lz.mp hq).1
 have hne':A≠(M++g).length:=by rw [Mv];omega
 obtain ⟨o7',er⟩:=Ei (m:=m) (n:=n+1) (f:=f) (fs:=ns.filter fun q=>decide (f q=none)) (o0:=o0) (o1:=o1) (o2:=o2) (o3:=some (.tup (ks.map aq))) (o7:=o7) (M:=(M++g)++[O.lst ((ns.filter fun q=>decide (f q=none)).map D.int)]) (aN hA') aD hne' hD'
 refine ⟨(M++g).length,ns.filter fun q=>decide (f q=none),rV (n+1) f (ns.filter fun q=>decide (f q=none)),g++[O.lst ((ns.filter fun q=>decide (f q=none)).map D.int)],o7',?_,by rw [<- Np];exact aD,hne',?_,fun q=>?_⟩
 ·unfold eO
  have s1:vT 5 oU (cC (.int 1)) [o0,o1,o2,some (.tup (ks.map aq)),some (.obj A),some (.int n),some (.obj t),o7] M=.next [o0,o1,o2,some (.tup (ks.map aq)),some (.obj A),some (.int ((n+1:Nat):Int)),some (.obj t),o7] M:=by
   push_cast;rfl
  rw [dN s1,aP,aS,dq,dm,aB]
  simp only [au,az,aj,ag,aa,ai,e1]
  rw [iL e2]
  simp only [aa,ai,fC]
  rw [show gX [none,some 4] [o0,o1,o2,some (.tup (ks.map aq)),some (.obj A),some (.int ((n+1:Nat):Int)),some (.obj t),o7]=[none,some (.obj A)] from rfl,c]
  simp only [ae,ai,br,Pz,PB,aC]
  rw [er,<- Np]
 ·refine hU.next (fun a b h => (iM hk h).1) fun q hq j => ?_
  rw [pS]
  by_cases hm:q∈ns.filter fun q=>decide (f q=none)
  ·rw [Lp hm]
   have:=(hmem q).mp hm
   constructor
   ·intro e;cases e;exact .inr ⟨this.1,rfl,this.2⟩
   ·rintro (z | ⟨_, z, _⟩)
    ·rw [this.1] at z;cases z
    ·rw [z]
  ·rw [Lq hm]
   constructor
   ·exact .inl
   ·rintro (z | ⟨z1, z2, z3⟩)
    ·exact z
    ·exact absurd ((hmem q).mpr ⟨z1,z3⟩) hm
 ·rw [pS]
  constructor
  ·intro hm
   exact ⟨hD' q hm,by rw [Lp hm]⟩
  ·rintro ⟨hq, z⟩
   by_cases hm:q∈ns.filter fun q=>decide (f q=none)
   ·exact hm
   ·rw [Lq hm] at z
    have:=((hU q hq (n+1)).mp z).1
    omega
end
theorem u6 {μ0:aw}{m A:Nat}{p:Int}{ks:List (List Int)}{o0 o1 o2:Option D} (hk:∀ k∈ks,qr m k) (hl:ks.length<=15) (hp:0<=p/\p<(m:Int)) (hA0:μ0.length<=A) :
  ∀ (c n:Nat) (f:Int->Option Nat) (fs:List Int) (M:aw) (t:Nat) (o7:Option D),M[A]?=some (.lst (fe m f))->M[t]?=some (.lst (fs.map D.int))->A≠t->Up (ij ks) p (fun q=>0<=q/\q<m) n f ->
   (∀ q,q∈fs↔((0<=q/\q<(m:Int))/\f q=some n))->(∀ i,i<μ0.length->M[i]?=μ0[i]?)->n<=m->m<n+c ->
   ∃ ρ' M' f',kW (ji (ah 6)) eO c [o0,o1,o2,some (.tup (ks.map aq)),some (.obj A),some (.int n),some (.obj t),o7] M=.next ρ' M'/\(∃ o5 o6 o7,ρ'=[o0,o1,o2,some (.tup (ks.map aq)),some (.obj A),o5,o6,o7]) /\
    M'[A]?=some (.lst (fe m f'))/\(∀ i,i<μ0.length->M'[i]?=μ0[i]?)/\oM (ij ks) p (fun q=>0<=q/\q<m) f'
 | 0,n,f,fs,M,t,o7,hA,ht,hne,hU,hfs,hpre,h1,h2=>by omega
 | c+1,n,f,fs,M,t,o7,hA,ht,hne,hU,hfs,hpre,h1,h2=>by
  have tr:ji (ah 6) [o0,o1,o2,some (.tup (ks.map aq)),some (.obj A),some (.int n),some (.obj t),o7] M=.ok (!(fs.map D.int).isEmpty) M:=by
   simp only [mF,aj,ag,aa,ai]
   unfold yh
   dsimp only
   rw [ht]
  unfold kW
  rw [tr,ae]
  cases fs with
  | nil=>
   refine ⟨_,M,f,rfl,⟨_,_,_,rfl⟩,hA,hpre,hU.full (fun a b h=>(iM hk h).2) fun q hq hl=>?_⟩
   obtain ⟨_,r,ha,hr⟩:=i8.mp hl
   have:=(hfs r).mpr ⟨(iM hk ha).1,(hU r (iM hk ha).1 n).mpr ⟨L9 _,hr⟩⟩
   cases this
  | cons x fs=>
   have hx:=(hfs x).mp LF
   have hnm:n<m:=Ho (m:=m) hp (fun a b h=>(iM hk h).2) ((hU x hx.1 n).mp hx.2).2
   obtain ⟨t',fs',f',g,o7',e,ht',hne',hU',hfs'⟩:=Eh (o0:=o0) (o1:=o1) (o2:=o2) (o7:=o7) hk hl hA ht hne hU hfs
   have hAl:A<(M++g).length:=by rw [Mv];have:=(LL.mp hA).1;omega
   rw [Lp (show (!(List.map D.int (x::fs)).isEmpty)=true from rfl),e,xO]
   exact u6 hk hl hp hA0 c (n+1) f' fs' ((M++g).set A (.lst (fe m f'))) t' o7' (dS hAl) (pM ht' hne') hne' hU' hfs' (fun i hi=>by
    rw [LO (by omega),Mr (by have:=(LL.mp hA).1;omega)];exact hpre i hi) (by omega) (by omega)
theorem xB {μ:aw}{m:Nat}{p:Int}{ks:List (List Int)} (h:jy (.tup [.int m,.tup (ks.map aq)]) m ks) (p0:0<=p) (p1:p<(m:Int)) :
  ∃ A μ' f,fE [.tup [.int m,.tup (ks.map aq)],.int p] μ=.ok (.obj A) (μ++μ')/\(μ++μ')[A]?=some (.lst (fe m f))/\μ.length<=A/\oM (ij ks) p (fun q=>0<=q/\q<m) f:=by
 have hlen:=dM h
 obtain ⟨_,h0,h1,hpw,hk⟩:=h
 have hm6:m<=6:=by omega
 let M0:aw:=(μ++[.lst [.non]])++[.lst (fe m fun _=>none)]
 have hM0:M0[(μ++[O.lst [.non]]).length]?=some (.lst (fe m fun _=>none)):=aD
 have hlen0:(fe m fun _=>none).length=m:=by unfold fe;rw [Mw,NS]
 let A:Nat:=(μ++[O.lst [.non]]).length
 have hAl:A<M0.length:=(LL.mp hM0).1
 let M1:aw:=M0.set A (.lst (fe m (oH (fun _=>none) p 0)))
 have hM1:M1[A]?=some (.lst (fe m (oH (fun _=>none) p 0))):=dS hAl
 have hpreM:∀ i,i<μ.length->(M1++[O.lst [.int p]])[i]?=μ[i]?:=fun i hi=>by
  have:i<M1.length:=by simp only [M1,M0,Nh,Mv];omega
  rw [Mr this]
  simp only [M1]
  rw [LO (by simp only [A,Mv];omega)]
  simp only [M0]
  rw [Np,Mr hi]
 obtain ⟨ρ',M',f',ew,⟨o5,o6,o7,eρ⟩,hA',hpre,hF⟩:=u6 (μ0:=μ) (o0:=some (.tup [.int m,.tup (ks.map aq)])) (o1:=some (.int p)) (o2:=some (.int m)) hk hlen ⟨p0,p1⟩ (show μ.length<=A by simp only [A,Mv];omega) 100 0 (oH (fun _=>none) p 0) [p] (M1++[O.lst [.int p]]) M1.length none
  (aN hM1) aD (by simp only [M1, Nh]; omega) (Et fun q _ => by unfold oH; rfl) (fun q => by
   unfold oH
   rw [NO]
   constructor
   ·rintro rfl;exact ⟨⟨p0,p1⟩,by rw [Lp rfl]⟩
   ·rintro ⟨_, z⟩
    by_cases e:q=p
    ·exact e
    ·rw [Lq e] at z;cases z) hpreM (by omega) (by omega)
 subst eρ
 obtain ⟨g,hg⟩:∃ g,M'=μ++g:=by
  refine ⟨M'.drop μ.length,?_⟩
  apply OT
  intro i
  by_cases hi:i<μ.length
  ·rw [Mr hi,hpre i hi]
  ·rw [Mp (by omega), Oc]
   congr 1;omega
 refine ⟨A,g,f',?_,by rw [<- hg];exact hA',by simp only [A,Mv];omega,hF⟩
 unfold fE
 rw [cf]
 have l2':[D.int m,D.tup (ks.map aq)].length=2:=rfl
 have s1:bA (ah 0) (fu 2 (bt (ao 2) (bt (ao 3) (fv)))) [some (.tup [.int m,.tup (ks.map aq)]),some (.int p),none,none,none,none,none,none] μ=.next [some (.tup [.int m,.tup (ks.map aq)]),some (.int p),some (.int m),some (.tup (ks.map aq)),none,none,none,none] μ:=by
  simp only [aS,ag,ae,Ej,Lp l2',B3,Ek,br,aa,ai,Pz,PB]
 have s2:bA (aA qx (g8 (af (cC .non) (aG))) (ah 2)) (ao 4) [some (.tup [.int m,.tup (ks.map aq)]),some (.int p),some (.int m),some (.tup (ks.map aq)),none,none,none,none] μ=.next [some (.tup [.int m,.tup (ks.map aq)]),some (.int p),some (.int m),some (.tup (ks.map aq)),some (.obj A),none,none,none] M0:=by
  simp only [aS,aJ,dH,au,az,bh,aa,ai,ND,NT,Lp l1,aj,ag]
  unfold qx
  dsimp only
  rw [aD]
  dsimp only
  have hz:(6:Nat)<=sizeLine:=by decide
  rw [Lp (by refine ⟨by omega,by omega,?_⟩;simp only [ND,NT];omega)]
  simp only [MD,uZ,ae,ai,br,Pz,PB,M0,A,yG]
 have s3:bA (cC (.int 0)) (kK (ah 4) (ah 1)) [some (.tup [.int m,.tup (ks.map aq)]),some (.int p),some (.int m),some (.tup (ks.map aq)),some (.obj A),none,none,none] M0=.next [some (.tup [.int m,.tup (ks.map aq)]),some (.int p),some (.int m),some (.tup (ks.map aq)),some (.obj A),none,none,none] M1:=by
  simp only [aS,bh,ae,kr,aj,ag,aa,ai]
  rw [lO hM0 (pb p0 (by rw [hlen0];exact p1)),show (D.int 0)=.int ((0:Nat):Int) from rfl,uB p0 p1]
  rfl
 have s4:bA (cC (.int 0)) (ao 5) [some (.tup [.int m,.tup (ks.map aq)]),some (.int p),some (.int m),some (.tup (ks.map aq)),some (.obj A),none,none,none] M1=.next [some (.tup [.int m,.tup (ks.map aq)]),some (.int p),some (.int m),some (.tup (ks.map aq)),some (.obj A),some (.int ((0:Nat):Int)),none,none] M1:=rfl
 have s5:bA (g8 (af (ah 1) (aG))) (ao 6) [some (.tup [.int m,.tup (ks.map aq)]),some (.int p),some (.int m),some (.tup (ks.map aq)),some (.obj A),some (.int ((0:Nat):Int)),none,none] M1=.next [some (.tup [.int m,.tup (ks.map aq)]),some (.int p),some (.int m),some (.tup (ks.map aq)),some (.obj A),some (.int ((0:Nat):Int)),some (.obj M1.length),none] (M1++[O.lst [.int p]]):=by
  simp only [aS,dH,au,az,aj,ag,aa,ai,ND,NT,Lp l1,ae,br,Pz,PB]
 unfold nK
 simp only [List.replicate]
 rw [dN s1,dN s2,dN s3,dN s4,dN s5,dN (show rZ 100 (ji (ah 6)) eO _ _=_ from ew)]
 simp only [bc,aj,ag,ae,ai,aW]
 rw [ud (by simp only [lI,A,Mv];omega),hg]
theorem qR {μ:aw}{k:Int} (h0:1<=k) (h1:k<=6):aY [.int k,.int 1,.int 6] μ=.ok (.bl true) μ:=by
 have w:cW [.int k] μ=.ok (.bl true) μ:=by
  unfold cW
  rw [eE]
  have e1:fH "int" (.int k) μ=.ok (.bl true) μ:=rfl
  have e2:fH "bool" (.int k) μ=.ok (.bl false) μ:=rfl
  simp only [ju,bc,eT,jw,xX,ag,aa,ai,e1,e2,bj,MJ,Oy,ae,aW]
  exact aI (by simp)
 unfold aY
 rw [jj]
 simp only [eZ,bc,eT,aB,au,az,aj,ag,aa,ai,w,bj,MJ,u7,gA]
 rw [show cq .LtE 1 k=true from Nz h0,show cq .LtE k 6=true from Nz h1]
 simp only [bj,aa,ai,MJ,ae,aW]
 exact aI (by simp)
theorem Gp {m:Nat}{f g:Int->Option Nat} (h:∀ q:Int,0<=q/\q<(m:Int)->f q=g q):fe m f=fe m g:=by
 unfold fe
 apply NR
 intro i hi
 rw [LA] at hi
 rw [h i (by omega)]
theorem CS {M:aw}{m A:Nat}{p k:Int}{T:Int->Int->Option Nat} (hA:M[A]?=some (.lst (fe m (T p)))) (hm:m<=6) (p0:0<=p) (p1:p<m) :
  compLoop (.fix (bM (p+1) ((m:Int) - (p+1)).toNat)) M.length (ao 0) gG gI (bM (p+1) ((m:Int) - (p+1)).toNat) [none,some (.int p),some (.int k),some (.obj A)] (M++[.lst []])=.ok (.obj M.length) (M++[.lst ((jK T k p (p+1) ((m:Int) - (p+1)).toNat).map aq)]):=by
 have:=dX (src:=.fix (bM (p+1) ((m:Int) - (p+1)).toNat)) (g:=ao 0) (t:=gG) (e:=gI) (μ1:=M) (q:=fun d=>match d with | .int q=>Im k (T p q) | _=>false)
  (h:=fun d=>match d with | .int q=>aq [p,q] | _=>.non) (fun ρ=>∃ o,ρ=[o,some (.int p),some (.int k),some (.obj A)]) (fun _=>trivial) (xs:=bM (p+1) ((m:Int) - (p+1)).toNat) (acc:=[]) (ρ:=[none,some (.int p),some (.int k),some (.obj A)]) ⟨none,rfl⟩
  (by unfold bM;rw [Mw,NT,NS];exact LB (by omega) bS)
  (fun x hx acc ρ ⟨o, ho⟩ => by
   unfold bM at hx
   obtain ⟨i,hi,rfl⟩:=N0.mp hx
   rw [LA] at hi
   subst ho
   refine ⟨[some (.int (p+1+(i:Int))),some (.int p),some (.int k),some (.obj A)],⟨_,rfl⟩,rfl,?_,fun _=>?_⟩
   ·have hix := dh (μ := M ++ [.lst acc]) (aN hA) (uC (f := T p) (m := m) (q := p + 1 + (i : Int)) (by omega) (by omega))
    unfold gG
    simp only [sH,eG,aJ,aj,ag,bh,aa,ai,hix,AQ,rp,bj]
    cases e:T p (p+1+(i:Int)) with
    | none=>rfl
    | some j=>
     simp only [Lm (show ¬ some j=none by simp),Oy,MJ,gA,aa,ai,bj,zO]
     rfl
   ·unfold gI
    simp only [dg,au,az,aj,ag,aa,ai,ND,NT,Lp l2]
    rfl)
 rw [this,Ny]
 exact LS (fun z=>ak.ok (D.obj M.length) (M++[O.lst z])) (Bl (T:=T) (k:=k) (p:=p) (lo:=p+1) (c:=((m:Int) - (p+1)).toNat))
theorem yu {μ:aw}{m:Nat}{k:Int}{ks:List (List Int)}{T:Int->Int->Option Nat} (h:jy (.tup [.int m,.tup (ks.map aq)]) m ks) (k0:1<=k) (k1:k<=6)
  (hT:∀ p:Int,0<=p->p<m->oM (ij ks) p (fun q=>0<=q/\q<m) (T p)) :
  fD [.tup [.int m,.tup (ks.map aq)],.int k] μ=.ok (.tup [.int m,.tup ((Cd m T k).map aq)]) μ:=by
 have hG:=h
 obtain ⟨_,h0,h1,hp,hk⟩:=h
 have hm6:m<=6:=by omega
 have run:=km (src:=.fix (bM 0 m)) (g:=ao 4) (fb:=gH)
  (fun xs ρ μ1=>∃ (n c:Nat) (o4 o5:Option D),xs=bM n c/\n+c=m/\ρ=[some (.tup [.int m,.tup (ks.map aq)]),some (.int k),some (.int m),some (.obj μ.length),o4,o5]/\(∀ i,i<μ.length->μ1[i]?=μ[i]?)/\μ1[μ.length]?=some (.lst (((List.range n).flatMap fun p:Nat=>jK T k p ((p:Int)+1) (m - (p+1))).map aq)))
  (fun _ _ _=>trivial)
  (fun x r ρ μ1 ⟨n, c, o4, o5, e1, e3, e4, e5, e6⟩ => by
   subst e4
   cases c with
   | zero=>rw [jc] at e1;cases e1
   | succ c=>
    rw [ie] at e1
    injection e1 with ex er
    subst ex er
    obtain ⟨A,g,f,ef,hA,hAl,hF⟩:=xB (μ:=μ1) (p:=(n:Int)) hG (by omega) (by omega)
    have hrow:fe m f=fe m (T n):=Gp fun q hq=>hF.eq (hT n (by omega) (by omega)) hq
    rw [hrow] at hA
    have q3:=CS (k:=k) (p:=(n:Int)) hA hm6 (by omega) (by omega)
    rw [show ((m:Int) - ((n:Int)+1)).toNat=m - (n+1) by omega] at q3
    have hlen:=lX (T:=T) (k:=k) hm6 n
    have hrl:=uA (T:=T) (k:=k) (p:=n) (lo:=(n:Int)+1) (c:=m - (n+1))
    have hml:μ.length<μ1.length:=(LL.mp e6).1
    have e6':((μ1++g)++[O.lst ((jK T k n ((n:Int)+1) (m - (n+1))).map aq)])[μ.length]?=some (.lst (((List.range n).flatMap fun p:Nat=>jK T k p ((p:Int)+1) (m - (p+1))).map aq)):=aN (aN e6)
    refine ⟨trivial,_,μ1,[some (.tup [.int m,.tup (ks.map aq)]),some (.int k),some (.int m),some (.obj μ.length),some (.int n),some (.obj A)],((μ1++g)++[O.lst ((jK T k n ((n:Int)+1) (m - (n+1))).map aq)]).set μ.length (O.lst (((List.range (n+1)).flatMap fun p:Nat=>jK T k p ((p:Int)+1) (m - (p+1))).map aq)),rfl,?_,n+1,c,some (.int n),some (.obj A),by push_cast;rfl,by omega,rfl,fun i hi=>?_,?_⟩
    ·show gH [some (.tup [.int m, .tup (ks.map aq)]), some (.int k), some (.int m), some (.obj μ.length), some (.int n), o5] μ1 = _
     unfold gH
     have s1:bA (aL (fun ds μ=>(fE ds μ).nox) (af (ah 0) (af (ah 4) (aG)))) (ao 5) [some (.tup [.int m,.tup (ks.map aq)]),some (.int k),some (.int m),some (.obj μ.length),some (.int n),o5] μ1=.next [some (.tup [.int m,.tup (ks.map aq)]),some (.int k),some (.int m),some (.obj μ.length),some (.int n),some (.obj A)] (μ1++g):=by
      simp only [aS,aB,au,az,aj,ag,aa,ai,ef,ae,br,Pz,PB]
     rw [dN s1]
     unfold vT
     simp only [aj,ag,ae,dq,fL,au,az,aJ,bh,aa,ai,dr]
     rw [ou (by omega) (by omega) (by omega) (by omega)]
     simp only [aa,ai,bD]
     rw [show ((m:Int) - ((n:Int)+1)).toNat=m - (n+1) by omega]
     rw [show gX [none,some 4,some 1,some 5] [some (D.tup [D.int ↑m,D.tup (List.map aq ks)]),some (D.int k),some (.int m),some (D.obj μ.length),some (D.int n),some (.obj A)]=[none,some (.int n),some (.int k),some (.obj A)] from rfl,q3]
     simp only [ae,ai]
     unfold oU
     dsimp only
     rw [e6',aD]
     dsimp only
     rw [Lp (by
      rw [Mw,Mw]
      exact LB (show _<=1000 by omega) bS)]
     simp only [ae,ai,Pz,PB,PJ,PL,N7,PM,PN,Mg]
    ·rw [LO (by omega), Np, Mr (by omega)]
     exact e5 i hi
    ·exact dS (by rw [Mv,Mv];omega))
  (xs:=bM 0 m) (ρ:=[some (.tup [.int m,.tup (ks.map aq)]),some (.int k),some (.int m),some (.obj μ.length),none,none]) (μ:=μ++[.lst []])
  ⟨0,m,none,none,rfl,by omega,rfl,fun i hi=>by rw [Mr hi],aD⟩
 obtain ⟨ρ',μ',⟨n,c,o4,o5,e1,e3,e4,e5,e6⟩,run⟩:=run
 subst e4
 have hz:=pG e1.symm
 subst hz
 have hnm:n=m:=by omega
 subst hnm
 have hg:jy (.tup [.int n,.tup ((Cd n T k).map aq)]) n (Cd n T k):=uu (by omega) hm6
 obtain ⟨g,hpre⟩:∃ g,μ'=μ++g:=by
  refine ⟨μ'.drop μ.length,?_⟩
  apply OT
  intro i
  by_cases hi:i<μ.length
  ·rw [Mr hi,e5 i hi]
  ·rw [Mp (by omega), Oc]
   congr 1;omega
 unfold fD
 rw [cf]
 simp only [nJ,List.replicate]
 rw [aP,eD,lP,mF,aB]
 simp only [au,az,aj,ag,bh,aa,ai,qR k0 k1,kn,On,ae,NC,MH,dU,aC]
 simp only [aP,aS,aJ,ag,bh,aa,ai,cK,ae,br,aC,Pz,PB,dH,az,NT,Lp (NN sizeLine),iu,fL,au,aj]
 rw [jm (by omega) (by omega)]
 simp only [ae,ai,bD,MD]
 rw [run]
 simp only [aC,bc,dg,au,az,aJ,aB,aj,ag,bh,aa,ai]
 rw [sG e6]
 simp only [aa,ai,ND,NT,Lp l2,ae,aW]
 rw [hpre]
 exact fK (gQ hg)
end Lw
namespace Lv
section
variable {adj adj':Int->Int->Prop}{D:Int->Prop}{p:Int}
theorem R.add {q:Int}{n:Nat} (h:R adj p n q):∀ {k:Nat}{r:Int},R adj q k r->R adj p (n+k) r
 | 0,r,e=>by have:r=q:=e;subst this;exact h
 | k+1,r,e=>by
  rcases e with e | ⟨t,e1,e2⟩
  ·exact .inl (R.add h e)
  ·exact .inr ⟨t,e1,R.add h e2⟩
theorem oz {n:Nat}:∀ {k:Nat}{q:Int},R adj p (n+k) q->∃ r,R adj p n r/\R adj r k q
 | 0,q,h=>⟨q,h,rfl⟩
 | k+1,q,h=>by
  rcases h with h | ⟨t,h1,h2⟩
  ·obtain ⟨r, a, b⟩ := oz (k := k) h
   exact ⟨r,a,.inl b⟩
  ·obtain ⟨r, a, b⟩ := oz (k := k) h2
   exact ⟨r,a,.inr ⟨t,h1,b⟩⟩
theorem R.one {a b:Int} (h:adj a b):R adj a 1 b:=.inr ⟨a,h,rfl⟩
theorem R.rev (hs:∀ a b,adj a b->adj b a):∀ {n:Nat}{q:Int},R adj p n q->R adj q n p
 | 0,q,h=>by have:q=p:=h;exact this.symm
 | n+1,q,h=>by
  rcases h with h | ⟨r,h1,h2⟩
  ·exact .inl (R.rev hs h)
  ·have := R.add (R.one (hs _ _ h1)) (R.rev hs h2)
   rw [Nx] at this
   exact this
end
end Lv
namespace Lw
open PySem L2 RS Lv
theorem Ap:∀ {xs ys:List (List Int)},xs.Pairwise (fun a b=>jI a<jI b)->ys.Pairwise (fun a b=>jI a<jI b)->(∀ k,k∈xs↔k∈ys)->xs=ys
 | [],ys,_,_,h=>by
  cases ys with
  | nil=>rfl
  | cons y ys=>exact absurd ((h y).mpr LF) OK
 | x::xs,[],_,_,h=>absurd ((h x).mp LF) OK
 | x::xs,y::ys,hx,hy,h=>by
  obtain ⟨x1,x2⟩:=N6.mp hx
  obtain ⟨y1,y2⟩:=N6.mp hy
  have e:x=y:=by
   rcases LH.mp ((h x).mp LF) with z | z
   ·exact z
   ·rcases LH.mp ((h y).mpr LF) with u | u
    ·exact u.symm
    ·have:=y1 x z;have:=x1 y u;omega
  subst e
  congr 1
  refine Ap x2 y2 fun k=>?_
  constructor
  ·intro hk
   rcases LH.mp ((h k).mp (LG _ hk)) with z | z
   ·subst z;have:=x1 k hk;omega
   ·exact z
  ·intro hk
   rcases LH.mp ((h k).mpr (LG _ hk)) with z | z
   ·subst z;have:=y1 k hk;omega
   ·exact z
theorem pL {d d':D}{m m':Int}{ks ks':List (List Int)} (h:jy d m ks) (h':jy d' m' ks') (e:∀ a b:Int,[a,b]∈ks↔[a,b]∈ks'):ks=ks':=by
 refine Ap h.2.2.2.1 h'.2.2.2.1 fun k=>?_
 constructor
 ·intro hk
  obtain ⟨a,b,rfl,_⟩:=h.2.2.2.2 k hk
  exact (e a b).mp hk
 ·intro hk
  obtain ⟨a,b,rfl,_⟩:=h'.2.2.2.2 k hk
  exact (e a b).mpr hk
abbrev bg (m:Nat) (ks:List (List Int)):D:=.tup [.int m,.tup (ks.map aq)]
abbrev GW (m:Nat) (ks:List (List Int)):Prop:=jy (bg m ks) m ks
open Classical in
noncomputable def nM (m:Nat) (ks:List (List Int)) (k:Nat):List (List Int):=prs.filter fun x=>decide (x.getD 1 0<(m:Int)/\R (ij ks) (x.getD 0 0) k (x.getD 1 0))
open Classical in
theorem rY {m k:Nat}{ks:List (List Int)}{a b:Int} (hm:m<=6):[a,b]∈nM m ks k↔(0<=a/\a<b/\b<(m:Int)/\R (ij ks) a k b):=by
 unfold nM
 rw [Lz,decide_eq_true_iff]
 constructor
 ·rintro ⟨h1, h2, h3⟩
  obtain ⟨c,d,e,g1,g2,g3⟩:=fB h1
  injection e with e1 e2
  injection e2 with e2 _
  subst e1 e2
  exact ⟨g1,g2,h2,h3⟩
 ·rintro ⟨h1, h2, h3, h4⟩
  exact ⟨sx h1 h2 (by omega),h3,h4⟩
theorem g9 {m k:Nat}{ks:List (List Int)} (h0:1<=m) (hm:m<=6):GW m (nM m ks k):=by
 refine ⟨rfl,by omega,by omega,k8.filter _,fun x hx=>?_⟩
 obtain ⟨a,b,rfl,g1,g2,g3⟩:=fB (Lz.mp hx).1
 obtain ⟨h1,h2,h3,_⟩:=(rY hm).mp hx
 exact ⟨a,b,rfl,h1,h2,h3⟩
theorem CW {m:Nat}{T:Int->Int->Option Nat}{k:Int}{a b:Int}:[a,b]∈Cd m T k↔(0<=a/\a<b/\b<(m:Int)/\Im k (T a b)=true):=by
 unfold Cd jK
 rw [PD]
 constructor
 ·rintro ⟨p, hp, h⟩
  obtain ⟨q,hq,e⟩:=N0.mp h
  injection e with e1 e2
  injection e2 with e2 _
  subst e1 e2
  obtain ⟨h1,h2⟩:=Lz.mp hq
  obtain ⟨i,hi,e⟩:=N0.mp h1
  have:=LA.mp hi
  have:=LA.mp hp
  exact ⟨by omega,by omega,by omega,h2⟩
 ·rintro ⟨h1, h2, h3, h4⟩
  refine ⟨a.toNat,LA.mpr (by omega),N0.mpr ⟨b,Lz.mpr ⟨N0.mpr ⟨(b - a - 1).toNat,LA.mpr (by omega),by omega⟩,?_⟩,?_⟩⟩
  ·rw [Om h1];exact h4
  ·rw [Om h1]
theorem EV {m k:Nat}{ks:List (List Int)}{p q:Int}{f:Int->Option Nat} (h:oM (ij ks) p (fun q=>0<=q/\q<(m:Int)) f) (hq:0<=q/\q<(m:Int)):Im k (f q)=true↔R (ij ks) p k q:=by
 constructor
 ·intro e
  cases c:f q with
  | none=>rw [c] at e;cases e
  | some n=>
   rw [c] at e
   have hn:(n:Int)<=k:=PR e
   exact ((h q hq n).mp c).r.mono (by omega)
 ·intro e
  obtain ⟨j,hj,hl⟩:=R.lev e
  rw [(h q hq j).mpr hl]
  exact Nz (by omega)
theorem FU {m k:Nat}{ks:List (List Int)}{T:Int->Int->Option Nat} (h0:1<=m) (hm:m<=6) (hT:∀ p:Int,0<=p->p<m->oM (ij ks) p (fun q=>0<=q/\q<m) (T p)):Cd m T k=nM m ks k:=by
 refine pL (uu h0 hm) (g9 h0 hm) fun a b=>?_
 rw [CW,rY hm]
 constructor
 ·rintro ⟨h1, h2, h3, h4⟩
  exact ⟨h1,h2,h3,(EV (hT a h1 (by omega)) ⟨by omega,h3⟩).mp h4⟩
 ·rintro ⟨h1, h2, h3, h4⟩
  exact ⟨h1,h2,h3,(EV (hT a h1 (by omega)) ⟨by omega,h3⟩).mpr h4⟩
theorem rh {m:Int}:∀ {xs ys:List (List Int)},(∀ k∈xs,qr m k)->(∀ k∈ys,qr m k)->(PyData.eqvAll (xs.map iI) (ys.map iI)=true↔xs=ys)
 | [],[],_,_=>by simp [PyData.eqvAll]
 | [],_::_,_,_=>by simp [PyData.eqvAll]
 | _::_,[],_,_=>by simp [PyData.eqvAll]
 | x::xs,y::ys,hx,hy=>by
  have ih:=rh (xs:=xs) (ys:=ys) (fun k h=>hx k (LG _ h)) (fun k h=>hy k (LG _ h))
  obtain ⟨a,b,rfl,_⟩:=hx x LF
  obtain ⟨c,d,rfl,_⟩:=hy y LF
  simp only [Nb,PyData.eqvAll,MY,ih,iI,PyData.eqv,Na,Pb,PV]
theorem Lc {μ:aw}{neg:Bool}{m:Nat}{ks ks':List (List Int)} (h:GW m ks) (h':GW m ks'):jH neg (bg m ks) (bg m ks') μ=.ok (.bl (if neg then !decide (ks=ks') else decide (ks=ks'))) μ:=by
 have e:PyData.eqv (vR m ks) (vR m ks')=decide (ks=ks'):=by
  apply Md.mpr
  rw [decide_eq_true_iff,<- rh h.2.2.2.2 h'.2.2.2.2]
  simp only [vR,PyData.eqv,PyData.eqvAll,NB,PQ,PU]
 unfold jH
 rw [n6 h,n6 h']
 dsimp only
 rw [Lp ⟨oa h,oa h'⟩,e]
end Lw
namespace Lw
open PySem L2 RS Lv
section
variable {m:Nat}{ks:List (List Int)}
theorem GW.m0 (h:GW m ks):1<=m:=by have:=h.2.1;omega
theorem GW.m6 (h:GW m ks):m<=6:=by have:=h.2.2.1;omega
theorem Fs (h:GW m ks) {a b:Int} (e:ij ks a b):ij ks b a:=(iN h.2.2.2.2).mpr ((iN h.2.2.2.2).mp e).symm
theorem Ft (h:GW m ks) {a b:Int} (e:ij ks a b):(0<=a/\a<(m:Int))/\(0<=b/\b<(m:Int)):=iM h.2.2.2.2 e
end
end Lw
namespace Lw
open PySem L2 RS Lv
def Cn (k k':List Int):Bool:=match k,k' with
 | [a,b],[c,d]=>decide (a<c) || (decide (a=c) && decide (b<d))
 | _,_=>false
theorem zk {μ:aw}{a b c d:Int}:eA .Lt (aq [a,b]) (aq [c,d]) μ=.ok (.bl (Cn [a,b] [c,d])) μ:=by
 have e:eA .Lt (aq [a,b]) (aq [c,d]) μ=(match cmpPs .Lt [.int a,.int b] [.int c,.int d] with | some k=>.ok (.bl k) μ | none=>.bad):=rfl
 rw [e]
 simp only [cmpPs,gf,PyData.eqv,Cn]
 by_cases h1:a=c
 ·subst h1
  by_cases h2:b=d
  ·subst h2;simp [cq]
  ·simp [h2,cq]
 ·simp [h1,cq]
def Kh (k:List Int):Prop:=∃ a b,k=[a,b]
def Iw (ks:List (List Int)):Bool:=(List.range (ks.length - 1)).all fun i=>Cn (ks.getD i []) (ks.getD (i+1) [])
theorem JU:i3=aA (eA .Lt) (aA b9 (ah 1) (aA i5 (ah 0) (cC (.int 1)))) (aA b9 (ah 1) (ah 0)):=rfl
theorem Do {μ:aw}{ks:List (List Int)} (hk:∀ k∈ks,Kh k) (a:List D) (i:Nat) (hi:i<ks.length - 1) :
  (aA (eA .Lt) (aA b9 (ah 1) (aA i5 (ah 0) (cC (.int 1)))) (aA b9 (ah 1) (ah 0))) [some (.int (1+(i:Int))),some (.tup (ks.map aq))] (μ++[.lst a])=.ok (.bl (Cn (ks.getD i []) (ks.getD (i+1) []))) (μ++[.lst a]):=by
 have h1:i<ks.length:=by omega
 have h2:i+1<ks.length:=by omega
 obtain ⟨x,y,e1⟩:=hk ks[i] (O4 h1)
 obtain ⟨u,v,e2⟩:=hk ks[i+1] (O4 h2)
 have g1:atI (ks.map aq) (1+(i:Int) - 1)=some (aq [x,y]):=by
  rw [show (1+(i:Int) - 1)=((i:Nat):Int) by omega]
  exact jn (by rw [Ms,O5 h1,e1];rfl)
 have g2:atI (ks.map aq) (1+(i:Int))=some (aq [u,v]):=by
  rw [show (1+(i:Int))=((i+1:Nat):Int) by omega]
  exact jn (by rw [Ms,O5 h2,e2];rfl)
 have k1:ks.getD i []=[x,y]:=by rw [OS,O5 h1,e1];rfl
 have k2:ks.getD (i+1) []=[u,v]:=by rw [OS,O5 h2,e2];rfl
 rw [k1,k2]
 simp only [aJ,aj,ag,bh,aa,ai,Ai]
 rw [ff g1]
 simp only [aa,ai]
 rw [ff g2]
 simp only [aa,ai]
 exact zk
theorem Bo {μ:aw}{ks:List (List Int)} (hk:∀ k∈ks,Kh k) (hl:ks.length<1000) :
  compLoop (qq.fix (bM 1 (ks.length - 1))) μ.length (ao 0) gN (aA (eA CmpOp.Lt) (aA b9 (ah 1) (aA i5 (ah 0) (cC (D.int 1)))) (aA b9 (ah 1) (ah 0))) (bM 1 (ks.length - 1)) [none,some (D.tup (List.map aq ks))] (μ++[O.lst []]) =
   .ok (.obj μ.length) (μ++[.lst (((List.range (ks.length - 1)).map fun i=>Cn (ks.getD i []) (ks.getD (i+1) [])).map D.bl)]):=by
 have:=dX (src:=.fix (bM 1 (ks.length - 1))) (g:=ao 0) (t:=gN) (e:=aA (eA .Lt) (aA b9 (ah 1) (aA i5 (ah 0) (cC (.int 1)))) (aA b9 (ah 1) (ah 0))) (μ1:=μ) (q:=fun _=>true)
  (h:=fun d=>match d with | .int j=>.bl (Cn (ks.getD (j - 1).toNat []) (ks.getD ((j - 1).toNat+1) [])) | _=>.non) (fun ρ=>∃ o,ρ=[o,some (.tup (ks.map aq))]) (fun _=>trivial) (xs:=bM 1 (ks.length - 1)) (acc:=[]) (ρ:=[none,some (.tup (ks.map aq))]) ⟨none,rfl⟩
  (by rw [lU,Mw,NS,NT];exact LB (by omega) bS)
  (fun x hx a ρ ⟨o, ho⟩ => by
   rw [lU] at hx
   obtain ⟨i,hi,rfl⟩:=N0.mp hx
   refine ⟨[some (.int (1+(i:Int))),some (.tup (ks.map aq))],⟨_,rfl⟩,by subst ho;rfl,rfl,fun _=>?_⟩
   rw [Do hk a i (by simpa using hi)]
   dsimp only
   rw [show (1+(i:Int) - 1).toNat=i by omega])
 rw [this,PX.mpr (fun _ _=>rfl),lU,NQ,Ny,NQ]
 congr 4
 apply NR
 intro i _
 show D.bl (Cn (ks.getD (1+(i:Int) - 1).toNat []) (ks.getD ((1+(i:Int) - 1).toNat+1) []))=_
 rw [show (1+(i:Int) - 1).toNat=i by omega]
 rfl
theorem yv {μ:aw}{ks:List (List Int)} (hk:∀ k∈ks,Kh k) (hl:ks.length<1000):cS [.tup (ks.map aq)] μ=.ok (.bl (Iw ks)) μ:=by
 unfold cS
 rw [eE]
 simp only [j7,bc,aB,au,dq,fL,bh,az,aa,ai,ag,lQ,Mw]
 rw [ou (by omega) (by omega) (by omega) (by omega)]
 have hn:((ks.length:Int) - 1).toNat=ks.length - 1:=by omega
 simp only [aa,ai,bD,hn]
 rw [show gX [none,some 0] (some (D.tup (List.map aq ks))::List.replicate (1 - 1) none)=[none,some (D.tup (List.map aq ks))] from rfl]
 rw [JU,Bo hk hl]
 simp only [aa,ai]
 rw [kv aD]
 simp only [ae,ai,aW]
 rw [fK (by simp)]
 simp [Iw,Pm,PY]
theorem C4 {μ:aw}{m:Nat} (h0:1<=m) (h1:m<=6):gq [.int m] μ=.ok (.bl true) μ:=by
 unfold gq
 rw [eE]
 simp only [mY,List.replicate,bc,aB,au,az,ag,bh,aa,ai,qR (show (1:Int)<=(m:Int) by omega) (show (m:Int)<=6 by omega),ae,aW]
 exact aI (by simp)
theorem C2 {μ:aw}{m:Nat}{a b:Int} (ha:0<=a/\a<(m:Int)) (hb:0<=b/\b<(m:Int)) (hn:a≠b):gp [.int m,.tup [.int a,.int b]] μ=.ok (.bl true) μ:=by
 have h1:cT [.int m,.tup [.int a,.int b]] μ=.ok (.bl true) μ:=by
  rw [wC (fun x hx=>by simp only [LH,OK,OL] at hx;rcases hx with rfl|rfl <;> exact nofun) (by simp)]
  congr 2
  simp only [Ni,List.all_nil,PU,Cf,MY,Pe]
  exact ⟨ha,hb⟩
 have h2:jH true (.int a) (.int b) μ=.ok (.bl true) μ:=by
  show ak.ok (D.bl (!(a == b))) μ=_
  rw [Ln.mpr hn];rfl
 have i0:b9 (.tup [.int a,.int b]) (.int 0) μ=.ok (.int a) μ:=rfl
 have i1:b9 (.tup [.int a,.int b]) (.int 1) μ=.ok (.int b) μ:=rfl
 have l2:jH false (.int (([.int a,.int b]:List D).length:Int)) (.int 2) μ=.ok (.bl true) μ:=rfl
 unfold gp
 rw [cf]
 simp only [mX,List.replicate,bc,eT,aB,au,az,ag,aj,bh,aa,ai,h1,bj,MJ,aJ,lQ,l2,i0,i1,h2,ae,aW]
 exact aI (by simp)
theorem F2 {μ:aw}{m:Nat}{a b:Int} (h0:0<=a) (h1:a<b) (h2:b<(m:Int)):iy [.int m,.tup [.int a,.int b]] μ=.ok (.bl true) μ:=by
 have hp:=C2 (μ:=μ) (m:=m) (a:=a) (b:=b) ⟨h0,by omega⟩ ⟨by omega,h2⟩ (by omega)
 have i0:b9 (.tup [.int a,.int b]) (.int 0) μ=.ok (.int a) μ:=rfl
 have i1:b9 (.tup [.int a,.int b]) (.int 1) μ=.ok (.int b) μ:=rfl
 unfold iy
 rw [cf]
 simp only [pT,List.replicate,bc,eT,aB,au,az,ag,aj,bh,aa,ai,hp,bj,MJ,aJ,i0,i1,gA,ae,aW]
 rw [show cq .Lt a b=true from Nz h1]
 exact aI (by simp)
theorem Gr {m:Int}:∀ {ks:List (List Int)},(∀ k∈ks,qr m k)->m<=6->ks.Pairwise (fun a b=>jI a<jI b)->∀ i,i<ks.length - 1->Cn (ks.getD i []) (ks.getD (i+1) [])=true:=fun {ks} hk hm hp i hi=>by
 have h1:i<ks.length:=by omega
 have h2:i+1<ks.length:=by omega
 have e1:ks.getD i []=ks[i]:=by rw [OS,O5 h1];rfl
 have e2:ks.getD (i+1) []=ks[i+1]:=by rw [OS,O5 h2];rfl
 have lt:=NW.mp hp i (i+1) h1 h2 (by omega)
 rw [e1,e2]
 obtain ⟨a,b,ea,a1,a2,a3⟩:=hk _ (O4 h1)
 obtain ⟨c,d,ec,c1,c2,c3⟩:=hk _ (O4 h2)
 rw [ea,ec] at lt ⊢
 have lt':a * 6+b<c * 6+d:=lt
 unfold Cn
 dsimp only
 by_cases z:a<c
 ·rw [Nz z];rfl
 ·have : a = c := by omega
  rw [Lm z,Nz this,Nz (show b<d by omega)];rfl
theorem C1 {μ:aw}{m:Nat}{ks:List (List Int)} (h:GW m ks):gn [.int m,.tup (ks.map aq)] μ=.ok (.bl true) μ:=by
 have hl:=dM h
 have hr:cS [.tup (ks.map aq)] (μ++[.lst (ks.map fun _=>D.bl true)])=.ok (.bl true) (μ++[.lst (ks.map fun _=>D.bl true)]):=by
  rw [yv (fun k hk=>by obtain ⟨a,b,e,_⟩:=h.2.2.2.2 k hk;exact ⟨a,b,e⟩) (by omega)]
  congr 2
  exact Ol.mpr fun i hi=>Gr h.2.2.2.2 (by have:=h.m6;omega) h.2.2.2.1 i (by simpa using hi)
 have c:=eM (U:=List Int) (en:=aq) (src:=.fix (ks.map aq)) (g:=ao 0) (t:=gN) (e:=iS) (μ1:=μ) (q:=fun _=>true) (h:=fun _=>.bl true) (fun ρ=>∃ o,ρ=[o,some (.int m)]) (fun _=>trivial) (us:=ks) (acc:=[]) (ρ:=[none,some (.int m)]) ⟨_,rfl⟩
  (by rw [NT];exact LB (by omega) bS)
  (fun k hk a ρ hJJ => by
   obtain ⟨o,e⟩:=hJJ
   subst e
   obtain ⟨x,y,rfl,g1,g2,g3⟩:=h.2.2.2.2 k hk
   refine ⟨[some (aq [x,y]),some (.int m)],⟨_,rfl⟩,rfl,rfl,fun _=>?_⟩
   unfold iS
   simp only [aB,au,az,ag,aj,aa,ai]
   exact F2 g1 g2 g3)
 rw [j3,Ny] at c
 unfold gn
 rw [cf]
 simp only [mW,List.replicate,bc,eT,jw,aB,au,az,ag,aj,bh,aa,ai]
 rw [show fH "tuple" (.tup (ks.map aq)) μ=.ok (.bl true) μ from rfl]
 simp only [aa,ai,bj,MJ,dq,dm,aj,ag]
 rw [show vS (.tup (ks.map aq)) μ=.ok (.fix (ks.map aq)) μ from rfl]
 simp only [aa,ai,bD]
 rw [show gX [none,some 0] (some (.int m)::some (.tup (ks.map aq))::List.replicate (2 - 2) none)=[none,some (.int m)] from rfl,c]
 simp only [aa,ai]
 rw [show ks.map (fun _=>D.bl true)=(ks.map fun _=>true).map D.bl from by rw [NQ];rfl]
 rw [kv aD]
 rw [show (ks.map fun _=>true).all id=true from by simp]
 simp only [aa,ai,bj,MJ,aB,au,az,aj,ag]
 rw [show (ks.map fun _=>true).map D.bl=ks.map (fun _=>D.bl true) from by rw [NQ];rfl,hr]
 simp only [ae,ai,aW]
 exact fK (by simp)
theorem wB {μ:aw}{m:Nat}{ks:List (List Int)} (h:GW m ks):fk [bg m ks] μ=.ok (.bl true) μ:=by
 have l2:jH true (.int (([.int (m:Int),.tup (ks.map aq)]:List D).length:Int)) (.int 2) μ=.ok (.bl false) μ:=rfl
 unfold fk
 rw [eE]
 simp only [ll,List.replicate,aP,eD,sg,lP,mF,jw,ag,aa,ai]
 rw [show fH "tuple" (.tup [.int (m:Int),.tup (ks.map aq)]) μ=.ok (.bl true) μ from rfl]
 simp only [aa,ai,kn,On,NC,MH,eG,aJ,aB,au,az,ag,bh,lQ,l2,bj,ae,dU,aC,aS]
 simp only [aP,aS,ag,aa,ai,ae]
 rw [show fu 2 (bt (ao 1) (bt (ao 2) fv)) (.tup [.int (m:Int),.tup (ks.map aq)]) [some (.tup [.int (m:Int),.tup (ks.map aq)]),none,none] μ=.ok [some (.tup [.int (m:Int),.tup (ks.map aq)]),some (.int m),some (.tup (ks.map aq))] μ from rfl]
 simp only [ae,aC,bc,eT,aB,au,az,aj,ag,aa,ai,C4 h.m0 h.m6,bj,MJ,C1 h,aW]
 exact aI (by simp)
mutual
def Kn (μ:aw):D->Prop
 | .tup xs=>xs.length<1000/\Kns μ xs
 | .obj n=>∃ tn,vM μ (.obj n)=some tn/\tn ≠ "int" /\ tn ≠ "bool" /\ tn ≠ "tuple"
 | _=>True
def Kns (μ:aw):List D->Prop
 | []=>True
 | x::xs=>Kn μ x/\Kns μ xs
end
theorem om {μ:aw}:∀ {xs:List D},Kns μ xs↔∀ x∈xs,Kn μ x
 | []=>by simp [Kns]
 | x::xs=>by simp [Kns,om (xs:=xs)]
theorem CK {μ g:aw}{n:Nat}{tn:String} (h:vM μ (.obj n)=some tn):vM (μ++g) (.obj n)=some tn:=by
 unfold vM at h ⊢
 dsimp only at h ⊢
 cases e:μ[n]? with
 | none=>rw [e] at h;cases h
 | some o=>rw [Mr (LL.mp e).1,e];rw [e] at h;exact h
mutual
theorem sD {μ:aw} (g:aw):∀ {d:D},Kn μ d->Kn (μ++g) d
 | .non,_=>by simp [Kn]
 | .bl _,_=>by simp [Kn]
 | .int _,_=>by simp [Kn]
 | .str _,_=>by simp [Kn]
 | .frz _,_=>by simp [Kn]
 | .obj n,h=>by
  simp only [Kn] at h ⊢
  obtain ⟨tn,h1,h2⟩:=h
  exact ⟨tn,CK h1,h2⟩
 | .tup xs,h=>by
  simp only [Kn] at h ⊢
  exact ⟨h.1,kns_more g h.2⟩
theorem kns_more {μ:aw} (g:aw):∀ {xs:List D},Kns μ xs->Kns (μ++g) xs
 | [],_=>by simp [Kns]
 | x::xs,h=>by
  simp only [Kns] at h ⊢
  exact ⟨sD g h.1,kns_more g h.2⟩
end
def isInt:D->Bool
 | .int _=>true
 | _=>false
def bC:D->Bool
 | .tup _=>true
 | _=>false
def cn (a b:Int):D->Bool
 | .int i=>decide (a<=i) && decide (i<=b)
 | _=>false
theorem y8 {μ:aw}{d:D} (h:Kn μ d):∃ b,fH "int" d μ=.ok (.bl b) μ/\(b=true↔(isInt d=true\/∃ c,d=.bl c)):=by
 cases d with
 | obj n=>
  simp only [Kn] at h
  obtain ⟨tn,h1,h2,h3,h4⟩:=h
  refine ⟨_,by unfold fH;rw [h1],?_⟩
  simp [jL,isInt,h2,h3]
 | non=>exact ⟨_,rfl,by simp [jL,isInt]⟩
 | bl b=>exact ⟨_,rfl,by simp [jL,isInt]⟩
 | int b=>exact ⟨_,rfl,by simp [jL,isInt]⟩
 | str b=>exact ⟨_,rfl,by simp [jL,isInt]⟩
 | tup b=>exact ⟨_,rfl,by simp [jL,isInt]⟩
 | frz b=>exact ⟨_,rfl,by simp [jL,isInt]⟩
theorem BV {μ:aw}{d:D} (h:Kn μ d):∃ b,fH "bool" d μ=.ok (.bl b) μ/\(b=true↔∃ c,d=.bl c):=by
 cases d with
 | obj n=>
  simp only [Kn] at h
  obtain ⟨tn,h1,h2,h3,h4⟩:=h
  refine ⟨_,by unfold fH;rw [h1],?_⟩
  simp [jL,h2,h3]
 | non=>exact ⟨_,rfl,by simp [jL]⟩
 | bl b=>exact ⟨_,rfl,by simp [jL]⟩
 | int b=>exact ⟨_,rfl,by simp [jL]⟩
 | str b=>exact ⟨_,rfl,by simp [jL]⟩
 | tup b=>exact ⟨_,rfl,by simp [jL]⟩
 | frz b=>exact ⟨_,rfl,by simp [jL]⟩
theorem ig {μ:aw}{d:D} (h:Kn μ d):fH "tuple" d μ=.ok (.bl (bC d)) μ:=by
 cases d with
 | obj n=>
  simp only [Kn] at h
  obtain ⟨tn,h1,h2,h3,h4⟩:=h
  unfold fH
  rw [h1]
  simp [jL,bC,h4]
 | non=>rfl
 | bl b=>rfl
 | int b=>rfl
 | str b=>rfl
 | tup b=>rfl
 | frz b=>rfl
theorem pU {μ:aw}{d:D} (h:Kn μ d):cW [d] μ=.ok (.bl (isInt d)) μ:=by
 obtain ⟨b1,e1,f1⟩:=y8 h
 obtain ⟨b2,e2,f2⟩:=BV h
 unfold cW
 rw [eE]
 have:(b1 && !b2)=isInt d:=by
  cases d <;> simp [isInt] at f1 f2 ⊢ <;> simp [f1,f2]
 simp [ju,e1,e2]
 cases b1 <;> cases b2 <;> simp at this ⊢ <;> rw [<- this] <;> exact aI (by simp)
theorem mJ {μ:aw}{d:D} (h:Kn μ d):dZ [d] μ=.ok (.bl (isInt d)) μ:=pU h
theorem pB {μ:aw}{d:D}{a b:Int} (h:Kn μ d):aY [d,.int a,.int b] μ=.ok (.bl (cn a b d)) μ:=by
 unfold aY
 rw [jj]
 simp [eZ,pU h]
 cases d <;> simp [isInt,cn] <;> first
  | exact aI (by simp)
  | skip
 simp [cq]
 split <;> (rename_i hc;simp [hc];exact aI (by simp))
theorem wD {μ:aw}{d:D}{m:Int} (h:Kn μ d):fm [.int m,d] μ=.ok (.bl (cn 0 (m - 1) d)) μ:=by
 unfold fm
 rw [cf]
 simp [lp,pB h]
 exact aI (by simp)
theorem yz {μ:aw}{d:D} (h:Kn μ d):gq [d] μ=.ok (.bl (cn 1 6 d)) μ:=by
 unfold gq
 rw [eE]
 simp [mY,pB h]
 exact aI (by simp)
def mr (m:Int):D->Bool
 | .tup xs=>xs.all (cn 0 (m - 1))
 | _=>false
theorem u9 {μ:aw}{xs:List D}{h:D->Bool}{e:ME}{c:D} (hl:xs.length<=sizeLine) (he:∀ x∈xs,∀ a,e [some x,some c] (μ++[.lst a])=.ok (.bl (h x)) (μ++[.lst a])) :
  compLoop (.fix xs) μ.length (ao 0) gN e xs [none,some c] (μ++[.lst []])=.ok (.obj μ.length) (μ++[.lst ((xs.map h).map D.bl)]):=by
 have:=dX (src:=.fix xs) (g:=ao 0) (t:=gN) (e:=e) (μ1:=μ) (q:=fun _=>true) (h:=fun x=>D.bl (h x)) (fun ρ=>∃ o,ρ=[o,some c]) (fun _=>trivial) (xs:=xs) (acc:=[]) (ρ:=[none,some c]) ⟨none,rfl⟩ (by simpa using hl)
  (fun x hx a ρ ⟨o,ho⟩=>⟨[some x,some c],⟨_,rfl⟩,by subst ho;rfl,rfl,fun _=>he x hx a⟩)
 rw [this,PX.mpr (fun _ _=>rfl)]
 simp [NQ,PY]
theorem pC:1000<=sizeLine:=by decide
theorem yw {μ:aw}{d:D}{m:Int} (h:Kn μ d):cT [.int m,d] μ=.ok (.bl (mr m d)) μ:=by
 unfold cT
 rw [cf]
 simp [j8,ig h]
 cases d with
 | tup xs=>
  simp only [bC,MJ,mr]
  simp
  simp only [Kn] at h
  rw [u9 (h:=cn 0 (m - 1)) (LB (LC h.1) pC) fun x hx a=>?_]
  ·simp
   rw [kv (bs:=xs.map (cn 0 (m - 1))) (by simp)]
   simp [Pm,PY]
   exact fK (by simp)
  ·simp [gJ]
   exact wD (sD _ (om.mp h.2 x hx))
 | non=>simp [bC,mr];exact aI (by simp)
 | bl b=>simp [bC,mr];exact aI (by simp)
 | int b=>simp [bC,mr];exact aI (by simp)
 | str b=>simp [bC,mr];exact aI (by simp)
 | frz b=>simp [bC,mr];exact aI (by simp)
 | obj b=>simp [bC,mr];exact aI (by simp)
def lC (m:Int) (d:D):Bool:=mr m d && (match d with
 | .tup [.int a,.int b]=>a != b
 | _=>false)
def cZ (m:Int) (d:D):Bool:=mr m d && (match d with
 | .tup [.int a,.int b]=>decide (a<b)
 | _=>false)
theorem Bw {m:Int}{xs:List D} (h:mr m (.tup xs)=true):∃ ns:List Int,xs=ns.map D.int/\∀ n∈ns,0<=n/\n<=m - 1:=by
 simp only [mr] at h
 induction xs with
 | nil=>exact ⟨[],rfl,by simp⟩
 | cons x r ih=>
  rw [Ni,MY] at h
  obtain ⟨ns,e,f⟩:=ih h.2
  cases x with
  | int i=>
   simp [cn] at h
   exact ⟨i::ns,by rw [e];rfl,fun n hn=>(LH.mp hn).elim (fun z=>by rw [z];exact h.1) (f n)⟩
  | non=>simp [cn] at h
  | bl b=>simp [cn] at h
  | str b=>simp [cn] at h
  | tup b=>simp [cn] at h
  | frz b=>simp [cn] at h
  | obj b=>simp [cn] at h
theorem yy {μ:aw}{d:D}{m:Int} (h:Kn μ d):gp [.int m,d] μ=.ok (.bl (lC m d)) μ:=by
 unfold gp
 rw [cf]
 simp [mX,yw h]
 cases hp:mr m d with
 | false=>simp [lC,hp];exact aI (by simp)
 | true=>
  cases d with
  | tup xs=>
   obtain ⟨ns,rfl,_⟩:=Bw hp
   simp
   match ns with
   | []=>simp [lC];exact aI (by simp)
   | [a]=>simp [lC];exact aI (by simp)
   | [a,b]=>
    simp only [ND,NT,Nb,Na]
    simp [ff (ny),ff (oY),lC,hp]
    simp at hp
    rw [hp]
    simp [bne]
    exact aI (by simp)
   | a::b::c::r=>
    have:((r.length:Int)+1+1+1 == 2)=false:=by simp;omega
    simp [this,lC]
    exact aI (by simp)
  | non=>simp [mr] at hp
  | bl b=>simp [mr] at hp
  | int b=>simp [mr] at hp
  | str b=>simp [mr] at hp
  | frz b=>simp [mr] at hp
  | obj b=>simp [mr] at hp
theorem A5 {μ:aw}{d:D}{m:Int} (h:Kn μ d):iy [.int m,d] μ=.ok (.bl (cZ m d)) μ:=by
 unfold iy
 rw [cf]
 simp [pT,yy h]
 cases hp:lC m d with
 | false=>
  have:cZ m d=false:=by
   unfold lC at hp
   unfold cZ
   cases hq:mr m d with
   | false=>rfl
   | true=>
    rw [hq] at hp
    simp only [PQ] at hp ⊢
    split at hp
    ·simp at hp ⊢;omega
    ·rfl
  simp [this];exact aI (by simp)
 | true=>
  unfold lC at hp
  rw [MY] at hp
  obtain ⟨hp1,hp2⟩:=hp
  split at hp2
  ·rename_i a b
   simp [ff (ny),ff (oY),cZ,hp1,cq]
   exact aI (by simp)
  ·cases hp2
theorem pA {m:Int}{d:D} (h:cZ m d=true):∃ a b:Int,d=aq [a,b]/\0<=a/\a<b/\b<=m - 1:=by
 unfold cZ at h
 rw [MY] at h
 obtain ⟨h1,h2⟩:=h
 split at h2
 ·rename_i a b
  simp [mr,cn] at h1
  simp at h2
  exact ⟨a,b,rfl,by omega,h2,by omega⟩
 ·cases h2
def fJ (k k':List Int):Bool:=match k,k' with
 | [a,b],[c,d]=>decide (a<c) || (decide (a=c) && decide (b<d))
 | _,_=>false
theorem vD {μ:aw}{a b c d:Int}:eA .Lt (aq [a,b]) (aq [c,d]) μ=.ok (.bl (fJ [a,b] [c,d])) μ:=by
 have e:eA .Lt (aq [a,b]) (aq [c,d]) μ=(match cmpPs .Lt [.int a,.int b] [.int c,.int d] with | some k=>.ok (.bl k) μ | none=>.bad):=rfl
 rw [e]
 simp only [cmpPs,gf,PyData.eqv,fJ]
 by_cases h1:a=c
 ·subst h1
  by_cases h2:b=d
  ·subst h2;simp [cq]
  ·simp [h2,cq]
 ·simp [h1,cq]
theorem tx {μ:aw}{a b c d:Int}:eA .LtE (aq [a,b]) (aq [c,d]) μ=.ok (.bl (!fJ [c,d] [a,b])) μ:=by
 have e:eA .LtE (aq [a,b]) (aq [c,d]) μ=(match gf .LtE (.tuple [.int a,.int b]) (.tuple [.int c,.int d]) with | some k=>.ok (.bl k) μ | none=>.bad):=rfl
 rw [e]
 have le:∀ x y:Int,decide (x<=y)=!decide (y<x):=fun x y=>by
  by_cases h:x<=y
  ·rw [Nz h,Lm (by omega)];rfl
  ·rw [Lm h,Nz (by omega)];rfl
 simp only [gf,cmpPs,PyData.eqv,fJ]
 by_cases h1:a=c
 ·subst h1
  by_cases h2:b=d
  ·subst h2;simp [cq]
  ·simp [h2,cq,le]
 ·have h3 : ¬ c = a := fun z => h1 z.symm
  simp [h1,h3,cq,le]
def An (k:List Int):Prop:=∃ a b,k=[a,b]
def gh (ks:List (List Int)):Bool:=(List.range (ks.length - 1)).all fun i=>fJ (ks.getD i []) (ks.getD (i+1) [])
theorem k6 {lo:Int}{n:Nat}:bM lo n=(List.range n).map fun (i:Nat)=>D.int (lo+(i:Int)):=rfl
theorem Eu:i3=aA (eA .Lt) (aA b9 (ah 1) (aA i5 (ah 0) (cC (.int 1)))) (aA b9 (ah 1) (ah 0)):=rfl
theorem yH {μ:aw}{ks:List (List Int)} (hk:∀ k∈ks,An k) (a:List D) (i:Nat) (hi:i<ks.length - 1) :
  (aA (eA .Lt) (aA b9 (ah 1) (aA i5 (ah 0) (cC (.int 1)))) (aA b9 (ah 1) (ah 0))) [some (.int (1+(i:Int))),some (.tup (ks.map aq))] (μ++[.lst a])=.ok (.bl (fJ (ks.getD i []) (ks.getD (i+1) []))) (μ++[.lst a]):=by
 have h1:i<ks.length:=by omega
 have h2:i+1<ks.length:=by omega
 obtain ⟨x,y,e1⟩:=hk ks[i] (O4 h1)
 obtain ⟨u,v,e2⟩:=hk ks[i+1] (O4 h2)
 have g1:atI (ks.map aq) (1+(i:Int) - 1)=some (aq [x,y]):=by
  rw [show (1+(i:Int) - 1)=((i:Nat):Int) by omega]
  exact jn (by rw [Ms,O5 h1,e1];rfl)
 have g2:atI (ks.map aq) (1+(i:Int))=some (aq [u,v]):=by
  rw [show (1+(i:Int))=((i+1:Nat):Int) by omega]
  exact jn (by rw [Ms,O5 h2,e2];rfl)
 have k1:ks.getD i []=[x,y]:=by rw [OS,O5 h1,e1];rfl
 have k2:ks.getD (i+1) []=[u,v]:=by rw [OS,O5 h2,e2];rfl
 rw [k1,k2]
 simp only [aJ,aj,ag,bh,aa,Ai]
 rw [ff g1]
 simp only [aa]
 rw [ff g2]
 simp only [aa]
 exact vD
theorem wL {μ:aw}{ks:List (List Int)} (hk:∀ k∈ks,An k) (hl:ks.length<1000) :
  compLoop (qq.fix (bM 1 (ks.length - 1))) μ.length (ao 0) gN (aA (eA CmpOp.Lt) (aA b9 (ah 1) (aA i5 (ah 0) (cC (D.int 1)))) (aA b9 (ah 1) (ah 0))) (bM 1 (ks.length - 1)) [none,some (D.tup (List.map aq ks))] (μ++[O.lst []]) =
   .ok (.obj μ.length) (μ++[.lst (((List.range (ks.length - 1)).map fun i=>fJ (ks.getD i []) (ks.getD (i+1) [])).map D.bl)]):=by
 have:=dX (src:=.fix (bM 1 (ks.length - 1))) (g:=ao 0) (t:=gN) (e:=aA (eA .Lt) (aA b9 (ah 1) (aA i5 (ah 0) (cC (.int 1)))) (aA b9 (ah 1) (ah 0))) (μ1:=μ) (q:=fun _=>true)
  (h:=fun d=>match d with | .int j=>.bl (fJ (ks.getD (j - 1).toNat []) (ks.getD ((j - 1).toNat+1) [])) | _=>.non) (fun ρ=>∃ o,ρ=[o,some (.tup (ks.map aq))]) (fun _=>trivial) (xs:=bM 1 (ks.length - 1)) (acc:=[]) (ρ:=[none,some (.tup (ks.map aq))]) ⟨none,rfl⟩
  (by rw [k6,Mw,NS,NT];exact LB (by omega) pC)
  (fun x hx a ρ ⟨o, ho⟩ => by
   rw [k6] at hx
   obtain ⟨i,hi,rfl⟩:=N0.mp hx
   refine ⟨[some (.int (1+(i:Int))),some (.tup (ks.map aq))],⟨_,rfl⟩,by subst ho;rfl,rfl,fun _=>?_⟩
   rw [yH hk a i (by simpa using hi)]
   dsimp only
   rw [show (1+(i:Int) - 1).toNat=i by omega])
 rw [this,PX.mpr (fun _ _=>rfl),k6,NQ,Ny,NQ]
 congr 4
 apply NR
 intro i _
 show D.bl (fJ (ks.getD (1+(i:Int) - 1).toNat []) (ks.getD ((1+(i:Int) - 1).toNat+1) []))=_
 rw [show (1+(i:Int) - 1).toNat=i by omega]
 rfl
theorem vf {μ:aw}{ks:List (List Int)} (hk:∀ k∈ks,An k) (hl:ks.length<1000):cS [.tup (ks.map aq)] μ=.ok (.bl (gh ks)) μ:=by
 unfold cS
 rw [eE]
 simp only [j7,bc,aB,au,dq,fL,bh,az,aa,ag,lQ,Mw]
 rw [ou (by omega) (by omega) (by omega) (by omega)]
 have hn:((ks.length:Int) - 1).toNat=ks.length - 1:=by omega
 simp only [aa,bD,hn]
 rw [show gX [none,some 0] (some (D.tup (List.map aq ks))::List.replicate (1 - 1) none)=[none,some (D.tup (List.map aq ks))] from rfl]
 rw [Eu,wL hk hl]
 simp only [aa]
 rw [kv aD]
 simp only [ae,aW]
 rw [fK (by simp)]
 simp [gh,Pm,PY]
def iJ:D->List Int
 | .tup [.int a,.int b]=>[a,b]
 | _=>[]
def gM (m:Int) (d:D):Bool:=match d with
 | .tup ts=>ts.all (cZ m) && gh (ts.map iJ)
 | _=>false
def bU (d:D):Bool:=match d with
 | .tup [.int m,ts]=>decide (1<=m) && decide (m<=6) && gM m ts
 | _=>false
theorem vd {m:Int}{ts:List D} (h:ts.all (cZ m)=true):∃ ks:List (List Int),ts=ks.map aq/\ts.map iJ=ks/\∀ k∈ks,∃ a b:Int,k=[a,b]/\0<=a/\a<b/\b<=m - 1:=by
 induction ts with
 | nil=>exact ⟨[],rfl,rfl,by simp⟩
 | cons x r ih=>
  rw [Ni,MY] at h
  obtain ⟨ks,e1,e2,e3⟩:=ih h.2
  obtain ⟨a,b,rfl,h1,h2,h3⟩:=pA h.1
  refine ⟨[a,b]::ks,by rw [e1];rfl,by rw [Nb,e2];rfl,fun k hk=>?_⟩
  rcases LH.mp hk with z | z
  ·exact ⟨a,b,z,h1,h2,h3⟩
  ·exact e3 k z
theorem yt {μ:aw}{d:D}{m:Int} (h:Kn μ d):gn [.int m,d] μ=.ok (.bl (gM m d)) μ:=by
 unfold gn
 rw [cf]
 simp [mW,ig h]
 cases d with
 | tup ts=>
  simp only [bC,MJ,gM]
  simp only [Kn] at h
  rw [ko]
  simp only [aa,bD]
  rw [u9 (h:=cZ m) (LB (LC h.1) pC) fun x hx a=>?_]
  ·simp only [aa]
   rw [kv aD]
   simp only [aa,bj]
   cases ha:ts.all (cZ m) with
   | false=>
    have:((ts.map (cZ m)).all id)=false:=by rw [Pm];simpa [PY] using ha
    rw [this]
    simp
    exact fK (by simp)
   | true=>
    have:((ts.map (cZ m)).all id)=true:=by rw [Pm];simpa [PY] using ha
    rw [this]
    obtain ⟨ks,e1,e2,e3⟩:=vd ha
    simp only [MJ,PQ]
    rw [e2,e1,vf (fun k hk=>let ⟨a,b,e,_⟩:=e3 k hk;⟨a,b,e⟩) (by rw [e1] at h;simpa using h.1)]
    simp
    exact fK (by simp)
  ·simp [iS]
   exact A5 (sD _ (om.mp h.2 x hx))
 | non=>simp [bC,gM];exact aI (by simp)
 | bl b=>simp [bC,gM];exact aI (by simp)
 | int b=>simp [bC,gM];exact aI (by simp)
 | str b=>simp [bC,gM];exact aI (by simp)
 | frz b=>simp [bC,gM];exact aI (by simp)
 | obj b=>simp [bC,gM];exact aI (by simp)
theorem As {μ:aw}{d:D} (h:Kn μ d):fk [d] μ=.ok (.bl (bU d)) μ:=by
 unfold fk
 rw [eE]
 simp [ll,ig h]
 cases d with
 | tup xs=>
  simp only [Kn] at h
  simp [bC]
  match xs,h with
  | [],h=>simp [bU];exact aI (by simp)
  | [x],h=>simp [bU];exact aI (by simp)
  | [x,y],h=>
   simp only [Kns] at h
   simp [yz h.2.1]
   cases x with
   | int m=>
    simp [cn]
    cases hm:(decide (1<=m) && decide (m<=6)) with
    | false=>
     simp [bU,hm]
     have:¬ (1<=m/\m<=6):=by simpa using hm
     rw [Lq this]
     simp
     exact aI (by simp)
    | true=>
     have:1<=m/\m<=6:=by simpa using hm
     rw [Lp this]
     simp [yt h.2.2.1,bU,this]
     exact aI (by simp)
   | non=>simp [cn,bU];exact aI (by simp)
   | bl b=>simp [cn,bU];exact aI (by simp)
   | str b=>simp [cn,bU];exact aI (by simp)
   | tup b=>simp [cn,bU];exact aI (by simp)
   | frz b=>simp [cn,bU];exact aI (by simp)
   | obj b=>simp [cn,bU];exact aI (by simp)
  | x::y::z::r,h=>
   have:((r.length:Int)+1+1+1 == 2)=false:=by simp;omega
   simp [this,bU]
   exact aI (by simp)
 | non=>simp [bC,bU];exact aI (by simp)
 | bl b=>simp [bC,bU];exact aI (by simp)
 | int b=>simp [bC,bU];exact aI (by simp)
 | str b=>simp [bC,bU];exact aI (by simp)
 | frz b=>simp [bC,bU];exact aI (by simp)
 | obj b=>simp [bC,bU];exact aI (by simp)
def fM (m:Int):List Int->List D->Bool
 | _,[]=>true
 | k,x::r=>cZ m x && fJ k (iJ x) && fM m (iJ x) r
theorem dj {μ:aw}{b:Bool}:oG μ (.ok (.bl b) μ)=.ok (.bl b) μ:=aI (by simp)
theorem CO {m a b:Int}:cZ m (.tup [.int a,.int b])=(decide (0<=a) && decide (a<b) && decide (b<m)):=by
 simp only [cZ,mr,Ni,List.all_nil,cn,PU]
 by_cases h1:0<=a <;> by_cases h2:a<b <;> by_cases h3:b<m <;> simp [h1,h2,h3] <;> omega
theorem D6 {μ:aw}{m la lb:Int}{ts:D}{x:D} (h:Kn μ x):bJ [some (.tup [.int m,ts]),some (aq [la,lb]),some x] μ =
  if (cZ m x && fJ [la,lb] (iJ x))=true then .next [some (.tup [.int m,ts]),some x,some x] μ else .ret (.bl false) μ:=by
 unfold bJ
 simp [ig h]
 cases x with
 | tup xs=>
  simp only [Kn] at h
  simp [bC]
  match xs,h with
  | [],h=>simp [cZ]
  | [x],h=>simp [cZ]
  | [x,y],h=>
   simp only [Kns] at h
   simp [ff (ny),ff (oY),mJ h.2.1,mJ h.2.2.1]
   cases hx:isInt x with
   | false=>
    have:cZ m (.tup [x,y])=false:=by cases x <;> simp [isInt] at hx <;> simp [cZ]
    simp [this]
   | true=>
    cases hy:isInt y with
    | false=>
     have:cZ m (.tup [x,y])=false:=by cases x <;> cases y <;> simp [isInt] at hx hy <;> simp [cZ]
     simp [this]
    | true=>
     cases x <;> simp [isInt] at hx
     cases y <;> simp [isInt] at hy
     rename_i a b
     have e:=tx (μ:=μ) (a:=a) (b:=b) (c:=la) (d:=lb)
     simp only [aq,Nb,Na] at e
     simp only [aq,Nb,Na,CO,iJ]
     by_cases h1:0<=a
     ·by_cases h2 : a < b
      ·by_cases h3 : b < m
       ·simp [cq, h1, h2, h3, e]
        cases fJ [la,lb] [a,b] <;> simp
       ·simp [cq,h1,h2,h3]
      ·simp [cq,h1,h2]
     ·simp [cq,h1]
  | x::y::z::r,h=>
   have:¬ ((r.length:Int)+1+1+1=2):=by omega
   simp [this,cZ]
 | non=>simp [bC,cZ,mr]
 | bl b=>simp [bC,cZ,mr]
 | int b=>simp [bC,cZ,mr]
 | str b=>simp [bC,cZ,mr]
 | frz b=>simp [bC,cZ,mr]
 | obj b=>simp [bC,cZ,mr]
theorem xP {μ:aw}{m:Int}{tt:D}{src:qq} (hs:cA src μ):∀ {ts:List D}{la lb:Int}{o:Option D},Kns μ ts->∃ ρ,dB src (ao 2) bJ ts [some (.tup [.int m,tt]),some (aq [la,lb]),o] μ =
  if fM m [la,lb] ts=true then .next ρ μ else .ret (.bl false) μ
 | [],la,lb,o,h=>⟨[some (.tup [.int m,tt]),some (aq [la,lb]),o],by rw [dB,Lp hs,fM];rfl⟩
 | x::r,la,lb,o,h=>by
  simp only [Kns] at h
  have e:dB src (ao 2) bJ (x::r) [some (.tup [.int m,tt]),some (aq [la,lb]),o] μ=(bJ [some (.tup [.int m,tt]),some (aq [la,lb]),some x] μ).loop (dB src (ao 2) bJ r):=by
   rw [dB,Lp hs];rfl
  rw [e,D6 h.1]
  cases hc:(cZ m x && fJ [la,lb] (iJ x)) with
  | false=>
   refine ⟨[],?_⟩
   simp only [fM,hc,L6]
   simp
  | true=>
   have ht:cZ m x=true:=by
    rw [MY] at hc;exact hc.1
   obtain ⟨a,b,rfl,_⟩:=pA ht
   obtain ⟨ρ,e2⟩:=xP hs (m:=m) (tt:=tt) (ts:=r) (la:=a) (lb:=b) (o:=some (aq [a,b])) h.2
   refine ⟨ρ,?_⟩
   simp only [MJ,xO,fM,hc,PQ]
   exact e2
theorem mK {k k':List Int}{r:List (List Int)}:gh (k::k'::r)=(fJ k k' && gh (k'::r)):=by
 unfold gh
 simp only [ND,Nat.add_sub_cancel]
 rw [NP,Ni,Pm]
 rfl
theorem nC {m:Int}:∀ {ts:List D}{k:List Int},fM m k ts=(ts.all (cZ m) && gh (k::ts.map iJ))
 | [],k=>by simp [fM,gh]
 | x::r,k=>by
  rw [fM,nC (ts:=r),Nb,mK,Ni]
  cases cZ m x <;> cases fJ k (iJ x) <;> cases r.all (cZ m) <;> simp
theorem wY {m:Int}{ts:List D}:fM m [-1,-1] ts=(ts.all (cZ m) && gh (ts.map iJ)):=by
 rw [nC]
 cases ts with
 | nil=>simp [gh]
 | cons x r=>
  rw [Nb,mK]
  cases ht:(x::r).all (cZ m) with
  | false=>rfl
  | true=>
   rw [Ni,MY] at ht
   obtain ⟨a,b,rfl,h1,_⟩:=pA ht.1
   have:fJ [-1,-1] (iJ (aq [a,b]))=true:=by
    simp [iJ,aq,fJ];omega
   rw [this];rfl
theorem C5 {μ:aw}{d:D} (h:Kn μ d):cw [d] μ=.ok (.bl (bU d)) μ:=by
 unfold cw
 rw [eE]
 simp [jC,ig h]
 cases d with
 | tup xs=>
  simp only [Kn] at h
  simp [bC]
  match xs,h with
  | [],h=>simp [bU];exact dj
  | [x],h=>simp [bU];exact dj
  | [x,y],h=>
   simp only [Kns] at h
   simp [ff (ny),ff (oY),mJ h.2.1]
   cases x with
   | int m=>
    simp [isInt,cq]
    by_cases h1:1<=m
    ·have h1' : 0 < m := by omega
     by_cases h2:m<=6
     ·have h2' : m < 7 := by omega
      simp [h1',h2',ig h.2.2.1]
      cases y with
      | tup ts=>
       simp [bC,Me]
       have hk:=h.2.2.1
       simp only [Kn] at hk
       obtain ⟨ρ,e⟩:=xP (src:=.fix ts) (m:=m) (tt:=.tup ts) (ts:=ts) (la:=-1) (lb:=-1) (o:=none) trivial hk.2
       simp only [aq,Nb,Na] at e
       rw [e,wY]
       have hw:bU (.tup [.int m,.tup ts])=(ts.all (cZ m) && gh (ts.map iJ)):=by simp [bU,h1,h2,gM]
       rw [hw]
       cases (ts.all (cZ m) && gh (ts.map iJ)) <;> simp <;> exact dj
      | non=>simp [bC,bU,gM];exact dj
      | bl b=>simp [bC,bU,gM];exact dj
      | int b=>simp [bC,bU,gM];exact dj
      | str b=>simp [bC,bU,gM];exact dj
      | frz b=>simp [bC,bU,gM];exact dj
      | obj b=>simp [bC,bU,gM];exact dj
     ·have h2' : ¬ m < 7 := by omega
      simp [h1',h1,h2,h2',bU];exact dj
    ·have h1' : ¬ 0 < m := by omega
     simp [h1,h1',bU];exact dj
   | non=>simp [isInt,bU];exact dj
   | bl b=>simp [isInt,bU];exact dj
   | str b=>simp [isInt,bU];exact dj
   | tup b=>simp [isInt,bU];exact dj
   | frz b=>simp [isInt,bU];exact dj
   | obj b=>simp [isInt,bU];exact dj
  | x::y::z::r,h=>
   have:¬ ((r.length:Int)+1+1+1=2):=by omega
   simp [this,bU]
   exact dj
 | non=>simp [bC,bU];exact dj
 | bl b=>simp [bC,bU];exact dj
 | int b=>simp [bC,bU];exact dj
 | str b=>simp [bC,bU];exact dj
 | frz b=>simp [bC,bU];exact dj
 | obj b=>simp [bC,bU];exact dj
def mm (p:Int × Int):List Int:=[min p.1 p.2,max p.1 p.2]
def PP (m:Nat) (p:Int × Int):Prop:=(0<=p.1/\p.1<(m:Int))/\(0<=p.2/\p.2<(m:Int))/\p.1≠p.2
theorem PP.ok {m:Nat}{p:Int × Int} (h:PP m p):qr m (mm p):=⟨_,_,rfl,by have:=h.1;have:=h.2.1;omega,by have:=h.2.2;omega,by have:=h.1;have:=h.2.1;omega⟩
theorem A9 {m:Nat}{ps:List (Int × Int)}{a b:Int} (hm:m<=6) (hps:∀ p∈ps,PP m p):[a,b]∈fY (ps.map mm)↔∃ p∈ps,mm p=[a,b]:=by
 unfold fY
 rw [Lz,Pe,N0]
 exact ⟨fun h=>h.2,fun h=>⟨by obtain ⟨p,hp,e⟩:=h;rw [<- e];exact (hps p hp).ok.prs (by omega),h⟩⟩
theorem oh {m:Nat}{ps:List (Int × Int)} (h0:1<=m) (hm:m<=6) (hps:∀ p∈ps,PP m p):GW m (fY (ps.map mm)):=vh (by omega) (by omega) fun k hk=>by obtain ⟨p,hp,rfl⟩:=N0.mp hk;exact (hps p hp).ok
theorem mI {μ:aw}{m t:Nat}{ps:List (Int × Int)} (h0:1<=m) (hm:m<=6) (hl:ps.length<=100000) (ht:μ[t]?=some (.lst (ps.map gx))) (hps:∀ p∈ps,PP m p):bF [.int m,.obj t] μ=.ok (bg m (fY (ps.map mm))) μ:=by
 have c:=eM (U:=Int × Int) (en:=gx) (src:=.own t (ps.map gx)) (g:=fu 2 (bt (ao 0) (bt (ao 1) (fv)))) (t:=gN) (e:=g7) (μ1:=μ) (q:=fun _=>true) (h:=fun p=>aq (mm p)) (fun ρ=>∃ o o',ρ=[o,o']) (fun _=>aN ht) (us:=ps) (acc:=[]) (ρ:=[none,none]) ⟨_,_,rfl⟩
  (by rw [NT];exact LB (by omega) Av)
  (fun p hp a ρ hJJ => by
   obtain ⟨o,o',e⟩:=hJJ
   subst e
   refine ⟨[some (.int p.1),some (.int p.2)],⟨_,_,rfl⟩,rfl,rfl,fun _=>?_⟩
   unfold g7
   simp only [dg,aB,au,az,ag,aj,aa,JD,JE,ND,NT,Lp l2]
   rfl)
 rw [j3,Ny,show ps.map (fun p=>aq (mm p))=(ps.map mm).map aq from by rw [NQ];rfl] at c
 have hk:∀ k∈ps.map mm,k∈prs:=fun k hk=>by
  obtain ⟨p,hp,rfl⟩:=N0.mp hk
  exact (hps p hp).ok.prs (by omega)
 let M1:aw:=μ++[O.lst ((ps.map mm).map aq)]
 have s1:vW [.obj μ.length] M1=.ok (.obj M1.length) (M1++[.set (iW (ps.map mm))]):=by
  unfold vW;dsimp only;rw [show M1[μ.length]?=some (.lst ((ps.map mm).map aq)) from aD];dsimp only;unfold ua;rw [uT hk]
 have s2:kx [.obj M1.length] (M1++[.set (iW (ps.map mm))])=.ok (.obj (M1++[O.set (iW (ps.map mm))]).length) ((M1++[.set (iW (ps.map mm))])++[.lst ((fY (ps.map mm)).map aq)]):=by
  unfold kx;dsimp only;rw [aD];dsimp only;rw [vk]
 unfold bF
 rw [cf]
 simp only [kQ,List.replicate,bc,dg,au,az,aB,aj,ag,aa,dq,dm]
 rw [iL ht]
 simp only [aa,fC]
 rw [show gX [none,none] _=[none,none] from rfl,c]
 simp only [aa]
 rw [show vW [.obj μ.length] (μ++[O.lst ((ps.map mm).map aq)])=_ from s1]
 simp only [aa]
 rw [s2]
 simp only [aa]
 rw [sG aD]
 simp only [aa,ND,NT,Lp l2,ae,aW,M1,Np]
 exact fK (gQ (oh h0 hm hps))
theorem Ib {μ0 μ1:aw}{i:Nat}{m q:Nat}{sh:Int} (hi:i<μ0.length) (h:Pn μ0 i μ1) (hq:q<m) (m6:m<=6) (s0:0<sh) (s1:sh<1000) :
  ∃ (qs:List (Int × Int)) (μ2:aw),(∀ p∈qs,PP m p)/\qs.length<=q/\Pn μ0 i μ2/\μ2.length=μ1.length/\(∀ j o,i≠j->μ1[j]?=some o->μ2[j]?=some o)/\compLoop (.fix (bM 0 q)) μ1.length (ao 0) cX cY (bM 0 q) [none,some (.int q),some (.obj i),some (.int sh)] (μ1++[.lst []])=.ok (.obj μ1.length) (μ2++[.lst (qs.map gx)]):=by
 have run:=pO (src:=.fix (bM 0 q)) (g:=ao 0) (t:=cX) (e:=cY) (n:=μ1.length)
  (fun xs ys ρ μ2 s=>s=[]/\μ2.length=μ1.length/\Pn μ0 i μ2/\(∀ j o,i≠j->μ1[j]?=some o->μ2[j]?=some o)/\(∃ o,ρ=[o,some (.int q),some (.obj i),some (.int sh)])/\∃ (lo n:Nat) (qs:List (Int × Int)),xs=bM lo n/\lo+n=q/\ys=qs.map gx/\qs.length<=lo/\(∀ p∈qs,PP m p))
  (fun ys ρ μ2 s ⟨_,e1,_⟩=>⟨e1,trivial⟩)
  (fun x r ys ρ μ2 s hJJ => by
   obtain ⟨es,e1,e2,ek,⟨o,e4⟩,lo,n,qs,e5,e7,e8,e9,e10⟩:=hJJ
   subst es e4 e8
   cases n with
   | zero=>rw [jc] at e5;cases e5
   | succ n=>
    rw [ie] at e5
    injection e5 with ex er
    subst ex er
    have i2:i<μ2.length:=Lu hi e2.len
    obtain ⟨v,a,b,c,v0,v1,ed,hp⟩:=(e2.app (g:=[.lst (qs.map gx)])).draw (m:=sh) hi s0 (by omega)
    rw [xC i2] at ed
    refine ⟨e1,trivial,[some (.int lo),some (.int q),some (.obj i),some (.int sh)],μ2,[],v == 0,μ2.set i (bZ a b c),[],rfl,?_,fun hc=>?_,fun hc=>?_⟩
    ·unfold cX
     simp only [eG,aJ,aB,au,az,aj,ag,bh,aa,ed,iw,NC,MH,bj]
    ·refine ⟨gx ((lo : Int), (q : Int)), μ2.set i (bZ a b c), [], ?_, ?_, by simpa using e1, rfl, by simpa using e1, e2.set hi, fun j o ne z => by rw [LO ne]; exact ek j o ne z, ⟨_, rfl⟩, lo + 1, n, qs ++ [((lo : Int), (q : Int))], by push_cast; rfl, by omega, by simp, by simp; omega, fun p hp => ?_⟩
     ·unfold cY
      simp only [dg,au,az,aj,ag,aa,ND,NT,Lp l2]
      rfl
     ·rw [Mw]
      exact Lu (show qs.length<1000 by omega) bS
     ·rcases LJ.mp hp with z | z
      ·exact e10 p z
      ·simp at z;subst z;exact ⟨⟨by dsimp only;omega,by dsimp only;omega⟩,⟨by dsimp only;omega,by dsimp only;omega⟩,by dsimp only;omega⟩
    ·exact ⟨rfl,by simpa using e1,e2.set hi,fun j o ne z=>by rw [LO ne];exact ek j o ne z,⟨_,rfl⟩,lo+1,n,qs,by push_cast;rfl,by omega,rfl,by omega,e10⟩)
  (xs:=bM 0 q) (ys:=[]) (ρ:=[none,some (.int q),some (.obj i),some (.int sh)]) (μ1:=μ1) (s:=[])
  ⟨rfl,rfl,h,fun _ _ _ z=>z,⟨_,rfl⟩,0,q,[],rfl,by omega,rfl,by simp,fun p hp=>by cases hp⟩
 obtain ⟨ys',ρ',μ2,s',⟨es,e1,e2,ek,⟨o,e4⟩,lo,n,qs,e5,e7,e8,e9,e10⟩,run⟩:=run
 subst es e8
 exact ⟨qs,μ2,e10,by omega,e2,e1,ek,run⟩
theorem Pn.put {μ0 M:aw}{i t:Nat}{o:O} (h:Pn μ0 i M) (ht:μ0.length<=t):Pn μ0 i (M.set t o):=by
 obtain ⟨a,b,c,g,rfl⟩:=h
 refine ⟨a,b,c,g.set (t - μ0.length) o,?_⟩
 rw [Pq _ _ (by simpa using ht)]
 simp
theorem xW {M:aw}{t u:Nat}{xs ys:List D} (ht:M[t]?=some (.lst xs)) (hu:M[u]?=some (.lst ys)) (hl:xs.length+ys.length<=1000):gB (.obj t) [.obj u] M=.ok .non (M.set t (.lst (xs++ys))):=by
 unfold gB
 dsimp only
 rw [ht,hu]
 dsimp only
 rw [Lp (LB hl bS)]
theorem sf {M:aw}{t:Nat}{xs:List D} (h:M[t]?=some (.lst xs)):zE (.obj t) M=true:=by
 unfold zE
 dsimp only
 rw [h]
theorem uw {μ:aw}{i:Nat}{a b c:Int} (hp:μ[i]?=some (bZ a b c)):∃ m ks a' b' c',GW m ks/\bz [.obj i,.int 6] μ=.ok (bg m ks) (μ.set i (bZ a' b' c')):=by
 have hi:i<μ.length:=(LL.mp hp).1
 obtain ⟨v,a1,b1,c1,v0,v1,ed,P1⟩:=(Pn.self hp).draw (m:=6) hi (by decide) (by decide)
 obtain ⟨m,em⟩:∃ m:Nat,(1:Int)+v=(m:Int):=⟨(1+v).toNat,by omega⟩
 obtain ⟨s,a2,b2,c2,s0,s1,ed2,P2⟩:=P1.draw (m:=3) hi (by decide) (by decide)
 let M2:aw:=(μ.set i (bZ a1 b1 c1)).set i (bZ a2 b2 c2)
 have lM2:M2.length=μ.length:=by simp [M2]
 obtain ⟨ρ',M',⟨n,cc,ps,o5,e1,e2,e3,e4,e5,e6,e7⟩,run⟩:=km (src:=.fix (bM 0 m)) (g:=ao 5) (fb:=cm)
  (fun xs ρ M=>∃ (n cc:Nat) (ps:List (Int × Int)) (o5:Option D),xs=bM n cc/\n+cc=m/\ρ=[some (.obj i),some (.int 6),some (.int m),some (.int (2+s)),some (.obj M2.length),o5]/\Pn μ i M/\M[M2.length]?=some (.lst (ps.map gx))/\ps.length<=6 * n/\∀ p∈ps,PP m p)
  (fun _ _ _=>trivial)
  (fun x xs ρ M hJJ => by
   obtain ⟨n,cc,ps,o5,e1,e2,e3,e4,e5,e6,e7⟩:=hJJ
   subst e3
   cases cc with
   | zero=>rw [jc] at e1;cases e1
   | succ cc=>
    rw [ie] at e1
    injection e1 with ex er
    subst ex er
    obtain ⟨qs,M3,q1,q2,q3,q4,q5,q6⟩:=Ib (m:=m) (q:=n) (sh:=2+s) hi e4 (by omega) (by omega) (by omega) (by omega)
    have t3:(M3++[O.lst (qs.map gx)])[M2.length]?=some (.lst (ps.map gx)):=aN (q5 _ _ (by omega) e5)
    have u3:(M3++[O.lst (qs.map gx)])[M.length]?=some (.lst (qs.map gx)):=by rw [<- q4];exact aD
    have ex:=xW t3 u3 (by rw [Mw,Mw];omega)
    refine ⟨trivial,_,_,[some (.obj i),some (.int 6),some (.int m),some (.int (2+s)),some (.obj M2.length),some (.int n)],(M3++[O.lst (qs.map gx)]).set M2.length (.lst (ps.map gx++qs.map gx)),rfl,?_,n+1,cc,ps++qs,some (.int n),by push_cast;rfl,by omega,rfl,(q3.app).put (by omega),?_,by rw [Mv];omega,fun p hp=>?_⟩
    ·show cm [some (.obj i), some (.int 6), some (.int m), some (.int (2 + s)), some (.obj M2.length), some (.int n)] M = _
     unfold cm
     simp only [ku,qQ,aj,ag,aa,sf e5,MJ,au,az,dq,fL]
     rw [jm (by omega) (by omega)]
     simp only [aa,bD,MD]
     rw [show gX [none,some 5,some 0,some 3] [some (D.obj i),some (D.int 6),some (D.int m),some (D.int (2+s)),some (D.obj M2.length),some (D.int n)]=[none,some (.int n),some (.obj i),some (.int (2+s))] from rfl,q6]
     simp only [aa,ex,ae]
    ·rw [dS (by have:=(LL.mp t3).1;exact this),N7]
    ·rcases LJ.mp hp with z | z
     ·exact e7 p z
     ·exact q1 p z)
  (xs:=bM 0 m) (ρ:=[some (.obj i),some (.int 6),some (.int m),some (.int (2+s)),some (.obj M2.length),none]) (μ:=M2++[.lst []])
  ⟨0,m,[],none,rfl,by omega,rfl,P2.app,aD,by simp,fun p hp=>by cases hp⟩
 have hz:=pG e1.symm
 subst hz e3
 have hg:GW m (fY (ps.map mm)):=oh (by omega) (by omega) e7
 obtain ⟨a7,b7,c7,hgc⟩:=e4.gc (gQ hg)
 refine ⟨m,_,a7,b7,c7,hg,?_⟩
 unfold bz
 rw [cf]
 simp only [jh,List.replicate]
 rw [aP,aS]
 simp only [aJ,bh,aB,au,az,ag,aj,aa,ed,dr,em,ae,br,aC,Pz,PB]
 rw [aP,aS]
 simp only [aJ,bh,aB,au,az,ag,aj,aa,ed2,dr,ae,br,aC,Pz,PB]
 rw [aP,aS]
 simp only [dH,az,aa,NT,Lp (NN sizeLine),ae,br,aC,Pz,PB]
 rw [aP,iu]
 simp only [fL,au,az,aj,ag,aa]
 rw [jm (by omega) (by omega)]
 simp only [ae,bD,MD]
 rw [show dB (.fix (bM 0 m)) (ao 5) cm (bM 0 m) [some (.obj i),some (.int 6),some (.int m),some (.int (2+s)),some (.obj M2.length),none] (M2++[O.lst []])=_ from run]
 simp only [aC,bc,aB,au,az,aj,ag,aa,mI (show 1<=m by omega) (by omega) (by omega) e5 e7,ae,aW]
 exact hgc
def nN (k:List Int):Int × Int:=(k.getD 0 0,k.getD 1 0)
def yj (p:Int) (k:List Int):Bool:=decide (p=(nN k).1) || decide (p=(nN k).2)
def eF (ks:List (List Int)) (p:Int):List Int:=(ks.filter (yj p)).map fun k=>(nN k).1+(nN k).2 - p
def iE (l:List Int) (x:Int):List (Int × Int):=(l.filter fun y=>decide (x<y)).map fun y=>(x,y)
def zH (m:Nat) (ks:List (List Int)):List (Int × Int):=ks.map nN++(rg m).flatMap fun p=>(eF ks p).flatMap (iE (eF ks p))
theorem B1 {M:aw}{t u:Nat}{xs ys:List D} (ht:M[t]?=some (.lst xs)) (hu:M[u]?=some (.lst ys)) (hl:xs.length+ys.length<=100000):gB (.obj t) [.obj u] M=.ok .non (M.set t (.lst (xs++ys))):=by
 unfold gB
 dsimp only
 rw [ht,hu]
 dsimp only
 rw [Lp (LB hl Av)]
theorem HH {μ:aw}{p a b:Int}:vJ false (.int p) (.tup [.int a,.int b]) μ=.ok (.bl (decide (p=a) || decide (p=b))) μ:=by
 show ak.ok (D.bl ((a == p) || ((b == p) || false))) μ=_
 congr 2
 rw [Bool.or_false]
 congr 1
 ·apply Md.mpr;rw [Pb,Pe];exact eq_comm
 ·apply Md.mpr;rw [Pb,Pe];exact eq_comm
section
variable {m:Nat}{ks:List (List Int)}
theorem uO (h:GW m ks) {p:Int}:(eF ks p).length<=15:=by
 have:=dM h
 unfold eF
 rw [Mw]
 exact LB (PF _ _) this
theorem i7 (h:GW m ks) {p x:Int}:x∈eF ks p↔ij ks p x:=by
 rw [iN h.2.2.2.2]
 unfold eF
 rw [N0]
 constructor
 ·rintro ⟨k, hk, rfl⟩
  obtain ⟨h1,h2⟩:=Lz.mp hk
  obtain ⟨a,b,rfl,_⟩:=h.2.2.2.2 k h1
  have h3:p=a\/p=b:=by simpa [yj,nN] using h2
  rcases h3 with rfl|rfl
  ·left;rw [show (nN [p,b]).1+(nN [p,b]).2 - p=b from by show p+b - p=b;omega];exact h1
  ·right;rw [show (nN [a,p]).1+(nN [a,p]).2 - p=a from by show a+p - p=a;omega];exact h1
 ·rintro (h1 | h1)
  ·exact ⟨[p,x],Lz.mpr ⟨h1,by simp [yj,nN]⟩,by show p+x - p=x;omega⟩
  ·exact ⟨[x,p],Lz.mpr ⟨h1,by simp [yj,nN]⟩,by show x+p - p=x;omega⟩
theorem C3 {μ:aw}{p:Int} (h:GW m ks):dP [bg m ks,.int p] μ=.ok (.obj μ.length) (μ++[.lst ((eF ks p).map D.int)]):=by
 have n2:0+1+1<=sizeLine:=l2
 have c:=eM (U:=List Int) (en:=aq) (src:=.fix (ks.map aq)) (g:=fu 2 (bt (ao 0) (bt (ao 1) (fv)))) (t:=gu) (e:=gv) (μ1:=μ) (q:=yj p) (h:=fun k=>.int ((nN k).1+(nN k).2 - p)) (fun ρ=>∃ o o',ρ=[o,o',some (.int p)]) (fun _=>trivial) (us:=ks) (acc:=[]) (ρ:=[none,none,some (.int p)]) ⟨_,_,rfl⟩
  (by rw [NT];have:=dM h;exact LB (by omega) bS)
  (fun k hk a ρ hJJ => by
   obtain ⟨o,o',e⟩:=hJJ
   subst e
   obtain ⟨x,y,rfl,_⟩:=h.2.2.2.2 k hk
   refine ⟨[some (.int x),some (.int y),some (.int p)],⟨_,_,rfl⟩,rfl,?_,fun _=>?_⟩
   ·unfold gu
    simp only [eG,aJ,dg,au,az,aj,ag,aa,ND,NT,Lp n2,HH,bj]
    rfl
   ·unfold gv
    simp only [aJ,aj,ag,aa,dr]
    rfl)
 rw [Ny,show (ks.filter (yj p)).map (fun k=>D.int ((nN k).1+(nN k).2 - p))=(eF ks p).map D.int from by unfold eF;rw [NQ];rfl] at c
 unfold dP
 rw [cf]
 simp only [ke,List.replicate,bc,dq,dm,aJ,ag,bh,aa,kq,ko,bD]
 rw [show gX [none,none,some 1] _=[none,none,some (.int p)] from rfl,c]
 simp only [ae,aW]
 exact ud (by simp)
theorem CL {M:aw}{N:Nat}{l:List Int}{x:Int} (hN:M[N]?=some (.lst (l.map D.int))) (hl:l.length<=15):compLoop (.own N (l.map D.int)) M.length (ao 0) du dz (l.map D.int) [none,some (.int x)] (M++[.lst []])=.ok (.obj M.length) (M++[.lst ((iE l x).map gx)]):=by
 have c:=eM (U:=Int) (en:=D.int) (src:=.own N (l.map D.int)) (g:=ao 0) (t:=du) (e:=dz) (μ1:=M) (q:=fun y=>decide (x<y)) (h:=fun y=>gx (x,y)) (fun ρ=>∃ o,ρ=[o,some (.int x)]) (fun _=>aN hN) (us:=l) (acc:=[]) (ρ:=[none,some (.int x)]) ⟨_,rfl⟩
  (by rw [NT];exact LB (by omega) bS)
  (fun y hy a ρ hJJ => by
   obtain ⟨o,e⟩:=hJJ
   subst e
   refine ⟨[some (.int y),some (.int x)],⟨_,rfl⟩,rfl,?_,fun _=>?_⟩
   ·unfold du
    simp only [eG,aJ,aj,ag,aa,gA,bj]
    rfl
   ·unfold dz
    simp only [dg,au,az,aj,ag,aa,ND,NT,Lp l2]
    rfl)
 rw [Ny,show (l.filter fun y=>decide (x<y)).map (fun y=>gx (x,y))=(iE l x).map gx from by unfold iE;rw [NQ];rfl] at c
 exact c
theorem pE {l:List Int}{x:Int}:(iE l x).length<=l.length:=by
 unfold iE
 rw [Mw]
 exact PF _ _
theorem lN {α β:Type}{f:α->List β}{k:Nat} (h:∀ x,(f x).length<=k):∀ l:List α,(l.flatMap f).length<=l.length * k
 | []=>by simp
 | w::l=>by
  rw [PM,Mv,ND,Nv]
  have:=h w;have:=lN h l;omega
theorem Aq {M:aw}{T N:Nat}{ps:List (Int × Int)}{l:List Int}{o0 o2:Option D} (hT:M[T]?=some (.lst (ps.map gx))) (hN:M[N]?=some (.lst (l.map D.int))) (ne:T≠N) (hl:l.length<=15) (hp:ps.length<=10000):∀ (xs:List Int) (dn:List Int) (M1:aw) (o4:Option D),l=dn++xs->M1[T]?=some (.lst ((ps++dn.flatMap (iE l)).map gx))->(∀ j o,T≠j->M[j]?=some o->M1[j]?=some o) ->
  ∃ (M2:aw) (o4':Option D),dB (.own N (l.map D.int)) (ao 4) dw (xs.map D.int) [o0,some (.obj T),o2,some (.obj N),o4] M1=.next [o0,some (.obj T),o2,some (.obj N),o4'] M2/\M2[T]?=some (.lst ((ps++l.flatMap (iE l)).map gx))/\(∀ j o,T≠j->M[j]?=some o->M2[j]?=some o)
 | [],dn,M1,o4,e,h1,h2=>by
  rw [Mg] at e
  subst e
  refine ⟨M1,o4,?_,h1,h2⟩
  rw [Na]
  unfold dB
  rw [Lp (show cA (.own N _) M1 from h2 N _ ne hN)]
 | x::xs,dn,M1,o4,e,h1,h2=>by
  have hN1:=h2 N _ ne hN
  have c:=CL (M:=M1) (x:=x) hN1 hl
  have fl:(dn.flatMap (iE l)).length<=15 * 15:=by
   have h3:=lN (f:=iE l) (k:=15) (fun y=>LB pE hl) dn
   have h4:dn.length<=15:=by have:=LS List.length e;simp at this;omega
   exact LB h3 (PZ 15 h4)
  have rl:(iE l x).length<=15:=LB pE hl
  have ex:=B1 (M:=M1++[.lst ((iE l x).map gx)]) (aN h1) aD (by rw [Mw,Mw,Mv];omega)
  have tl:T<M1.length:=(LL.mp h1).1
  obtain ⟨M2,o4',r1,r2,r3⟩:=Aq (o0:=o0) (o2:=o2) hT hN ne hl hp xs (dn++[x]) ((M1++[O.lst ((iE l x).map gx)]).set T (.lst ((ps++dn.flatMap (iE l)).map gx++(iE l x).map gx))) (some (.int x)) (by rw [e];simp)
   (by rw [dS (by rw [Mv];omega),PL,PM,PN,Mg,<- Np,N7 (l₂:=iE l x)])
   (fun j o nj z=>by rw [LO nj];exact aN (h2 j o nj z))
  refine ⟨M2,o4',?_,r2,r3⟩
  rw [Nb]
  unfold dB
  rw [Lp (show cA (.own N _) M1 from hN1)]
  simp only [br,ae,Pz,PB]
  rw [show dw [o0,some (.obj T),o2,some (.obj N),some (.int x)] M1=.next [o0,some (.obj T),o2,some (.obj N),some (.int x)] ((M1++[O.lst ((iE l x).map gx)]).set T (.lst ((ps++dn.flatMap (iE l)).map gx++(iE l x).map gx))) from by
   unfold dw
   simp only [ku,qQ,aj,ag,aa,sf h1,MJ,au,az,dq,dm]
   rw [iL hN1]
   simp only [aa,fC]
   rw [show gX [none,some 4] [o0,some (D.obj T),o2,some (D.obj N),some (D.int x)]=[none,some (.int x)] from rfl,c]
   simp only [aa,ex,ae]]
  exact r1
end
end Lw
namespace Lw
open PySem L2 RS Lv
section
variable {m:Nat}{ks:List (List Int)}
def qM (ks:List (List Int)) (l:List Int):List (Int × Int):=l.flatMap fun p=>(eF ks p).flatMap (iE (eF ks p))
theorem yV (h:GW m ks) {p:Int}:((eF ks p).flatMap (iE (eF ks p))).length<=225:=by
 have hl:=uO h (p:=p)
 have h3:=lN (f:=iE (eF ks p)) (k:=15) (fun y=>LB pE hl) (eF ks p)
 exact LB h3 (PZ 15 hl)
theorem uJ (h:GW m ks) (l:List Int):(qM ks l).length<=l.length * 225:=lN (fun p=>yV h) l
theorem xt {T:Nat}{μ:aw} (h:GW m ks):∀ (xs dn:List Int) (M:aw) (o2 o3 o4:Option D),dn.length+xs.length<=6->M[T]?=some (.lst ((ks.map nN++qM ks dn).map gx))->μ.length<=T->(∀ j,j<μ.length->M[j]?=μ[j]?) ->
  ∃ (M':aw) (o2' o3' o4':Option D),dB (.fix ((rg m).map D.int)) (ao 2) dv (xs.map D.int) [some (bg m ks),some (.obj T),o2,o3,o4] M=.next [some (bg m ks),some (.obj T),o2',o3',o4'] M'/\M'[T]?=some (.lst ((ks.map nN++qM ks (dn++xs)).map gx))/\(∀ j,j<μ.length->M'[j]?=μ[j]?)
 | [],dn,M,o2,o3,o4,hl,hT,hμ,hk=>by
  refine ⟨M,o2,o3,o4,?_,by rw [Mg];exact hT,hk⟩
  rw [Na]
  unfold dB
  rw [Lp (show cA (.fix _) M from trivial)]
 | p::xs,dn,M,o2,o3,o4,hl,hT,hμ,hk=>by
  have nl:=uO h (p:=p)
  have pl:=uJ h dn
  have kl:=dM h
  simp only [ND] at hl
  have tl:T<M.length:=(LL.mp hT).1
  obtain ⟨M2,o4',r1,r2,r3⟩:=Aq (M:=M++[.lst ((eF ks p).map D.int)]) (T:=T) (N:=M.length) (ps:=ks.map nN++qM ks dn) (l:=eF ks p) (o0:=some (bg m ks)) (o2:=some (.int p)) (aN hT) aD (by omega) nl
   (by
    rw [Mv,Mw]
    have:dn.length * 225<=6 * 225:=PZ 225 (by omega)
    omega) (eF ks p) [] (M++[.lst ((eF ks p).map D.int)]) o4 rfl (by rw [PN,Mg];exact aN hT) (fun _ _ _ z=>z)
  obtain ⟨M',o2',o3',o4'',q1,q2,q3⟩:=xt h xs (dn++[p]) M2 (some (.int p)) (some (.obj M.length)) o4' (by rw [Mv];simp only [ND,NT];omega)
   (by rw [r2]; unfold qM; rw [PL, PM, PN, Mg, Np]) hμ (fun j hj => by
    have hj':j<M.length:=by
     have:j<T:=by omega
     omega
    rw [r3 j M[j] (by omega) (by rw [Mr hj',O5 hj']),<- hk j hj,O5 hj'])
  refine ⟨M',o2',o3',o4'',?_,by rw [q2,Np];rfl,q3⟩
  rw [Nb]
  unfold dB
  rw [Lp (show cA (.fix _) M from trivial)]
  simp only [br,ae,Pz,PB]
  rw [show dv [some (bg m ks),some (.obj T),some (.int p),o3,o4] M=.next [some (bg m ks),some (.obj T),some (.int p),some (.obj M.length),o4'] M2 from by
   unfold dv
   rw [aP,aS]
   simp only [aB,au,az,aj,ag,aa,C3 h,ae,br,aC,Pz,PB]
   rw [iu]
   simp only [dm,aj,ag,aa]
   rw [iL (show (M++[O.lst ((eF ks p).map D.int)])[M.length]?=some (.lst ((eF ks p).map D.int)) from aD)]
   simp only [ae,fC]
   exact r1]
  exact q1
theorem rW (h:GW m ks):∀ p∈zH m ks,PP m p:=fun p hp=>by
 rcases LJ.mp hp with z | z
 ·obtain ⟨k, hk, rfl⟩ := N0.mp z
  obtain ⟨a,b,rfl,h1,h2,h3⟩:=h.2.2.2.2 k hk
  exact ⟨⟨h1,by show a<(m:Int);omega⟩,⟨by show 0<=b;omega,h3⟩,by show a≠b;omega⟩
 ·obtain ⟨q, hq, z⟩ := PD.mp z
  obtain ⟨x,hx,z⟩:=PD.mp z
  obtain ⟨y,hy,rfl⟩:=N0.mp z
  obtain ⟨hy,hxy⟩:=Lz.mp hy
  have ax:=Ft h ((i7 h).mp hx)
  have ay:=Ft h ((i7 h).mp hy)
  have:=PR hxy
  exact ⟨ax.2,ay.2,by dsimp only;omega⟩
theorem FJ (h:GW m ks):fY ((zH m ks).map mm)=nM m ks 2:=by
 have m0:=h.m0
 have m6:=h.m6
 refine pL (oh m0 m6 (rW h)) (g9 m0 m6) fun a b=>?_
 rw [A9 m6 (rW h),rY m6]
 constructor
 ·rintro ⟨p, hp, e⟩
  have pp:=rW h p hp
  unfold mm at e
  simp only [PV,and_true] at e
  have hab:0<=a/\a<b/\b<(m:Int):=by obtain ⟨⟨_,_⟩,⟨_,_⟩,_⟩:=pp;omega
  refine ⟨hab.1,hab.2.1,hab.2.2,?_⟩
  have key:ij ks p.1 p.2\/∃ q,ij ks p.1 q/\ij ks q p.2:=by
   rcases LJ.mp hp with z | z
   ·obtain ⟨k, hk, rfl⟩ := N0.mp z
    obtain ⟨x,y,rfl,_⟩:=h.2.2.2.2 k hk
    exact .inl ((iN h.2.2.2.2).mpr (.inl hk))
   ·obtain ⟨q, hq, z⟩ := PD.mp z
    obtain ⟨x,hx,z⟩:=PD.mp z
    obtain ⟨y,hy,rfl⟩:=N0.mp z
    exact .inr ⟨q,Fs h ((i7 h).mp hx),(i7 h).mp (Lz.mp hy).1⟩
  have r:R (ij ks) p.1 2 p.2:=by
   rcases key with k | ⟨q,k1,k2⟩
   ·exact (R.one k).mono (by decide)
   ·exact (R.one k1).add (R.one k2)
  by_cases c:p.1<=p.2
  ·have e1 : a = p.1 := by omega
   have e2:b=p.2:=by omega
   rw [e1,e2];exact r
  ·have e1 : a = p.2 := by omega
   have e2:b=p.1:=by omega
   rw [e1,e2];exact r.rev fun x y z=>Fs h z
 ·rintro ⟨h1, h2, h3, r⟩
  obtain ⟨c,r1,r2⟩:=oz (n:=1) (k:=1) r
  have st:∀ {x y:Int},R (ij ks) x 1 y->y=x\/ij ks x y:=fun {x y} z=>by
   rcases z with z | ⟨t,z1,z2⟩
   ·exact .inl z
   ·have : t = x := z2
    subst this;exact .inr z1
  have one:ij ks a b->∃ p∈zH m ks,mm p=[a,b]:=fun z=>by
   have hk:[a,b]∈ks:=by
    rcases (iN h.2.2.2.2).mp z with z | z
    ·exact z
    ·obtain ⟨x, y, e, _⟩ := h.2.2.2.2 _ z
     simp only [PV,and_true] at e
     omega
   refine ⟨(a,b),LK _ (N0.mpr ⟨[a,b],hk,rfl⟩),?_⟩
   unfold mm
   rw [P0 (by dsimp only;omega),Qa (by dsimp only;omega)]
  rcases st r1 with rfl | k1
  ·rcases st r2 with rfl | k2
   ·omega
   ·exact one k2
  ·rcases st r2 with rfl | k2
   ·exact one k1
   ·have hc := (Ft h k1).2
    refine ⟨(a,b),Mc _ (PD.mpr ⟨c,Hk.mpr hc,PD.mpr ⟨a,(i7 h).mpr (Fs h k1),N0.mpr ⟨b,Lz.mpr ⟨(i7 h).mpr k2,Nz h2⟩,rfl⟩⟩⟩),?_⟩
    unfold mm
    rw [P0 (by dsimp only;omega),Qa (by dsimp only;omega)]
theorem xA {μ:aw} (h:GW m ks):de [bg m ks] μ=.ok (bg m (nM m ks 2)) μ:=by
 have m0:=h.m0
 have m6:=h.m6
 have kl:=dM h
 have e0:ks.map aq=(ks.map nN).map gx:=by
  rw [NQ]
  apply NR
  intro k hk
  obtain ⟨a,b,rfl,_⟩:=h.2.2.2.2 k hk
  rfl
 obtain ⟨M',o2,o3,o4,run,hT,hk⟩:=xt (T:=μ.length) (μ:=μ) h (rg m) [] (μ++[.lst (ks.map aq)]) none none none (by rw [Az];simpa using m6) (by rw [e0];show _=some (O.lst ((ks.map nN++[]).map gx));rw [Mg];exact aD) (L9 _) (fun j hj=>Mr hj)
 rw [Ny] at hT
 obtain ⟨g,hpre⟩:∃ g,M'=μ++g:=by
  refine ⟨M'.drop μ.length,?_⟩
  apply OT
  intro i
  by_cases hi:i<μ.length
  ·rw [Mr hi,hk i hi]
  ·rw [Mp (by omega), Oc]
   congr 1;omega
 have hr:∀ μ,lx [.int (m:Int)] μ=.ok (.fix ((rg m).map D.int)) μ:=fun μ=>by rw [jm (by omega) (by omega),Gq]
 have wo:=mI (μ:=M') m0 m6 (ps:=zH m ks) (by
  unfold zH
  rw [Mv,Mw]
  have:=uJ h (rg m)
  unfold qM at this
  rw [Az] at this
  have h2:m * 225<=6 * 225:=PZ 225 m6
  omega) hT (rW h)
 rw [FJ h] at wo
 unfold de
 rw [eE]
 simp only [jD,List.replicate]
 rw [aP,aS]
 simp only [aB,au,az,aJ,ag,bh,aa,kq]
 rw [show jx [.tup (ks.map aq)] μ=.ok (.obj μ.length) (μ++[.lst (ks.map aq)]) from rfl]
 simp only [ae,br,aC,Pz,PB]
 rw [aP,iu]
 simp only [fL,au,az,aJ,ag,bh,aa,cK,hr,ae,bD]
 rw [run]
 simp only [aC,bc,aB,au,az,aJ,aj,ag,bh,aa,cK,wo,ae,aW]
 rw [hpre]
 exact fK (gQ (g9 m0 m6))
end
end Lw
namespace Lw
open PySem L2 RS Lv
theorem zb {μ:aw}{m:Int}{ks:List (List Int)}{a b:Int} (hk:∀ k∈ks,qr m k):vJ true (.tup [.int a,.int b]) (.tup (ks.map aq)) μ=.ok (.bl (!decide ([a,b]∈ks))) μ:=by
 have e:=BW (μ:=μ) (a:=a) (b:=b) hk
 unfold vJ at e ⊢
 split at e
 ·split at e
  ·split at e
   ·rename_i hf
    rw [Lp hf,Lp rfl]
    rw [Lq LZ] at e
    injection e with e1
    injection e1 with e2
    rw [e2]
   ·cases e
  ·cases e
 ·cases e
theorem DY {μ:aw}{a b c d:Int}:jH true (.tup [.int a,.int b]) (.tup [.int c,.int d]) μ=.ok (.bl (!(decide (a=c) && decide (b=d)))) μ:=by
 show ak.ok (D.bl (!((a == c) && ((b == d) && true)))) μ=_
 congr 3
 rw [PU]
 rfl
section
variable {m:Nat}{ks:List (List Int)}
theorem F6 {μ:aw}{i:Nat}{a b c:Int} (hp:μ[i]?=some (bZ a b c)):∃ m ks a' b' c',GW m ks/\bQ [.obj i,.int 6] μ=.ok (bg m ks) (μ.set i (bZ a' b' c')):=by
 have hi:i<μ.length:=(LL.mp hp).1
 obtain ⟨m,ks,a1,b1,c1,h,ed⟩:=uw hp
 have m0:=h.m0
 have m6:=h.m6
 let M1:aw:=μ.set i (bZ a1 b1 c1)
 have P1:Pn μ i M1:=(Pn.self hp).set hi
 obtain ⟨w,a2,b2,c2,w0,w1,ew,P2⟩:=P1.draw (m:=4) hi (by decide) (by decide)
 let M2:aw:=M1.set i (bZ a2 b2 c2)
 have ed':bz [.obj i,.int 6] μ=.ok (bg m ks) M1:=ed
 have ew':aE [.obj i,.int 4] M1=.ok (.int w) M2:=ew
 have hg:=g9 (k:=2) (ks:=ks) m0 m6
 by_cases z0:w=0
 ·obtain ⟨a7, b7, c7, hgc⟩ := P2.gc (gQ h)
  refine ⟨m,ks,a7,b7,c7,h,?_⟩
  unfold bQ
  rw [cf]
  simp only [fV,List.replicate]
  rw [aP,aS]
  simp only [aB,au,az,aj,ag,aa,ed',ae,br,aC,Pz,PB]
  rw [aP,aS]
  simp only [aB,au,az,aj,ag,bh,aa,ew',ae,br,aC,Pz,PB]
  rw [aP,eD]
  simp only [eG,aJ,aj,ag,bh,aa,iw,NC,MH,bj,ae]
  rw [show (w == 0)=true from by rw [Pb];exact z0]
  simp only [MJ,bc,aj,ag,ae,v5,aW]
  exact hgc
 ·by_cases z3 : w = 3 /\ 1 < m
  ·
   obtain ⟨u,a3,b3,c3,u0,u1,eu,P3⟩:=P2.draw (m:=(m:Int) - 1) hi (by omega) (by omega)
   obtain ⟨v,a4,b4,c4,v0,v1,ev',P4⟩:=P3.draw (m:=(m:Int) - 1 - u) hi (by omega) (by omega)
   let M4:aw:=(M2.set i (bZ a3 b3 c3)).set i (bZ a4 b4 c4)
   let y:Int:=u+1+v
   let ls:List (List Int):=(nM m ks 2).filter fun k=>!(decide (k.getD 0 0=u) && decide (k.getD 1 0=y))
   have cc:=eM (U:=List Int) (en:=aq) (src:=.fix ((nM m ks 2).map aq)) (g:=ao 0) (t:=d7) (e:=d8) (μ1:=M4) (q:=fun k=>!(decide (k.getD 0 0=u) && decide (k.getD 1 0=y))) (h:=aq) (fun ρ=>∃ o,ρ=[o,some (.tup [.int u,.int y])]) (fun _=>trivial) (us:=nM m ks 2) (acc:=[]) (ρ:=[none,some (.tup [.int u,.int y])]) ⟨_,rfl⟩
    (by rw [NT];have:=dM hg;exact LB (by omega) bS)
    (fun k hk a ρ hJJ => by
     obtain ⟨o,e⟩:=hJJ
     subst e
     obtain ⟨x,z,rfl,_⟩:=hg.2.2.2.2 k hk
     refine ⟨[some (aq [x,z]),some (.tup [.int u,.int y])],⟨_,rfl⟩,rfl,?_,fun _=>by unfold d8;rw [ag]⟩
     unfold d7
     simp only [eG,aJ,aj,ag,aa]
     rw [show jH true (aq [x,z]) (.tup [.int u,.int y]) (M4++[O.lst a])=_ from DY]
     simp only [aa,bj]
     rfl)
   rw [Ny] at cc
   let ps:List (Int × Int):=ls.map nN++(if ([u,y]∈nM m ks 2) then [] else [(u,y)])
   have pp:∀ p∈ps,PP m p:=by
    intro p hp
    rcases LJ.mp hp with z | z
    ·obtain ⟨k, hk, rfl⟩ := N0.mp z
     obtain ⟨x,y',rfl,h1,h2,h3⟩:=hg.2.2.2.2 k (Lz.mp hk).1
     exact ⟨⟨h1,by show x<(m:Int);omega⟩,⟨by show 0<=y';omega,h3⟩,by show x≠y';omega⟩
    ·split at z
     ·cases z
     ·rw [NO.mp z]
      exact ⟨⟨u0,by show u<(m:Int);omega⟩,⟨by show 0<=u+1+v;omega,by show u+1+v<(m:Int);omega⟩,by show u≠u+1+v;omega⟩
   have e0:ls.map aq=(ls.map nN).map gx:=by
    rw [NQ]
    apply NR
    intro k hk
    obtain ⟨x,z,rfl,_⟩:=hg.2.2.2.2 k (Lz.mp hk).1
    rfl
   have lsl:ls.length<=15:=LB (PF _ _) (dM hg)
   let M6:aw:=M4++[O.lst (ps.map gx)]
   have psl:ps.length<=100000:=by
    simp only [ps,Mv,Mw]
    split <;> simp only [ND,NT] <;> omega
   have wo:=mI (μ:=M6) (t:=M4.length) m0 m6 psl aD pp
   have gw:=oh m0 m6 pp
   obtain ⟨a7,b7,c7,hgc⟩:=(P4.app (g:=[O.lst (ps.map gx)])).gc (gQ gw)
   refine ⟨m,_,a7,b7,c7,gw,?_⟩
   have n2:0+1+1<=sizeLine:=l2
   unfold bQ
   rw [cf]
   simp only [fV,List.replicate]
   rw [aP,aS]
   simp only [aB,au,az,aj,ag,aa,ed',ae,br,aC,Pz,PB]
   rw [aP,aS]
   simp only [aB,au,az,aj,ag,bh,aa,ew',ae,br,aC,Pz,PB]
   rw [aP,eD]
   simp only [eG,aJ,aj,ag,bh,aa,iw,NC,MH,bj,ae]
   rw [show (w == 0)=false from by rw [Ln];exact z0]
   simp only [NC,MH,dU,aC]
   rw [aP,aS]
   simp only [aB,au,az,aj,ag,aa,xA h,ae,br,aC,Pz,PB]
   rw [aP,eD]
   simp only [sH,eG,aJ,aj,ag,bh,aa,iw,NC,MH,bj,cK,gA]
   rw [show (w == 3)=true from by rw [Pb];exact z3.1,Lp rfl,show cq .Gt (m:Int) 1=true from Nz (by have:=z3.2;show (1:Int)<m;omega)]
   simp only [ae,MJ]
   rw [aP,aS]
   simp only [aB,au,az,aJ,aj,ag,bh,aa,cK]
   rw [show i5 (.int m) (.int 1) M2=.ok (.int ((m:Int) - 1)) M2 from rfl]
   simp only [aa]
   rw [show aE [.obj i,.int ((m:Int) - 1)] M2=.ok (.int u) (M2.set i (bZ a3 b3 c3)) from eu]
   simp only [ae,br,aC,Pz,PB]
   rw [aP,aS]
   simp only [dg,aB,au,az,aJ,aj,ag,bh,aa,cK,dr]
   rw [show i5 (.int m) (.int 1) (M2.set i (bZ a3 b3 c3))=.ok (.int ((m:Int) - 1)) (M2.set i (bZ a3 b3 c3)) from rfl]
   simp only [aa]
   rw [show i5 (.int ((m:Int) - 1)) (.int u) (M2.set i (bZ a3 b3 c3))=.ok (.int ((m:Int) - 1 - u)) (M2.set i (bZ a3 b3 c3)) from rfl]
   simp only [aa]
   rw [show aE [.obj i,.int ((m:Int) - 1 - u)] (M2.set i (bZ a3 b3 c3))=.ok (.int v) M4 from ev']
   simp only [aa,dr,ND,NT,Lp n2,ae,br,aC,Pz,PB]
   rw [aP,aS]
   simp only [dq,dm,aJ,aj,ag,bh,aa,kq,ko,bD]
   rw [show gX [none,some 5] [some (D.obj i),some (D.int 6),some (bg m (nM m ks 2)),some (D.int w),some (D.int u),some (D.tup [D.int u,D.int (u+1+v)]),none]=[none,some (.tup [.int u,.int y])] from rfl]
   rw [show compLoop (.fix ((nM m ks 2).map aq)) M4.length (ao 0) d7 d8 ((nM m ks 2).map aq) [none,some (.tup [.int u,.int y])] (M4++[O.lst []])=.ok (.obj M4.length) (M4++[O.lst (ls.map aq)]) from cc]
   simp only [ae,br,aC,Pz,PB]
   rw [aP,eD]
   simp only [eG,aJ,aj,ag,bh,aa,kq]
   rw [show vJ true (.tup [.int u,.int (u+1+v)]) (.tup ((nM m ks 2).map aq)) (M4++[O.lst (ls.map aq)])=_ from zb hg.2.2.2.2]
   simp only [aa,bj,ae]
   by_cases hc:[u,u+1+v]∈nM m ks 2
   ·rw [Nz hc]
    simp only [On,NC,MH,dU,aC]
    have ep:ps=ls.map nN:=by simp only [ps,y];rw [Lp hc,Mg]
    rw [aS]
    simp only [aB,au,az,aJ,aj,ag,bh,aa,cK]
    rw [show bF [.int m,.obj M4.length] (M4++[O.lst (ls.map aq)])=.ok (bg m (fY (ps.map mm))) (M4++[O.lst (ps.map gx)]) from by rw [e0,<- ep];exact wo]
    simp only [ae,br,aC,Pz,PB,bc,aj,ag,aW]
    exact hgc
   ·rw [Lm hc]
    simp only [Oy,MJ]
    have ep:ps=ls.map nN++[(u,u+1+v)]:=by simp only [ps,y];rw [Lq hc]
    rw [ku,qQ]
    simp only [aj,ag,aa]
    rw [sf (show (M4++[O.lst (ls.map aq)])[M4.length]?=some (.lst (ls.map aq)) from aD),Lp rfl]
    simp only [au,az,aj,ag,aa]
    rw [show kA (.obj M4.length) [.tup [.int u,.int (u+1+v)]] (M4++[O.lst (ls.map aq)])=.ok .non (M4++[O.lst (ps.map gx)]) from by
     unfold kA
     dsimp only
     rw [aD]
     dsimp only
     rw [Lp (by rw [Mw];exact Lu (show ls.length<1000 by omega) bS),pD,e0,ep,N7]
     rfl]
    simp only [ae,aC]
    rw [aS]
    simp only [aB,au,az,aJ,aj,ag,bh,aa,cK]
    rw [show bF [.int m,.obj M4.length] (M4++[O.lst (ps.map gx)])=.ok (bg m (fY (ps.map mm))) (M4++[O.lst (ps.map gx)]) from wo]
    simp only [ae,br,aC,Pz,PB,bc,aj,ag,aW]
    exact hgc
  ·obtain ⟨a7, b7, c7, hgc⟩ := P2.gc (gQ hg)
   refine ⟨m,_,a7,b7,c7,hg,?_⟩
   unfold bQ
   rw [cf]
   simp only [fV,List.replicate]
   rw [aP,aS]
   simp only [aB,au,az,aj,ag,aa,ed',ae,br,aC,Pz,PB]
   rw [aP,aS]
   simp only [aB,au,az,aj,ag,bh,aa,ew',ae,br,aC,Pz,PB]
   rw [aP,eD]
   simp only [eG,aJ,aj,ag,bh,aa,iw,NC,MH,bj,ae]
   rw [show (w == 0)=false from by rw [Ln];exact z0]
   simp only [NC,MH,dU,aC]
   rw [aP,aS]
   simp only [aB,au,az,aj,ag,aa,xA h,ae,br,aC,Pz,PB]
   rw [aP,eD]
   simp only [sH,eG,aJ,aj,ag,bh,aa,iw,NC,MH,bj,cK,gA]
   by_cases c3:w=3
   ·rw [show (w == 3) = true from by rw [Pb]; exact c3, Lp rfl, show cq .Gt (m : Int) 1 = false from Lm (by show ¬ (1 : Int) < m; intro z; exact z3 ⟨c3, by omega⟩)]
    simp only [ae,NC,MH,dU,aC,bc,aj,ag,aW]
    exact hgc
   ·rw [show (w == 3) = false from by rw [Ln]; exact c3]
    simp only [NC,MH,ae,dU,aC,bc,aj,ag,aW]
    exact hgc
end
end Lw
namespace Lv
open PySem
def Bt (x:Int) (f:Nat->Prop):Prop:=∃ n:Nat,x=(n:Int)/\∀ q,n.testBit q=true↔f q
theorem GP (a b:Nat):Builtin.bitOr (a:Int) (b:Int)=((a ||| b:Nat):Int):=by
 unfold Builtin.bitOr Builtin.bitAnd Builtin.bitNot
 have h1:decide (0 <= -(a:Int) - 1)=false:=Lm (by omega)
 have h2:decide (0 <= -(b:Int) - 1)=false:=Lm (by omega)
 simp only [h1,h2]
 have e1:(-(-(a:Int) - 1) - 1).toNat=a:=by omega
 have e2:(-(-(b:Int) - 1) - 1).toNat=b:=by omega
 rw [e1,e2]
 omega
theorem Bt.or {x y:Int}{f g:Nat->Prop} (h:Bt x f) (h':Bt y g):Bt (Builtin.bitOr x y) (fun q=>f q\/g q):=by
 obtain ⟨a,rfl,ha⟩:=h
 obtain ⟨b,rfl,hb⟩:=h'
 refine ⟨a ||| b,GP a b,fun q=>?_⟩
 rw [Nat.testBit_or,Bool.or_eq_true,ha,hb]
theorem Bt.one {p:Nat}:Bt (1 * 2 ^ p) (fun q=>q=p):=by
 refine ⟨2 ^ p,by rw [Int.one_mul];exact (Int.natCast_pow 2 p).symm,fun q=>?_⟩
 rw [Nat.testBit_two_pow,Pe]
 exact eq_comm
theorem Ep (a:Nat):Builtin.bitAnd (a:Int) 1=((a % 2:Nat):Int):=by
 unfold Builtin.bitAnd
 have h1:decide (0<=(a:Int))=true:=Nz (by omega)
 have h2:decide ((0:Int)<=1)=true:=by decide
 simp only [h1,h2]
 have e1:(a:Int).toNat=a:=by omega
 rw [e1]
 show ((a &&& 1:Nat):Int)=_
 rw [Nat.and_one_is_mod]
theorem Bt.get {x:Int}{f:Nat->Prop} (h:Bt x f) (q:Nat):(Builtin.bitAnd (x / 2 ^ q) 1 == 1)=true↔f q:=by
 obtain ⟨n,rfl,hn⟩:=h
 rw [show ((n:Int) / 2 ^ q)=((n / 2 ^ q:Nat):Int) from by push_cast;rfl,Ep,<- hn q,Nat.testBit_eq_decide_div_mod_eq,Pe,Pb]
 constructor
 ·intro z;exact_mod_cast z
 ·intro z;exact_mod_cast z
theorem Bt.ext {x:Int}{f g:Nat->Prop} (h:Bt x f) (e:∀ q,f q↔g q):Bt x g:=by
 obtain ⟨n,rfl,hn⟩:=h
 exact ⟨n,rfl,fun q=>(hn q).trans (e q)⟩
end Lv
namespace Lw
open PySem L2 RS Lv
def f9 (m:Nat) (X:Nat->Int):List D:=(List.range m).map fun p=>.int (X p)
theorem Bn {m:Nat}{X:Nat->Int}:(f9 m X).length=m:=by simp [f9]
theorem lH {m p:Nat}{X:Nat->Int} (h:p<m):atI (f9 m X) (p:Int)=some (.int (X p)):=by
 refine wq (by omega) ?_
 unfold f9
 rw [MD,Ms,OU h]
 rfl
theorem Bm {m p:Nat}{X:Nat->Int}{v:Int}:(f9 m X).set p (.int v)=f9 m fun q=>if q=p then v else X q:=by
 apply OT
 intro i
 rw [List.getElem?_set]
 unfold f9
 rw [Mw,NS,Ms,Ms]
 by_cases hi:i<m
 ·rw [OU hi]
  by_cases e:p=i
  ·subst e
   rw [Lp rfl,Lp hi]
   simp
  ·rw [Lq e]
   simp [LI e]
 ·rw [OV (by rw [NS]; omega)]
  by_cases e:p=i
  ·subst e
   rw [Lp rfl,Lq hi]
   rfl
  ·rw [Lq e]
   rfl
theorem IK {μ:aw}{i j:Int}:J0 (.int i) (.int j) μ=.ok (.int (Builtin.bitOr i j)) μ:=rfl
theorem EH {M:aw}{L m p:Nat}{X:Nat->Int}{v:Int} (h:M[L]?=some (.lst (f9 m X))) (hp:p<m):tM (.obj L) (.int (p:Int)) (.int v) M=.ok () (M.set L (.lst (f9 m fun q=>if q=p then v else X q))):=by
 rw [lO h (pb (by omega) (by rw [Bn];omega)),MD,Bm]
theorem v8 {m:Nat}{a:Int} (h0:0<=a) (h1:a<(m:Int)):∃ p:Nat,a=(p:Int)/\p<m:=⟨a.toNat,by omega,by omega⟩
section
variable {m:Nat}{ks:List (List Int)}
def tP (ks dn:List (List Int)) (t:Nat) (p:Nat) (q:Nat):Prop:=R (ij ks) (p:Int) t (q:Int)\/∃ r:Int,ij dn (p:Int) r/\R (ij ks) r t (q:Int)
theorem BY (h:GW m ks) {t p q:Nat}:tP ks ks t p q↔R (ij ks) (p:Int) (t+1) (q:Int):=by
 unfold tP
 constructor
 ·rintro (z | ⟨r, z1, z2⟩)
  ·exact z.up
  ·have := (R.one z1).add z2
   rwa [Nx] at this
 ·intro z
  rw [Nx] at z
  obtain ⟨r,z1,z2⟩:=oz (n:=1) (k:=t) z
  rcases z1 with z1 | ⟨s,z1,z3⟩
  ·have : r = (p : Int) := z1
   subst this;exact .inl z2
  ·have : s = (p : Int) := z3
   subst this
   exact .inr ⟨r,z1,z2⟩
theorem gR {dn:List (List Int)}{a b x y:Int}:ij (dn++[[a,b]]) x y↔ij dn x y\/(x=a/\y=b)\/(x=b/\y=a):=by
 unfold ij zQ
 rw [PL,LJ]
 simp
theorem xE {t F L:Nat}{X:Nat->Int}{M0:aw}{o0 o1 o2 o4:Option D} (h:GW m ks) (ne:L≠F) (hX:∀ p,p<m->Bt (X p) fun q=>R (ij ks) (p:Int) t (q:Int)):∀ (rs dn:List (List Int)) (Y:Nat->Int) (M:aw) (o6 o7:Option D),ks=dn++rs->M[F]?=some (.lst (f9 m X))->M[L]?=some (.lst (f9 m Y))->(∀ p,p<m->Bt (Y p) (tP ks dn t p))->(∀ j o,L≠j->M0[j]?=some o->M[j]?=some o) ->
  ∃ (M':aw) (Y':Nat->Int) (o6' o7':Option D),dB (.fix (ks.map aq)) (fu 2 (bt (ao 6) (bt (ao 7) (fv)))) dy (rs.map aq) [o0,o1,o2,some (.obj F),o4,some (.obj L),o6,o7] M=.next [o0,o1,o2,some (.obj F),o4,some (.obj L),o6',o7'] M'/\M'[L]?=some (.lst (f9 m Y'))/\(∀ p,p<m->Bt (Y' p) (tP ks ks t p))/\(∀ j o,L≠j->M0[j]?=some o->M'[j]?=some o)
 | [],dn,Y,M,o6,o7,e,hF,hL,hY,hk=>by
  rw [Mg] at e
  subst e
  refine ⟨M,Y,o6,o7,?_,hL,hY,hk⟩
  rw [Na]
  unfold dB
  rw [Lp (show cA (.fix _) M from trivial)]
 | k::rs,dn,Y,M,o6,o7,e,hF,hL,hY,hk=>by
  obtain ⟨a,b,rfl,a0,ab,bm⟩:=h.2.2.2.2 k (by rw [e];simp)
  obtain ⟨a,rfl,am⟩:=v8 a0 (show a<(m:Int) by omega)
  obtain ⟨b,rfl,bm'⟩:=v8 (show 0<=b by omega) bm
  let Y1:Nat->Int:=fun q=>if q=a then Builtin.bitOr (Y a) (X b) else Y q
  let Y2:Nat->Int:=fun q=>if q=b then Builtin.bitOr (Y1 b) (X a) else Y1 q
  let M1:aw:=M.set L (.lst (f9 m Y1))
  let M2:aw:=M1.set L (.lst (f9 m Y2))
  have lL:L<M.length:=(LL.mp hL).1
  have hF1:M1[F]?=some (.lst (f9 m X)):=by rw [LO ne];exact hF
  have hL1:M1[L]?=some (.lst (f9 m Y1)):=dS lL
  have hF2:M2[F]?=some (.lst (f9 m X)):=by rw [LO ne];exact hF1
  have hL2:M2[L]?=some (.lst (f9 m Y2)):=dS (by simpa [M1] using lL)
  have nab:a≠b:=by omega
  obtain ⟨M',Y',o6',o7',r1,r2,r3,r4⟩:=xE (M0:=M0) (o0:=o0) (o1:=o1) (o2:=o2) (o4:=o4) h ne hX rs (dn++[[(a:Int),(b:Int)]]) Y2 M2 (some (.int a)) (some (.int b)) (by rw [e];simp) hF2 hL2
   (fun p hp => by
    have base:=hY p hp
    simp only [Y2,Y1]
    by_cases e1:p=b
    ·subst e1
     rw [Lp rfl,Lq (fun z=>nab z.symm)]
     refine (base.or (hX a am)).ext fun q=>?_
     unfold tP
     constructor
     ·rintro ((z | ⟨r, z1, z2⟩) | z)
      ·exact .inl z
      ·exact .inr ⟨r,gR.mpr (.inl z1),z2⟩
      ·exact .inr ⟨_,gR.mpr (.inr (.inr ⟨rfl,rfl⟩)),z⟩
     ·rintro (z | ⟨r, z1, z2⟩)
      ·exact .inl (.inl z)
      ·rcases gR.mp z1 with y | ⟨y, _⟩ | ⟨_, y⟩
       ·exact .inl (.inr ⟨r,y,z2⟩)
       ·omega
       ·subst y;exact .inr z2
    ·rw [Lq e1]
     by_cases e2:p=a
     ·subst e2
      rw [Lp rfl]
      refine (base.or (hX b bm')).ext fun q=>?_
      unfold tP
      constructor
      ·rintro ((z | ⟨r, z1, z2⟩) | z)
       ·exact .inl z
       ·exact .inr ⟨r,gR.mpr (.inl z1),z2⟩
       ·exact .inr ⟨_,gR.mpr (.inr (.inl ⟨rfl,rfl⟩)),z⟩
      ·rintro (z | ⟨r, z1, z2⟩)
       ·exact .inl (.inl z)
       ·rcases gR.mp z1 with y | ⟨_, y⟩ | ⟨y, _⟩
        ·exact .inl (.inr ⟨r,y,z2⟩)
        ·subst y;exact .inr z2
        ·omega
     ·rw [Lq e2]
      refine base.ext fun q=>?_
      unfold tP
      constructor
      ·rintro (z | ⟨r, z1, z2⟩)
       ·exact .inl z
       ·exact .inr ⟨r,gR.mpr (.inl z1),z2⟩
      ·rintro (z | ⟨r, z1, z2⟩)
       ·exact .inl z
       ·rcases gR.mp z1 with y | ⟨y, _⟩ | ⟨y, _⟩
        ·exact .inr ⟨r,y,z2⟩
        ·omega
        ·omega)
   (fun j o nj z => by
    rw [LO nj,LO nj]
    exact hk j o nj z)
  refine ⟨M',Y',o6',o7',?_,r2,r3,r4⟩
  rw [Nb]
  unfold dB
  rw [Lp (show cA (.fix _) M from trivial)]
  rw [show fu 2 (bt (ao 6) (bt (ao 7) fv)) (aq [(a:Int),(b:Int)]) [o0,o1,o2,some (.obj F),o4,some (.obj L),o6,o7] M=.ok [o0,o1,o2,some (.obj F),o4,some (.obj L),some (.int a),some (.int b)] M from rfl]
  simp only [ae]
  rw [show dy [o0,o1,o2,some (.obj F),o4,some (.obj L),some (.int a),some (.int b)] M=.next [o0,o1,o2,some (.obj F),o4,some (.obj L),some (.int a),some (.int b)] M2 from by
   unfold dy
   rw [aP,aS]
   simp only [aJ,aj,ag,aa,dh hL (lH am),dh hF (lH bm'),IK,ae,kr,EH hL am,aC]
   rw [aS]
   simp only [aJ,aj,ag,aa]
   rw [show b9 (.obj L) (.int b) (M.set L (.lst (f9 m fun q=>if q=a then Builtin.bitOr (Y a) (X b) else Y q)))=.ok (.int (Y1 b)) M1 from dh hL1 (lH bm')]
   simp only [aa]
   rw [show b9 (.obj F) (.int a) M1=.ok (.int (X a)) M1 from dh hF1 (lH am)]
   simp only [aa,IK,ae,kr,aj,ag]
   rw [show tM (.obj L) (.int b) (.int (Builtin.bitOr (Y1 b) (X a))) M1=.ok () M2 from EH hL1 bm']
   simp only [aa,ae]]
  exact r1
theorem uD {μ:aw}{k:Nat}{o2:Option D} (h:GW m ks):∀ (c t:Nat) (X:Nat->Int) (F:Nat) (M:aw) (o4 o5 o6 o7:Option D),M[F]?=some (.lst (f9 m X))->(∀ p,p<m->Bt (X p) fun q=>R (ij ks) (p:Int) t (q:Int))->μ.length<=F->(∀ j,j<μ.length->M[j]?=μ[j]?) ->
  ∃ (M':aw) (X':Nat->Int) (F':Nat) (o4' o5' o6' o7':Option D),dB (.fix (bM 0 k)) (ao 4) cF (bM (t:Int) c) [some (.int m),some (.tup (ks.map aq)),o2,some (.obj F),o4,o5,o6,o7] M=.next [some (.int m),some (.tup (ks.map aq)),o2,some (.obj F'),o4',o5',o6',o7'] M'/\M'[F']?=some (.lst (f9 m X'))/\(∀ p,p<m->Bt (X' p) fun q=>R (ij ks) (p:Int) (t+c) (q:Int))/\μ.length<=F'/\(∀ j,j<μ.length->M'[j]?=μ[j]?)
 | 0,t,X,F,M,o4,o5,o6,o7,hF,hX,hl,hk=>by
  refine ⟨M,X,F,o4,o5,o6,o7,?_,hF,hX,hl,hk⟩
  rw [jc]
  unfold dB
  rw [Lp (show cA (.fix _) M from trivial)]
 | c+1,t,X,F,M,o4,o5,o6,o7,hF,hX,hl,hk=>by
  have lF:F<M.length:=(LL.mp hF).1
  obtain ⟨M1,Y,p6,p7,r1,r2,r3,r4⟩:=xE (M0:=M++[.lst (f9 m X)]) (t:=t) (F:=F) (L:=M.length) (X:=X) (o0:=some (.int m)) (o1:=some (.tup (ks.map aq))) (o2:=o2) (o4:=some (.int t)) h (by omega) hX ks [] X (M++[.lst (f9 m X)]) o6 o7 rfl (aN hF) aD (fun p hp=>(hX p hp).ext fun q=>by
   unfold tP
   constructor
   ·exact .inl
   ·rintro (z | ⟨r, z1, _⟩)
    ·exact z
    ·exact absurd z1 (by simp [ij,zQ])) (fun _ _ _ z=>z)
  obtain ⟨M',X',F',q4,q5,q6,q7,s1,s2,s3,s4,s5⟩:=uD (μ:=μ) (k:=k) (o2:=o2) h c (t+1) Y M.length M1 (some (.int t)) (some (.obj M.length)) p6 p7 r2 (fun p hp=>(r3 p hp).ext fun q=>BY h) (by omega) (fun j hj=>by
   have hj':j<M.length:=by omega
   rw [r4 j M[j] (by omega) (by rw [Mr hj',O5 hj']),<- hk j hj,O5 hj'])
  refine ⟨M',X',F',q4,q5,q6,q7,?_,s2,fun p hp=>by rw [show t+(c+1)=t+1+c by omega];exact s3 p hp,s4,s5⟩
  rw [ie]
  unfold dB
  rw [Lp (show cA (.fix _) M from trivial)]
  simp only [br,ae,Pz,PB]
  rw [show cF [some (.int m),some (.tup (ks.map aq)),o2,some (.obj F),some (.int t),o5,o6,o7] M=.next [some (.int m),some (.tup (ks.map aq)),o2,some (.obj M.length),some (.int t),some (.obj M.length),p6,p7] M1 from by
   unfold cF
   rw [aP,aS]
   simp only [aB,au,az,aj,ag,aa]
   rw [show jx [.obj F] M=.ok (.obj M.length) (M++[.lst (f9 m X)]) from by unfold jx;dsimp only;rw [hF]]
   simp only [ae,br,aC,Pz,PB]
   rw [aP,iu]
   simp only [dm,aj,ag,aa,ko,ae,bD]
   rw [r1]
   simp only [aC,aS,aj,ag,ae,br,Pz,PB]]
  have:=s1
  push_cast at this
  exact this
theorem A6 {μ:aw}{k:Nat} (h:GW m ks) (hk:k<=6):∃ F g X,cx [.int m,.tup (ks.map aq),.int k] μ=.ok (.obj F) (μ++g)/\(μ++g)[F]?=some (.lst (f9 m X))/\μ.length<=F/\∀ p,p<m->Bt (X p) fun q=>R (ij ks) (p:Int) k (q:Int):=by
 have m0:=h.m0
 have m6:=h.m6
 have c:=eM (U:=Nat) (en:=fun p=>.int (p:Int)) (src:=.fix ((List.range m).map fun p:Nat=>D.int (p:Int))) (g:=ao 0) (t:=gN) (e:=fW) (μ1:=μ) (q:=fun _=>true) (h:=fun p=>.int (1 * 2 ^ p)) (fun ρ=>∃ o,ρ=[o]) (fun _=>trivial) (us:=List.range m) (acc:=[]) (ρ:=[none]) ⟨_,rfl⟩
  (by rw [NT,NS];exact LB (by omega) bS)
  (fun p hp a ρ hJJ => by
   obtain ⟨o,e⟩:=hJJ
   subst e
   have hp':=LA.mp hp
   refine ⟨[some (.int (p:Int))],⟨_,rfl⟩,rfl,rfl,fun _=>?_⟩
   unfold fW
   simp only [aJ,bh,ag,aa]
   rw [show Fl (.int 1) (.int (p:Int)) (μ++[O.lst a])=.ok (.int (1 * 2 ^ (p:Int).toNat)) (μ++[O.lst a]) from jk (show qy 1 (p:Int) from ⟨by omega,by omega,by decide⟩),MD])
 rw [j3,Ny] at c
 obtain ⟨M',X',F',q4,q5,q6,q7,s1,s2,s3,s4,s5⟩:=uD (μ:=μ) (k:=k) (o2:=some (.int k)) h k 0 (fun p=>1 * 2 ^ p) μ.length (μ++[.lst (f9 m fun p=>1 * 2 ^ p)]) none none none none aD (fun p hp=>Bt.one.ext fun q=>by
  show q=p↔(q:Int)=(p:Int)
  omega) (L9 _) (fun j hj=>Mr hj)
 obtain ⟨g,hpre⟩:∃ g,M'=μ++g:=by
  refine ⟨M'.drop μ.length,?_⟩
  apply OT
  intro i
  by_cases hi:i<μ.length
  ·rw [Mr hi,s5 i hi]
  ·rw [Mp (by omega), Oc]
   congr 1;omega
 subst hpre
 rw [Nat.zero_add] at s3
 refine ⟨F',g,X',?_,s2,s4,s3⟩
 unfold cx
 rw [jj]
 simp only [jE,List.replicate]
 rw [aP,aS]
 simp only [dq,fL,au,az,ag,aa]
 rw [show lx [.int (m:Int)] μ=.ok (.fix ((List.range m).map fun p:Nat=>D.int (p:Int))) μ from by
  rw [jm (by omega) (by omega),MD,lU]
  congr 2
  apply NR
  intro p _
  simp]
 simp only [aa,bD]
 rw [show gX [none] _=[none] from rfl,c]
 simp only [ae,br,aC,Pz,PB]
 rw [aP,iu]
 simp only [fL,au,az,aj,ag,aa]
 rw [jm (by omega) (by omega)]
 simp only [ae,bD,MD]
 rw [show dB (.fix (bM 0 k)) (ao 4) cF (bM 0 k) [some (.int m),some (.tup (ks.map aq)),some (.int k),some (.obj μ.length),none,none,none,none] (μ++[O.lst ((List.range m).map fun p:Nat=>D.int (1 * 2 ^ p))])=_ from s1]
 simp only [aC,bc,aj,ag,ae,aW]
 exact ud (by simp;omega)
end
end Lw
namespace Lw
open PySem L2 RS Lv
section
variable {m:Nat}{ks:List (List Int)}
open Classical in
noncomputable def iF (ks:List (List Int)) (k m p:Nat):List (Int × Int):=(((List.range (m - (p+1))).map fun i:Nat=>(p:Int)+1+(i:Int)).filter fun q=>decide (R (ij ks) (p:Int) k q)).map fun q=>((p:Int),q)
open Classical in
theorem Hn {M:aw}{F p k:Nat}{X:Nat->Int} (hF:M[F]?=some (.lst (f9 m X))) (hX:∀ p,p<m->Bt (X p) fun q=>R (ij ks) (p:Int) k (q:Int)) (hp:p<m) (m6:m<=6):compLoop (.fix (bM ((p:Int)+1) (m - (p+1)))) M.length (ao 0) fS fU (bM ((p:Int)+1) (m - (p+1))) [none,some (.int p),some (.obj F)] (M++[.lst []])=.ok (.obj M.length) (M++[.lst ((iF ks k m p).map gx)]):=by
 have c:=eM (U:=Int) (en:=D.int) (src:=.fix (bM ((p:Int)+1) (m - (p+1)))) (g:=ao 0) (t:=fS) (e:=fU) (μ1:=M) (q:=fun q=>decide (R (ij ks) (p:Int) k q)) (h:=fun q=>gx ((p:Int),q)) (fun ρ=>∃ o,ρ=[o,some (.int p),some (.obj F)]) (fun _=>trivial) (us:=(List.range (m - (p+1))).map fun i:Nat=>(p:Int)+1+(i:Int)) (acc:=[]) (ρ:=[none,some (.int p),some (.obj F)]) ⟨_,rfl⟩
  (by rw [NT,Mw,NS];exact LB (by omega) bS)
  (fun q hq a ρ hJJ => by
   obtain ⟨o,e⟩:=hJJ
   subst e
   obtain ⟨i,hi,rfl⟩:=N0.mp hq
   have hi':=LA.mp hi
   have eq:(p:Int)+1+(i:Int)=((p+1+i:Nat):Int):=by push_cast;rfl
   refine ⟨[some (.int ((p:Int)+1+(i:Int))),some (.int p),some (.obj F)],⟨_,rfl⟩,rfl,?_,fun _=>?_⟩
   ·unfold fS
    simp only [eG,aJ,aj,ag,bh,aa,dh (aN hF) (lH hp)]
    rw [show Fk (.int (X p)) (.int ((p:Int)+1+(i:Int))) (M++[O.lst a])=.ok (.int (X p / 2 ^ ((p:Int)+1+(i:Int)).toNat)) (M++[O.lst a]) from jk (show 0<=(p:Int)+1+(i:Int) by omega)]
    simp only [aa]
    rw [show Fm (.int (X p / 2 ^ ((p:Int)+1+(i:Int)).toNat)) (.int 1) (M++[O.lst a])=.ok (.int (Builtin.bitAnd (X p / 2 ^ ((p:Int)+1+(i:Int)).toNat) 1)) (M++[O.lst a]) from rfl]
    simp only [aa,iw,NC,MH,bj]
    congr 1
    rw [eq,MD]
    apply Md.mpr
    rw [(hX p hp).get,Pe]
   ·unfold fU
    simp only [dg,au,az,aj,ag,aa,ND,NT,Lp l2]
    rfl)
 rw [Ny,NQ] at c
 rw [show (iF ks k m p).map gx=(((List.range (m - (p+1))).map fun i:Nat=>(p:Int)+1+(i:Int)).filter fun q=>decide (R (ij ks) (p:Int) k q)).map fun q=>gx ((p:Int),q) from by unfold iF;rw [NQ];rfl]
 exact c
theorem uz {k p:Nat}:(iF ks k m p).length<=m:=by
 unfold iF
 rw [Mw]
 refine LB (PF _ _) ?_
 rw [Mw,NS]
 omega
open Classical in
theorem jX {k p:Nat}{x y:Int}:(x,y)∈iF ks k m p↔x=(p:Int)/\(p:Int)<y/\y<(m:Int)/\R (ij ks) (p:Int) k y:=by
 unfold iF
 rw [N0]
 constructor
 ·rintro ⟨q, hq, e⟩
  obtain ⟨h1,h2⟩:=Lz.mp hq
  obtain ⟨i,hi,rfl⟩:=N0.mp h1
  have:=LA.mp hi
  injection e with e1 e2
  subst e1 e2
  exact ⟨rfl,by omega,by omega,PR h2⟩
 ·rintro ⟨rfl, h1, h2, h3⟩
  exact ⟨y,Lz.mpr ⟨N0.mpr ⟨(y - p - 1).toNat,LA.mpr (by omega),by omega⟩,Nz h3⟩,rfl⟩
theorem Bk {k:Nat} (m0:1<=m) (m6:m<=6):((List.range m).flatMap (iF ks k m)).map gx=(nM m ks k).map aq:=by
 have ew:(((List.range m).flatMap (iF ks k m)).map mm)=nM m ks k:=by
  refine pL (d:=bg m (((List.range m).flatMap (iF ks k m)).map mm)) (m:=(m:Int)) ⟨rfl,by omega,by omega,?_,?_⟩ (g9 m0 m6) fun a b=>?_
  ·rw [OW, List.pairwise_flatMap]
   have one:∀ p x,x∈iF ks k m p->x.1=(p:Int)/\(p:Int)<x.2/\x.2<(m:Int):=fun p x hx=>by
    have:=jX.mp (show (x.1,x.2)∈_ from hx)
    exact ⟨this.1,this.2.1,this.2.2.1⟩
   have en:∀ x:Int × Int,x.1<x.2->jI (mm x)=jI [x.1,x.2]:=fun x hx=>by
    unfold mm
    rw [P0 (by omega),Qa (by omega)]
   refine ⟨fun p hp=>?_,?_⟩
   ·have hs:(iF ks k m p).Pairwise fun x y=>x.2<y.2:=by
     unfold iF
     rw [OW]
     refine List.Pairwise.filter _ ?_
     rw [OW]
     exact Oi.imp fun h=>by omega
    refine Pw ?_ hs
    intro x y hx hy hxy
    have h1:=one p x hx
    have h2:=one p y hy
    rw [en x (by omega),en y (by omega)]
    unfold jI
    simp
    omega
   ·refine (Oi (n := m)).imp_of_mem ?_
    intro p q hp hq hpq x hx y hy
    have h1:=one p x hx
    have h2:=one q y hy
    rw [en x (by omega),en y (by omega)]
    unfold jI
    simp
    omega
  ·intro z hz
   obtain ⟨x,hx,rfl⟩:=N0.mp hz
   obtain ⟨p,hp,hx⟩:=PD.mp hx
   have:=jX.mp (show (x.1,x.2)∈_ from hx)
   exact ⟨x.1,x.2,by unfold mm;rw [P0 (by omega),Qa (by omega)],by omega,by omega,by omega⟩
  ·rw [rY m6, N0]
   constructor
   ·rintro ⟨x, hx, e⟩
    obtain ⟨p,hp,hx⟩:=PD.mp hx
    have h1:=jX.mp (show (x.1,x.2)∈_ from hx)
    unfold mm at e
    rw [P0 (by omega),Qa (by omega)] at e
    simp only [PV,and_true] at e
    obtain ⟨e1,e2⟩:=e
    rw [<- e1,<- e2]
    exact ⟨by omega,by omega,by omega,by rw [h1.1];exact h1.2.2.2⟩
   ·rintro ⟨h1, h2, h3, h4⟩
    obtain ⟨p,rfl,hp⟩:=v8 h1 (show a<(m:Int) by omega)
    refine ⟨((p:Int),b),PD.mpr ⟨p,LA.mpr hp,jX.mpr ⟨rfl,h2,h3,h4⟩⟩,?_⟩
    unfold mm
    rw [P0 (by dsimp only;omega),Qa (by dsimp only;omega)]
 rw [<- ew,NQ]
 apply NR
 intro x hx
 obtain ⟨p,hp,hx⟩:=PD.mp hx
 have h1:=jX.mp (show (x.1,x.2)∈_ from hx)
 show gx x=aq (mm x)
 unfold mm
 rw [P0 (by omega),Qa (by omega)]
 rfl
theorem Au {μ:aw}{k:Nat} (h:GW m ks) (hk:k<=6):bX [bg m ks,.int k] μ=.ok (bg m (nM m ks k)) μ:=by
 have m0:=h.m0
 have m6:=h.m6
 obtain ⟨F,g,X,ef,hF,hl,hX⟩:=A6 (μ:=μ) (k:=k) h hk
 let M0:aw:=μ++g
 obtain ⟨ρ',M',⟨n,c,o4,g',e1,e2,e3,e4,e5⟩,run⟩:=km (src:=.fix (bM 0 m)) (g:=ao 4) (fb:=fT)
  (fun xs ρ M=>∃ (n c:Nat) (o4:Option D) (g':aw),xs=bM n c/\n+c=m/\ρ=[some (bg m ks),some (.int k),some (.obj F),some (.obj M0.length),o4]/\M=M0++g'/\M[M0.length]?=some (.lst (((List.range n).flatMap (iF ks k m)).map gx)))
  (fun _ _ _=>trivial)
  (fun x xs ρ M hJJ => by
   obtain ⟨n,c,o4,g',e1,e2,e3,e4,e5⟩:=hJJ
   subst e3 e4
   cases c with
   | zero=>rw [jc] at e1;cases e1
   | succ c=>
    rw [ie] at e1
    injection e1 with ex er
    subst ex er
    have cc:=Hn (M:=M0++g') (p:=n) (k:=k) (aN hF) hX (by omega) m6
    have fl:=lN (f:=iF ks k m) (k:=m) (fun p=>uz) (List.range n)
    rw [NS] at fl
    have rl:=uz (ks:=ks) (k:=k) (p:=n) (m:=m)
    have b1:n * m<=6 * 6:=Nat.mul_le_mul (by omega) m6
    have ex:=xW (M:=M0++g'++[O.lst ((iF ks k m n).map gx)]) (aN e5) aD (by rw [Mw,Mw];omega)
    have lt:M0.length<(M0++g').length:=(LL.mp e5).1
    refine ⟨trivial,_,_,[some (bg m ks),some (.int k),some (.obj F),some (.obj M0.length),some (.int n)],(M0++g'++[O.lst ((iF ks k m n).map gx)]).set M0.length (.lst (((List.range n).flatMap (iF ks k m)).map gx++(iF ks k m n).map gx)),rfl,?_,n+1,c,some (.int n),(g'++[O.lst ((iF ks k m n).map gx)]).set 0 (.lst (((List.range n).flatMap (iF ks k m)).map gx++(iF ks k m n).map gx)),by push_cast;rfl,by omega,rfl,?_,?_⟩
    ·show fT [some (bg m ks), some (.int k), some (.obj F), some (.obj M0.length), some (.int n)] (M0 ++ g') = _
     unfold fT
     simp only [ku,qQ,aj,ag,aa,sf e5,MJ,au,az,dq,fL,aJ,bh,cK,dr]
     rw [ou (by omega) (by omega) (by omega) (by omega)]
     simp only [aa,bD]
     rw [show ((m:Int) - ((n:Int)+1)).toNat=m - (n+1) by omega]
     rw [show gX [none,some 4,some 2] [some (bg m ks),some (D.int k),some (D.obj F),some (D.obj M0.length),some (D.int n)]=[none,some (.int n),some (.obj F)] from rfl,cc]
     simp only [aa,ex,ae]
    ·rw [Np,Pq _ _ (L9 _),Oh]
    ·rw [dS (Lu lt (by rw [Mv (as:=M0++g')];exact OO _ _)),PJ,PL,PM,PN,Mg,N7])
  (xs:=bM 0 m) (ρ:=[some (bg m ks),some (.int k),some (.obj F),some (.obj M0.length),none]) (μ:=M0++[.lst []])
  ⟨0,m,none,[.lst []],rfl,by omega,rfl,rfl,aD⟩
 have hz:=pG e1.symm
 subst hz e3 e4
 have hn:n=m:=by omega
 subst hn
 rw [Bk m0 m6] at e5
 have ef':cx [.int n,.tup (ks.map aq),.int k] μ=.ok (.obj F) M0:=ef
 unfold bX
 rw [cf]
 simp only [mi,List.replicate]
 rw [aP,aS]
 simp only [aB,au,az,aJ,aj,ag,bh,aa,cK,kq,ef',ae,br,aC,Pz,PB]
 rw [aP,aS]
 simp only [dH,az,aa,NT,Lp (NN sizeLine),ae,br,aC,Pz,PB]
 rw [aP,iu]
 simp only [fL,au,az,aJ,aj,ag,bh,aa,cK]
 rw [jm (by omega) (by omega)]
 simp only [ae,bD,MD]
 rw [run]
 simp only [aC,bc,dg,au,az,aJ,aB,aj,ag,bh,aa,cK]
 rw [sG e5]
 simp only [aa,ND,NT,Lp l2,ae,aW]
 rw [show M0++g'=μ++(g++g') from by simp only [M0,Np]]
 exact fK (gQ (g9 m0 m6))
end
end Lw
namespace Lw
open PySem L2 RS Lv
theorem Da {x:DX}{μ:aw}{g:MS}:(SO.exc x μ).bind g=.exc x μ:=Pc (Pd _)
theorem uL {x:DX}{μ:aw}:(SO.exc x μ).out=.exc x μ:=Pc (Pd _)
theorem qc {β:Type}{x:DX}{μ:aw}{f:β->aw->SO}:(ak.exc x μ:ak β).bindS f=.exc x μ:=Pc (Pd _)
theorem AL {x:DX}{μ μ':aw}:oG μ (.exc x μ')=.exc x μ':=Pc (Pd _)
theorem B2 {c:Str}{ρ:Ro}{μ:aw}:r8 c ρ μ=.exc ⟨c,[]⟩ μ:=Pc (Pd _)
theorem Jk {μ:aw}{m k:Nat}{ks:List (List Int)} (h:GW m ks) (k0:1<=k) (k1:k<=6):fD [bg m ks,.int k] μ=.ok (bg m (nM m ks k)) μ:=by
 have ex:∀ p:Int,∃ f:Int->Option Nat,0<=p->p<(m:Int)->oM (ij ks) p (fun q=>0<=q/\q<(m:Int)) f:=fun p=>by
  by_cases hp:0<=p/\p<(m:Int)
  ·obtain ⟨A, g, f, _, _, _, hF⟩ := xB (μ := []) h hp.1 hp.2
   exact ⟨f,fun _ _=>hF⟩
  ·exact ⟨fun _=>none,fun a b=>absurd ⟨a,b⟩ hp⟩
 have hT:∀ p:Int,0<=p->p<(m:Int)->oM (ij ks) p (fun q=>0<=q/\q<(m:Int)) ((fun p=>(ex p).choose) p):=fun p a b=>(ex p).choose_spec a b
 rw [yu (k:=(k:Int)) h (by omega) (by omega) hT,FU h.m0 h.m6 hT]
theorem HY {m:Int}{k k':List Int} (hm:m<=6) (h:∃ a b:Int,k=[a,b]/\0<=a/\a<b/\b<=m - 1) (h':∃ a b:Int,k'=[a,b]/\0<=a/\a<b/\b<=m - 1) (e:fJ k k'=true):jI k<jI k':=by
 obtain ⟨a,b,rfl,h1,h2,h3⟩:=h
 obtain ⟨c,d,rfl,g1,g2,g3⟩:=h'
 unfold fJ at e
 unfold jI
 simp at e ⊢
 omega
theorem Ay {m:Int} (hm:m<=6):∀ {ks:List (List Int)},(∀ k∈ks,∃ a b:Int,k=[a,b]/\0<=a/\a<b/\b<=m - 1)->gh ks=true->ks.Pairwise fun a b=>jI a<jI b
 | [],_,_=>List.Pairwise.nil
 | [k],_,_=>by simp
 | k::k'::r,hk,h=>by
  rw [mK,MY] at h
  have ih:=Ay hm (ks:=k'::r) (fun x hx=>hk x (LG _ hx)) h.2
  have lt:=HY hm (hk k LF) (hk k' (LG _ LF)) h.1
  refine N6.mpr ⟨fun x hx=>?_,ih⟩
  rcases LH.mp hx with rfl | hx
  ·exact lt
  ·have := (N6.mp ih).1 x hx
   omega
theorem xr {d:D} (h:bU d=true):∃ m ks,d=bg m ks/\GW m ks:=by
 unfold bU at h
 split at h
 ·rename_i m ts
  simp only [MY,Pe] at h
  obtain ⟨⟨h1,h2⟩,h3⟩:=h
  unfold gM at h3
  split at h3
  ·rename_i ts
   rw [MY] at h3
   obtain ⟨ks,rfl,ek,hk⟩:=vd h3.1
   rw [ek] at h3
   obtain ⟨n,rfl⟩:∃ n:Nat,m=(n:Int):=⟨m.toNat,by omega⟩
   refine ⟨n,ks,rfl,rfl,h1,h2,Ay h2 hk h3.2,fun k hk'=>?_⟩
   obtain ⟨a,b,e,x,y,z⟩:=hk k hk'
   exact ⟨a,b,e,x,y,by omega⟩
  ·cases h3
 ·cases h
theorem IP {μ:aw}{m m':Nat}{ks ks':List (List Int)} (h:GW m ks) (h':GW m' ks'):jH false (bg m ks) (bg m' ks') μ=.ok (.bl (decide (m=m') && decide (ks=ks'))) μ:=by
 by_cases e:m=m'
 ·subst e
  rw [Lc h h']
  simp
 ·unfold jH
  rw [n6 h,n6 h']
  dsimp only
  rw [Lp ⟨oa h,oa h'⟩,Lq LZ]
  congr 2
  rw [Lm e,L6]
  simp only [vR,PyData.eqv,PyData.eqvAll]
  rw [show ((m:Int) == (m':Int))=false from by rw [Ln];omega]
  rfl
section
variable {m k:Nat}{ks:List (List Int)}{d:D}{μ:aw}
theorem E3 (h:Kn μ d):iA [d] μ=if cn 1 5 d=true then .ok .non μ else .exc ⟨"NoNumber",[]⟩ μ:=by
 unfold iA
 rw [eE]
 simp only [qf,List.replicate,eD,lP,mF,aB,au,az,ag,bh,aa,pB h,ai,kn]
 cases cn 1 5 d with
 | true=>
  simp only [On,ae,NC,MH,dU,BG,MJ]
  exact aI (by simp)
 | false=>
  simp only [Oy,ae,MJ,B2,uL,AL,NC,MH]
theorem JJ (k0:1<=k) (k5:k<=5):cn 1 5 (.int (k:Int))=true:=by
 unfold cn
 simp
 omega
open Classical in
noncomputable def qw (m:Nat) (ks:List (List Int)) (k:Nat) (d:D):Bool:=decide (∃ ks',d=bg m ks'/\GW m ks'/\nM m ks' k=ks)
theorem CI {m m':Nat}{ks ks':List (List Int)} (h:GW m ks) (h':GW m' ks') (e:bg m ks=bg m' ks'):m=m'/\ks=ks':=by
 unfold bg at e
 injection e with e
 injection e with e1 e2
 injection e1 with e1
 injection e2 with e2 _
 injection e2 with e2
 refine ⟨by omega,?_⟩
 have:∀ (xs ys:List (List Int)),(∀ k∈xs,qr m k)->(∀ k∈ys,qr m' k)->xs.map aq=ys.map aq->xs=ys:=by
  intro xs
  induction xs with
  | nil=>intro ys _ _ e;cases ys with
   | nil=>rfl
   | cons=>cases e
  | cons x xs ih=>
   intro ys hx hy e
   cases ys with
   | nil=>cases e
   | cons y ys=>
    rw [Nb,Nb] at e
    injection e with e1 e2
    obtain ⟨a,b,rfl,_⟩:=hx x LF
    obtain ⟨c,d,rfl,_⟩:=hy y LF
    have ee:D.tup [.int a,.int b]=D.tup [.int c,.int d]:=e1
    injection ee with ee
    injection ee with e3 e4
    injection e3 with e3
    injection e4 with e4 _
    injection e4 with e4
    subst e3 e4
    rw [ih ys (fun k hk=>hx k (LG _ hk)) (fun k hk=>hy k (LG _ hk)) e2]
 exact this ks ks' h.2.2.2.2 h'.2.2.2.2 e2
open Classical in
theorem xZ {m':Nat}{ks':List (List Int)} (h':GW m' ks'):qw m ks k (bg m' ks')=(decide (m'=m) && decide (nM m' ks' k=ks)):=by
 unfold qw
 apply Md.mpr
 rw [Pe,MY,Pe,Pe]
 constructor
 ·rintro ⟨l, e, g, z⟩
  obtain ⟨rfl,rfl⟩:=CI h' g e
  exact ⟨rfl,z⟩
 ·rintro ⟨rfl, z⟩
  exact ⟨ks',rfl,h',z⟩
open Classical in
theorem AU (hn:bU d=false):qw m ks k d=false:=by
 unfold qw
 apply Lm
 rintro ⟨l,rfl,g,z⟩
 have:=wB (μ:=[]) g
 have k2:Kn ([]:aw) (bg m l):=by
  have:=dM g
  have kk:Kns ([]:aw) (l.map aq):=by
   rw [om]
   intro x hx
   obtain ⟨k,hk,rfl⟩:=N0.mp hx
   obtain ⟨a,b,rfl,_⟩:=g.2.2.2.2 k hk
   simp [aq,Kn,Kns]
  simp only [bg,Kn,Kns,ND,NT,Mw,and_true,true_and]
  exact ⟨by omega,by omega,kk⟩
 rw [As k2,hn] at this
 cases this
theorem F3 (h:GW m ks) (hd:Kn μ d) (k0:1<=k) (k5:k<=5):ck [bg m ks,.int k,d] μ=.ok (.bl (qw m ks k d)) μ:=by
 unfold ck
 rw [jj]
 simp only [iB,List.replicate]
 rw [aP,ku]
 simp only [aB,au,az,aj,ag,aa]
 rw [E3 (show Kn μ (.int k) from by simp [Kn]),Lp (JJ k0 k5)]
 simp only [ae,aC,bc,eT,aB,au,az,aj,ag,aa,As hd,ai,bj]
 cases e:bU d with
 | false=>
  simp only [NC,MH,ae,aW,AU e]
  exact aI (by simp)
 | true=>
  obtain ⟨m',ks',rfl,h'⟩:=xr e
  simp only [MJ,aJ,aB,au,az,aj,ag,aa,Jk h' k0 (show k<=6 by omega),IP (g9 h'.m0 h'.m6) h,ae,aW,xZ h']
  exact aI (by simp)
theorem Dq {w e:D} (hd:Kn μ d) (hn:cn 1 5 d=false):ck [w,d,e] μ=.exc ⟨"NoNumber",[]⟩ μ:=by
 unfold ck
 rw [jj]
 simp only [iB,List.replicate]
 rw [aP,ku]
 simp only [aB,au,az,aj,ag,aa]
 rw [E3 hd,Lq (by rw [hn];exact LZ)]
 simp only [qc,Da,uL,AL]
end
def Kp (P:Nat) (M M':aw):Prop:=(∃ a b c,M'[P]?=some (bZ a b c))/\∀ j o,P≠j->M[j]?=some o->M'[j]?=some o
theorem Pn.kp {M M':aw}{P:Nat} (h:Pn M P M') (hP:P<M.length):Kp P M M':=by
 refine ⟨h.get hP,fun j o ne e=>?_⟩
 obtain ⟨a,b,c,g,rfl⟩:=h
 exact aN (by rw [LO ne];exact e)
theorem Kp.app {M M' g:aw}{P:Nat} (h:Kp P M M'):Kp P M (M'++g):=⟨by obtain ⟨a,b,c,e⟩:=h.1;exact ⟨a,b,c,aN e⟩,fun j o ne e=>aN (h.2 j o ne e)⟩
theorem Kp.trans {M M1 M2:aw}{P:Nat} (h:Kp P M M1) (h':Kp P M1 M2):Kp P M M2:=⟨h'.1,fun j o ne e=>h'.2 j o ne (h.2 j o ne e)⟩
def Kf (w:Nat) (q:PyData):Prop:=q.showable=true/\q.leavesShort 40=true/\q.weight<=w/\q.hasDict=false
def GT (T:aw->Prop) (n w:Nat) (d:D):Prop:=(∃ q,(∀ μ,T μ->vO μ n d=some q)/\Kf w q/\q.depth<=n)/\∀ μ,T μ->Kn μ d
theorem GT.w {T:aw->Prop}{n w w':Nat}{d:D} (h:GT T n w d) (hw:w<=w'):GT T n w' d:=by
 obtain ⟨⟨q,h1,⟨a,b,c,e⟩,h3⟩,h4⟩:=h
 exact ⟨⟨q,h1,⟨a,b,LB c hw,e⟩,h3⟩,h4⟩
theorem GT.of {T:aw->Prop}{n w:Nat}{d:D} (h:GT (fun _=>True) n w d):GT T n w d:=by
 obtain ⟨⟨q,h1,h2,h3⟩,h4⟩:=h
 exact ⟨⟨q,fun μ _=>h1 μ trivial,h2,h3⟩,fun μ _=>h4 μ trivial⟩
section
variable {T:aw->Prop}{n w k:Nat}
theorem HS {μ:aw}{d:D}{q:PyData} (h:uf d=some q):vO μ n d=some q:=by
 cases n with
 | zero=>exact h
 | succ n=>
  cases d with
  | tup _=>cases h
  | frz _=>cases h
  | obj _=>cases h
  | _=>exact h
theorem lK {d:D}{q:PyData} (h:uf d=some q) (o:Kf w q) (hd:q.depth=0):GT T n w d:=by
 refine ⟨⟨q,fun μ _=>HS h,o,by omega⟩,fun μ _=>?_⟩
 cases d with
 | tup _=>cases h
 | frz _=>cases h
 | obj _=>cases h
 | _=>simp [Kn]
theorem yT {i:Int} (h0:-1<=i) (h1:i<=8):Kf 8 (.int i):=by
 have:i=-1\/i=0\/i=1\/i=2\/i=3\/i=4\/i=5\/i=6\/i=7\/i=8:=by omega
 rcases this with rfl|rfl|rfl|rfl|rfl|rfl|rfl|rfl|rfl|rfl <;> exact ⟨by decide +kernel,by decide +kernel,by decide +kernel,rfl⟩
theorem Qb {i:Int} (h0:-1<=i) (h1:i<=8):GT T n 8 (.int i):=lK rfl (yT h0 h1) rfl
theorem HM:GT T n 110 (.int 1000000000000000000000000000000):=lK rfl ⟨by decide +kernel,by decide +kernel,by decide +kernel,rfl⟩ rfl
theorem JM {b:Bool}:GT T n 8 (.bl b):=lK rfl ⟨rfl,rfl,by simp [PyData.weight],rfl⟩ rfl
theorem AJ:GT T n 8 .non:=lK rfl ⟨rfl,rfl,by simp [PyData.weight],rfl⟩ rfl
theorem HL:GT T n 8 (.str "2"):=lK rfl ⟨rfl,by decide +kernel,by decide +kernel,rfl⟩ rfl
theorem pK:∀ {xs:List D},(∀ x∈xs,GT T n w x)->∃ qs,(∀ μ,T μ->my (vO μ n) xs=some qs)/\PyData.showableAll qs=true/\PyData.leavesShortAll 40 qs=true/\PyData.weightAll qs<=xs.length * (w+1)/\PyData.hasDictAll qs=false/\PyData.depthAll qs<=n/\∀ μ,T μ->Kns μ xs
 | [],_=>⟨[],fun _ _=>rfl,rfl,rfl,by simp [PyData.weightAll],rfl,by simp [PyData.depthAll],fun _ _=>by simp [Kns]⟩
 | x::xs,h=>by
  obtain ⟨⟨q,q1,⟨a,b,c,e⟩,q3⟩,q4⟩:=h x LF
  obtain ⟨qs,r1,r2,r3,r4,r5,r6,r7⟩:=pK fun y hy=>h y (LG _ hy)
  refine ⟨q::qs,fun μ hμ=>?_,?_,?_,?_,?_,?_,fun μ hμ=>?_⟩
  ·simp only [my,q1 μ hμ,r1 μ hμ,NJ,Option.map_some]
  ·simp only [PyData.showableAll,a,r2,Os]
  ·simp only [PyData.leavesShortAll,b,r3,Os]
  ·simp only [PyData.weightAll,ND,Nv];omega
  ·simp only [PyData.hasDictAll,e,r5,Bool.or_self]
  ·simp only [PyData.depthAll];exact Nat.max_le.mpr ⟨q3,r6⟩
  ·simp only [Kns];exact ⟨q4 μ hμ,r7 μ hμ⟩
theorem gk {xs:List D} (h:∀ x∈xs,GT T n w x) (hl:xs.length<=k) (hk:k<1000):GT T (n+1) (k * (w+1)) (.tup xs):=by
 obtain ⟨qs,r1,r2,r3,r4,r5,r6,r7⟩:=pK h
 refine ⟨⟨.tuple qs,fun μ hμ=>?_,⟨?_,?_,?_,?_⟩,?_⟩,fun μ hμ=>?_⟩
 ·show (my (vO μ n) xs).map PyData.tuple = _
  rw [r1 μ hμ];rfl
 ·simp only [PyData.showable,r2]
 ·simp only [PyData.leavesShort,r3]
 ·simp only [PyData.weight];exact LB r4 (PZ _ hl)
 ·simp only [PyData.hasDict,r5]
 ·simp only [PyData.depth];omega
 ·simp only [Kn];exact ⟨by omega,r7 μ hμ⟩
theorem wb {t:Nat}{xs:List D} (ht:∀ μ,T μ->μ[t]?=some (.lst xs)) (h:∀ x∈xs,GT T n w x) (hl:xs.length<=k):GT T (n+1) (k * (w+1)) (.obj t):=by
 obtain ⟨qs,r1,r2,r3,r4,r5,r6,r7⟩:=pK h
 refine ⟨⟨.list qs,fun μ hμ=>?_,⟨?_,?_,?_,?_⟩,?_⟩,fun μ hμ=>?_⟩
 ·unfold vO
  dsimp only
  rw [ht μ hμ]
  dsimp only
  rw [r1 μ hμ];rfl
 ·simp only [PyData.showable,r2]
 ·simp only [PyData.leavesShort,r3]
 ·simp only [PyData.weight];exact LB r4 (PZ _ hl)
 ·simp only [PyData.hasDict,r5]
 ·simp only [PyData.depth];omega
 ·simp only [Kn]
  refine ⟨"list",?_,by decide,by decide,by decide⟩
  unfold vM
  dsimp only
  rw [ht μ hμ]
end
def Ez (P:Nat) (M:aw) (d:D):Prop:=∃ x,∀ μ,Kp P M μ->Kn μ d/\gZ [d] μ=.ok (.str x) μ
theorem sE {T:aw->Prop}{w:Nat}{d:D} (h:GT T 5 w d) (hw:w<=300000) (hr:se d=true):∃ x,∀ μ,T μ->Kn μ d/\gZ [d] μ=.ok (.str x) μ:=by
 obtain ⟨⟨q,q1,⟨a,b,c,e⟩,q3⟩,q4⟩:=h
 refine ⟨q.shown,fun μ hμ=>⟨q4 μ hμ,?_⟩⟩
 have hl:q.shown.length<=sizeLine:=by
  have h1:=PyData.shown_le 40 (by decide) q b
  have h2:(40+2) * q.weight<=42 * 300000:=Nat.mul_le_mul (L9 _) (by omega)
  rw [Me]
  omega
 have ok:oi q=true:=by
  unfold oi
  rw [a,e,Nz (show q.depth<=60 by omega),Nz hl]
  rfl
 cases d with
 | tup xs=>unfold gZ;dsimp only;rw [q1 μ hμ];dsimp only;rw [Lp ⟨rfl,ok⟩]
 | frz xs=>unfold gZ;dsimp only;rw [q1 μ hμ];dsimp only;rw [Lp ⟨rfl,ok⟩]
 | obj k=>unfold gZ;dsimp only;rw [q1 μ hμ];dsimp only;rw [Lp ⟨rfl,ok⟩]
 | _=>cases hr
theorem AW {β:Type}{xs:List β}{r:Nat}{n:Int} (e:n=(r:Int)):jM xs (some n) none=xs.drop r:=by
 subst e
 unfold jM
 have h1:HT.sIx xs.length 0 (some (r:Int))=min r xs.length:=HT.sIx_nat _ _ r
 have h2:HT.sIx xs.length xs.length none=xs.length:=rfl
 rw [h1,h2]
 by_cases h:r<=xs.length
 ·rw [Nat.min_eq_left h,NY (by rw [MN];exact L9 _)]
 ·rw [Nat.min_eq_right (by omega),Oh,List.take_zero,List.drop_eq_nil_of_le (by omega)]
theorem Jt {μ:aw}:rS (.int 10) (.int 30) μ=.ok (.int 1000000000000000000000000000000) μ:=by
 rw [show (rS:D->D->aw->ak D)=zF qy fun i j=>.int (i ^ j.toNat) from rfl,jk (show qy 10 30 from ⟨by decide,by decide,by decide⟩)]
 rfl
theorem ph {xs:List D}{r:Int}{n:Nat} (h0:0<=r) (h1:r<(n:Int)) (hl:xs.length=n):∃ d,atI xs r=some d/\d∈xs:=by
 have h:r.toNat<xs.length:=by omega
 exact ⟨xs[r.toNat],wq h0 (O5 h),O4 h⟩
theorem lR {xs ys:List D}{M:aw} (h:xs.length+ys.length<=1000):cJ (.tup xs) (.tup ys) M=.ok (.tup (xs++ys)) M:=by
 unfold cJ
 dsimp only
 rw [Lp (LB h bS)]
theorem Er {M:aw}{a b:Nat}{xs ys:List D} (ha:M[a]?=some (.lst xs)) (hb:M[b]?=some (.lst ys)) (h:xs.length+ys.length<=1000):cJ (.obj a) (.obj b) M=.ok (.obj M.length) (M++[.lst (xs++ys)]):=by
 unfold cJ
 dsimp only
 rw [ha,hb]
 dsimp only
 rw [Lp (LB h bS)]
def Nw (T:aw->Prop) (n0 n w:Nat) (d:D):Prop:=GT (fun _=>True) n w d\/(GT T n w d/\¬ d.low n0)
section
variable {T:aw->Prop}{n0 n w k:Nat}
theorem Nw.wk {w':Nat}{d:D} (h:Nw T n0 n w d) (hw:w<=w'):Nw T n0 n w' d:=h.elim (fun z=>.inl (z.w hw)) fun z=>.inr ⟨z.1.w hw,z.2⟩
theorem Nw.gt {d:D} (h:Nw T n0 n w d):GT T n w d:=h.elim (fun z=>z.of) fun z=>z.1
theorem sd {xs:List D} (h:∀ x∈xs,Nw T n0 n w x) (hl:xs.length<=k) (hk:k<1000):Nw T n0 (n+1) (k * (w+1)) (.tup xs):=by
 by_cases c:∀ x∈xs,GT (fun _=>True) n w x
 ·exact .inl (gk c hl hk)
 ·obtain ⟨x,hx,hn⟩:∃ x∈xs,¬ GT (fun _=>True) n w x:=by
   rcases Classical.em (∃ x∈xs,¬ GT (fun _=>True) n w x) with z | z
   ·exact z
   ·exact absurd (fun x hx=>N1 fun y=>z ⟨x,hx,y⟩) c
  refine .inr ⟨gk (fun y hy=>(h y hy).gt) hl hk,fun z=>?_⟩
  rcases h x hx with y | ⟨_,y⟩
  ·exact hn y
  ·rw [D4] at z
   exact y (lW.mp z x hx)
end
section
variable {m:Nat}{ks:List (List Int)}{μ:aw}
theorem oq {T:aw->Prop}{n:Nat}{a b:Int} (a0:-1<=a) (a8:a<=8) (b0:-1<=b) (b8:b<=8):GT T (n+1) 18 (.tup [.int a,.int b]):=gk (k:=2) (w:=8) (fun x hx=>by
 simp only [LH,OK,OL] at hx
 rcases hx with rfl|rfl
 ·exact Qb a0 a8
 ·exact Qb b0 b8) (by simp) (by decide)
theorem pf {T:aw->Prop}{n:Nat} (h:GW m ks) {x:D} (hx:x∈ks.map aq):GT T (n+1) 18 x:=by
 obtain ⟨k,hk,rfl⟩:=N0.mp hx
 obtain ⟨a,b,rfl,h1,h2,h3⟩:=h.2.2.2.2 k hk
 have:=h.m6
 exact oq (by omega) (by omega) (by omega) (by omega)
theorem HK {T:aw->Prop}{n:Nat} (h:GW m ks):GT T (n+3) 1000 (bg m ks):=by
 have hl:=dM h
 have hm:=h.m6
 have t:GT T (n+2) (15 * (18+1)) (.tup (ks.map aq)):=gk (fun x hx=>pf h hx) (by rw [Mw];exact hl) (by decide)
 exact (gk (k:=2) (w:=15 * (18+1)) (fun x hx=>by
  simp only [LH,OK,OL] at hx
  rcases hx with rfl|rfl
  ·exact (Qb (by omega) (by omega)).w (by decide)
  ·exact t) (by simp) (by decide)).w (by decide)
theorem sm {P:Nat}{M:aw} (h:GW m ks):Ez P M (bg m ks):=by
 obtain ⟨x,hx⟩:=sE (T:=Kp P M) (HK (n:=2) h) (by decide) rfl
 exact ⟨x,hx⟩
theorem ux {P:Nat}{a b c:Int} (hp:μ[P]?=some (bZ a b c)) (h:GW m ks):∃ d μ',cy [.obj P,bg m ks] μ=.ok d μ'/\Pn μ P μ'/\Ez P μ' d:=by
 have m0:=h.m0
 have m6:=h.m6
 have kl:=dM h
 have hP:P<μ.length:=(LL.mp hp).1
 let ts:List D:=ks.map aq
 have tl:ts.length<=15:=by simp only [ts,Mw];exact kl
 let odds:List D:=[.int ((m:Int)+1),.int 0,.int 7,.int (-1),.bl true,.non,.str "2",.tup [.int 2],.int 1000000000000000000000000000000]
 let M1:aw:=μ++[O.lst odds]
 have P1:Pn μ P M1:=(Pn.self hp).app
 obtain ⟨r1,a2,b2,c2,r10,r11,e1,P2⟩:=P1.draw (m:=9) hP (by decide) (by decide)
 let M2:aw:=M1.set P (bZ a2 b2 c2)
 have t2:M2[μ.length]?=some (.lst odds):=by rw [LO (by omega)];exact aD
 obtain ⟨odd,eo,ho⟩:=ph (xs:=odds) (n:=9) r10 r11 rfl
 have go:∀ (T:aw->Prop) n,GT T (n+1) 110 odd:=fun T n=>by
  simp only [odds,LH,OK,OL] at ho
  rcases ho with rfl|rfl|rfl|rfl|rfl|rfl|rfl|rfl|rfl
  ·exact (Qb (by omega) (by omega)).w (by decide)
  ·exact (Qb (by omega) (by omega)).w (by decide)
  ·exact (Qb (by omega) (by omega)).w (by decide)
  ·exact (Qb (by omega) (by omega)).w (by decide)
  ·exact JM.w (by decide)
  ·exact AJ.w (by decide)
  ·exact HL.w (by decide)
  ·exact (gk (k:=1) (w:=8) (fun x hx=>by rw [NO.mp hx];exact Qb (by omega) (by omega)) (by simp) (by decide)).w (by decide)
  ·exact HM
 obtain ⟨sp,a3,b3,c3,s0,s1,e2,P3⟩:=P2.draw (m:=(ks.length:Int)+1) hP (by omega) (by omega)
 obtain ⟨sp,rfl⟩:∃ k:Nat,sp=(k:Int):=⟨sp.toNat,by omega⟩
 let M3:aw:=M2.set P (bZ a3 b3 c3)
 obtain ⟨pr,epr,hpr⟩:=ph (xs:=ts++[.tup [.int 0,.int 1]]) (n:=ks.length+1) (r:=(sp:Int)) (by omega) (by push_cast;omega) (by simp [ts])
 obtain ⟨x,y,rfl,x0,x5,y0,y5⟩:∃ x y:Int,pr=.tup [.int x,.int y]/\0<=x/\x<=6/\0<=y/\y<=6:=by
  rcases LJ.mp hpr with z | z
  ·obtain ⟨k, hk, rfl⟩ := N0.mp z
   obtain ⟨u,v,rfl,h1,h2,h3⟩:=h.2.2.2.2 k hk
   exact ⟨u,v,rfl,by omega,by omega,by omega,by omega⟩
  ·rw [NO.mp z]
   exact ⟨0,1,rfl,by decide,by decide,by decide,by decide⟩
 let wr:List D:=[.tup [.int y,.int x],.obj M3.length,.tup [.int x],.tup [.int x,.int y,.int 0],.tup [.int x,.int m],.tup [.int x,odd],.non,.tup [.int 0,.int 0]]
 let M4:aw:=M3++[O.lst [.int x,.int y]]++[O.lst wr]
 have P4:Pn μ P M4:=(P3.app (g:=[O.lst [.int x,.int y]])).app
 obtain ⟨r2,a5,b5,c5,r20,r21,e3,P5⟩:=P4.draw (m:=8) hP (by decide) (by decide)
 let M5:aw:=M4.set P (bZ a5 b5 c5)
 have lM:μ.length<=M3.length:=P3.len
 have t5:M5[(M3++[O.lst [.int x,.int y]]).length]?=some (.lst wr):=by rw [LO (by rw [Mv];omega)];exact aD
 obtain ⟨W,eW,hW⟩:=ph (xs:=wr) (n:=8) r20 r21 rfl
 let bent:List D:=ts.take sp++[W]++ts.drop (sp+1)
 let S1:List D:=[.tup [odd,.tup ts],.tup [.int m,.tup bent],.tup [.int m,.tup bent],.tup [.int m,.obj M5.length],.obj (M5++[O.lst ts]).length,.tup [.int m],.tup [.int m,.tup ts,.tup []]]
 let M6:aw:=M5++[O.lst ts]++[O.lst [.int m,.tup ts]]++[O.lst S1]
 let S2:List D:=[.tup [.int m,.tup ts.reverse],.tup [.int m,.tup (ts++ts.take 1)],.non,.tup ts,.obj M6.length,.tup [.int m,.tup (ts.drop 1)],.tup [.int m,.tup []]]
 let M7:aw:=M6++[O.dic]++[O.lst S2]++[O.lst (S1++S2)]
 have P7:Pn μ P M7:=((((P5.app (g:=[O.lst ts])).app (g:=[O.lst [.int m,.tup ts]])).app (g:=[O.lst S1])).app (g:=[O.dic])).app.app
 obtain ⟨r3,a8,b8,c8,r30,r31,e4,P8⟩:=P7.draw (m:=14) hP (by decide) (by decide)
 let M8:aw:=M7.set P (bZ a8 b8 c8)
 have l5:M5.length=M4.length:=by simp [M5]
 have l4:M4.length=M3.length+2:=by simp [M4]
 have t8:M8[(M6++[O.dic]++[O.lst S2]).length]?=some (.lst (S1++S2)):=by
  rw [LO (by simp only [M6,Mv,ND,NT];omega)];exact aD
 obtain ⟨d,ed,hd⟩:=ph (xs:=S1++S2) (n:=14) r30 r31 rfl
 have keep:∀ j o,P≠j->M7[j]?=some o->∀ μ',Kp P M8 μ'->μ'[j]?=some o:=fun j o ne e μ' k=>k.2 j o ne (by rw [LO ne];exact e)
 have oL:∀ μ',Kp P M8 μ'->μ'[M3.length]?=some (.lst [.int x,.int y]):=keep _ _ (by omega) (aN (aN (aN (aN (aN (aN (by
  show M5[M3.length]?=_
  rw [LO (by omega)]
  exact aN aD)))))))
 have oA:∀ μ',Kp P M8 μ'->μ'[M5.length]?=some (.lst ts):=keep _ _ (by omega) (aN (aN (aN (aN (aN aD)))))
 have oB:∀ μ',Kp P M8 μ'->μ'[(M5++[O.lst ts]).length]?=some (.lst [.int m,.tup ts]):=keep _ _ (by rw [Mv];omega) (aN (aN (aN (aN aD))))
 have oC:∀ μ',Kp P M8 μ'->μ'[M6.length]?=some .dic:=keep _ _ (by simp only [M6,Mv];omega) (aN (aN aD))
 let T:aw->Prop:=Kp P M8
 have gi:∀ (T:aw->Prop) n,GT T n 110 (.int (m:Int)):=fun T n=>(Qb (by omega) (by omega)).w (by decide)
 have gts:∀ (T:aw->Prop) n (l:List D),(∀ z∈l,z∈ts)->l.length<=17->GT T (n+2) 323 (.tup l):=fun T n l hl hk=>gk (k:=17) (w:=18) (fun z hz=>pf h (hl z hz)) hk (by decide)
 have gW:Nw T μ.length 3 333 W:=by
  simp only [wr,LH,OK,OL] at hW
  rcases hW with rfl|rfl|rfl|rfl|rfl|rfl|rfl|rfl
  ·exact .inl ((oq (n:=2) (by omega) (by omega) (by omega) (by omega)).w (by decide))
  ·refine .inr ⟨(wb (T:=T) (n:=2) (k:=2) (w:=8) oL (fun z hz=>by
    simp only [LH,OK,OL] at hz
    rcases hz with rfl|rfl
    ·exact Qb (by omega) (by omega)
    ·exact Qb (by omega) (by omega)) (by simp)).w (by decide),by rw [lI];omega⟩
  ·exact .inl ((gk (n:=2) (k:=1) (w:=8) (fun z hz=>by rw [NO.mp hz];exact Qb (by omega) (by omega)) (by simp) (by decide)).w (by decide))
  ·exact .inl ((gk (n:=2) (k:=3) (w:=8) (fun z hz=>by
    simp only [LH,OK,OL] at hz
    rcases hz with rfl|rfl|rfl
    ·exact Qb (by omega) (by omega)
    ·exact Qb (by omega) (by omega)
    ·exact Qb (by omega) (by omega)) (by simp) (by decide)).w (by decide))
  ·exact .inl ((oq (n:=2) (by omega) (by omega) (by omega) (by omega)).w (by decide))
  ·exact .inl ((gk (n:=2) (k:=2) (w:=110) (fun z hz=>by
    simp only [LH,OK,OL] at hz
    rcases hz with rfl|rfl
    ·exact (Qb (by omega) (by omega)).w (by decide)
    ·exact go _ 1) (by simp) (by decide)).w (by decide))
  ·exact .inl (AJ.w (by decide))
  ·exact .inl ((oq (n:=2) (by omega) (by omega) (by omega) (by omega)).w (by decide))
 have bl:bent.length<=17:=by
  simp only [bent,Mv,Mn,MN,ND,NT]
  omega
 have gb:Nw T μ.length 4 5678 (.tup bent):=sd (n:=3) (k:=17) (w:=333) (fun z hz=>by
  rcases LJ.mp hz with hz | hz
  ·rcases LJ.mp hz with hz | hz
   ·exact .inl ((pf (n:=2) h (Od hz)).w (by decide))
   ·rw [NO.mp hz];exact gW
  ·exact .inl ((pf (n:=2) h (Oe hz)).w (by decide))) bl (by decide)
 have tw:∀ z:D,Nw T μ.length 4 6000 z->Nw T μ.length 5 18003 (.tup [.int (m:Int),z]):=fun z hz=>(sd (k:=3) (w:=6000) (fun u hu=>by
  simp only [LH,OK,OL] at hu
  rcases hu with rfl|rfl
  ·exact .inl ((gi _ 4).w (by decide))
  ·exact hz) (by simp) (by decide))
 have pts:∀ l:List D,(∀ z∈l,z∈ts)->l.length<=17->Nw T μ.length 4 6000 (.tup l):=fun l hl hk=>.inl ((gts _ 2 l hl hk).w (by decide))
 have all:(Nw T μ.length 5 18003 d/\se d=true)\/d=.non\/d=.obj M6.length:=by
  simp only [S1,S2,LJ,LH,OK,OL] at hd
  rcases hd with (rfl|rfl|rfl|rfl|rfl|rfl|rfl) | rfl|rfl|rfl|rfl|rfl|rfl|rfl
  ·refine .inl ⟨sd (k := 3) (w := 6000) (fun u hu => ?_) (by simp) (by decide), rfl⟩
   simp only [LH,OK,OL] at hu
   rcases hu with rfl|rfl
   ·exact .inl ((go _ 3).w (by decide))
   ·exact pts ts (fun z hz=>hz) (by omega)
  ·exact .inl ⟨tw _ (gb.wk (by decide)),rfl⟩
  ·exact .inl ⟨tw _ (gb.wk (by decide)),rfl⟩
  ·refine .inl ⟨tw _ (.inr ⟨(wb (T:=T) (n:=3) (k:=15) (w:=18) oA (fun z hz=>pf h hz) tl).w (by decide),by rw [lI];omega⟩),rfl⟩
  ·refine .inl ⟨.inr ⟨(wb (T := T) (n := 4) (k := 2) (w := 6000) oB (fun z hz => ?_) (by simp)).w (by decide), by rw [lI, Mv]; omega⟩, rfl⟩
   simp only [LH,OK,OL] at hz
   rcases hz with rfl|rfl
   ·exact (gi _ 4).w (by decide)
   ·exact (gts _ 2 ts (fun z hz=>hz) (by omega)).w (by decide)
  ·refine .inl ⟨.inl ((gk (n:=4) (k:=1) (w:=110) (fun z hz=>by rw [NO.mp hz];exact gi _ 4) (by simp) (by decide)).w (by decide)),rfl⟩
  ·refine .inl ⟨sd (k := 3) (w := 6000) (fun u hu => ?_) (by simp) (by decide), rfl⟩
   simp only [LH,OK,OL] at hu
   rcases hu with rfl|rfl|rfl
   ·exact .inl ((gi _ 4).w (by decide))
   ·exact pts ts (fun z hz=>hz) (by omega)
   ·exact pts [] (fun z hz=>by cases hz) (by simp)
  ·exact .inl ⟨tw _ (pts ts.reverse (fun z hz=>List.mem_reverse.mp hz) (by rw [Pu];omega)),rfl⟩
  ·refine .inl ⟨tw _ (pts (ts ++ ts.take 1) (fun z hz => ?_) (by rw [Mv, Mn]; omega)), rfl⟩
   rcases LJ.mp hz with hz | hz
   ·exact hz
   ·exact Od hz
  ·exact .inr (.inl rfl)
  ·exact .inl ⟨.inl ((gts _ 3 ts (fun z hz=>hz) (by omega)).w (by decide)),rfl⟩
  ·exact .inr (.inr rfl)
  ·exact .inl ⟨tw _ (pts (ts.drop 1) (fun z hz=>Oe hz) (by rw [MN];omega)),rfl⟩
  ·exact .inl ⟨tw _ (pts [] (fun z hz=>by cases hz) (by simp)),rfl⟩
 have fin:∃ μ',oG μ (.ok d M8)=.ok d μ'/\Pn μ P μ'/\Ez P μ' d:=by
  rcases AM (μ:=μ) (d:=d) (μ':=M8) with e | ⟨e,hlow⟩
  ·refine ⟨M8, e, P8, ?_⟩
   rcases all with ⟨g,hr⟩ | rfl|rfl
   ·exact sE g.gt (by decide) hr
   ·exact ⟨_,fun μ' _=>⟨by simp [Kn],rfl⟩⟩
   ·refine ⟨(PyData.dict []).shown, fun μ' k => ⟨?_, ?_⟩⟩
    ·simp only [Kn]
     refine ⟨"dict",?_,by decide,by decide,by decide⟩
     unfold vM
     dsimp only
     rw [oC μ' k]
    ·unfold gZ vO
     dsimp only
     rw [oC μ' k]
     dsimp only
     rw [Lp ⟨rfl,by decide +kernel⟩]
  ·refine ⟨_, e, ?_, ?_⟩
   ·obtain ⟨u, v, w, g, hg⟩ := P8
    rw [show M8=μ.set P (bZ u v w)++g from hg]
    exact ⟨u,v,w,[],by rw [Pp (by simp),NY (by simp),Mg]⟩
   ·rcases all with ⟨g, hr⟩ | rfl | rfl
    ·rcases g with g | ⟨_, g⟩
     ·exact sE (T:=Kp P _) g.of (by decide) hr
     ·exact absurd hlow g
    ·exact ⟨_,fun μ' _=>⟨by simp [Kn],rfl⟩⟩
    ·rw [lI] at hlow
     simp only [M6,Mv] at hlow
     omega
 obtain ⟨μ',eg,P9,tg⟩:=fin
 refine ⟨d,μ',?_,P9,tg⟩
 have n1:0+1<=sizeLine:=l1
 have n2:0+1+1<=sizeLine:=l2
 have n3:0+1+1+1<=sizeLine:=LB (by decide) bS
 have n7:0+1+1+1+1+1+1+1<=sizeLine:=LB (by decide) bS
 have n8:0+1+1+1+1+1+1+1+1<=sizeLine:=LB (by decide) bS
 have n9:0+1+1+1+1+1+1+1+1+1<=sizeLine:=LB (by decide) bS
 have e1':aE [.obj P,.int 9] M1=.ok (.int r1) M2:=e1
 have e2':aE [.obj P,.int ((ks.length:Int)+1)] M2=.ok (.int (sp:Int)) M3:=e2
 have e3':aE [.obj P,.int 8] M4=.ok (.int r2) M5:=e3
 have e4':aE [.obj P,.int 14] M7=.ok (.int r3) M8:=e4
 unfold cy
 rw [cf]
 simp only [jF,List.replicate]
 rw [aP,aS]
 simp only [aj,ag,ae]
 rw [show fu 2 (bt (ao 2) (bt (ao 3) fv)) (bg m ks) [some (.obj P),some (bg m ks),none,none,none,none,none,none,none,none] μ=.ok [some (.obj P),some (bg m ks),some (.int m),some (.tup ts),none,none,none,none,none,none] μ from rfl]
 simp only [ae,aC]
 rw [aP,aS]
 simp only [aJ,dH,jw,wc,dg,au,az,aj,ag,bh,aa,dr,Jt,ND,NT,Lp n1,Lp n9,aB]
 rw [show aE [.obj P,.int 9] (μ++[O.lst [.int ((m:Int)+1),.int 0,.int 7,.int (-1),.bl true,.non,.str "2",.tup [.int 2],.int 1000000000000000000000000000000]])=_ from e1']
 simp only [aa]
 rw [dh t2 eo]
 simp only [ae,br,aC,Pz,PB]
 rw [aP,aS]
 simp only [aB,au,az,aJ,aj,ag,bh,aa,lQ,dr]
 rw [show ((ts.length:Nat):Int)=(ks.length:Int) from by simp [ts],e2']
 simp only [ae,br,aC,Pz,PB]
 rw [aP,aS]
 simp only [aJ,dg,au,az,aj,ag,bh,aa,ND,NT,Lp n1,Lp n2]
 rw [lR (by simp only [ND,NT];omega)]
 simp only [aa]
 rw [ff epr]
 simp only [ae,br,aC,Pz,PB]
 rw [aP,aS]
 simp only [dH,dg,aB,au,az,aJ,aj,ag,bh,aa,cK,kq,ND,NT,Lp n1,Lp n2]
 rw [show jx [.tup [.int x,.int y]] M3=.ok (.obj M3.length) (M3++[O.lst [.int x,.int y]]) from rfl]
 simp only [aa]
 rw [show cJ (.tup [.int x,.int y]) (.tup [.int 0]) (M3++[O.lst [.int x,.int y]])=.ok (.tup [.int x,.int y,.int 0]) (M3++[O.lst [.int x,.int y]]) from lR (by simp)]
 simp only [aa,ND,NT,Lp n8,ae,br,aC,Pz,PB]
 rw [aP,aS]
 simp only [aJ,Ah,AO,pN,we,dg,aB,au,az,aj,ag,bh,aa,dr]
 rw [show Cg (.tup ts) none (some (sp:Int)) M4=.ok (.tup (ts.take sp)) M4 from by show ak.ok (D.tup (jM ts none (some (sp:Int)))) M4=_;rw [AV (by simp only [ts,Mw];omega)]]
 simp only [aa]
 rw [show aE [.obj P,.int 8] M4=.ok (.int r2) M5 from e3']
 simp only [aa]
 rw [dh t5 eW]
 simp only [aa,ND,NT,Lp n1]
 rw [lR (by rw [Mn];simp only [ND,NT];omega)]
 simp only [aa]
 rw [show Cg (.tup ts) (some ((sp:Int)+1)) none M5=.ok (.tup (ts.drop (sp+1))) M5 from by show ak.ok (D.tup (jM ts (some ((sp:Int)+1)) none)) M5=_;rw [AW (r:=sp+1) (by push_cast;rfl)]]
 simp only [aa]
 rw [lR (by rw [Mv,Mn,MN];simp only [ND,NT];omega)]
 simp only [ae,br,aC,Pz,PB]
 rw [aP,aS]
 simp only [dH,dg,aB,au,az,aj,ag,aa,ND,NT,Lp n1,Lp n2,Lp n3,Lp (NN sizeLine)]
 rw [show jx [.tup ts] M5=.ok (.obj M5.length) (M5++[O.lst ts]) from rfl]
 simp only [aa,ND,NT,Lp n2,Lp n7,ae,br,aC,Pz,PB]
 rw [aP,aS]
 simp only [aJ,dH,dg,jw,wc,Ah,AO,pN,we,au,az,aj,ag,bh,AR,aa]
 have rv:∀ M:aw,ug (.tup ts) (.int (-1)) M=.ok (.tup ts.reverse) M:=fun M=>by
  unfold ug
  dsimp only
  rw [Lp rfl]
 have s1':∀ M:aw,Cg (.tup ts) none (some 1) M=.ok (.tup (ts.take 1)) M:=fun M=>by
  show ak.ok (D.tup (jM ts none (some 1))) M=_
  by_cases z:1<=ts.length
  ·rw [show (1:Int)=((1:Nat):Int) from rfl,AV z]
  ·have : ts = [] := Pk (by omega)
   rw [this];rfl
 have s2':∀ M:aw,Cg (.tup ts) (some 1) none M=.ok (.tup (ts.drop 1)) M:=fun M=>by
  show ak.ok (D.tup (jM ts (some 1) none)) M=_
  rw [AW (n:=(1:Int)) (r:=1) rfl]
 simp only [rv,s1',s2',aa,ND,NT,Lp n2,Lp (NN sizeLine)]
 rw [lR (xs:=ts) (ys:=ts.take 1) (by rw [Mn];omega)]
 simp only [aa,ND,NT,Lp n2,Lp n7,Lp (NN sizeLine)]
 rw [show cJ (.obj (M5++[O.lst ts]++[O.lst [.int m,.tup ts]]).length) (.obj (M6++[O.dic]).length) (M6++[O.dic]++[O.lst S2])=.ok (.obj (M6++[O.dic]++[O.lst S2]).length) M7 from Er (aN (aN aD)) aD (show S1.length+S2.length<=1000 from show (7+7:Nat)<=1000 by decide)]
 simp only [ae,br,aC,Pz,PB,bc,aJ,aB,au,az,aj,ag,bh,aa]
 rw [show aE [.obj P,.int 14] M7=.ok (.int r3) M8 from e4']
 simp only [aa]
 rw [dh t8 ed]
 simp only [ae,aW]
 exact eg
end
theorem wd {subs known:List Str}{n:Nat}{c:Str}{μ:aw} (h:μ[n]?=some (.exc c)) (hk:known.contains c=true):kU subs known (.obj n) μ=.ok (.bl (subs.contains c)) μ:=by
 unfold kU
 dsimp only
 rw [h]
 dsimp only
 rw [Lp hk]
theorem ya {μ:aw}{a b:Nat}{xs ys:List D} (h:μ[a]?=some (.lst xs)) (g:μ[b]?=some (.lst ys)) (hn:xs.length+ys.length<=1000000):cJ (.obj a) (.obj b) μ=.ok (.obj μ.length) (μ++[.lst (xs++ys)]):=by
 unfold cJ
 simp only [h,g]
 rw [Lp (LB hn (by decide))]
theorem l4:(4:Nat)<=sizeLine:=by decide
theorem l8:(8:Nat)<=sizeLine:=by decide
abbrev oS:List D:=[.str "place",.str "number",.str "line",.str "root",.str "tree",.str "web",.str "text",.str "great"]
theorem bw:(["NoNumber"]:List Str).contains "NoNumber" = true:=by decide +kernel
theorem iX:([]:List Str).contains "NoNumber" = false:=by decide +kernel
theorem mZ {μ:aw}{n:Nat} (h:μ[n]?=some (.exc "NoNumber")):dQ [.obj n] μ=.ok (.str "number") μ:=by
 have h1:(μ++[O.lst [D.bl false,D.bl true,D.bl false,D.bl false]])[n]?=some (.exc "NoNumber"):=aN h
 have h2:(μ++[O.lst [D.bl false,D.bl true,D.bl false,D.bl false]]++[O.lst [D.bl false,D.bl false,D.bl false,D.bl false]])[n]?=some (.exc "NoNumber"):=aN h1
 have h3:(μ++[O.lst [D.bl false,D.bl true,D.bl false,D.bl false]]++[O.lst [D.bl false,D.bl false,D.bl false,D.bl false]]++[O.lst ([D.bl false,D.bl true,D.bl false,D.bl false]++[D.bl false,D.bl false,D.bl false,D.bl false])])[n]?=some (.exc "NoNumber"):=aN h2
 have m3:(μ++[O.lst [D.bl false,D.bl true,D.bl false,D.bl false]]++[O.lst [D.bl false,D.bl false,D.bl false,D.bl false]]++[O.lst ([D.bl false,D.bl true,D.bl false,D.bl false]++[D.bl false,D.bl false,D.bl false,D.bl false])])[(μ++[O.lst [D.bl false,D.bl true,D.bl false,D.bl false]]++[O.lst [D.bl false,D.bl false,D.bl false,D.bl false]]).length]?=some (.lst ([D.bl false,D.bl true,D.bl false,D.bl false]++[D.bl false,D.bl false,D.bl false,D.bl false])):=aD
 have m4:(μ++[O.lst [D.bl false,D.bl true,D.bl false,D.bl false]]++[O.lst [D.bl false,D.bl false,D.bl false,D.bl false]]++[O.lst ([D.bl false,D.bl true,D.bl false,D.bl false]++[D.bl false,D.bl false,D.bl false,D.bl false])]++[O.lst oS])[(μ++[O.lst [D.bl false,D.bl true,D.bl false,D.bl false]]++[O.lst [D.bl false,D.bl false,D.bl false,D.bl false]]).length]?=some (.lst ([D.bl false,D.bl true,D.bl false,D.bl false]++[D.bl false,D.bl false,D.bl false,D.bl false])):=aN m3
 have k4:(μ++[O.lst [D.bl false,D.bl true,D.bl false,D.bl false]]++[O.lst [D.bl false,D.bl false,D.bl false,D.bl false]]++[O.lst ([D.bl false,D.bl true,D.bl false,D.bl false]++[D.bl false,D.bl false,D.bl false,D.bl false])]++[O.lst oS])[(μ++[O.lst [D.bl false,D.bl true,D.bl false,D.bl false]]++[O.lst [D.bl false,D.bl false,D.bl false,D.bl false]]++[O.lst ([D.bl false,D.bl true,D.bl false,D.bl false]++[D.bl false,D.bl false,D.bl false,D.bl false])]).length]?=some (.lst oS):=aD
 have a1:=ya (μ:=μ++[O.lst [D.bl false,D.bl true,D.bl false,D.bl false]]++[O.lst [D.bl false,D.bl false,D.bl false,D.bl false]]) (a:=μ.length) (b:=(μ++[O.lst [D.bl false,D.bl true,D.bl false,D.bl false]]).length) (xs:=[D.bl false,D.bl true,D.bl false,D.bl false]) (ys:=[D.bl false,D.bl false,D.bl false,D.bl false]) (aN aD) aD (by decide)
 have c1:kz (.obj (μ++[O.lst [D.bl false,D.bl true,D.bl false,D.bl false]]++[O.lst [D.bl false,D.bl false,D.bl false,D.bl false]]).length) [.bl true] (μ++[O.lst [D.bl false,D.bl true,D.bl false,D.bl false]]++[O.lst [D.bl false,D.bl false,D.bl false,D.bl false]]++[O.lst ([D.bl false,D.bl true,D.bl false,D.bl false]++[D.bl false,D.bl false,D.bl false,D.bl false])])=.ok (.int 1) (μ++[O.lst [D.bl false,D.bl true,D.bl false,D.bl false]]++[O.lst [D.bl false,D.bl false,D.bl false,D.bl false]]++[O.lst ([D.bl false,D.bl true,D.bl false,D.bl false]++[D.bl false,D.bl false,D.bl false,D.bl false])]):=by
  unfold kz
  dsimp only
  rw [m3]
  rfl
 have i1:ky (.obj (μ++[O.lst [D.bl false,D.bl true,D.bl false,D.bl false]]++[O.lst [D.bl false,D.bl false,D.bl false,D.bl false]]).length) [.bl true] (μ++[O.lst [D.bl false,D.bl true,D.bl false,D.bl false]]++[O.lst [D.bl false,D.bl false,D.bl false,D.bl false]]++[O.lst ([D.bl false,D.bl true,D.bl false,D.bl false]++[D.bl false,D.bl false,D.bl false,D.bl false])]++[O.lst oS])=.ok (.int 1) (μ++[O.lst [D.bl false,D.bl true,D.bl false,D.bl false]]++[O.lst [D.bl false,D.bl false,D.bl false,D.bl false]]++[O.lst ([D.bl false,D.bl true,D.bl false,D.bl false]++[D.bl false,D.bl false,D.bl false,D.bl false])]++[O.lst oS]):=by
  unfold ky
  dsimp only
  rw [m4]
  dsimp only
  rw [Lp ⟨rfl,by decide,rfl⟩]
  rfl
 have e3:zE (.obj (μ++[O.lst [D.bl false,D.bl true,D.bl false,D.bl false]]++[O.lst [D.bl false,D.bl false,D.bl false,D.bl false]]).length) (μ++[O.lst [D.bl false,D.bl true,D.bl false,D.bl false]]++[O.lst [D.bl false,D.bl false,D.bl false,D.bl false]]++[O.lst ([D.bl false,D.bl true,D.bl false,D.bl false]++[D.bl false,D.bl false,D.bl false,D.bl false])])=true:=by unfold zE;dsimp only;rw [m3]
 have e4:zE (.obj (μ++[O.lst [D.bl false,D.bl true,D.bl false,D.bl false]]++[O.lst [D.bl false,D.bl false,D.bl false,D.bl false]]).length) (μ++[O.lst [D.bl false,D.bl true,D.bl false,D.bl false]]++[O.lst [D.bl false,D.bl false,D.bl false,D.bl false]]++[O.lst ([D.bl false,D.bl true,D.bl false,D.bl false]++[D.bl false,D.bl false,D.bl false,D.bl false])]++[O.lst oS])=true:=by unfold zE;dsimp only;rw [m4]
 unfold dQ
 rw [eE]
 simp only [kf,List.replicate,aP,aS,dH,au,az,jw,ag,aa,wd h bw,bw,iX]
 rw [Lp (show [D.bl false,D.bl true,D.bl false,D.bl false].length<=sizeLine from l4)]
 simp only [ae]
 rw [show ao 1 (D.obj μ.length) [some (D.obj n),none] (μ++[O.lst [D.bl false,D.bl true,D.bl false,D.bl false]])=.ok [some (D.obj n),some (D.obj μ.length)] (μ++[O.lst [D.bl false,D.bl true,D.bl false,D.bl false]]) from rfl]
 simp only [ae,aC,aP,aS,aJ,dH,au,az,jw,ag,aj,aa,wd h1 bw,bw,iX]
 rw [Lp (show [D.bl false,D.bl false,D.bl false,D.bl false].length<=sizeLine from l4)]
 simp only [aa]
 rw [a1]
 simp only [ae]
 rw [show ao 1 (D.obj (μ++[O.lst [D.bl false,D.bl true,D.bl false,D.bl false]]++[O.lst [D.bl false,D.bl false,D.bl false,D.bl false]]).length) [some (D.obj n),some (D.obj μ.length)] (μ++[O.lst [D.bl false,D.bl true,D.bl false,D.bl false]]++[O.lst [D.bl false,D.bl false,D.bl false,D.bl false]]++[O.lst ([D.bl false,D.bl true,D.bl false,D.bl false]++[D.bl false,D.bl false,D.bl false,D.bl false])])=.ok [some (D.obj n),some (D.obj (μ++[O.lst [D.bl false,D.bl true,D.bl false,D.bl false]]++[O.lst [D.bl false,D.bl false,D.bl false,D.bl false]]).length)] (μ++[O.lst [D.bl false,D.bl true,D.bl false,D.bl false]]++[O.lst [D.bl false,D.bl false,D.bl false,D.bl false]]++[O.lst ([D.bl false,D.bl true,D.bl false,D.bl false]++[D.bl false,D.bl false,D.bl false,D.bl false])]) from rfl]
 simp only [ae,aC,aP,eD,sg,lP,mF,jw,aJ,au,az,ag,aj,bh,aa,wd h3 bw,bw,iX,kn,On,NC,MH]
 unfold kg
 simp only [aJ,qQ,au,az,ag,aj,bh,aa,e3,MJ,c1,iw,bj]
 rw [show (!((1:Int) == 1))=false from rfl]
 simp only [ae,NC,MH,dU,aC,bc,aJ,dH,au,az,bh,aa]
 rw [Lp (show [D.str "place",D.str "number",D.str "line",D.str "root",D.str "tree",D.str "web",D.str "text",D.str "great"].length<=sizeLine from l8)]
 simp only [aa,qQ,au,az,aj,ag,bh,e4,MJ,i1]
 rw [dh (xs:=oS) (d:=.str "number") k4 rfl]
 simp only [ae,aW,Np]
 exact fK (by simp)
theorem Ld {μ:aw}{neg:Bool}{x:Str}:yl neg (.str x) (.str x) μ=.ok (.bl (!neg)) μ:=by
 unfold yl
 dsimp only
 rw [Nz rfl]
 cases neg <;> rfl
theorem zg {μ:aw}:jH true (.str "number") (.str "number") μ=.ok (.bl false) μ:=by
 have f:gK (.str "number")=true:=by decide +kernel
 unfold jH
 rw [show tI μ (.str "number")=some (.str "number") from rfl]
 dsimp only
 rw [Lp ⟨f,f⟩,Lp rfl,SeqAt.eqv_refl _ (cj f)]
 rfl
section
variable {m k:Nat}{ks:List (List Int)}{d:D}{μ:aw}
theorem FL (h:GW m ks) (hd:Kn μ d) (k0:1<=k) (k5:k<=5):bY [bg m ks,.int k,d] μ=.ok (.bl (qw m ks k d)) μ:=by
 unfold bY
 rw [jj]
 simp only [j9,List.replicate]
 unfold zL
 rw [show eQ [some (bg m ks),some (.int k),some d,none] μ=.ret (.bl (qw m ks k d)) μ from by
  simp only [eQ,bc,aB,au,az,ag,aj,aa,F3 h hd k0 k5,ae]]
 dsimp only
 rw [aW]
 exact aI (by simp)
theorem FM {w e:D} (hd:Kn μ d) (hn:cn 1 5 d=false):bY [w,d,e] μ=.ok (.str "number") μ:=by
 unfold bY
 rw [jj]
 simp only [j9,List.replicate]
 unfold zL
 rw [show eQ [some w,some d,some e,none] μ=.exc ⟨"NoNumber",[]⟩ μ from by
  simp only [eQ,bc,aB,au,az,ag,aj,aa,Dq hd hn,qc]]
 dsimp only
 rw [Lp bw]
 rw [show iZ ((List.replicate 4 none).set 3 (some (D.obj μ.length))) (μ++[O.exc "NoNumber"])=.ret (.str "number") (μ++[O.exc "NoNumber"]) from by
  simp only [iZ,bc,aB,au,az,List.replicate,List.set,aj,ag,aa,mZ (μ:=μ++[O.exc "NoNumber"]) (n:=μ.length) aD,ae]]
 show oG μ (.ok (.str "number") (μ++[O.exc "NoNumber"]))=_
 exact fK (by simp)
theorem qV {x:Str} (h:GW m ks) (hd:Kn μ d) (hx:gZ [d] μ=.ok (.str x) μ) (k0:1<=k) (k5:k<=5):d0 [bg m ks,.int k,d] μ=.ok (.bl true) μ:=by
 have due:fA (aL cw (af (ah 2) (aG))) (fA (aA (jH false) (aA b9 (ah 2) (cC (.int 0))) (aA b9 (ah 0) (cC (.int 0)))) (aA (jH false) (aL bX (af (ah 2) (af (ah 1) (aG)))) (ah 0))) [some (bg m ks),some (.int k),some d,some (.str x),some (.bl (qw m ks k d)),none] μ=.ok (.bl (qw m ks k d)) μ:=by
  simp only [eT,aB,au,az,aj,ag,aa,C5 hd,bj]
  cases e:bU d with
  | false=>simp only [NC,MH,AU e]
  | true=>
   obtain ⟨m',ks',rfl,h'⟩:=xr e
   simp only [MJ,aJ,aB,au,az,aj,ag,bh,aa,cK,iw,NC,MH,bj]
   rw [xZ h']
   by_cases em:m'=m
   ·subst em
    rw [show ((m':Int) == (m':Int))=true from by simp,Lp rfl,Au h' (by omega)]
    simp only [aa,IP (g9 h'.m0 h'.m6) h]
   ·rw [show ((m':Int) == (m:Int))=false from by rw [Ln];omega,Lq LZ,Lm em,L6]
 unfold d0
 rw [jj]
 simp only [mj,List.replicate]
 rw [aP,aS]
 simp only [aB,au,az,aj,ag,aa,hx,ae,br,aC,Pz,PB]
 rw [aP,aS]
 simp only [aB,au,az,aj,ag,aa,FL h hd k0 k5,ae,br,aC,Pz,PB]
 rw [aP,aS,due]
 simp only [ae,br,aC,Pz,PB,bc,eT,jw,aj,ag,aa]
 rw [show fH "bool" (.bl (qw m ks k d)) μ=.ok (.bl true) μ from rfl]
 simp only [aa,bj,MJ,aJ,aB,au,az,aj,ag,HV,NC,MH,NB,hx,Ld,Oy,ae,aW]
 exact aI (by simp)
end
theorem Kp.self {P:Nat}{M:aw}{a b c:Int} (h:M[P]?=some (bZ a b c)):Kp P M M:=⟨⟨_,_,_,h⟩,fun _ _ _ e=>e⟩
theorem Kp.set {P:Nat}{M M':aw}{a b c:Int} (h:Kp P M M'):Kp P M (M'.set P (bZ a b c)):=by
 obtain ⟨u,v,w,e⟩:=h.1
 exact ⟨⟨a,b,c,dS (LL.mp e).1⟩,fun j o ne z=>by rw [LO ne];exact h.2 j o ne z⟩
theorem Kp.draw {P:Nat}{M M':aw}{n:Int} (h:Kp P M M') (h0:0<n) (h1:n<1073741824):∃ (r:Int) (M2:aw),0<=r/\r<n/\aE [.obj P,.int n] M'=.ok (.int r) M2/\Kp P M M2:=by
 obtain ⟨a,b,c,hp⟩:=h.1
 obtain ⟨r,a',b',c',r0,r1,e⟩:=su hp h0 h1
 exact ⟨r,_,r0,r1,e,h.set⟩
theorem Ez.mono {P:Nat}{M M':aw}{d:D} (h:Ez P M d) (k:Kp P M M'):Ez P M' d:=by
 obtain ⟨x,hx⟩:=h
 exact ⟨x,fun μ kk=>hx μ (k.trans kk)⟩
section
variable {m k:Nat}{ks:List (List Int)}{P:Nat}{a0 a1 a3 a7:Option D}
theorem BO {M:aw}{d:D} (h:GW m ks) (hd:Ez P M d) (kM:Kp P M M) (k0:1<=k) (k5:k<=5):∃ M',oF [a0,a1,some (.obj P),a3,some (.int k),some (bg m ks),some d,a7] M=.next [a0,a1,some (.obj P),a3,some (.int k),some (bg m ks),some d,a7] M'/\Kp P M M':=by
 obtain ⟨x,hx⟩:=hd
 obtain ⟨r,M2,r0,r1,e,k2⟩:=kM.draw (n:=5) (by decide) (by decide)
 have h1:=hx M kM
 have h2:=hx M2 k2
 obtain ⟨r,rfl⟩:∃ n:Nat,r=(n:Int):=⟨r.toNat,by omega⟩
 refine ⟨M2,?_,k2⟩
 unfold oF
 simp only [eD,sg,lP,mF,aB,au,az,aJ,aj,ag,bh,aa,qV h h1.1 h1.2 k0 k5,kn,On,NC,MH,e,dr]
 rw [show (1:Int)+(r:Int)=((1+r:Nat):Int) from by push_cast;rfl,qV h h2.1 h2.2 (by omega) (by omega)]
 simp only [aa,kn,On,ae,NC,MH,dU]
theorem rm {t:Nat}{all:List D} (h:GW m ks) (k0:1<=k) (k5:k<=5) (ne:P≠t):∀ (ds:List D) (a6:Option D) (M:aw),M[t]?=some (.lst all)->Kp P M M->(∀ d∈ds,Ez P M d) ->
  ∃ (M':aw) (b6:Option D),dB (.own t all) (ao 6) oF ds [a0,a1,some (.obj P),a3,some (.int k),some (bg m ks),a6,a7] M=.next [a0,a1,some (.obj P),a3,some (.int k),some (bg m ks),b6,a7] M'/\Kp P M M'
 | [],a6,M,ht,kM,_=>⟨M,a6,by unfold dB;rw [Lp (show cA (.own t all) M from ht)],kM⟩
 | d::ds,a6,M,ht,kM,hd=>by
  obtain ⟨M1,e1,k1⟩:=BO (a0:=a0) (a1:=a1) (a3:=a3) (a7:=a7) h (hd d LF) kM k0 k5
  obtain ⟨x,y,z,hp1⟩:=k1.1
  obtain ⟨M2,b6,e2,k2⟩:=rm h k0 k5 ne ds (some d) M1 (k1.2 t _ ne ht) (Kp.self hp1) fun u hu=>(hd u (LG _ hu)).mono k1
  refine ⟨M2,b6,?_,k1.trans k2⟩
  unfold dB
  rw [Lp (show cA (.own t all) M from ht)]
  simp only [br,ae,Pz,PB]
  rw [e1]
  exact e2
theorem HJ (h0:1<=m) (h6:m<=6):GW m []:=⟨rfl,by omega,by omega,List.Pairwise.nil,fun k hk=>by cases hk⟩
theorem Hl {m':Nat}{ls:List (List Int)}{M:aw}{a b c:Int}{a6:Option D} (hp:M[P]?=some (bZ a b c)) (h1:GW m' ls) (h:GW m ks) (k0:1<=k) (k5:k<=5):∃ (M':aw) (b6:Option D),lS [a0,a1,some (.obj P),some (bg m' ls),some (.int k),some (bg m ks),a6,a7] M=.next [a0,a1,some (.obj P),some (bg m' ls),some (.int k),some (bg m ks),b6,a7] M'/\Kp P M M':=by
 have hP:P<M.length:=(LL.mp hp).1
 obtain ⟨d1,M1,e1,P1,t1⟩:=ux hp h1
 obtain ⟨x1,y1,z1,hp1⟩:=P1.get hP
 have hP1:P<M1.length:=(LL.mp hp1).1
 obtain ⟨d2,M2,e2,P2,t2⟩:=ux hp1 h
 obtain ⟨x2,y2,z2,hp2⟩:=P2.get hP1
 have hP2:P<M2.length:=(LL.mp hp2).1
 have k01:=P1.kp hP
 have k12:=P2.kp hP1
 let all:List D:=[bg m' ls,bg m ks,.tup [.int m,.tup []],d1,d2]
 let M3:aw:=M2++[O.lst all]
 have k23:Kp P M2 M3:=(Kp.self hp2).app
 have k33:Kp P M3 M3:=Kp.self (aN hp2)
 obtain ⟨M',b6,e,k4⟩:=rm (a0:=a0) (a1:=a1) (a3:=some (bg m' ls)) (a7:=a7) (t:=M2.length) (all:=all) h k0 k5 (by omega) all a6 M3 aD k33 (fun d hd=>by
  simp only [all,LH,OK,OL] at hd
  rcases hd with rfl|rfl|rfl|rfl|rfl
  ·exact sm h1
  ·exact sm h
  ·exact sm (HJ h.m0 h.m6)
  ·exact t1.mono (k12.trans k23)
  ·exact t2.mono k23)
 refine ⟨M',b6,?_,(k01.trans (k12.trans k23)).trans k4⟩
 have n2:0+1+1<=sizeLine:=l2
 have n5:0+1+1+1+1+1<=sizeLine:=LB (by decide) bS
 unfold lS
 rw [iu,dm]
 simp only [dH,dg,aB,au,az,aJ,aj,ag,bh,aa,cK,NT,Lp (NN sizeLine),ND,Lp n2,e1,e2,Lp n5]
 rw [iL (show (M2++[O.lst [bg m' ls,bg m ks,.tup [.int m,.tup []],d1,d2]])[M2.length]?=some (.lst all) from aD)]
 simp only [ae,fC]
 exact e
theorem xN {m' t:Nat}{ls:List (List Int)}{all:List D} (h1:GW m' ls) (k0:1<=k) (k5:k<=5) (ne:P≠t):∀ (ds:List D) (a5 a6:Option D) (M:aw),M[t]?=some (.lst all)->Kp P M M->(∀ d∈ds,∃ m ks,d=bg m ks/\GW m ks) ->
  ∃ (M':aw) (b5 b6:Option D),dB (.own t all) (ao 5) lS ds [a0,a1,some (.obj P),some (bg m' ls),some (.int k),a5,a6,a7] M=.next [a0,a1,some (.obj P),some (bg m' ls),some (.int k),b5,b6,a7] M'/\Kp P M M'
 | [],a5,a6,M,ht,kM,_=>⟨M,a5,a6,by unfold dB;rw [Lp (show cA (.own t all) M from ht)],kM⟩
 | d::ds,a5,a6,M,ht,kM,hd=>by
  obtain ⟨m,ks,rfl,h⟩:=hd d LF
  obtain ⟨a,b,c,hp⟩:=kM.1
  obtain ⟨M1,b6,e1,k1⟩:=Hl (a0:=a0) (a1:=a1) (a6:=a6) (a7:=a7) hp h1 h k0 k5
  obtain ⟨x,y,z,hp1⟩:=k1.1
  obtain ⟨M2,b5,b6',e2,k2⟩:=xN h1 k0 k5 ne ds (some (bg m ks)) b6 M1 (k1.2 t _ ne ht) (Kp.self hp1) fun u hu=>hd u (LG _ hu)
  refine ⟨M2,b5,b6',?_,k1.trans k2⟩
  unfold dB
  rw [Lp (show cA (.own t all) M from ht)]
  simp only [br,ae,Pz,PB]
  rw [e1]
  exact e2
end
theorem C6 {μ:aw}{ns:List Int}:∃ x:Int,dR [.frz (ns.map D.int),.int 0] μ=.ok (.int x) μ:=by
 unfold dR
 rw [cf]
 cases ns with
 | nil=>
  refine ⟨0,?_⟩
  simp only [iC,Na,List.replicate,aP,eD,eG,aJ,aj,ag,aB,au,az,xY,NT,aa,gA]
  rw [show cq .Lt 0 ((0:Nat):Int)=false from rfl]
  simp only [bj,ae,NC,MH,dU,aC,bc,bh,aW]
  exact aI (by simp)
 | cons x r=>
  refine ⟨x,?_⟩
  simp only [iC,Nb,List.replicate,aP,eD,eG,aJ,aj,ag,aB,au,az,xY,ND,aa,gA]
  rw [show cq .Lt 0 (((r.map D.int).length+1:Nat):Int)=true from Nz (by omega)]
  simp only [bj,ae,MJ,bc,aJ,aj,ag,aa]
  rw [HU ny]
  simp only [ae,v5,aW]
  exact aI (by simp)
theorem Kx {μ:aw}:rS (.int 10) (.int 9) μ=.ok (.int 1000000000) μ:=by
 rw [show (rS:D->D->aw->ak D)=zF qy fun i j=>.int (i ^ j.toNat) from rfl,jk (show qy 10 9 from ⟨by decide,by decide,by decide⟩)]
 rfl
theorem D3 {M:aw}{x:Int}{a0 a2 a3 a4 a5 a6 a7:Option D}:∃ (M':aw) (b2 b3 b4 b5 b6 b7:Option D),
  oE [a0,some (.int x),a2,a3,a4,a5,a6,a7] M=.next [a0,some (.int x),b2,b3,b4,b5,b6,b7] M'/\∀ (j:Nat) (o:O),M[j]?=some o->M'[j]?=some o:=by
 obtain ⟨a,b,c,ep⟩:=F4 (μ:=M) x
 let P:Nat:=M.length
 have sl:∀ a b c a' b' c':Int,(M++[bZ a b c]).set M.length (bZ a' b' c')=M++[bZ a' b' c']:=fun _ _ _ _ _ _=>pD
 obtain ⟨m,ls,a1',b1,c1,h1,ew⟩:=uw (μ:=M++[bZ a b c]) (i:=M.length) aD
 rw [sl] at ew
 have m0:=h1.m0
 have m6:=h1.m6
 let M1:aw:=M++[bZ a1' b1 c1]
 have k11:Kp P M1 M1:=Kp.self aD
 obtain ⟨r,M2,r0,r1,er,k2⟩:=k11.draw (n:=5) (by decide) (by decide)
 obtain ⟨r,rfl⟩:∃ n:Nat,r=(n:Int):=⟨r.toNat,by omega⟩
 let k:Nat:=1+r
 have ek:(1:Int)+(r:Int)=(k:Int):=by simp only [k];push_cast;rfl
 obtain ⟨u,v,w,hp2⟩:=k2.1
 have hP2:P<M2.length:=(LL.mp hp2).1
 obtain ⟨m',ks',a3',b3,c3,h',ea⟩:=F6 hp2
 let M3:aw:=M2.set P (bZ a3' b3 c3)
 have k3:Kp P M1 M3:=k2.set
 have gs:=g9 (k:=k) (ks:=ls) m0 m6
 let ws:List D:=[bg m (nM m ls k),bg m' ks']
 let M4:aw:=M3++[O.lst ws]
 obtain ⟨u4,v4,w4,hp3⟩:=k3.1
 have hP3:P<M3.length:=(LL.mp hp3).1
 have k44:Kp P M4 M4:=Kp.self (aN hp3)
 obtain ⟨M5,b5,b6,e5,k5⟩:=xN (a0:=a0) (a1:=some (.int x)) (a7:=a7) (t:=M3.length) (all:=ws) (k:=k) h1 (by simp only [k];omega) (by simp only [k];omega) (by omega) ws a5 a6 M4 aD k44 (fun d hd=>by
  simp only [ws,LH,OK,OL] at hd
  rcases hd with rfl|rfl
  ·exact ⟨_,_,rfl,gs⟩
  ·exact ⟨_,_,rfl,h'⟩)
 have k15:Kp P M1 M5:=(k3.app (g:=[O.lst ws])).trans k5
 let M6:aw:=M5++[O.lst [.int 2]]++[O.dic]
 have k16:Kp P M1 M6:=k15.app.app
 obtain ⟨x61,x62,x63,hp6⟩:=k16.1
 obtain ⟨q,M7,q0,q1,eq,k67⟩:=(Kp.self hp6).draw (n:=1000000000) (by decide) (by decide)
 let odds:List D:=[.int 0,.int 6,.int (-1),.bl true,.bl false,.non,.str "2",.tup [.int 2],.obj M5.length,.obj (M5++[O.lst [.int 2]]).length,.int (7+q)]
 let M8:aw:=M7++[O.lst odds]
 have k68:Kp P M6 M8:=k67.app
 obtain ⟨r2,M9,r20,r21,er2,k69⟩:=k68.draw (n:=11) (by decide) (by decide)
 have hP5:P<M5.length:=by obtain ⟨x1,x2,x3,z⟩:=k15.1;exact (LL.mp z).1
 have lM7:M6.length<=M7.length:=by
  have z:=k67.2 (M5++[O.lst [.int 2]]).length .dic (by rw [Mv];omega) aD
  have:=(LL.mp z).1
  simp only [M6,Mv,ND,NT] at this ⊢
  omega
 have hp8:∃ x1 x2 x3,M8[P]?=some (bZ x1 x2 x3):=k68.1
 have k89:M9[M7.length]?=some (.lst odds):=by
  obtain ⟨x1,x2,x3,z⟩:=hp8
  obtain ⟨r',y1,y2,y3,_,_,e'⟩:=su z (m:=11) (by decide) (by decide)
  rw [e'] at er2
  injection er2 with _ er2
  rw [<- er2,LO (by simp only [M6,Mv] at lM7;omega)]
  exact aD
 obtain ⟨od,eo,ho⟩:=ph (xs:=odds) (n:=11) r20 r21 rfl
 have oL:M9[M5.length]?=some (.lst [.int 2]):=k69.2 _ _ (by omega) (aN aD)
 have oD:M9[(M5++[O.lst [.int 2]]).length]?=some .dic:=k69.2 _ _ (by rw [Mv];omega) aD
 have bad:Kn M9 od/\cn 1 5 od=false:=by
  simp only [odds,LH,OK,OL] at ho
  rcases ho with rfl|rfl|rfl|rfl|rfl|rfl|rfl|rfl|rfl|rfl|rfl
  ·exact ⟨by simp [Kn],by decide⟩
  ·exact ⟨by simp [Kn],by decide⟩
  ·exact ⟨by simp [Kn],by decide⟩
  ·exact ⟨by simp [Kn],rfl⟩
  ·exact ⟨by simp [Kn],rfl⟩
  ·exact ⟨by simp [Kn],rfl⟩
  ·exact ⟨by simp [Kn],rfl⟩
  ·exact ⟨by simp [Kn,Kns],rfl⟩
  ·refine ⟨?_, rfl⟩
   simp only [Kn]
   refine ⟨"list",?_,by decide,by decide,by decide⟩
   unfold vM
   dsimp only
   rw [oL]
  ·refine ⟨?_, rfl⟩
   simp only [Kn]
   refine ⟨"dict",?_,by decide,by decide,by decide⟩
   unfold vM
   dsimp only
   rw [oD]
  ·refine ⟨by simp [Kn], ?_⟩
   show (decide (1<=7+q) && decide (7+q<=5))=false
   rw [Lm (show ¬ (7+q<=5) by omega),Nu]
 refine ⟨M9,some (.obj P),some (bg m ls),some (.int k),b5,b6,some od,?_,fun j o e=>?_⟩
 ·have n1 : 0 + 1 <= sizeLine := l1
  have n2:0+1+1<=sizeLine:=l2
  have n11:0+1+1+1+1+1+1+1+1+1+1+1<=sizeLine:=LB (by decide) bS
  have ew':bz [.obj M.length,.int 6] (M++[bZ a b c])=.ok (bg m ls) M1:=ew
  unfold oE
  rw [aP,aS]
  simp only [aB,au,az,aj,ag,aa,ep,ae,br,Pz,PB,aC]
  rw [aP,aS]
  simp only [aB,au,az,aj,ag,bh,aa,ew',ae,br,Pz,PB,aC]
  rw [aP,aS]
  simp only [aJ,aB,au,az,aj,ag,bh,aa]
  rw [show aE [.obj M.length,.int 5] M1=.ok (.int (r:Int)) M2 from er]
  simp only [aa,dr,ek,ae,br,Pz,PB,aC]
  rw [aP,iu,dm]
  simp only [dH,aB,au,az,aj,ag,bh,aa]
  rw [show bX [bg m ls,.int (k:Int)] M2=.ok (bg m (nM m ls k)) M2 from Au h1 (by simp only [k];omega)]
  simp only [aa]
  rw [show bQ [.obj M.length,.int 6] M2=.ok (bg m' ks') M3 from ea]
  simp only [aa,ND,NT,Lp n2]
  rw [iL (show (M3++[O.lst [bg m (nM m ls k),bg m' ks']])[M3.length]?=some (.lst ws) from aD)]
  simp only [ae,fC]
  rw [show dB (.own M3.length ws) (ao 5) lS ws [a0,some (.int x),some (.obj M.length),some (bg m ls),some (.int (k:Int)),a5,a6,a7] (M3++[O.lst [bg m (nM m ls k),bg m' ks']])=_ from e5]
  simp only [aC]
  rw [aP,aS]
  simp only [aJ,dH,jw,wc,dg,au,az,aj,ag,bh,AR,aB,aa,Kx,ND,NT,Lp n1]
  rw [show aE [.obj P,.int 1000000000] (M5++[O.lst [.int 2]]++[O.dic])=.ok (.int q) M7 from eq]
  simp only [aa,dr,ND,NT,Lp n11]
  rw [show aE [.obj P,.int 11] (M7++[O.lst [.int 0,.int 6,.int (-1),.bl true,.bl false,.non,.str "2",.tup [.int 2],.obj M5.length,.obj (M5++[O.lst [.int 2]]).length,.int (7+q)]])=.ok (.int r2) M9 from er2]
  simp only [aa]
  rw [dh k89 eo]
  simp only [ae,br,Pz,PB,aC]
  simp only [eD,sg,eG,aJ,aB,au,az,aj,ag,bh,aa,FM bad.1 bad.2,zg,bj,NC,MH,ae,dU]
 ·have hj : j < M.length := (LL.mp e).1
  have z1:M1[j]?=some o:=aN e
  have z6:M6[j]?=some o:=k16.2 j o (by omega) z1
  exact k69.2 j o (by omega) z6
theorem F5 (ns:List Int):∃ μ',uq [.frz (ns.map D.int)] []=.ok (.bl true) μ':=by
 obtain ⟨x0,ex0⟩:=C6 (μ:=[]) (ns:=ns)
 obtain ⟨xs,hxs,hxl⟩:∃ xs:List Int,jM (ns.map D.int) (some 1) (some 8)=xs.map D.int/\xs.length<=8:=by
  refine ⟨(ns.drop (HT.sIx ns.length 0 (some 1))).take (HT.sIx ns.length ns.length (some 8) - HT.sIx ns.length 0 (some 1)),?_,?_⟩
  ·unfold jM
   rw [Mw,N8,N9]
  ·rw [Mn]
   have h6:HT.sIx ns.length ns.length (some 8)=min 8 ns.length:=HT.sIx_nat _ _ 8
   omega
 obtain ⟨L,hL⟩:∃ L:List Int,L=x0::xs:=⟨_,rfl⟩
 let M5:aw:=([O.lst [.int x0]]++[O.lst (xs.map D.int)])++[O.lst (L.map D.int)]
 have h5:M5[2]?=some (.lst (L.map D.int)):=rfl
 obtain ⟨ρ3,M6,_,run3⟩:=km (src:=.own 2 (L.map D.int)) (g:=ao 1) (fb:=oE)
  (fun zs ρ μ=>μ[2]?=some (O.lst (L.map D.int))/\(∃ rs:List Int,zs=rs.map D.int)/\∃ o0 o1 o2 o3 o4 o5 o6 o7,ρ=[o0,o1,o2,o3,o4,o5,o6,o7])
  (fun ρ μ hJJ=>hJJ.1)
  (fun x r ρ μ hJJ => by
   obtain ⟨h2,⟨rs,er⟩,o0,o1,o2,o3,o4,o5,o6,o7,eρ⟩:=hJJ
   subst eρ
   cases rs with
   | nil=>cases er
   | cons y rs=>
    injection er with ex er
    subst ex er
    obtain ⟨M',b2,b3,b4,b5,b6,b7,e1,e2⟩:=D3 (M:=μ) (x:=y) (a0:=o0) (a2:=o2) (a3:=o3) (a4:=o4) (a5:=o5) (a6:=o6) (a7:=o7)
    exact ⟨h2,_,μ,_,_,rfl,e1,e2 2 _ h2,⟨rs,rfl⟩,_,_,_,_,_,_,_,_,rfl⟩)
  (xs:=L.map D.int) (ρ:=[some (.frz (ns.map D.int)),none,none,none,none,none,none,none]) (μ:=M5)
  ⟨h5,⟨L,rfl⟩,_,_,_,_,_,_,_,_,rfl⟩
 have hend:∃ μ',oG [] (.ok (.bl true) M6)=.ok (.bl true) μ':=by
  rcases AM (μ:=[]) (d:=.bl true) (μ':=M6) with e | ⟨e,_⟩ <;> exact ⟨_,e⟩
 obtain ⟨μ',hend⟩:=hend
 refine ⟨μ',?_⟩
 unfold uq
 rw [eE]
 unfold E6
 have l1:([.int x0]:List D).length<=sizeLine:=by show 1<=sizeLine;decide
 have sl:∀ μ,Cg (.frz (ns.map D.int)) (some 1) (some 8) μ=.ok (.obj μ.length) (μ++[.lst (xs.map D.int)]):=fun μ=>by
  unfold Cg;dsimp only;rw [hxs]
 have ad:cJ (.obj 0) (.obj 1) ([O.lst [.int x0]]++[O.lst (xs.map D.int)])=.ok (.obj 2) M5:=by
  have:=ya (μ:=[O.lst [.int x0]]++[O.lst (xs.map D.int)]) (a:=0) (b:=1) rfl rfl (show ([.int x0]:List D).length+(xs.map D.int).length<=1000000 by rw [Mw];simp only [ND,NT];omega)
  rw [this]
  simp only [M5,hL]
  rfl
 simp only [List.replicate]
 rw [aP,iu,dm,aJ,dH,au,aB,au,ag,aa,au,bh,aa,az,aa,aa,aa,ex0,aa,az,aa,aa]
 simp only [Lp l1,aa,Ah,ag,pN,bh,we]
 rw [sl,aa]
 rw [show cJ (.obj ([]:aw).length) (.obj (([]:aw)++[O.lst [.int x0]]).length) (([]:aw)++[O.lst [.int x0]]++[O.lst (xs.map D.int)])=_ from ad]
 rw [aa,iL h5,ae,fC,run3,aC,bc,bh,ae,aW]
 exact hend
end Lw
namespace Lw
open PySem PySem.Spec PyProof.Rows L2 RS
theorem bT (P:Params) (f:Addr) (n m:Str) (t:Tok) (c:Addr) (st:Stmt) (l:(Kz P).lookup f=some (fo n st m t c)) (q:W.codeIn (Kz P) (.ref c) n=true):gT (Kz P) n n st f (W.fnOf n n (dW st) (bR st) (av st) .none .none .none (.str m t) none (.ref c) .none):=HP l q (by unfold W.keepIn;dsimp only;rw [l];rfl)
theorem Ig {l:W.OpenLaw}{w:World}{h:Heap}{mg:Str->Option Value}{fa:Addr} (X:(Kz w.params).In h) (G:h.Ns mainGlobals mg) (hfa:mg "law" = some (.ref fa)) :
  ∃ fd:FuncData,(∀ (s:Shared) (v:Value),BindsTo s fd ⟨[v],[]⟩ [("_law_script",v)])/\∀ base:Heap,(Kz w.params).In base->base.Ns mainGlobals mg->oN l.prog w (Kz w.params) mg base vQ 12 fa fd ["_law_script"] (Ce (dA (Kz w.params) w) 1 uq):=by
 have e:=hfa.symm.trans (W.mg_of X G (v:=.ref 349) (by kernel_rfl))
 cases e
 have nm:Nm mg:=⟨W.mg_none_of X G (by kernel_rfl),W.mg_none_of X G (by kernel_rfl),W.mg_none_of X G (by kernel_rfl),W.mg_none_of X G (by kernel_rfl),W.mg_none_of X G (by kernel_rfl),W.mg_none_of X G (by kernel_rfl),W.mg_none_of X G (by kernel_rfl),W.mg_none_of X G (by kernel_rfl),W.mg_none_of X G (by kernel_rfl),W.mg_none_of X G (by kernel_rfl),W.mg_none_of X G (by kernel_rfl),W.mg_none_of X G (by kernel_rfl),W.mg_none_of X G (by kernel_rfl),W.mg_none_of X G (by kernel_rfl)⟩
 have c_MOST_PLACES:=W.mg_of X G (n:="MOST_PLACES") (v:=(.int 6 404)) (by kernel_rfl)
 have c_MOST_STEPS:=W.mg_of X G (n:="MOST_STEPS") (v:=(.int 6 406)) (by kernel_rfl)
 have c_MOST_BY:=W.mg_of X G (n:="MOST_BY") (v:=(.int 5 466)) (by kernel_rfl)
 have F:=bT w.params 349 "law" "law_rootwebs_k54_roots_by_looked_at" 484 348 kX (by kernel_rfl) (by kernel_rfl)
 refine ⟨W.fnOf "law" "law" (dW kX) (bR kX) (av kX) .none .none .none (.str "law_rootwebs_k54_roots_by_looked_at" 484) none (.ref 348) .none,fun s v=>.of_eq rfl,fun base Xb Gb=>?_⟩
 have d_is_whole:=vv (P:=l.prog) (w:=w) (base:=base)  nm (bT w.params 151 "is_whole" "rootwebs.kinds" 364 150 iP (by kernel_rfl) (by kernel_rfl)) (W.mg_of X G (by kernel_rfl))
 have d_is_whole_from:=m8 (P:=l.prog) (w:=w) (base:=base)  nm (bT w.params 158 "is_whole_from" "rootwebs.kinds" 364 157 d3 (by kernel_rfl) (by kernel_rfl)) (W.mg_of X G (by kernel_rfl)) d_is_whole
 have d_is_place:=vw (P:=l.prog) (w:=w) (base:=base)  nm (bT w.params 165 "is_place" "rootwebs.kinds" 364 164 iQ (by kernel_rfl) (by kernel_rfl)) (W.mg_of X G (by kernel_rfl)) d_is_whole_from
 have d_is_places:=sZ (P:=l.prog) (w:=w) (base:=base)  nm (bT w.params 170 "is_places" "rootwebs.kinds" 364 169 fP (by kernel_rfl) (by kernel_rfl)) (W.mg_of X G (by kernel_rfl)) d_is_place
 have d_is_rising:=sY (P:=l.prog) (w:=w) (base:=base)  nm (bT w.params 175 "is_rising" "rootwebs.kinds" 364 174 fO (by kernel_rfl) (by kernel_rfl)) (W.mg_of X G (by kernel_rfl))
 have d_is_many:=wR (P:=l.prog) (w:=w) (base:=base)  nm (bT w.params 189 "is_many" "rootwebs.webs" 402 188 jq (by kernel_rfl) (by kernel_rfl)) (W.mg_of X G (by kernel_rfl)) ⟨_,c_MOST_PLACES⟩ d_is_whole_from
 have d_is_pair:=wQ (P:=l.prog) (w:=w) (base:=base)  nm (bT w.params 208 "is_pair" "rootwebs.webs" 402 207 jo (by kernel_rfl) (by kernel_rfl)) (W.mg_of X G (by kernel_rfl)) d_is_places
 have d_is_tie:=yS (P:=l.prog) (w:=w) (base:=base)  nm (bT w.params 201 "is_tie" "rootwebs.webs" 402 200 kB (by kernel_rfl) (by kernel_rfl)) (W.mg_of X G (by kernel_rfl)) d_is_pair
 have d_is_ties:=wO (P:=l.prog) (w:=w) (base:=base)  nm (bT w.params 194 "is_ties" "rootwebs.webs" 402 193 iz (by kernel_rfl) (by kernel_rfl)) (W.mg_of X G (by kernel_rfl)) d_is_tie d_is_rising
 have d_web_good:=vt (P:=l.prog) (w:=w) (base:=base)  nm (bT w.params 182 "web_good" "rootwebs.webs" 402 181 iO (by kernel_rfl) (by kernel_rfl)) (W.mg_of X G (by kernel_rfl)) d_is_many d_is_ties
 have d_next_places:=qi (P:=l.prog) (w:=w) (base:=base)  nm (bT w.params 218 "next_places" "rootwebs.webs" 402 217 cM (by kernel_rfl) (by kernel_rfl)) (W.mg_of X G (by kernel_rfl))
 have d_fars_from:=tf (P:=l.prog) (w:=w) (base:=base)  nm (bT w.params 213 "fars_from" "rootwebs.webs" 402 212 fQ (by kernel_rfl) (by kernel_rfl)) (W.mg_of X G (by kernel_rfl)) d_next_places
 have d_steps_web:=sX (P:=l.prog) (w:=w) (base:=base) (a_NoNumber:=49) nm (bT w.params 223 "steps_web" "rootwebs.webs" 402 222 fN (by kernel_rfl) (by kernel_rfl)) (W.mg_of X G (by kernel_rfl)) ⟨_,c_MOST_STEPS⟩ (by kernel_rfl) (tV.of (nm:="NoNumber") (q:="NoNumber") (N:=48) (bs:=[(.ref 24)]) (bm:=[(.ref 24),(.type "ValueError"),(.type "Exception"),(.type "BaseException"),(.type "object")]) (hd:=true) (sn:=[]) (sub:=[]) (ab:=false) (col:=none) (dd:=none) (k0:=some (.ref 40)) (k1:=none) (k2:=some (.str "NoNumber" 223)) (k3:=some (.str "NoNumber" 231)) (k5:=some (.bool true)) Xb Gb (by kernel_rfl) (by kernel_rfl) (by kernel_rfl) (by kernel_rfl) (by kernel_rfl)) d_is_whole_from d_fars_from
 have d_check_by:=vx (P:=l.prog) (w:=w) (base:=base) (a_NoNumber:=49) nm (bT w.params 230 "check_by" "rootwebs.steps" 464 229 iR (by kernel_rfl) (by kernel_rfl)) (W.mg_of X G (by kernel_rfl)) ⟨_,c_MOST_BY⟩ (by kernel_rfl) (tV.of (nm:="NoNumber") (q:="NoNumber") (N:=48) (bs:=[(.ref 24)]) (bm:=[(.ref 24),(.type "ValueError"),(.type "Exception"),(.type "BaseException"),(.type "object")]) (hd:=true) (sn:=[]) (sub:=[]) (ab:=false) (col:=none) (dd:=none) (k0:=some (.ref 40)) (k1:=none) (k2:=some (.str "NoNumber" 223)) (k3:=some (.str "NoNumber" 231)) (k5:=some (.bool true)) Xb Gb (by kernel_rfl) (by kernel_rfl) (by kernel_rfl) (by kernel_rfl) (by kernel_rfl)) d_is_whole_from
 have d_root_by_good:=nT (P:=l.prog) (w:=w) (base:=base)  nm (bT w.params 237 "root_by_good" "rootwebs.steps" 464 236 eU (by kernel_rfl) (by kernel_rfl)) (W.mg_of X G (by kernel_rfl)) d_check_by d_web_good d_steps_web
 have d__law_cell_at:=nW (P:=l.prog) (w:=w) (base:=base)  nm (bT w.params 244 "_law_cell_at" "law_rootwebs_k54_roots_by_looked_at" 484 243 eX (by kernel_rfl) (by kernel_rfl)) (W.mg_of X G (by kernel_rfl))
 have d__law_next:=tm (P:=l.prog) (w:=w) (base:=base)  nm (bT w.params 251 "_law_next" "law_rootwebs_k54_roots_by_looked_at" 484 250 h7 (by kernel_rfl) (by kernel_rfl)) (W.mg_of X G (by kernel_rfl))
 have d__law_pen_of:=qk (P:=l.prog) (w:=w) (base:=base)  nm (bT w.params 258 "_law_pen_of" "law_rootwebs_k54_roots_by_looked_at" 484 257 fR (by kernel_rfl) (by kernel_rfl)) (W.mg_of X G (by kernel_rfl))
 have d__law_draw:=tq (P:=l.prog) (w:=w) (base:=base)  nm (bT w.params 265 "_law_draw" "law_rootwebs_k54_roots_by_looked_at" 484 264 ia (by kernel_rfl) (by kernel_rfl)) (W.mg_of X G (by kernel_rfl)) d__law_next
 have d__law_whole:=qF (P:=l.prog) (w:=w) (base:=base)  nm (bT w.params 272 "_law_whole" "law_rootwebs_k54_roots_by_looked_at" 484 271 gC (by kernel_rfl) (by kernel_rfl)) (W.mg_of X G (by kernel_rfl))
 have d__law_kind_of:=nV (P:=l.prog) (w:=w) (base:=base) (a_NoLine:=61) (a_NoNumber:=49) (a_NoPlace:=37) (a_NoRoot:=73) (a_NoText:=123) (a_NoTree:=85) (a_NoWeb:=104) (a_TooGreat:=142) nm (bT w.params 279 "_law_kind_of" "law_rootwebs_k54_roots_by_looked_at" 484 278 eV (by kernel_rfl) (by kernel_rfl)) (W.mg_of X G (by kernel_rfl)) (bI.of (by kernel_rfl)) (bI.of (by kernel_rfl)) (bI.of (by kernel_rfl)) (bI.of (by kernel_rfl)) (bI.of (by kernel_rfl)) (bI.of (by kernel_rfl)) (bI.of (by kernel_rfl)) (bI.of (by kernel_rfl)) (bI.of (by kernel_rfl)) (W.mg_of X G (by kernel_rfl)) (W.mg_of X G (by kernel_rfl)) (W.mg_of X G (by kernel_rfl)) (W.mg_of X G (by kernel_rfl)) (W.mg_of X G (by kernel_rfl)) (W.mg_of X G (by kernel_rfl)) (W.mg_of X G (by kernel_rfl)) (W.mg_of X G (by kernel_rfl))
 have d__law_web_of:=qj (P:=l.prog) (w:=w) (base:=base)  nm (bT w.params 284 "_law_web_of" "law_rootwebs_k54_roots_by_looked_at" 484 283 dO (by kernel_rfl) (by kernel_rfl)) (W.mg_of X G (by kernel_rfl))
 have d__law_drawn_web:=ml (P:=l.prog) (w:=w) (base:=base)  nm (bT w.params 289 "_law_drawn_web" "law_rootwebs_k54_roots_by_looked_at" 484 288 cD (by kernel_rfl) (by kernel_rfl)) (W.mg_of X G (by kernel_rfl)) d__law_draw d__law_web_of
 have d__law_near_of:=nU (P:=l.prog) (w:=w) (base:=base)  nm (bT w.params 294 "_law_near_of" "law_rootwebs_k54_roots_by_looked_at" 484 293 c9 (by kernel_rfl) (by kernel_rfl)) (W.mg_of X G (by kernel_rfl))
 have d__law_two_step:=ng (P:=l.prog) (w:=w) (base:=base)  nm (bT w.params 299 "_law_two_step" "law_rootwebs_k54_roots_by_looked_at" 484 298 cN (by kernel_rfl) (by kernel_rfl)) (W.mg_of X G (by kernel_rfl)) d__law_near_of d__law_web_of
 have d__law_any_web:=nX (P:=l.prog) (w:=w) (base:=base)  nm (bT w.params 304 "_law_any_web" "law_rootwebs_k54_roots_by_looked_at" 484 303 dc (by kernel_rfl) (by kernel_rfl)) (W.mg_of X G (by kernel_rfl)) d__law_drawn_web d__law_draw d__law_two_step d__law_web_of
 have d__law_web_like:=nc (P:=l.prog) (w:=w) (base:=base)  nm (bT w.params 311 "_law_web_like" "law_rootwebs_k54_roots_by_looked_at" 484 310 d4 (by kernel_rfl) (by kernel_rfl)) (W.mg_of X G (by kernel_rfl)) d__law_whole
 have d__law_bent_web:=ni (P:=l.prog) (w:=w) (base:=base)  nm (bT w.params 318 "_law_bent_web" "law_rootwebs_k54_roots_by_looked_at" 484 317 d5 (by kernel_rfl) (by kernel_rfl)) (W.mg_of X G (by kernel_rfl)) d__law_draw
 have d__law_reach_of:=nh (P:=l.prog) (w:=w) (base:=base)  nm (bT w.params 323 "_law_reach_of" "law_rootwebs_k54_roots_by_looked_at" 484 322 cO (by kernel_rfl) (by kernel_rfl)) (W.mg_of X G (by kernel_rfl))
 have d__law_told:=tj (P:=l.prog) (w:=w) (base:=base) (a_RootError:=24) nm (bT w.params 330 "_law_told" "law_rootwebs_k54_roots_by_looked_at" 484 329 hZ (by kernel_rfl) (by kernel_rfl)) (W.mg_of X G (by kernel_rfl)) (W.mg_of X G (by kernel_rfl)) (um.of (by kernel_rfl)) d_root_by_good d__law_kind_of
 have d__law_steps:=qG (P:=l.prog) (w:=w) (base:=base)  nm (bT w.params 335 "_law_steps" "law_rootwebs_k54_roots_by_looked_at" 484 334 eN (by kernel_rfl) (by kernel_rfl)) (W.mg_of X G (by kernel_rfl)) d__law_reach_of
 have d__law_right:=qH (P:=l.prog) (w:=w) (base:=base)  nm (bT w.params 342 "_law_right" "law_rootwebs_k54_roots_by_looked_at" 484 341 gD (by kernel_rfl) (by kernel_rfl)) (W.mg_of X G (by kernel_rfl)) d__law_told d__law_web_like d__law_steps
 exact HR nm F d__law_cell_at d__law_pen_of d__law_drawn_web d__law_draw d__law_steps d__law_any_web d__law_bent_web d__law_right d__law_told
theorem Ki {l:W.OpenLaw}{q:Program}{loose:List Str}{XP:(Str->Option Value)->Heap->Prop}{d:DefRec} (hn:l.most=some 63) (hdf:d.params.defaults=[]) (hd:d.name = "law") :
  W.WalkO q loose XP (W.Hook.says Hz) l.row.toRowW d [] (fun f vs=>PySem.call f vs):=
 L2.walk_of (K:=Kz) (n:=63) (k:=12) (x:="_law_script") (CX:=fun _=>vQ) (sp:=fun w=>Ce (dA (Kz w.params) w) 1 uq) hn (by decide) hdf ⟨rfl,by decide,by decide,rfl⟩ (fun _ _ Y=>W.kIn_of Y) (fun _ _ _ _ X G e=>Ig X G (hd ▸ e)) (fun w H a ns hl hO hS=>BP (F5 ns) hO hS) fun _ _ _ _ _ z=>z
end Lw
open PySem PySem.W PyProof.Rows Lw
set_option maxRecDepth 100000 in
set_option maxHeartbeats 0 in
theorem PySem.Challenge.cw_rootwebs_k54_roots_by_looked_at_holds : PySem.Challenge.rw_rootwebs_k54_roots_by_looked_at.Holds := by
 w_on;refine holds_law Fy fun said=>?_
 exact holds_open (Xt:=Xz) (XP:=XL Qz []) (YP:=Hook.says Hz) Fz (Hook.of Hz) (Hook.keeps Hz) (fun s e=>xl_of s (Bool.and_eq_true_iff.mp e).1) XL.keeps (by rfl) (by rfl) (by rfl) (fun s e=>recFacts_of (Bool.and_eq_true_iff.mp e).2) (by rfl) said (by decide +kernel) ⟨rfl,rfl,rfl,rfl,rfl,by decide +kernel⟩ (by w_witness2) (Ki rfl rfl rfl)
