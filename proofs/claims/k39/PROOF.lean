import PyProof.Rows.All
import Wide.All
import OpenK.AllK
import Wide.FinOn
import PyProof.EqAt
import PyProof.EqKinds
import PyProof.TupleCall
import PyProof.P3In
import PyProof.NeData
import PyProof.ConsumeS
import PyProof.WalksMore
import PyProof.ReprRoads
import PyProof.ReprLen
import PyProof.Draws
import PyProof.EnumMake
import PyProof.EnumFor
import PyProof.CallFns
import PyProof.Rows.CallKwBuiltin
import Lean
import PySem.Challenge.RW_rootwebs_k39_knots
set_option Elab.async false
set_option linter.all false
set_option maxHeartbeats 1000000
set_option maxHeartbeats 2000000
set_option maxHeartbeats 400000
set_option maxHeartbeats 4000000
set_option maxRecDepth 100000
noncomputable section
abbrev Jk:=@PySem.Value.isInt_shape
abbrev Jl:=@decide_eq_false
abbrev Jm:=@beq_eq_false_iff_ne
abbrev Jn:=@PySem.wpAny_eqBool_int
abbrev Jo:=@if_pos
abbrev Jp:=@if_neg
abbrev Jq:=@Option.some.inj
abbrev Jr:=@PySem.Heap.lt_size
abbrev Js:=@Nat.lt_of_lt_of_le
abbrev Jt:=@Nat.lt_irrefl
abbrev Ju:=@Nat.ne_of_lt
abbrev Jv:=@List.mem_filter
abbrev Jw:=@List.mem_range
abbrev Jx:=@Nat.le_trans
abbrev Jy:=@Nat.le_of_lt
abbrev Jz:=@List.filterMap_cons
abbrev JA:=@List.mem_cons_self
abbrev JB:=@List.mem_cons_of_mem
abbrev JC:=@List.mem_cons
abbrev JD:=@Ne.symm
abbrev JE:=@List.mem_append
abbrev JF:=@List.mem_append_left
abbrev JG:=@List.getElem?_eq_some_iff
abbrev JH:=@List.getElem_inj
abbrev JI:=@List.getElem?_set_self
abbrev JJ:=@List.getElem?_set_ne
abbrev JK:=@PySem.wpAny_mono
abbrev JL:=@PySem.wpAny_truthy_bool
abbrev JM:=@Array.length_toList
abbrev JN:=@congrArg
abbrev JO:=@PySem.wpAny_execs_nil
abbrev JP:=@PySem.wpAny_bind
abbrev JQ:=@PySem.wpAny_holding
abbrev JR:=@PySem.wpAny_standAt
abbrev JS:=@Nat.ne_of_gt
abbrev JT:=@PySem.wpAny_pure
abbrev JU:=@PySem.wpAny_load
abbrev JV:=@Bool.false_and
abbrev JW:=@PySem.Heap.get?_push_of_some
abbrev JX:=@PySem.Heap.get?_push_size
abbrev JY:=@Nat.le_refl
abbrev JZ:=@PyProof.Rows.callWith_type1
abbrev J0:=@List.mem_filterMap
abbrev J1:=@List.mem_append_right
abbrev J2:=@PySem.wpAny_passesOwn
abbrev J3:=@Bool.eq_iff_iff
abbrev J4:=@Bool.false_ne_true
abbrev J5:=@PySem.sizeLine_eq
abbrev J6:=@List.size_toArray
abbrev J7:=@List.append_nil
abbrev J8:=@PySem.codeAny_mono
abbrev J9:=@PySem.wpAny_Call_Name_kw
abbrev Ka:=@List.nodup_cons
abbrev Kb:=@List.of_mem_zip
abbrev Kc:=@Option.isSome_iff_exists
abbrev Kd:=@List.length_take
abbrev Ke:=@PySem.mem_of_lookup
abbrev Kf:=@List.getElem?_append_right
abbrev Kg:=@List.getElem?_append_left
abbrev Kh:=@List.getElem?_map
abbrev Ki:=@List.mem_of_getElem?
abbrev Kj:=@List.length_append
abbrev Kk:=@List.length_map
abbrev Kl:=@PySem.noFill_tuple_add
abbrev Km:=@PySem.F.slot_tuple_add
abbrev Ko:=@PySem.F.entry_tuple_add
abbrev Kq:=@PySem.F.args_tuple_add_2
abbrev Kr:=@Int.toNat_natCast
abbrev Ks:=@Nat.min_le_right
abbrev Kt:=@if_false
abbrev Ku:=@if_true
abbrev Kv:=@PyProof.Rows.slicePart_none
abbrev Kx:=@PySem.wpAny_field
abbrev Ky:=@List.filterMap_map
abbrev KA:=@List.length_drop
abbrev KB:=@PySem.wpAny_sequenceKey
abbrev KC:=@PySem.wpAny_callSpecial?_slot
abbrev KD:=@PyProof.Rows.slot_tuple_getitem
abbrev KE:=@PySem.wpAny_call_entry
abbrev KF:=@PyProof.Rows.entry_tuple_getitem
abbrev KG:=@PyProof.Rows.args_tuple_getitem
abbrev KH:=@PySem.wpAny_typeOf
abbrev KJ:=@Bool.and_eq_true
abbrev KL:=@PySem.wpAny_newObj_type
abbrev KM:=@List.map_nil
abbrev KN:=@List.map_cons
abbrev KO:=@PySem.Heap.IsSliceOf.new
abbrev KQ:=@PyProof.Rows.IsTup.new
abbrev KR:=@PySem.slot_list_getitem
abbrev KS:=@PySem.Heap.get?_update_self
abbrev KU:=@List.reverse_cons
abbrev KW:=@List.replicate_succ
abbrev KY:=@List.flatten_cons
abbrev KZ:=@List.append_assoc
abbrev K1:=@List.foldl_cons
abbrev K2:=@List.length_singleton
abbrev K3:=@Nat.succ_mul
abbrev K4:=@List.nil_append
abbrev K5:=@decide_eq_true
abbrev K6:=@List.lookup_cons
abbrev K7:=@List.forIn_cons
abbrev K8:=@beq_self_eq_true
abbrev K9:=@Bool.false_eq_true
abbrev La:=@List.length_cons
abbrev Lb:=@Nat.lt_succ_self
abbrev Lc:=@Nat.lt_succ_of_lt
abbrev Ld:=@PySem.Heap.size_push
abbrev Le:=@PySem.pushCells_keeps
abbrev Lf:=@PySem.codeAny_of_tree
abbrev Lg:=@PySem.wpAny_askSetting
abbrev Lh:=@PySem.wpAny_rule
abbrev Li:=@PySem.wpAny_of_eq
abbrev Lj:=@Nat.zero_le
abbrev Lk:=@List.mem_singleton
abbrev Ll:=@List.range_succ_eq_map
abbrev Lm:=@List.map_map
abbrev Ln:=@List.map_congr_left
abbrev Lo:=@List.length_range
abbrev Lp:=@List.length_nil
abbrev Lq:=@List.cons.inj
abbrev Lr:=@List.cons_append
abbrev Ls:=@List.pairwise_iff_getElem
abbrev Lu:=@Array.getElem?_eq_some_iff
abbrev Lx:=@List.take_of_length_le
abbrev Ly:=@Array.getElem?_toList
abbrev Lz:=@List.mem_map
abbrev LA:=@Nat.le_of_lt_succ
abbrev LB:=@Classical.byContradiction
abbrev LC:=@List.nodup_range
abbrev LD:=@List.getElem?_of_mem
abbrev LF:=@List.mem_map_of_mem
abbrev LG:=@List.take_append_drop
abbrev LH:=@List.pairwise_append
abbrev LI:=@List.pairwise_cons
abbrev LJ:=@List.map_append
abbrev LK:=@List.map_take
abbrev LL:=@List.map_drop
abbrev LM:=@Array.getD_eq_getD_getElem?
abbrev LN:=@Option.getD_some
abbrev LO:=@List.mem_of_mem_take
abbrev LP:=@List.mem_of_mem_drop
abbrev LQ:=@Array.getElem?_eq_none_iff
abbrev LR:=@List.nodup_nil
abbrev LS:=@Nat.sub_self
abbrev LU:=@List.singleton_append
abbrev LV:=@Array.toList_map
abbrev LW:=@List.perm_ext_iff_of_nodup
abbrev LX:=@Array.getElem?_eq_getElem
abbrev LY:=@List.all_eq_true
abbrev LZ:=@Bool.not_true
abbrev L0:=@PySem.wpAny_forIn_list
abbrev L1:=@PySem.wpAny_setState_of
abbrev L3:=@Bool.and_self
abbrev L4:=@Array.mem_toList_iff
abbrev L5:=@List.nodup_append
abbrev L6:=@PySem.wpAny_storeSet_of
abbrev L7:=@PySem.putSet_of
abbrev L8:=@PySem.Heap.SameBut.update
abbrev L9:=@Bool.not_false
abbrev Ma:=@PySem.codeAny_builtin
abbrev Mb:=@PySem.Around.under_plainId
abbrev Mc:=@PyProof.Rows.F.plain_set_update_loop
abbrev Md:=@PySem.plainId_quiet
abbrev Me:=@PySem.isSubtype_type
abbrev Mg:=@PySem.F.called_set
abbrev Mh:=@PySem.Code.quiet_builtin
abbrev Mi:=@PySem.wpAny_pyIter_list
abbrev Mj:=@PySem.wpAny_runValue
abbrev Ml:=@List.not_mem_nil
abbrev Mm:=@or_false
abbrev Mn:=@PySem.Walks.list
abbrev Mo:=@PySem.wpAny_pyIter_tuple
abbrev Mp:=@List.take_add_one
abbrev Mq:=@List.take_length
abbrev Mr:=@PySem.W.KasT.kasWp_bind
abbrev Ms:=@Array.toList_inj
abbrev Mt:=@decide_eq_decide
abbrev Mu:=@List.getD_eq_getElem?_getD
abbrev Mv:=@List.ext_getElem?
abbrev Mw:=@List.getElem?_range
abbrev Mx:=@List.getElem?_eq_none
abbrev My:=@List.pairwise_map
abbrev Mz:=@PyProof.Rows.listItems_at
abbrev MC:=@PyProof.Rows.listUpdate_at
abbrev MD:=@PyProof.Rows.get?_update_seq
abbrev MF:=@PyProof.Rows.seqEpoch_at
abbrev MH:=@PySem.wpAny_newList
abbrev MJ:=@PySem.Heap.get?_push_ne
abbrev MK:=@PyProof.Rows.size_push'
abbrev ML:=@PySem.Heap.size_update
abbrev MM:=@PySem.Heap.get?_update_ne
abbrev MN:=@bne_self_eq_false
abbrev MP:=@List.Perm.refl
abbrev MQ:=@List.getElem_mem
abbrev MR:=@List.getElem?_eq_getElem
abbrev MU:=@PySem.wpAny_setEntries_of
abbrev MV:=@PySem.wpAny_setEpoch_of
abbrev MW:=@PySem.wpAny_setField_rec
abbrev MX:=@PySem.wpAny_isInstance
abbrev MY:=@PySem.Calls.call_function_entry
abbrev MZ:=@PyProof.Rows.kind_sorted
abbrev Na:=@PyProof.Rows.plain_sorted
abbrev Nd:=@PyProof.Rows.entry_sorted
abbrev Nf:=@PyProof.Rows.args_sorted1
abbrev Ng:=@PyProof.Rows.slot_list_sort
abbrev Nh:=@PyProof.Rows.entry_list_sort
abbrev Ni:=@PyProof.Rows.args_list_sort
abbrev Nj:=@of_eq_true
abbrev Nk:=@eq_self
abbrev Nl:=@List.drop_eq_getElem_cons
abbrev Nn:=@List.drop_length
abbrev Np:=@decide_eq_true_eq
abbrev Nq:=@List.zip_cons_cons
abbrev Nr:=@List.eq_nil_of_length_eq_zero
abbrev Nt:=@List.all_cons
abbrev Nu:=@List.all_map
abbrev Nv:=@List.any_map
abbrev Nw:=@List.filter_congr
abbrev Nx:=@Int.le_antisymm
abbrev Ny:=@List.length_pos_iff
abbrev Nz:=@List.take_append_of_le_length
abbrev NA:=@List.filter_cons
abbrev NB:=@List.length_reverse
abbrev NC:=@Int.pow_pos
abbrev ND:=@Int.mul_le_mul_of_nonneg_right
abbrev NF:=@PySem.F.called_tuple
abbrev NG:=@Bool.true_and
abbrev NH:=@PySem.PassesOwn.never
abbrev NI:=@Int.emod_nonneg
abbrev NJ:=@Int.emod_lt_of_pos
abbrev NK:=@List.set_cons_succ
abbrev NL:=@List.set_cons_zero
abbrev NM:=@List.mem_flatMap
abbrev NN:=@List.flatMap_cons
abbrev NO:=@List.any_eq_true
abbrev NP:=@Function.comp_def
abbrev NQ:=@beq_iff_eq
abbrev NR:=@List.length_filter_le
abbrev NS:=@Nat.mul_le_mul_right
abbrev NT:=@List.flatMap_nil
abbrev NU:=@of_decide_eq_true
abbrev NV:=@Int.min_eq_left
abbrev NW:=@Int.max_eq_right
abbrev NX:=@List.set_append
abbrev NY:=@List.filter_eq_nil_iff
abbrev NZ:=@List.filter_append
abbrev N0:=@List.filter_nil
namespace L2
open PySem PySem.Spec PyProof.Rows
abbrev oO:=Sum Int Str
def Dm:oO->Value->Bool
 |.inl k,v=>Value.isInt k v
 |.inr x,v=>Value.isStrOf x v
def Il(w:World):oO->Int
 |.inl k=>hashInt k
 |.inr x=>hashStr w x
theorem cA:∀{k:oO}{v:Value},Dm k v=true->(∃i t,k=Sum.inl i/\v=Value.int i t)\/(∃x t,k=Sum.inr x/\v=Value.str x t)
 |.inl i,v,h=>by
  obtain⟨t,e⟩:=Jk (k:=i) (v:=v) h;exact .inl ⟨i,t,rfl,e⟩
 |.inr x,v,h=>by
  obtain⟨t,e⟩:=Value.isStrOf_shape (x:=x) (v:=v) h;exact .inr ⟨x,t,rfl,e⟩
theorem Fz(a b:Int):decide ((Sum.inl a:oO)=Sum.inl b)=(a == b):=by
 by_cases e:a=b
 ·subst e;simp
 ·have h:¬ (Sum.inl a:oO)=Sum.inl b:=fun q=>e (Sum.inl.inj q);rw[Jl h];exact(Jm.mpr e).symm
theorem Fv(a b:Str):decide ((Sum.inr a:oO)=Sum.inr b)=decide (a=b):=by
 by_cases e:a=b
 ·subst e;simp
 ·have h:¬ (Sum.inr a:oO)=Sum.inr b:=fun q=>e (Sum.inr.inj q);rw[Jl h,Jl e]
theorem Fy(a:Int)(b:Str):decide ((Sum.inl a:oO)=Sum.inr b)=false:=Jl (fun q=>nomatch q)
theorem Fw(a:Str)(b:Int):decide ((Sum.inr a:oO)=Sum.inl b)=false:=Jl (fun q=>nomatch q)
def mS(prog:Program)(w:World):PySem.KeyKind prog w oO where
 is:=Dm
 hash:=Il w
 inj:=fun v a b ha hb=>by
  rcases cA ha with⟨i,t,rfl,rfl⟩|⟨x,t,rfl,rfl⟩
  ·rcases cA hb with ⟨j, u, rfl, e⟩ | ⟨y, u, rfl, e⟩
   ·injection e with e1 _;rw[e1]
   ·exact nomatch e
  ·rcases cA hb with ⟨j, u, rfl, e⟩ | ⟨y, u, rfl, e⟩
   ·exact nomatch e
   ·injection e with e1 _;rw[e1]
 byValue:=fun k v h=>by
  rcases cA h with⟨i,t,rfl,rfl⟩|⟨x,t,rfl,rfl⟩ <;> rfl
 pyHash:=fun hv h=>by
  rcases cA hv with⟨i,t,rfl,rfl⟩|⟨x,t,rfl,rfl⟩
  ·exact wpAny_pyHash_int h
  ·exact wpAny_pyHash_str h
 eqBool:=fun hu hv h=>by
  rcases cA hu with⟨i,t,rfl,rfl⟩|⟨x,t,rfl,rfl⟩
  ·rcases cA hv with ⟨j, u, rfl, rfl⟩ | ⟨y, u, rfl, rfl⟩
   ·rw[Fz]at h;exact Jn h
   ·rw[Fy]at h;exact SeqAt.EqAt.int_str i t y u _ _ _ _ h
  ·rcases cA hv with ⟨j, u, rfl, rfl⟩ | ⟨y, u, rfl, rfl⟩
   ·rw[Fw]at h;exact SeqAt.EqAt.str_int x t j u _ _ _ _ h
   ·rw[Fv]at h;exact wpAny_eqBool_str h
 «strs»:=fun k x t v h=>by
  rcases cA h with⟨i,u,rfl,e⟩|⟨y,u,rfl,e⟩
  ·exact nomatch e
  ·injection e with e1 _
   subst e1;cases v <;> rfl
end L2
namespace L2
open PySem PySem.Spec PyProof.Rows
inductive V where
 |non|bl (b:Bool)|int (i:Int)|str (x:Str)|byt (b:Array UInt8)|flt (b:UInt64)|ref (a:Addr)|ty (n:String)
 deriving DecidableEq
def cq:V->Value->Prop
 |.non,u=>u=Value.none
 |.bl b,u=>u=Value.bool b
 |.int i,u=>∃t,u=Value.int i t
 |.str x,u=>∃t,u=Value.str x t
 |.byt b,u=>∃t,u=Value.bytes b t
 |.flt b,u=>∃t,u=Value.float b t
 |.ref a,u=>u=Value.ref a
 |.ty n,u=>u=Value.type n
abbrev aX:List V->List Value->Prop:=Paired cq
theorem aX.length{xs:List V}{us:List Value}(r:aX xs us):xs.length=us.length:=Paired.length r
theorem aX.get:∀{xs:List V}{us:List Value}{i:Nat}{x:V},aX xs us->xs[i]?=some x->∃u,us[i]?=some u/\cq x u
 |_,_,_,_,.nil,e=>by simp at e
 |_,_,0,_,.cons r _,e=>by simp at e;subst e;exact⟨_,rfl,r⟩
 |_,_,i+1,x,.cons _ t,e=>by
  obtain⟨u,h1,h2⟩:=aX.get (i:=i) (x:=x) t (by simpa using e);exact⟨u,by simpa using h1,h2⟩
theorem aX.set{x:V}{u:Value}(r:cq x u):∀{xs:List V}{us:List Value}(i:Nat),aX xs us->aX (xs.set i x) (us.set i u)
 |_,_,_,.nil=>.nil
 |_,_,0,.cons _ t=>.cons r t
 |_,_,i+1,.cons q t=>.cons q (aX.set r i t)
theorem aX.append:∀{xs ys:List V}{us ws:List Value},aX xs us->aX ys ws->aX (xs++ys) (us++ws)
 |_,_,_,_,.nil,s=>s
 |_,_,_,_,.cons r t,s=>.cons r (aX.append t s)
theorem aX.take:∀{xs:List V}{us:List Value}(n:Nat),aX xs us->aX (xs.take n) (us.take n)
 |_,_,0,_=>.nil
 |_,_,_+1,.nil=>.nil
 |_,_,n+1,.cons r t=>.cons r (aX.take n t)
theorem aX.drop:∀{xs:List V}{us:List Value}(n:Nat),aX xs us->aX (xs.drop n) (us.drop n)
 |_,_,0,r=>r
 |_,_,_+1,.nil=>.nil
 |_,_,n+1,.cons _ t=>aX.drop n t
def Gv:Option V->Option Value->Prop
 |some v,some u=>cq v u
 |none,none=>True
 |_,_=>False
def KV{κ:Type}:List (κ×V)->List (κ×Value)->Prop:=Paired fun(p:κ×V) (q:κ×Value)=>p.1=q.1/\cq p.2 q.2
def kV:oO->V
 |.inl i=>.int i
 |.inr x=>.str x
inductive HO where
 |lst (xs:List V)
 |tup (xs:List V)
 |dK (kvs:List (oO×V))|dT (kvs:List (List oO×V))
 |set (S:Int->Bool) (n:Nat)
 |ins (C dx:Addr) (fs:List (Str×V))
 |own (x:Addr)
 |xd (fs:List (Str×V))
 |met (f x:Addr)
 |rng (lo hi:Int)
 |frz (o:Obj) (u:HO)
 |tbl (ps:Array Value)
 |ext (φ:Heap->Prop)
abbrev Hp:=Addr->Option HO
def cG(H:Hp)(a:Addr)(o:HO):Hp:=fun b=>if b=a then some o else H b
theorem bO{H:Hp}{a:Addr}{o:HO}:cG H a o a=some o:=by unfold cG;rw[Jo rfl]
theorem bK{H:Hp}{a b:Addr}{o:HO}(h:b≠a):cG H a o b=H b:=by unfold cG;rw[Jp h]
theorem yS{H:Hp}{a b:Addr}{o u:HO}(h:H a=some o)(h':H b=some u)(d:o≠u):a≠b:=by
 intro e;subst e;rw[h]at h';exact d (Jq h')
theorem dA{H:Hp}{a b:Addr}{o:HO}(h:H a=some o)(h':H b=none):a≠b:=by
 intro e;subst e;rw[h]at h';cases h'
section
variable(P:Program)(w:World)
def dq(H:Hp)(h:Heap)(a:Addr):HO->Prop
 |.lst xs=>xs.length<=sizeLine/\∃(its:List Value) (n:Nat),aX xs its/\h.get? a=some {cls:=.type "list",data:=.seq its.toArray n}
 |.tup xs=>xs.length<=sizeLine/\∃its:List Value,aX xs its/\IsTup h a its.toArray
 |.dK kvs=>kvs.length<=sizeLine/\(a == sysModules)=false/\∃vs,KV kvs vs/\h.DictOf (mS P w) a vs
 |.dT kvs=>kvs.length<=sizeLine/\(a == sysModules)=false/\∃xs:List (List oO×Addr×Value),
   Paired (fun(p:List oO×V) (q:List oO×Addr×Value)=>p.1=q.1/\H q.2.1=some (.tup (p.1.map kV))/\cq p.2 q.2.2) kvs xs /\
   ∃o es ep,h.get? a=some o/\o.ExactDict/\o.data=.dict es ep/\es.toList=xs.map (entryOfKey (tupleKind (mS P w)))/\(xs.map (·.1)).Nodup
 |.set S n=>h.SetOf (intKind P w) a S n
 |.ins C dx fs=>H dx=some (.own a)/\fs.length<=1000/\dx≠a/\h.get? a=some (W.instObj C dx) /\
   ∃mA,h.Ns1 dx mA/\(∀f,Gv (fs.lookup f) (mA f))/\PySem.Within mA (fs.map (·.1))
 |.own _=>∃o,h.get? a=some o
 |.xd fs=>∃mA,h.Ns1 a mA/\∀f,Gv (fs.lookup f) (mA f)
 |.rng lo hi=>∃t u v,h.get? a=some {cls:=.type "range",data:=.fields #[.int lo t,.int hi u,.int 1 v]}
 |.frz o u=>h.get? a=some o/\dq H h a u
 |.tbl ps=>h.get? a=some {cls:=.none,data:=.fields ps}
 |.met f x=>h.get? a=some (W.methodObj (.ref f) (.ref x))
 |.ext φ=>φ h/\(∃o,h.get? a=some o)/\∀h1 h2:Heap,φ h1->(∀o,h1.get? a=some o->h2.get? a=some o)->φ h2
def nh(H:Hp)(h:Heap):Prop:=∀a o,H a=some o->dq P w H h a o
end
section
variable{P:Program}{w:World}{H H':Hp}{h h':Heap}{a:Addr}{o:HO}
theorem dq.lt(x:dq P w H h a o):a<h.objs.size:=by
 cases o with
 |lst xs=>obtain⟨_,_,_,_,e⟩:=x;exact Jr e
 |tup xs=>obtain⟨_,_,_,p⟩:=x;exact p.lt
 |dK kvs=>obtain⟨_,_,_,_,o,_,_,e,_⟩:=x;exact Jr e
 |dT kvs=>obtain⟨_,_,_,_,o,_,_,e,_⟩:=x;exact Jr e
 |set S n=>obtain⟨o,_,_,_,e,_⟩:=x;exact Jr e
 |ins C dx fs=>obtain⟨_,_,_,e,_⟩:=x;exact Jr e
 |own y=>obtain⟨_,e⟩:=x;exact Jr e
 |xd fs=>obtain⟨_,⟨_,_,_,e,_⟩,_⟩:=x;exact Jr e
 |rng lo hi=>obtain⟨_,_,_,e⟩:=x;exact Jr e
 |frz ob u=>obtain⟨e,_⟩:=x;exact Jr e
 |tbl ps=>exact Jr (show h.get? a=some _ from x)
 |met f y=>exact Jr (show h.get? a=some _ from x)
 |ext φ=>obtain⟨_,⟨_,e⟩,_⟩:=x;exact Jr e
theorem mn{α β:Type}{F G:α->β->Prop}:∀{l₁:List α}{l₂:List β},Paired F l₁ l₂->(∀a b,F a b->G a b)->Paired G l₁ l₂
 |_,_,.nil,_=>.nil
 |_,_,.cons r t,f=>.cons (f _ _ r) (mn t f)
theorem dq.stay(x:dq P w H h a o)(k:∀b u,(b=a\/H b=some (.own a))->h.get? b=some u->h'.get? b=some u)
  (ho:∀b,H b=some (.own a)->H' b=some (.own a)) (ht:∀b xs,H b=some (.tup xs)->H' b=some (.tup xs)):dq P w H' h' a o:=by
 induction o with
 |lst xs=>obtain⟨z,its,n,r,e⟩:=x;exact⟨z,its,n,r,k _ _ (.inl rfl) e⟩
 |tup xs=>obtain⟨z,its,r,ob,e,c⟩:=x;exact⟨z,its,r,ob,k _ _ (.inl rfl) e,c⟩
 |dK kvs=>obtain⟨z,y,vs,r,ob,es,ep,e,c⟩:=x;exact⟨z,y,vs,r,ob,es,ep,k _ _ (.inl rfl) e,c⟩
 |dT kvs=>
  obtain⟨z,y,xs,r,ob,es,ep,e,c⟩:=x;exact⟨z,y,xs,mn r fun p q z=>⟨z.1,ht _ _ z.2.1,z.2.2⟩,ob,es,ep,k _ _ (.inl rfl) e,c⟩
 |set S n=>obtain⟨ob,es,ep,t,e,c⟩:=x;exact⟨ob,es,ep,t,k _ _ (.inl rfl) e,c⟩
 |ins C dx fs=>
  obtain⟨d,z,ne,e,mA,⟨od,es,ep,e2,c⟩,r⟩:=x;exact⟨ho _ d,z,ne,k _ _ (.inl rfl) e,mA,⟨od,es,ep,k _ _ (.inr d) e2,c⟩,r⟩
 |own y=>obtain⟨ob,e⟩:=x;exact⟨ob,k _ _ (.inl rfl) e⟩
 |xd fs=>obtain⟨mA,⟨od,es,ep,e,c⟩,r⟩:=x;exact⟨mA,⟨od,es,ep,k _ _ (.inl rfl) e,c⟩,r⟩
 |rng lo hi=>obtain⟨t,u,v,e⟩:=x;exact⟨t,u,v,k _ _ (.inl rfl) e⟩
 |frz ob u ih=>obtain⟨e,q⟩:=x;exact⟨k _ _ (.inl rfl) e,ih q⟩
 |tbl ps=>
  have e:h.get? a=some {cls:=.none,data:=.fields ps}:=x;show h'.get? a=some {cls:=.none,data:=.fields ps};exact k a _ (.inl rfl) e
 |met f y=>
  have e:h.get? a=some (W.methodObj (.ref f) (.ref y)):=x;show h'.get? a=some (W.methodObj (.ref f) (.ref y));exact k a _ (.inl rfl) e
 |ext φ=>obtain⟨p,⟨o,e⟩,st⟩:=x;exact⟨st _ _ p fun o q=>k _ _ (.inl rfl) q,⟨o,k _ _ (.inl rfl) e⟩,st⟩
theorem nh.lt(x:nh P w H h)(e:H a=some o):a<h.objs.size:=(x a o e).lt
theorem nh.fresh(x:nh P w H h)(e:h.objs.size<=a):H a=none:=by
 cases q:H a with
 |none=>rfl
 |some u=>exact absurd (Js (x.lt q) e) (Jt _)
theorem nh.kept(x:nh P w H h)(k:∀b u,h.get? b=some u->h'.get? b=some u):nh P w H h':=fun a o e=>
 (x a o e).stay (fun b u _ q=>k b u q) (fun _ q=>q) fun _ _ q=>q
theorem nh.laid(x:nh P w H h)(k:∀b u,h.get? b=some u->h'.get? b=some u)(hp:h.objs.size<=a)(new:dq P w (cG H a o) h' a o):nh P w (cG H a o) h':=fun b u e=>by
 have hn:=x.fresh hp;by_cases hb:b=a
 ·subst hb;rw[bO]at e;cases e;exact new
 ·rw[bK hb]at e;exact(x b u e).stay (fun c v _ q=>k c v q) (fun c q=>by rw[bK (dA q hn)];exact q) fun c xs q=>by rw[bK (dA q hn)];exact q
end
def Rd(H:Hp)(a:Addr)(u:HO):Prop:=H a=some u\/∃o,H a=some (.frz o u)
theorem Rd.ok{P:Program}{w:World}{H:Hp}{h:Heap}{a:Addr}{u:HO}(r:Rd H a u)(x:nh P w H h):dq P w H h a u:=by
 rcases r with r|⟨o,r⟩
 ·exact x a u r
 ·obtain⟨_,q⟩:=x a _ r;exact q
def HG:Option HO->Prop
 |some (.lst _)=>True
 |some (.dK _)=>True
 |some (.dT _)=>True
 |some (.set _ _)=>True
 |some (.ins _ _ _)=>True
 |some (.ext _)=>True
 |_=>False
section
variable{P:Program}{w:World}{H:Hp}{h h':Heap}{x e:Addr}{o':HO}
theorem nh.write(ok:nh P w H h)(mu:HG (H x))(he:e=x\/H e=some (.own x))(k:∀b u,b≠e->h.get? b=some u->h'.get? b=some u)(heo:∃u,h'.get? e=some u)
  (new:dq P w (cG H x o') h' x o'):nh P w (cG H x o') h':=fun b u q=>by
 have nown:∀c y,H c=some (.own y)->c≠x:=fun c y r z=>by subst z;rw[r]at mu;exact mu
 have ntup:∀c xs,H c=some (.tup xs)->c≠x:=fun c xs r z=>by subst z;rw[r]at mu;exact mu
 by_cases hb:b=x
 ·subst hb;rw[bO]at q;cases q;exact new
 ·rw [bK hb] at q;by_cases hbe:b=e
  ·have q':H b=some (.own x):=by
    rcases he with z|z
    ·exact absurd (hbe.trans z) hb
    ·rw[hbe];exact z
   rw[q]at q';cases q';obtain⟨v,hv⟩:=heo;exact⟨v,by rw[hbe];exact hv⟩
  ·refine (ok b u q).stay (fun c v hc r => k c v ?_ r) (fun c r => by rw [bK (nown c b r)]; exact r) fun c xs r => by rw [bK (ntup c xs r)]; exact r
   rcases hc with rfl|hc
   ·exact hbe
   ·rintro rfl
    rcases he with z|z
    ·exact nown c b hc z
    ·rw[hc]at z;cases z;exact hb rfl
end
structure Un(fs ex:List Addr)(H H':Hp)(h h':Heap):Prop where
 keep:∀b o,h.get? b=some o->H b=none->b∉fs->b∉ex->h'.get? b=some o
 slot:∀b o,h.get? b=some o->H b=none->b∈fs->b∉ex->∃sl,h'.get? b=some {o with slots:=sl}
 free:∀b o,h.get? b=some o->H b=none->b∉ex->H' b=none
 there:∀b o,h.get? b=some o->b∉ex->∃o',h'.get? b=some o'
 tups:∀b xs,H b=some (.tup xs)->H' b=some (.tup xs)
 frzs:∀b o u,H b=some (.frz o u)->H' b=some (.frz o u)
 tbls:∀b ps,H b=some (.tbl ps)->∃more,H' b=some (.tbl (ps++more))
section
variable{fs fs' ex ex':List Addr}{H H1 H2:Hp}{h h1 h2 h':Heap}{a x e:Addr}{o:HO}
theorem Un.any(u:Un fs ex H H1 h h1){b:Addr}{ob:Obj}(q:h.get? b=some ob)(n:H b=none)(hx:b∉ex):∃sl,h1.get? b=some {ob with slots:=sl}:=by
 by_cases hb:b∈fs
 ·exact u.slot b ob q n hb hx
 ·exact⟨ob.slots,u.keep b ob q n hb hx⟩
theorem Un.kept(k:∀b u,h.get? b=some u->h'.get? b=some u):Un fs ex H H h h':=
 ⟨fun b ob q _ _ _=>k b ob q,fun b ob q _ _ _=>⟨ob.slots,k b ob q⟩,fun _ _ _ n _=>n,fun b ob q _=>⟨ob,k b ob q⟩,fun _ _ q=>q,fun _ _ _ q=>q,fun _ ps q=>⟨#[],by rw[q];simp⟩⟩
theorem Un.refl:Un fs ex H H h h:=Un.kept fun _ _ q=>q
theorem Un.laid(k:∀b u,h.get? b=some u->h'.get? b=some u)(hp:h.objs.size<=a)(hn:H a=none):Un fs ex H (cG H a o) h h' where
 keep:=fun b u q _ _ _=>k b u q
 slot:=fun b u q _ _ _=>⟨u.slots,k b u q⟩
 free:=fun b u q n _=>by rw[bK (Ju (Js (Jr q) hp))];exact n
 there:=fun b u q _=>⟨u,k b u q⟩
 tups:=fun b xs q=>by rw[bK (dA q hn)];exact q
 frzs:=fun b u xs q=>by rw[bK (dA q hn)];exact q
 tbls:=fun b ps q=>⟨#[],by rw[bK (dA q hn),q];simp⟩
theorem Un.write(mu:HG (H x))(he:e=x\/H e=some (.own x))(k:∀b u,b≠e->h.get? b=some u->h'.get? b=some u)(heo:∃u,h'.get? e=some u):Un fs ex H (cG H x o) h h':=by
 have hx:∀b,H b=none->b≠x:=fun b n z=>by subst z;rw[n]at mu;exact mu
 have hb:∀b,H b=none->b≠e:=fun b n z=>by
  subst z;rcases he with r|r
  ·exact hx b n r
  ·rw[n]at r;cases r
 have hm:∀b u,H b=some u->¬ HG (some u)->b≠x:=fun b u q nm z=>by subst z;rw[q]at mu;exact nm mu
 refine⟨fun b u q n _ _=>k b u (hb b n) q,fun b u q n _ _=>⟨u.slots,k b u (hb b n) q⟩,fun b u q n _=>by rw[bK (hx b n)];exact n,fun b u q _=>?_,
  fun b xs q=>by rw[bK (hm b _ q fun z=>z)];exact q,fun b u xs q=>by rw[bK (hm b _ q fun z=>z)];exact q,fun b ps q=>⟨#[],by rw[bK (hm b _ q fun z=>z),q];simp⟩⟩
 by_cases hbe:b=e
 ·subst hbe;exact heo
 ·exact⟨u,k b u hbe q⟩
end
def Hy(h:Heap)(H:Hp):List Addr:=(List.range h.objs.size).filter fun a=>(H a).isSome
def qq(h:Heap)(H:Hp):Heap:=W.hideAll h (Hy h H)
theorem xO(h:Heap)(H:Hp):(qq h H).objs.size=h.objs.size:=W.hideAll_size _ _
theorem As{h:Heap}{H:Hp}{b:Addr}{o:Obj}(e:h.get? b=some o)(n:H b=none):(qq h H).get? b=some o:=
 W.hideAll_get _ e fun hm=>by
  have q:(H b).isSome=true:=(Jv.mp hm).2;rw[n]at q;simp at q
theorem Ce{h:Heap}{H:Hp}{b:Addr}{o:Obj}(e:(qq h H).get? b=some o):h.get? b=some o/\H b=none:=by
 have e':h.get? b=some o:=W.of_hideAll (Hy h H) e;refine⟨e',?_⟩;cases q:H b with
 |none=>rfl
 |some x=>
  have hm:b∈Hy h H:=Jv.mpr ⟨Jw.mpr (Jr e'),by simp[q]⟩;have z:(qq h H).get? b=none:=W.hideAll_none (Hy h H) hm;rw[z]at e;cases e
end L2
namespace L2
open PySem PySem.Spec PyProof.Rows
structure Mod(K:W.Frag)(mg:Str->Option Value)(base:Heap):Prop where
 kin:K.In base
 glob:base.Ns mainGlobals mg
 blt:∃mb,base.Ns builtinsNs mb/\∀x:Str,x ≠ "__name__" -> mb x=bootBuiltins x
 nolimit:base.NoLimit
structure Cx where
 prog:Program
 w:World
 K:W.Frag
 mg:Str->Option Value
 base:Heap
 A:Around
 N:List Str
 s₀:Shared
 H₀:Hp
 env:Env
 outer:List Env
 stack:List Env
 ex:List Addr
 fn:Str->Bool
 calm:Bool
 pn:List (Addr×Obj)
 xe:Value->Shared->Prop
def yq(l:List Env):List Addr:=l.filterMap (·.frame)
abbrev Cx.fs(X:Cx):List Addr:=yq X.outer
def HQ(sc:Scope)(x:Str):Prop:=sc.names.lookup x=some .local\/sc.names.lookup x=some .cell\/sc.names.lookup x=some .free
def C0(sc:Scope)(x:Str):Prop:=sc.names.lookup x=some .local\/sc.names.lookup x=some .cell
def ID(env:Env)(h:Heap)(m:Str->Option Value)(x:Str)(u:Value):Prop:=
 (env.kindOf x=some .local/\m x=some u)\/((env.kindOf x=some .cell\/env.kindOf x=some .free)/\∃c,env.cells.lookup x=some c/\h.IsCell c (some u))
structure Cx.Ok(X:Cx):Prop where
 mod:Mod X.K X.mg X.base
 kind:X.env.scope.kind=.function
 glob:X.env.globals=mainGlobals
 blt:X.env.builtins=builtinsNs
 above:X.s₀.heap.objs.size<=X.env.locals
 inj:∀x y c,X.env.cells.lookup x=some c->X.env.cells.lookup y=some c->x=y
 has:∀x,(X.env.kindOf x=some .cell\/X.env.kindOf x=some .free)->∃c,X.env.cells.lookup x=some c
 cab:∀x c,X.fn x=true->X.env.cells.lookup x=some c->X.s₀.heap.objs.size<=c
 hd:X.calm=true->X.A.handled=none
 frames:X.A.frames=some X.stack
 stk:X.stack=X.outer\/(X.stack=X.env::X.outer/\X.env.frame=some X.env.locals)
 exf:∀b∈X.ex,b≠X.env.locals/\∀x c,X.env.cells.lookup x=some c->c≠b
 bs:∀b o,X.base.get? b=some o->X.s₀.heap.get? b=some o/\X.H₀ b=none
 bsz:X.base.objs.size<=X.s₀.heap.objs.size
 noex:∀b o,X.base.get? b=some o->b∉X.ex
 exfs:∀b∈X.ex,b∉X.fs
 funs:X.s₀.heap.FunFrames X.base X.outer
 frf:∀b∈X.fs,X.H₀ b=none
structure aS(X:Cx)(pins:List (Addr×Obj))(σ:List (Option V))(H:Hp)(s:Shared):Prop where
 ok:X.Ok
 os:s.os=X.s₀.os
 bare:AllBare s.gens
 base:Un X.fs X.ex X.H₀ H X.s₀.heap s.heap
 loc:∃m,s.heap.Ns X.env.locals m/\∀(i:Nat)(x:Str)(v:V),X.N[i]?=some x->σ[i]?=some (some v)->HQ X.env.scope x->∃u,cq v u/\ID X.env s.heap m x u
 cell:∀x c,X.env.cells.lookup x=some c->∃v,s.heap.IsCell c v
 free:H X.env.locals=none
 freeC:∀x c,X.env.cells.lookup x=some c->H c=none
 pin:∀p∈X.pn++pins,s.heap.get? p.1=some p.2/\H p.1=none/\p.1≠X.env.locals/\p.1∉X.fs/\∀v,p.2.data≠.cell v
 hok:nh X.prog X.w H s.heap
 len:σ.length=X.N.length
section
variable{X:Cx}{pins:List (Addr×Obj)}{σ:List (Option V)}{H H':Hp}{s:Shared}{h':Heap}
theorem Cx.Ok.nofr(ok:X.Ok){b:Addr}{o:Obj}(e:X.base.get? b=some o):b∉X.fs:=fun hb=>by
 have:=(ok.funs.mem hb).1;rw[e]at this;cases this
theorem aS.bs(I:aS X pins σ H s):∀b o,X.base.get? b=some o->s.heap.get? b=some o/\H b=none:=fun b o e=>
 ⟨I.base.keep b o (I.ok.bs b o e).1 (I.ok.bs b o e).2 (I.ok.nofr e) (I.ok.noex b o e),I.base.free b o (I.ok.bs b o e).1 (I.ok.bs b o e).2 (I.ok.noex b o e)⟩
theorem aS.bk(I:aS X pins σ H s):∀b o,X.base.get? b=some o->s.heap.get? b=some o:=fun b o e=>(I.bs b o e).1
theorem aS.mod(I:aS X pins σ H s):Mod X.K X.mg X.base:=I.ok.mod
theorem aS.kIn(I:aS X pins σ H s):X.K.In s.heap:=I.ok.mod.kin.keeps I.bk
theorem aS.lt(I:aS X pins σ H s):X.env.locals<s.heap.objs.size:=let ⟨_,hn,_⟩:=I.loc;hn.lt
theorem aS.sz(I:aS X pins σ H s):X.s₀.heap.objs.size<=s.heap.objs.size:=Jx I.ok.above (Jy I.lt)
theorem aS.nofs(I:aS X pins σ H s){a:Addr}(h:s.heap.objs.size<=a):a∉X.fs:=fun hb=>by
 obtain⟨_,o,ho,_⟩:=I.ok.funs.mem hb;exact absurd (Js (Jr ho) (Jx I.sz h)) (Jt _)
theorem aS.cne(I:aS X pins σ H s):∀x c,X.env.cells.lookup x=some c->c≠X.env.locals:=fun x c e z=>by
 obtain⟨v,o,ho,hd⟩:=I.cell x c e;obtain⟨m,⟨o',es,ep,ho',hd',_⟩,_⟩:=I.loc;rw[z,ho']at ho;cases ho;rw[hd']at hd;cases hd
theorem aS.funs(I:aS X pins σ H s):s.heap.FunFrames X.base X.outer:=by
 have all:∀(l:List Env),(∀b∈yq l,b∈X.fs)->X.s₀.heap.FunFrames X.base l->s.heap.FunFrames X.base l:=by
  intro l
  induction l with
  |nil=>intro _ _;trivial
  |cons env r ih=>
   intro hs hl;obtain⟨hk,⟨L,o,hf,hn,ho,hd⟩,hr⟩:=hl;have hL:L∈X.fs:=hs L (by unfold yq;rw[Jz,hf];exact JA);obtain⟨sl,e⟩:=I.base.slot L o ho (I.ok.frf L hL) hL fun z=>I.ok.exfs L z hL;exact⟨hk,⟨L,_,hf,hn,e,hd⟩,ih (fun b hb=>hs b (by unfold yq;rw[Jz,hf];exact JB _ hb)) hr⟩
 exact all X.outer (fun _ hb=>hb) I.ok.funs
theorem aS.stack(I:aS X pins σ H s):s.heap.FunFrames X.base X.stack:=by
 rcases I.ok.stk with e|⟨e,hf⟩
 ·rw[e];exact I.funs
 ·rw[e];obtain⟨m,hn,_⟩:=I.loc;refine .cons (by rw[I.ok.kind];decide) hf hn ?_ I.funs;exact Heap.get?_none_of_le (Jx I.ok.bsz I.ok.above)
theorem aS.stkSub(I:aS X pins σ H s):∀b∈yq X.stack,b∈X.env.locals::X.fs:=fun b hb=>by
 rcases I.ok.stk with e|⟨e,hf⟩
 ·rw[e]at hb;exact JB _ hb
 ·rw[e]at hb;unfold yq at hb;rw[Jz,hf]at hb;exact hb
theorem aS.stkFree(I:aS X pins σ H s):∀b∈yq X.stack,H b=none:=fun b hb=>by
 rcases JC.mp (I.stkSub b hb) with e|hb
 ·rw[e];exact I.free
 ·obtain⟨_,o,ho,_⟩:=I.ok.funs.mem hb;exact I.base.free b o ho (I.ok.frf b hb) fun z=>I.ok.exfs b z hb
theorem aS.step{g':Array GenState}{t':Nat}{d':Drawn}{ch:List Addr}(I:aS X pins σ H s)
  (hch:∀b∈ch,(b∈X.ex\/X.s₀.heap.objs.size<=b)/\b≠X.env.locals/\(∀x c,X.env.cells.lookup x=some c->c≠b)/\∀p∈X.pn++pins,p.1≠b)
  (keep:∀b o,b≠X.env.locals->b∉X.fs->b∉ch->s.heap.get? b=some o->H b=none->h'.get? b=some o)
  (slot:∀b o,b≠X.env.locals->b∈X.fs->b∉ch->s.heap.get? b=some o->H b=none->∃sl,h'.get? b=some {o with slots:=sl}) (free:∀b o,b∉ch->s.heap.get? b=some o->H b=none->H' b=none)
  (there:∀b o,b∉ch->s.heap.get? b=some o->∃o',h'.get? b=some o')
  (tups:∀b xs,H b=some (.tup xs)->H' b=some (.tup xs)) (frzs:∀b o u,H b=some (.frz o u)->H' b=some (.frz o u)) (tbls:∀b ps,H b=some (.tbl ps)->∃more,H' b=some (.tbl (ps++more)))
  (ns:∀m,s.heap.Ns X.env.locals m->h'.Ns X.env.locals m) (hok:nh X.prog X.w H' h') (hg:AllBare g') :
  aS X pins σ H' {s with heap:=h',gens:=g',drawn:=d',toks:=t'}:=by
 have neL:∀b o,X.s₀.heap.get? b=some o->b≠X.env.locals:=fun b o e=>Ju (Js (Jr e) I.ok.above)
 have neC:∀b o,X.s₀.heap.get? b=some o->b∉X.ex->b∉ch:=fun b o e hx hb=>by
  rcases (hch b hb).1 with z|z
  ·exact hx z
  ·exact absurd (Js (Jr e) z) (Jt _)
 have cellK:∀x c,X.env.cells.lookup x=some c->∀v,s.heap.IsCell c v->h'.IsCell c v:=fun x c e v ⟨o,ho,hd⟩=>by
  have nch:c∉ch:=fun z=>(hch c z).2.2.1 x c e rfl;by_cases hc:c∈X.fs
  ·obtain⟨sl,q⟩:=slot c o (I.cne x c e) hc nch ho (I.freeC x c e);exact⟨_,q,hd⟩
  ·exact⟨o,keep c o (I.cne x c e) hc nch ho (I.freeC x c e),hd⟩
 refine⟨I.ok,I.os,hg,⟨fun b o e n hb hx=>?_,fun b o e n hb hx=>?_,fun b o e n hx=>?_,fun b o e hx=>?_,fun b xs e=>tups b xs (I.base.tups b xs e),fun b o xs e=>frzs b o xs (I.base.frzs b o xs e),fun b ps e=>?_⟩,?_,fun x c e=>?_,?_,fun x c e=>?_,fun p hp=>?_,hok,I.len⟩
 ·exact keep b o (neL b o e) hb (neC b o e hx) (I.base.keep b o e n hb hx) (I.base.free b o e n hx)
 ·obtain⟨sl,e1⟩:=I.base.slot b o e n hb hx;obtain⟨sl',e2⟩:=slot b _ (neL b o e) hb (neC b o e hx) e1 (I.base.free b o e n hx);exact⟨sl',e2⟩
 ·obtain⟨o',e1⟩:=I.base.there b o e hx;exact free b o' (neC b o e hx) e1 (I.base.free b o e n hx)
 ·obtain⟨o',e1⟩:=I.base.there b o e hx;exact there b o' (neC b o e hx) e1
 ·obtain⟨m1,e1⟩:=I.base.tbls b ps e;obtain⟨m2,e2⟩:=tbls b _ e1;exact⟨m1++m2,by rw[e2,Array.append_assoc]⟩
 ·obtain ⟨m, hn, hl⟩ := I.loc;refine⟨m,ns m hn,fun i x v e1 e2 e3=>?_⟩;obtain⟨u,r,l⟩:=hl i x v e1 e2 e3;refine⟨u,r,?_⟩;rcases l with l|⟨k,c,e,z⟩
  ·exact .inl l
  ·exact .inr ⟨k,c,e,cellK x c e _ z⟩
 ·obtain⟨v,z⟩:=I.cell x c e;exact⟨v,cellK x c e v z⟩
 ·obtain⟨m,⟨o,_,_,ho,_⟩,_⟩:=I.loc;exact free _ o (fun z=>(hch _ z).2.1 rfl) ho I.free
 ·obtain⟨v,o,ho,hd⟩:=I.cell x c e;exact free c o (fun z=>(hch c z).2.2.1 x c e rfl) ho (I.freeC x c e)
 ·obtain⟨e,n,ne,nf,d⟩:=I.pin p hp;have nch:p.1∉ch:=fun z=>(hch p.1 z).2.2.2 p hp rfl;exact⟨keep p.1 p.2 ne nf nch e n,free p.1 p.2 nch e n,ne,nf,d⟩
theorem aS.un{t':Nat}(I:aS X pins σ H s)(u:Un X.fs [] H H' s.heap h')(hok:nh X.prog X.w H' h'):aS X pins σ H' {s with heap:=h',toks:=t'}:=by
 obtain⟨m,⟨o,es,ep,ho,r⟩,_⟩:=id I.loc;obtain⟨sl,hL⟩:=u.any ho I.free (by simp)
 exact I.step (g':=s.gens) (d':=s.drawn) (ch:=[]) (fun _ z=>nomatch z) (fun b o _ hb _ e n=>u.keep b o e n hb (by simp)) (fun b o _ hb _ e n=>u.slot b o e n hb (by simp)) (fun b o _ e n=>u.free b o e n (by simp)) (fun b o _ e=>u.there b o e (by simp)) u.tups u.frzs u.tbls (fun m' hm=>by
  obtain⟨o',es',ep',ho',r'⟩:=hm;rw[ho]at ho';cases ho'
  exact⟨_,es',ep',hL,r'⟩) hok I.bare
theorem aS.call{g':Array GenState}{t':Nat}{d':Drawn}{ch:List Addr}(I:aS X pins σ H s)(u:Un (yq X.stack) ch H H' s.heap h')(hok:nh X.prog X.w H' h')(hg:AllBare g')
  (hch:∀b∈ch,(b∈X.ex\/X.s₀.heap.objs.size<=b)/\b≠X.env.locals/\(∀x c,X.env.cells.lookup x=some c->c≠b)/\∀p∈X.pn++pins,p.1≠b) :
  aS X pins σ H' {s with heap:=h',gens:=g',drawn:=d',toks:=t'}:=by
 obtain⟨m,⟨o,es,ep,ho,r⟩,_⟩:=id I.loc;obtain⟨sl,hL⟩:=u.any ho I.free fun z=>(hch _ z).2.1 rfl
 exact I.step (ch:=ch) hch (fun b o hL hb hc e n=>u.keep b o e n (fun z=>(JC.mp (I.stkSub b z)).elim hL hb) hc) (fun b o _ _ hc e n=>u.any e n hc) (fun b o hc e n=>u.free b o e n hc) (fun b o hc e=>u.there b o e hc) u.tups u.frzs u.tbls (fun m' hm=>by
  obtain⟨o',es',ep',ho',r'⟩:=hm;rw[ho]at ho';cases ho'
  exact⟨_,es',ep',hL,r'⟩) hok hg
theorem aS.turned{t':Nat}{it:Addr}(I:aS X pins σ H s)(k:∀b o,b≠it->s.heap.get? b=some o->h'.get? b=some o)(hn:H it=none)(hL:it≠X.env.locals)
  (h1:it∈X.ex\/X.s₀.heap.objs.size<=it) (h2:∀x c,X.env.cells.lookup x=some c->c≠it) (h3:∀p∈X.pn++pins,p.1≠it):aS X pins σ H {s with heap:=h',toks:=t'}:=by
 have nit:∀b u,H b=some u->b≠it:=fun b u e z=>by rw[z,hn]at e;cases e
 refine I.step (g':=s.gens) (d':=s.drawn) (ch:=[it]) (fun b hb=>?_) (fun b o _ _ hc e _=>k b o (fun z=>hc (by simp[z])) e) (fun b o _ _ hc e _=>⟨o.slots,k b o (fun z=>hc (by simp[z])) e⟩) (fun _ _ _ _ n=>n)
  (fun b o hc e=>⟨o,k b o (fun z=>hc (by simp[z])) e⟩) (fun _ _ e=>e) (fun _ _ _ e=>e) (fun b ps e=>⟨#[],by rw[e];simp⟩) (fun m hm=>?_) (fun b u e=>?_) I.bare
 ·have e : b = it := by simpa using hb
  subst e;exact⟨h1,hL,h2,h3⟩
 ·obtain⟨o,es,ep,ho,r⟩:=hm;exact⟨o,es,ep,k _ o (JD hL) ho,r⟩
 ·refine (I.hok b u e).stay (fun c v hc q => k c v ?_ q) (fun _ q => q) fun _ _ q => q;rcases hc with z|z
  ·rw[z];exact nit b u e
  ·exact nit c _ z
theorem aS.tok(I:aS X pins σ H s)(t:Nat):aS X pins σ H {s with toks:=t}:=I.un (h':=s.heap) (t':=t) Un.refl I.hok
theorem aS.kept{t':Nat}(I:aS X pins σ H s)(k:∀b u,s.heap.get? b=some u->h'.get? b=some u):aS X pins σ H {s with heap:=h',toks:=t'}:=I.un (Un.kept k) (I.hok.kept k)
theorem aS.laid{a:Addr}{o:HO}{t':Nat}(I:aS X pins σ H s)(k:∀b u,s.heap.get? b=some u->h'.get? b=some u)(hp:s.heap.objs.size<=a)(new:dq X.prog X.w (cG H a o) h' a o) :
  aS X pins σ (cG H a o) {s with heap:=h',toks:=t'}:=I.un (Un.laid k hp (I.hok.fresh hp)) (I.hok.laid k hp new)
theorem aS.write{x e:Addr}{o:HO}{t':Nat}(I:aS X pins σ H s)(mu:HG (H x))(he:e=x\/H e=some (.own x))(k:∀b u,b≠e->s.heap.get? b=some u->h'.get? b=some u)(heo:∃u,h'.get? e=some u)
  (new:dq X.prog X.w (cG H x o) h' x o):aS X pins σ (cG H x o) {s with heap:=h',toks:=t'}:=I.un (Un.write mu he k heo) (I.hok.write mu he k heo new)
theorem aS.pins_of{pins':List (Addr×Obj)}(I:aS X pins σ H s)(h:∀p∈pins',s.heap.get? p.1=some p.2/\H p.1=none/\p.1≠X.env.locals/\p.1∉X.fs/\∀v,p.2.data≠.cell v):aS X pins' σ H s:=
 ⟨I.ok,I.os,I.bare,I.base,I.loc,I.cell,I.free,I.freeC,fun p hp=>(JE.mp hp).elim (fun z=>I.pin p (JF _ z)) (h p),I.hok,I.len⟩
theorem tq{N:List Str}(hN:N.Nodup){i j:Nat}{x:Str}(a:N[i]?=some x)(b:N[j]?=some x):i=j:=by
 obtain⟨h1,e1⟩:=JG.mp a;obtain⟨h2,e2⟩:=JG.mp b;exact(JH hN).mp (e1.trans e2.symm)
theorem pL{M:Model}{A:Around}{E:Value->Shared->Prop}{i:Nat}{x:Str}{v:V}{u:Value}{Q:Unit->Shared->Prop}(I:aS X pins σ H s)(hN:X.N.Nodup)(hi:X.N[i]?=some x)(hx:C0 X.env.scope x)(r:cq v u)
  (h:∀s',aS X pins (σ.set i (some v)) H s'->(∃a,Heap.SameBut a s.heap s'.heap/\(a=X.env.locals\/X.env.cells.lookup x=some a))->Q () s') (hf:X.fn x=true\/X.env.scope.names.lookup x=some .local:=by first|exact .inl rfl|exact .inr rfl|assumption):wpAny M A (storeName X.env x u) Q E s:=by
 obtain⟨m,hn,hl⟩:=id I.loc;have hcls:(X.env.scope.kind == .class || (X.env.scope.kind == .module&&X.env.locals != X.env.globals))=false:=by rw[I.ok.kind];rfl
 have hiσ:i<σ.length:=by rw[I.len];exact(JG.mp hi).1
 have cne:=I.cne
 have tracked:∀{a:Addr}{h':Heap},(∃o,s.heap.get? a=some o/\H a=none)->Heap.SameBut a s.heap h'->nh X.prog X.w H h':=fun {a h'} ha hs b ob e=>by
  obtain⟨_,_,hfree⟩:=ha;refine(I.hok b ob e).stay (fun c w' hc q=>(hs.2 c ?_).trans q) (fun _ q=>q) fun _ _ q=>q
  rintro rfl
  rcases hc with rfl|hc
  ·rw[hfree]at e;cases e
  ·rw[hfree]at hc;cases hc
 rcases hx with hk|hk
 ·refine wpAny_storeName_local hk hn (fun h' hn' hs => ?_) hcls;obtain⟨oL,_,_,hoL,_⟩:=id hn;refine h _ ⟨I.ok,I.os,I.bare,⟨fun b o e n hb hx=>?_,fun b o e n hb hx=>?_,I.base.free,fun b o e hx=>?_,I.base.tups,I.base.frzs,I.base.tbls⟩,⟨_,hn',fun j y v' e1 e2 e3=>?_⟩,fun y c e=>?_,I.free,I.freeC,fun p hp=>?_,tracked ⟨oL,hoL,I.free⟩ hs,by simpa using I.len⟩ ⟨_,hs,.inl rfl⟩
  ·exact(hs.2 b (Ju (Js (Jr e) I.ok.above))).trans (I.base.keep b o e n hb hx)
  ·obtain⟨sl,e1⟩:=I.base.slot b o e n hb hx;exact⟨sl,(hs.2 b (Ju (Js (Jr e) I.ok.above))).trans e1⟩
  ·obtain⟨o',e1⟩:=I.base.there b o e hx;exact⟨o',(hs.2 b (Ju (Js (Jr e) I.ok.above))).trans e1⟩
  ·by_cases hj : j = i
   ·subst hj;rw[hi]at e1;cases e1;rw[JI hiσ]at e2;cases e2;exact⟨u,r,.inl ⟨hk,by simp⟩⟩
   ·rw [JJ (JD hj)] at e2;obtain⟨u',r',q⟩:=hl j y v' e1 e2 e3;refine⟨u',r',?_⟩;rcases q with⟨k,e⟩|⟨k,c,e,z⟩
    ·refine .inl ⟨k,?_⟩;have:y≠x:=fun e=>hj (tq hN e1 (e ▸ hi));simp[this,e]
    ·exact .inr ⟨k,c,e,z.sameBut hs (cne y c e)⟩
  ·obtain⟨w',z⟩:=I.cell y c e;exact⟨w',z.sameBut hs (cne y c e)⟩
  ·obtain⟨e,n,ne,nf,d⟩:=I.pin p hp;exact⟨(hs.2 p.1 ne).trans e,n,ne,nf,d⟩
 ·have hfn:X.fn x=true:=by
   rcases hf with z|z
   ·exact z
   ·rw[z]at hk;cases hk
  obtain⟨c,hc⟩:=I.ok.has x (.inl hk);obtain⟨w',z⟩:=I.cell x c hc;refine wpAny_storeName_cell I.ok.kind hk hc z (fun h' hc' hs=>?_);obtain⟨oc,hoc,hocd⟩:=id z;refine h {s with heap:=h'} ⟨I.ok,I.os,I.bare,⟨fun b o e n hb hx=>?_,fun b o e n hb hx=>?_,I.base.free,fun b o e hx=>?_,I.base.tups,I.base.frzs,I.base.tbls⟩,⟨m,hn.sameBut hs (JD (cne x c hc)),fun j y v' e1 e2 e3=>?_⟩,fun y c' e=>?_,I.free,I.freeC,fun p hp=>?_,tracked ⟨oc,hoc,I.freeC x c hc⟩ hs,by simpa using I.len⟩ ⟨c,hs,.inr hc⟩
  ·exact(hs.2 b (Ju (Js (Jr e) (I.ok.cab x c hfn hc)))).trans (I.base.keep b o e n hb hx)
  ·obtain⟨sl,e1⟩:=I.base.slot b o e n hb hx;exact⟨sl,(hs.2 b (Ju (Js (Jr e) (I.ok.cab x c hfn hc)))).trans e1⟩
  ·obtain⟨o',e1⟩:=I.base.there b o e hx;exact⟨o',(hs.2 b (Ju (Js (Jr e) (I.ok.cab x c hfn hc)))).trans e1⟩
  ·by_cases hj : j = i
   ·subst hj;rw[hi]at e1;cases e1;rw[JI hiσ]at e2;cases e2;exact⟨u,r,.inr ⟨.inl hk,c,hc,hc'⟩⟩
   ·rw [JJ (JD hj)] at e2;obtain⟨u',r',q⟩:=hl j y v' e1 e2 e3;refine⟨u',r',?_⟩;rcases q with q|⟨k,c',e,z'⟩
    ·exact .inl q
    ·refine .inr ⟨k, c', e, z'.sameBut hs ?_⟩
     rintro rfl
     exact hj (tq hN e1 (I.ok.inj _ _ _ e hc ▸ hi))
  ·by_cases hcc : c' = c
   ·subst hcc;exact⟨_,hc'⟩
   ·obtain⟨w2,z2⟩:=I.cell y c' e;exact⟨w2,z2.sameBut hs hcc⟩
  ·obtain⟨e,n,ne,nf,d⟩:=I.pin p hp;refine⟨(hs.2 p.1 ?_).trans e,n,ne,nf,d⟩;intro q;rw[q,hoc]at e;have q':oc=p.2:=Jq e;exact d w' (by rw[<- q'];exact hocd)
theorem sL{M:Model}{A:Around}{E:Value->Shared->Prop}{i:Nat}{x:Str}{v:V}{u:Value}{Q:Unit->Shared->Prop}(I:aS X pins σ H s)(hN:X.N.Nodup)(hi:X.N[i]?=some x)(hx:C0 X.env.scope x)(r:cq v u)
  (h:∀s',aS X pins (σ.set i (some v)) H s'->Q () s') (hf:X.fn x=true\/X.env.scope.names.lookup x=some .local:=by first|exact .inl rfl|exact .inr rfl|assumption):wpAny M A (storeName X.env x u) Q E s:=
 pL I hN hi hx r (fun s' I' _=>h s' I') hf
theorem aS.call'{s':Shared}{ch:List Addr}(I:aS X pins σ H s)(ho:s'.os=s.os)(u:Un (yq X.stack) ch H H' s.heap s'.heap)(hok:nh X.prog X.w H' s'.heap)(hg:AllBare s'.gens)
  (hch:∀b∈ch,(b∈X.ex\/X.s₀.heap.objs.size<=b)/\b≠X.env.locals/\(∀x c,X.env.cells.lookup x=some c->c≠b)/\∀p∈X.pn++pins,p.1≠b):aS X pins σ H' s':=by
 obtain⟨h',g',d',t',o'⟩:=s';have e:o'=s.os:=ho;subst e;exact I.call (g':=g') (t':=t') (d':=d') u hok hg hch
end
abbrev XK:=Value->Option Addr->Hp->Prop
abbrev St:=List (Option V)
abbrev VK:=V->Hp->Prop
abbrev TE:=St->Hp->VK->Prop
abbrev TT:=St->Hp->(Bool->Hp->Prop)->Prop
abbrev TA:=St->Hp->(List V->Hp->Prop)->Prop
structure nt where
 nx:St->Hp->Prop
 rt:VK
 bk:St->Hp->Prop:=fun _ _=>False
 ct:St->Hp->Prop:=fun _ _=>False
abbrev TS:=nt->St->Hp->Prop
def EP(X:Cx)(pins:List (Addr×Obj))(σ:St)(Q:VK)(u:Value)(s':Shared):Prop:=∃v H',aS X pins σ H' s'/\cq v u/\Q v H'
def TP(X:Cx)(pins:List (Addr×Obj))(σ:St)(Q:Bool->Hp->Prop)(b:Bool)(s':Shared):Prop:=∃H',aS X pins σ H' s'/\Q b H'
def AP(X:Cx)(pins:List (Addr×Obj))(σ:St)(Q:List V->Hp->Prop)(us:List Value)(s':Shared):Prop:=∃vs H',aS X pins σ H' s'/\aX vs us/\Q vs H'
def SP(X:Cx)(pins:List (Addr×Obj))(D:nt)(f:Flow)(s':Shared):Prop:=
 match f with
 |.next=>∃σ' H',aS X pins σ' H' s'/\D.nx σ' H'
 |.brk=>∃σ' H',aS X pins σ' H' s'/\D.bk σ' H'
 |.cont=>∃σ' H',aS X pins σ' H' s'/\D.ct σ' H'
 |.ret u=>∃v σ' H',aS X pins σ' H' s'/\cq v u/\D.rt v H'
def PE(X:Cx)(e:Expr)(t:TE):Prop:=
 ∀(pins:List (Addr×Obj))(s:Shared)(σ:St)(H:Hp)(Q:VK),aS X pins σ H s->t σ H Q->wpAny (model X.prog X.w) X.A (eval e X.env) (EP X pins σ Q) X.xe s
def PT(X:Cx)(e:Expr)(t:TT):Prop:=
 ∀(pins:List (Addr×Obj))(s:Shared)(σ:St)(H:Hp)(Q:Bool->Hp->Prop),aS X pins σ H s->t σ H Q->wpAny (model X.prog X.w) X.A (isTrue e X.env (eval e X.env)) (TP X pins σ Q) X.xe s
def PW(X:Cx)(e:Expr)(t:TT):Prop:=
 ∀(whole:Sem Value)(pins:List (Addr×Obj))(s:Shared)(σ:St)(H:Hp)(Q:Bool->Hp->Prop),aS X pins σ H s->t σ H Q->wpAny (model X.prog X.w) X.A (isTrue e X.env whole) (TP X pins σ Q) X.xe s
theorem PW.pt{X:Cx}{e:Expr}{t:TT}(h:PW X e t):PT X e t:=h _
def PA(X:Cx)(es:List Expr)(t:TA):Prop:=
 ∀(pos:Pos)(pins:List (Addr×Obj))(s:Shared)(σ:St)(H:Hp)(Q:List V->Hp->Prop),aS X pins σ H s->t σ H Q->wpAny (model X.prog X.w) X.A (spliced (backTo pos (starEach es X.env))) (AP X pins σ Q) X.xe s
def PS(X:Cx)(st:Stmt)(t:TS):Prop:=
 ∀(pins:List (Addr×Obj))(s:Shared)(σ:St)(H:Hp)(D:nt),aS X pins σ H s->t D σ H->wpAny (model X.prog X.w) X.A (exec st X.env) (SP X pins D) X.xe s
def jV(X:Cx)(st:List Stmt)(t:TS):Prop:=
 ∀(pins:List (Addr×Obj))(s:Shared)(σ:St)(H:Hp)(D:nt),aS X pins σ H s->t D σ H->wpAny (model X.prog X.w) X.A (execs st X.env) (SP X pins D) X.xe s
theorem d3{α:Type}{t:Sem α}{Q Q':α->Shared->Prop}{M:Model}{A:Around}{E:Value->Shared->Prop}{s:Shared}(h:wpAny M A t Q E s)(hQ:∀a s,Q a s->Q' a s):wpAny M A t Q' E s:=JK h hQ fun _ _ x=>x
end L2
namespace L2
open PySem PySem.Spec PyProof.Rows
section
variable{X:Cx}
def F8(i:Nat):TE:=fun σ H Q=>∃v,σ[i]?=some (some v)/\Q v H
def tC(v:V):TE:=fun _ H Q=>Q v H
theorem EK {i:Nat}{x:Str}{pos:Pos} (hN:X.N[i]?=some x) (hv:HQ X.env.scope x) (hd:(x == ("__debug__" : Str))=false:=by decide) (hcd:(x == ("__classdict__" : Str))=false:=by decide):PE X (.Name x pos) (F8 i):=by
 intro pins s σ H Q I h;obtain⟨v,e,h⟩:=h;obtain⟨m,hn,hl⟩:=I.loc;obtain⟨u,r,l⟩:=hl i x v hN e hv;have fin:EP X pins σ Q u s:=⟨v,H,I,r,h⟩;rcases l with⟨hk,hm⟩|⟨hk,c,hc,hcell⟩
 ·exact wpAny_Name (wpAny_loadName_local I.ok.kind hk hn hm fin) hd
 ·rcases hk with hk | hk
  ·exact wpAny_Name (wpAny_loadName_cell I.ok.kind hk hc hcell fin) hd
  ·exact wpAny_Name (wpAny_loadName_free I.ok.kind hk hc hcell fin hcd) hd
theorem ET{i j pos}:PE X (.Constant (.int i) j pos) (tC (.int i)):=fun _ _ _ H _ I h=>wpAny_Constant_int ⟨.int i,H,I.tok _,⟨_,rfl⟩,h⟩
theorem G8{b j pos}:PE X (.Constant (.bool b) j pos) (tC (.bl b)):=fun _ _ _ H _ I h=>Constant_bool ⟨.bl b,H,I,rfl,h⟩
theorem ER{j pos}:PE X (.Constant .none j pos) (tC .non):=fun _ _ _ H _ I h=>Constant_none ⟨.non,H,I,rfl,h⟩
theorem EM{x j pos}:PE X (.Constant (.str x) j pos) (tC (.str x)):=fun _ _ _ H _ I h=>Calls.Constant_str ⟨.str x,H,I.tok _,⟨_,rfl⟩,h⟩
def Gl(X:Cx)(x:Str):Prop:=X.env.kindOf x=some .globalImplicit
theorem Cq{E:Value->Shared->Prop}{pins:List (Addr×Obj)}{s:Shared}{σ:St}{H:Hp}{x:Str}{u:Value}{pos:Pos}{Q:Value->Shared->Prop}(I:aS X pins σ H s)(hg:Gl X x)(hm:X.mg x=some u)(h:Q u s)
  (hd:(x == ("__debug__" : Str))=false:=by decide):wpAny (model X.prog X.w) X.A (eval (.Name x pos) X.env) Q E s:=
 Calls.Name_function_global I.ok.kind hg (Calls.loadGlobal_global (by rw[I.ok.glob];exact I.mod.glob.keeps I.bk) hm h) hd
theorem lG{E:Value->Shared->Prop}{pins:List (Addr×Obj)}{s:Shared}{σ:St}{H:Hp}{x:Str}{u:Value}{pos:Pos}{Q:Value->Shared->Prop}(I:aS X pins σ H s)(hg:Gl X x)(hm:X.mg x=none)(hv:bootBuiltins x=some u)(h:Q u s)
  (hn:x ≠ "__name__" := by decide) (hd:(x == ("__debug__" : Str))=false:=by decide):wpAny (model X.prog X.w) X.A (eval (.Name x pos) X.env) Q E s:=by
 obtain⟨mb,h1,h2⟩:=I.mod.blt;exact Calls.Name_function_global I.ok.kind hg (Calls.loadGlobal_builtin (by rw[I.ok.glob];exact I.mod.glob.keeps I.bk) hm (by rw[I.ok.blt];exact h1.keeps I.bk) ((h2 x hn).trans hv) h) hd
theorem BZ {x:Str}{v:V}{u:Value}{pos:Pos} (hg:Gl X x) (hm:X.mg x=none) (hv:bootBuiltins x=some u) (r:cq v u) (hn:x ≠ "__name__" := by decide) (hd:(x == ("__debug__" : Str))=false:=by decide):PE X (.Name x pos) (tC v):=
 fun _ _ _ H _ I h=>lG I hg hm hv ⟨v,H,I,r,h⟩ hn hd
variable{a b:Expr}{ta tb:TE}{pos:Pos}
variable{tA tB':TT}{rest:List Expr}
def Ig(t u:TT):TT:=fun σ H Q=>t σ H fun c H1=>if c=true then u σ H1 Q else Q false H1
def IY(t u:TT):TT:=fun σ H Q=>t σ H fun c H1=>if c=true then Q true H1 else u σ H1 Q
def HY(t:TT):TT:=fun σ H Q=>t σ H fun c H1=>Q (!c) H1
theorem BH(ha:PT X a tA):PW X (.BoolOp .And [a] pos) tA:=by
 intro wh pins s σ H Q I h;refine isTrue_and (d3 (ha pins s σ H Q I h) fun c s1 e=>?_);cases c with
 |true=>exact isTrue_and_nil e
 |false=>exact e
theorem Ez(ha:PT X a tA):PW X (.BoolOp .Or [a] pos) tA:=by
 intro wh pins s σ H Q I h;refine isTrue_or (d3 (ha pins s σ H Q I h) fun c s1 e=>?_);cases c with
 |false=>exact isTrue_or_nil e
 |true=>exact e
theorem EA(ha:PT X a tA)(hb:PW X (.BoolOp .And (b::rest) pos) tB'):PW X (.BoolOp .And (a::b::rest) pos) (Ig tA tB'):=by
 intro wh pins s σ H Q I h;refine isTrue_and (d3 (ha pins s σ H _ I h) fun c s1 ⟨H1,I1,q1⟩=>?_);cases c with
 |true=>exact hb wh pins s1 σ H1 Q I1 q1
 |false=>exact⟨H1,I1,q1⟩
theorem GY(ha:PT X a tA)(hb:PW X (.BoolOp .Or (b::rest) pos) tB'):PW X (.BoolOp .Or (a::b::rest) pos) (IY tA tB'):=by
 intro wh pins s σ H Q I h;refine isTrue_or (d3 (ha pins s σ H _ I h) fun c s1 ⟨H1,I1,q1⟩=>?_);cases c with
 |true=>exact⟨H1,I1,q1⟩
 |false=>exact hb wh pins s1 σ H1 Q I1 q1
theorem EB(ha:PT X a tA):PT X (.UnaryOp .Not a pos) (HY tA):=by
 intro pins s σ H Q I h;exact isTrue_not (ha pins s σ H (fun c H1=>Q (!c) H1) I h)
def GL(ta tb:TE):TE:=fun σ H Q=>ta σ H fun x H1=>∃c,x=.bl c/\if c=true then tb σ H1 Q else Q (.bl false) H1
def GF(ta:TE):TE:=fun σ H Q=>ta σ H fun x H1=>∃c,x=.bl c/\Q (.bl (!c)) H1
theorem EN{op}{t:TE}(h:PE X a t):PE X (.BoolOp op [a] pos) t:=fun pins s σ H Q I hw=>BoolOp_one (h pins s σ H Q I hw)
theorem EU(ha:PE X a ta)(hb:PE X (.BoolOp .And (b::rest) pos) tb):PE X (.BoolOp .And (a::b::rest) pos) (GL ta tb):=by
 intro pins s σ H Q I h;refine BoolOp_and (d3 (ha pins s σ H _ I h) fun v s1 ⟨x,H1,I1,r1,q1⟩=>?_);obtain⟨c,rfl,q1⟩:=q1;cases r1;refine JL ?_;cases c with
 |true=>exact hb pins s1 σ H1 Q I1 q1
 |false=>exact⟨.bl false,H1,I1,rfl,q1⟩
theorem EO(ha:PE X a ta):PE X (.UnaryOp .Not a pos) (GF ta):=by
 intro pins s σ H Q I h;refine UnaryOp_ (d3 (ha pins s σ H _ I h) fun v s1 ⟨x,H1,I1,r1,q1⟩=>?_);obtain⟨c,rfl,q1⟩:=q1;cases r1;exact not_of (JL ⟨.bl (!c),H1,I1,rfl,q1⟩)
end
end L2
namespace L2
open PySem PySem.Spec PyProof.Rows
def eT(K:W.Frag)(H:Hp)(a:Addr)(xs:List V):Prop:=
 Rd H a (.lst xs) \/
  ∃(o:Obj) (its:Array Value) (n:Nat),K.lookup a=some o/\o.cls=.type "list" /\ o.dict=none/\o.data=.seq its n/\its.size<=sizeLine/\aX xs its.toList
def fu(K:W.Frag)(H:Hp)(a:Addr)(xs:List V):Prop:=
 Rd H a (.tup xs) \/
  ∃(o:Obj) (its:Array Value) (n:Nat),K.lookup a=some o/\o.cls=.type "tuple" /\ o.data=.seq its n/\its.size<=sizeLine/\aX xs its.toList
def IA:Value->Option V
 |.none=>some .non
 |.bool b=>some (.bl b)
 |.int i _=>some (.int i)
 |.str x _=>some (.str x)
 |.bytes b _=>some (.byt b)
 |.float b _=>some (.flt b)
 |.ref a=>some (.ref a)
 |.type n=>some (.ty n)
 |_=>none
theorem cq.abs{x:V}{u:Value}(r:cq x u):IA u=some x:=by
 cases x with
 |non=>cases r;rfl
 |bl _=>cases r;rfl
 |int _=>obtain⟨t,rfl⟩:=r;rfl
 |str _=>obtain⟨t,rfl⟩:=r;rfl
 |byt _=>obtain⟨t,rfl⟩:=r;rfl
 |flt _=>obtain⟨t,rfl⟩:=r;rfl
 |ref _=>cases r;rfl
 |ty _=>cases r;rfl
theorem cq.inj{x y:V}{u:Value}(r:cq x u)(q:cq y u):x=y:=Jq (r.abs.symm.trans q.abs)
theorem aX.inj:∀{xs ys:List V}{us:List Value},aX xs us->aX ys us->xs=ys
 |_,_,_,.nil,.nil=>rfl
 |_,_,_,.cons r t,.cons r' t'=>by rw[r.inj r',aX.inj t t']
section
variable{X:Cx}{pins:List (Addr×Obj)}{σ:St}{H:Hp}{s:Shared}{a:Addr}{xs ys:List V}
theorem eT.of{K:W.Frag}(h:H a=some (.lst xs)):eT K H a xs:=.inl (.inl h)
theorem fu.of{K:W.Frag}(h:H a=some (.tup xs)):fu K H a xs:=.inl (.inl h)
theorem aS.list(I:aS X pins σ H s)(h:eT X.K H a xs):∃its:List Value,aX xs its/\PlainL s.heap a its.toArray/\xs.length<=sizeLine:=by
 rcases h with h|⟨o,its,n,hk,hc,hd,hs,hz,r⟩
 ·obtain⟨z,its,n,r,e⟩:=h.ok I.hok;exact⟨its,r,⟨_,n,e,rfl,rfl,rfl⟩,z⟩
 ·refine⟨its.toList,r,⟨o,n,I.kIn a o hk,hc,hd,by simpa using hs⟩,?_⟩;have e:=r.length;simp only[JM]at e;omega
theorem aS.tuple(I:aS X pins σ H s)(h:fu X.K H a xs):∃its:List Value,aX xs its/\IsTup s.heap a its.toArray/\xs.length<=sizeLine:=by
 rcases h with h|⟨o,its,n,hk,hc,hs,hz,r⟩
 ·obtain⟨z,its,r,p⟩:=h.ok I.hok;exact⟨its,r,p,z⟩
 ·refine⟨its.toList,r,⟨o,I.kIn a o hk,hc,n,by simpa using hs⟩,?_⟩;have e:=r.length;simp only[JM]at e;omega
theorem aS.list_inj(I:aS X pins σ H s)(h:eT X.K H a xs)(h':eT X.K H a ys):xs=ys:=by
 obtain⟨its,r,⟨o,n,e,_,_,d⟩,_⟩:=I.list h;obtain⟨its',r',⟨o',n',e',_,_,d'⟩,_⟩:=I.list h';rw[e]at e';cases e';rw[d]at d';injection d' with d1 _
 have:its=its':=by simpa using JN Array.toList d1
 subst this;exact r.inj r'
theorem aS.tuple_inj(I:aS X pins σ H s)(h:fu X.K H a xs)(h':fu X.K H a ys):xs=ys:=by
 obtain⟨its,r,⟨o,e,_,n,d⟩,_⟩:=I.tuple h;obtain⟨its',r',⟨o',e',_,n',d'⟩,_⟩:=I.tuple h';rw[e]at e';cases e';rw[d]at d';injection d' with d1 _
 have:its=its':=by simpa using JN Array.toList d1
 subst this;exact r.inj r'
end
abbrev Cx.wish(X:Cx)(E:Value->Shared->Prop):Cx:={X with xe:=E}
abbrev Cx.nox(X:Cx):Cx:=X.wish fun _ _=>False
theorem Cx.Ok.wish{X:Cx}(ok:X.Ok)(E:Value->Shared->Prop):(X.wish E).Ok:=
 ⟨ok.mod,ok.kind,ok.glob,ok.blt,ok.above,ok.inj,ok.has,ok.cab,ok.hd,ok.frames,ok.stk,ok.exf,ok.bs,ok.bsz,ok.noex,ok.exfs,ok.funs,ok.frf⟩
theorem Cx.Ok.unwish{X:Cx}{E:Value->Shared->Prop}(ok:(X.wish E).Ok):X.Ok:=
 ⟨ok.mod,ok.kind,ok.glob,ok.blt,ok.above,ok.inj,ok.has,ok.cab,ok.hd,ok.frames,ok.stk,ok.exf,ok.bs,ok.bsz,ok.noex,ok.exfs,ok.funs,ok.frf⟩
section
variable{X:Cx}{pins:List (Addr×Obj)}{σ:St}{H:Hp}{s:Shared}{E:Value->Shared->Prop}
theorem aS.wish(I:aS X pins σ H s)(E:Value->Shared->Prop):aS (X.wish E) pins σ H s:=⟨I.ok.wish E,I.os,I.bare,I.base,I.loc,I.cell,I.free,I.freeC,I.pin,I.hok,I.len⟩
theorem aS.unwish(I:aS (X.wish E) pins σ H s):aS X pins σ H s:=⟨I.ok.unwish,I.os,I.bare,I.base,I.loc,I.cell,I.free,I.freeC,I.pin,I.hok,I.len⟩
theorem SP.unwish{D:nt}{f:Flow}{s':Shared}(h:SP (X.wish E) pins D f s'):SP X pins D f s':=by
 cases f with
 |next=>obtain⟨σ',H',I,q⟩:=h;exact⟨σ',H',I.unwish,q⟩
 |brk=>obtain⟨σ',H',I,q⟩:=h;exact⟨σ',H',I.unwish,q⟩
 |cont=>obtain⟨σ',H',I,q⟩:=h;exact⟨σ',H',I.unwish,q⟩
 |ret u=>obtain⟨v,σ',H',I,r,q⟩:=h;exact⟨v,σ',H',I.unwish,r,q⟩
theorem jV.nox{st:List Stmt}{t:TS}(h:jV X.nox st t):jV X st t:=fun pins s σ H D I hw=>
 JK (h pins s σ H D (I.wish _) hw) (fun _ _ q=>q.unwish) fun _ _ z=>False.elim z
end
section
variable{X:Cx}{st:Stmt}{rest:List Stmt}{t u:TS}{e:Expr}{te:TE}{pos:Pos}
def GG:TS:=fun D σ H=>D.nx σ H
def HW(t u:TS):TS:=fun D σ H=>t {D with nx:=u D} σ H
theorem BM:jV X [] GG:=fun _ _ σ H _ I h=>JO ⟨σ,H,I,h⟩
theorem z6(h1:PS X st t)(h2:jV X rest u):jV X (st::rest) (HW t u):=by
 intro pins s σ H D I h;refine wpAny_execs_cons (d3 (h1 pins s σ H {D with nx:=u D} I h) fun f s1 q=>?_);cases f with
 |next=>
  obtain⟨σ',H',I',q⟩:=q;exact h2 pins s1 σ' H' D I' q
 |ret v=>exact q
 |brk=>exact q
 |cont=>exact q
theorem BL(h1:PS X st t):jV X [st] t:=by
 intro pins s σ H D I h;refine wpAny_execs_cons (d3 (h1 pins s σ H D I h) fun f s1 q=>?_);cases f with
 |next=>exact JO q
 |ret v=>exact q
 |brk=>exact q
 |cont=>exact q
theorem aS.quiet{pins:List (Addr×Obj)}{σ:St}{H:Hp}{s:Shared}(I:aS X pins σ H s):interactive X.env=false:=by simp[interactive,I.ok.kind]
def GH(te:TE):TS:=fun D σ H=>te σ H fun _ H1=>D.nx σ H1
theorem BO(he:PE X e te)(hs:swapsWith e none pos.line X.env=pure false:=by rfl):PS X (.Expr e pos) (GH te):=by
 intro pins s σ H D I h;exact wpAny_Expr_any (d3 (he pins s σ H _ I h) fun v s1 ⟨x,H1,I1,r1,q1⟩=>⟨σ,H1,I1,q1⟩) I.quiet hs
def HX(te:TE):TS:=fun D σ H=>te σ H D.rt
theorem ED(he:PE X e te):PS X (.Return (some e) pos) (HX te):=by
 intro pins s σ H D I h;exact wpAny_Return_some (d3 (he pins s σ H _ I h) fun v s1 ⟨x,H1,I1,r1,q1⟩=>⟨x,σ,H1,I1,r1,q1⟩)
def Ic(c:TT)(t u:TS):TS:=fun D σ H=>c σ H fun b H1=>if b=true then t D σ H1 else u D σ H1
theorem GZ{c:Expr}{a b:List Stmt}{tc:TT}(hc:PT X c tc)(ha:jV X a t)(hb:jV X b u):PS X (.If c a b pos) (Ic tc t u):=by
 intro pins s σ H D I h;refine wpAny_If (d3 (hc pins s σ H _ I h) fun d s1 ⟨H1,I1,q1⟩=>?_);cases d with
 |true=>exact ha pins s1 σ H1 D I1 q1
 |false=>exact hb pins s1 σ H1 D I1 q1
end
abbrev TG:=V->St->Hp->(St->Hp->Prop)->Prop
abbrev AU:=List V->St->Hp->(St->Hp->Prop)->Prop
def PG(X:Cx)(target:Expr)(t:TG):Prop:=
 ∀(pins:List (Addr×Obj))(s:Shared)(σ:St)(H:Hp)(v:V)(u:Value)(Q:St->Hp->Prop),aS X pins σ H s->cq v u->t v σ H Q ->
  wpAny (model X.prog X.w) X.A (assign target X.env u) (fun _ s'=>∃σ' H',aS X pins σ' H' s'/\Q σ' H') X.xe s
def uy(X:Cx)(ts:List Expr)(t:AU):Prop:=
 ∀(pins:List (Addr×Obj))(s:Shared)(σ:St)(H:Hp)(vs:List V)(us:List Value)(Q:St->Hp->Prop),aS X pins σ H s->aX vs us->t vs σ H Q ->
  wpAny (model X.prog X.w) X.A (assignInOrder ((assignEach ts X.env).map (·.2)) us) (fun _ s'=>∃σ' H',aS X pins σ' H' s'/\Q σ' H') X.xe s
abbrev DL:=V->V->V->Hp->(Hp->Prop)->Prop
def Gw(X:Cx)(t:DL):Prop:=
 ∀(pins:List (Addr×Obj))(s:Shared)(σ:St)(H:Hp)(o i v:V)(ov iv u:Value)(Q:Hp->Prop),aS X pins σ H s->cq o ov->cq i iv->cq v u->t o i v H Q ->
  wpAny (model X.prog X.w) X.A (setItem ov iv u) (fun _ s'=>∃H',aS X pins σ H' s'/\Q H') X.xe s
section
variable{X:Cx}{pos:Pos}
def su(i:Nat):TG:=fun v σ H Q=>Q (σ.set i (some v)) H
theorem BS{i:Nat}{x:Str}(hN:X.N.Nodup)(hi:X.N[i]?=some x)(hx:C0 X.env.scope x)(hf:X.fn x=true\/X.env.scope.names.lookup x=some .local:=by first|exact .inl rfl|exact .inr rfl|assumption):PG X (.Name x pos) (su i):=by
 intro pins s σ H v u Q I r h;exact wpAny_assign_Name (sL I hN hi hx r (fun s' I'=>⟨_,H,I',h⟩) hf)
def Ir:AU:=fun vs σ H Q=>vs=[]/\Q σ H
def Hm(t:TG)(u:AU):AU:=fun vs σ H Q=>∃v r,vs=v::r/\t v σ H fun σ' H'=>u r σ' H' Q
theorem BR:uy X [] Ir:=by
 intro pins s σ H vs us Q I r h;obtain⟨e,h⟩:=h;subst e;cases r;exact assignInOrder_nil ⟨σ,H,I,h⟩
theorem Aa{e:Expr}{es:List Expr}{t:TG}{u:AU}(h1:PG X e t)(h2:uy X es u)
  (hs:(assignEach (e::es) X.env).map (·.2)=assign e X.env::(assignEach es X.env).map (·.2):=by rfl):uy X (e::es) (Hm t u):=by
 intro pins s σ H vs us Q I r h;obtain⟨v,vr,e1,h⟩:=h;subst e1;cases r with
 |cons r rr=>
  rw[hs];refine assignInOrder_cons (d3 (h1 pins s σ H _ _ _ I r h) fun _ s1 ⟨σ1,H1,I1,q1⟩=>?_);exact h2 pins s1 σ1 H1 _ _ Q I1 rr q1
def Ip(K:W.Frag)(n:Nat)(t:AU):TG:=fun v σ H Q=>∃a xs,v=.ref a/\fu K H a xs/\xs.length=n/\t xs σ H Q
theorem EI{es:List Expr}{k:Nat}{t:AU}{n:Nat}(hc:X.calm=true)(h:uy X es t)
  (hn:(assignEach es X.env).length=n:=by rfl) (hst:(assignEach es X.env).findIdx? (·.1)=none:=by rfl):PG X (.Tuple es k pos) (Ip X.K n t):=by
 intro pins s σ H v u Q I r hw;obtain⟨a,xs,e1,hq,hl,hw⟩:=hw;subst e1;cases r;obtain⟨its,rv,ht,hz⟩:=I.tuple hq;refine assign_Tuple_tuple (I.ok.hd hc) ht (by simp[hn,<- hl,rv.length]) hst fun h' hx=>?_;have I1:aS X pins σ H {s with heap:=h'}:=I.kept (t':=s.toks) fun b o e=>hx b o (Ju (Jr e)) e;exact h pins _ σ H xs _ Q I1 (by simpa using rv) hw
def Iq(to ti:TE)(t:DL):TG:=fun v σ H Q=>to σ H fun o H1=>ti σ H1 fun i H2=>t o i v H2 fun H3=>Q σ H3
theorem EJ{o i:Expr}{to ti:TE}{t:DL}(ho:PE X o to)(hi:PE X i ti)(hs:Gw X t)
  (ha : ∀ v, assign (.Subscript o i pos) X.env v = (do
   let ov <- holding [v] (eval o X.env)
   let iv <- holding [v,ov] (eval i X.env)
   standAt pos
   holding [v,ov,iv] (setItem ov iv v)
   release [v,ov,iv] []):=by intro _;rfl):PG X (.Subscript o i pos) (Iq to ti t):=by
 intro pins s σ H v u Q I r h;rw[ha];refine JP (JQ (d3 (ho pins s σ H _ I h) fun ov s1 ⟨x,H1,I1,r1,q1⟩=>?_));refine JP (JQ (d3 (hi pins s1 σ H1 _ I1 q1) fun iv s2 ⟨y,H2,I2,r2,q2⟩=>?_));refine JP (JR (JP (JQ (d3 (hs pins s2 σ H2 x y v ov iv u _ I2 r1 r2 r q2) fun _ s3 ⟨H3,I3,q3⟩=>?_))));exact wpAny_release ⟨σ,H3,I3,q3⟩
def yw(te:TE)(g:TG):TS:=fun D σ H=>te σ H fun x H1=>g x σ H1 D.nx
theorem EF{tg e:Expr}{te:TE}{g:TG}(he:PE X e te)(hg:PG X tg g)(hs:swapsWithSole [tg] e pos.line X.env=pure false:=by rfl)(hw:swappedStores [tg] e X.env=pure none:=by rfl)
  (h1:(assignEach [tg] X.env).map (·.2)=[assign tg X.env]:=by rfl):PS X (.Assign [tg] e pos) (yw te g):=by
 intro pins s σ H D I h;refine wpAny_Assign_stores (d3 (he pins s σ H _ I h) fun v s1 ⟨x,H1,I1,r1,q1⟩=>?_) hs hw;rw[h1];exact d3 (hg pins s1 σ H1 x v _ I1 r1 q1) fun _ s2 q=>q
theorem EC{i:Nat}{x:Str}{e:Expr}{te:TE}{pos':Pos}(hN:X.N.Nodup)(hi:X.N[i]?=some x)(hx:C0 X.env.scope x)(he:PE X e te)(hs:swapsWith e (some (.Name x pos')) pos.line X.env=pure false:=by rfl)(hf:X.fn x=true\/X.env.scope.names.lookup x=some .local:=by first|exact .inl rfl|exact .inr rfl|assumption) :
  PS X (.Assign [.Name x pos'] e pos) (yw te (su i)):=by
 intro pins s σ H D I h;refine wpAny_Assign_Name (d3 (he pins s σ H _ I h) fun v s1 ⟨y,H1,I1,r1,q1⟩=>?_) hs;exact sL I1 hN hi hx r1 (fun s2 I2=>⟨_,H1,I2,q1⟩) hf
end
section
variable{X:Cx}{pos:Pos}
end
structure It where
 go:Nat->Hp->Prop
 yld:Nat->Hp->V->Hp->Prop
 stop:Nat->Hp->Prop
def mD(X:Cx)(pins:List (Addr×Obj))(H:Hp)(b:Addr):Prop:=
 H b=none/\b≠X.env.locals/\b∉X.fs/\(b∈X.ex\/X.s₀.heap.objs.size<=b)/\(∀x c,X.env.cells.lookup x=some c->c≠b)/\∀p∈X.pn++pins,p.1≠b
theorem aS.fpOk{X:Cx}{pins:List (Addr×Obj)}{σ:St}{H H':Hp}{s:Shared}{b:Addr}(I:aS X pins σ H s)(hb:s.heap.objs.size<=b)(hn:H' b=none):mD X pins H' b:=by
 refine⟨hn,JS (Js I.lt hb),I.nofs hb,.inr (Jx I.sz hb),fun x c e z=>?_,fun p hp z=>?_⟩
 ·obtain⟨v,q⟩:=I.cell x c e;exact absurd (Js q.lt (by rw[z];exact hb)) (Jt _)
 ·exact absurd (Js (Jr (I.pin p hp).1) (by rw[z];exact hb)) (Jt _)
structure yD(P:Program)(w:World)(K:W.Frag)(tg:Expr)(J:It)(fp:List Addr)(it:Addr)(tn:Nat->Heap->Prop):Prop where
 mem:it∈fp
 obj:∀i h,tn i h->∀b∈fp,∃o,h.get? b=some o/\∀v,o.data≠.cell v
 keep:∀i h h',tn i h->(∀b∈fp,∀o,h.get? b=some o->h'.get? b=some o)->tn i h'
 item:∀(X:Cx),X.prog=P->X.w=w->X.K=K->X.calm=true->∀(i:Nat)(pins:List (Addr×Obj))(s:Shared)(σ:St)(H:Hp)(E:Value->Shared->Prop),aS X pins σ H s->(∀b∈fp,mD X pins H b)->tn i s.heap->J.go i H ->
  wpAny (model P w) X.A (pyNext (.ref it)) (fun r s1=>∃u,r=some u /\
   wpAny (model P w) X.A (letOwnedTupleGo tg (.ref it) u) (fun _ s2=>∃x H',aS X pins σ H' s2/\cq x u/\J.yld i H x H'/\tn (i+1) s2.heap/\∀b∈fp,H' b=none) E s1) E s
 done:∀(X:Cx),X.prog=P->X.w=w->X.K=K->X.calm=true->∀(i:Nat)(pins:List (Addr×Obj))(s:Shared)(σ:St)(H:Hp)(E:Value->Shared->Prop),aS X pins σ H s->(∀b∈fp,mD X pins H b)->tn i s.heap->J.stop i H ->
  wpAny (model P w) X.A (pyNext (.ref it)) (fun r s1=>r=none/\aS X pins σ H s1) E s
 self:∀(A:Around)(i:Nat)(s:Shared)(Q:Value->Shared->Prop)(E:Value->Shared->Prop),tn i s.heap->Q (.ref it) s->wpAny (model P w) A (pyIter (.ref it)) Q E s
abbrev TI:=St->Hp->(It->Hp->Prop)->Prop
def IK(X:Cx)(pins:List (Addr×Obj))(σ:St)(tg:Expr)(R:It->Hp->Prop)(itv:Value)(s2:Shared):Prop:=
 ∃(it:Addr)(fp:List Addr)(tn:Nat->Heap->Prop)(J:It)(H':Hp),itv=.ref it/\aS X pins σ H' s2/\yD X.prog X.w X.K tg J fp it tn/\tn 0 s2.heap/\(∀b∈fp,mD X pins H' b)/\R J H'
def PI(X:Cx)(tg iter:Expr)(wi:TI):Prop:=
 ∀(pins:List (Addr×Obj))(s:Shared)(σ:St)(H:Hp)(R:It->Hp->Prop),aS X pins σ H s->wi σ H R ->
  wpAny (model X.prog X.w) X.A (eval iter X.env) (fun v s1=>wpAny (model X.prog X.w) X.A (pyIter v) (IK X pins σ tg R) X.xe s1) X.xe s
theorem yV{M:Model}{A:Around}{E:Value->Shared->Prop}{s:Shared}{tg:Expr}{it:Addr}{u:Value}{o:Obj}{n:String}{vs:Array Value}{Q:Unit->Shared->Prop}(ho:s.heap.get? it=some o)(hc:o.cls=.type n)(hd:o.data=.fields vs)
  (hn:["enumerate", "zip", "dict_itemiterator", "dict_reverseitemiterator", "odict_iterator", "itertools.zip_longest", "itertools.pairwise"].contains n=false) (hQ:Q () s):wpAny M A (letOwnedTupleGo tg (.ref it) u) Q E s:=by
 unfold letOwnedTupleGo
 cases tg <;> first
  |exact JT hQ
  |(cases u <;> first
    |exact JT hQ
    | (refine JP (JU ho ?_)
       rw[hc,hd];show wpAny M A (if (["enumerate", "zip", "dict_itemiterator", "dict_reverseitemiterator", "odict_iterator", "itertools.zip_longest", "itertools.pairwise"].contains n&&vs[0]? == some (rawInt _))=true then _ else _) Q E s;rw[Jp (by intro h;rw[hn,JV]at h;cases h)]
       exact JT hQ))
def HH(K:W.Frag)(a:Addr):It:=
 ⟨fun i H=>∃xs x,eT K H a xs/\xs[i]?=some x,fun i H x H'=>H'=H/\∀xs,eT K H a xs->xs[i]?=some x,fun i H=>∃xs,eT K H a xs/\xs.length<=i⟩
def HS(K:W.Frag)(a:Addr):It:=
 ⟨fun i H=>∃xs x,fu K H a xs/\xs[i]?=some x,fun i H x H'=>H'=H/\∀xs,fu K H a xs->xs[i]?=some x,fun i H=>∃xs,fu K H a xs/\xs.length<=i⟩
def F4(lo:Int)(n:Nat):It:=⟨fun i _=>i<n,fun i H x H'=>H'=H/\x=.int (lo+i),fun i _=>n<=i⟩
theorem xb{P:Program}{w:World}{K:W.Frag}{tg:Expr}(a it:Addr):yD P w K tg (HH K a) [it] it (fun i h=>h.IsListIter it a i) where
 mem:=by simp
 obj:=fun i h st b hb=>by
  have e:b=it:=by simpa using hb
  subst e;obtain⟨o,e,c,d⟩:=st;exact⟨o,e,fun v z=>by rw[d]at z;cases z⟩
 keep:=fun i h h' st k=>st.at fun o e=>k it (by simp) o e
 item:=by
  intro X hP hw hK hc i pins s σ H E I hf st hg;subst hP hw hK;obtain⟨xs,x,hq,hx⟩:=hg;obtain⟨its,rv,p,hz⟩:=I.list hq;obtain⟨u,hu,ru⟩:=rv.get hx;obtain⟨f0,f1,f2,f3,f4,f5⟩:=hf it (by simp);refine wpAny_pyNext_list_item st p.isList (x:=u) (by simpa using hu) fun h' st' sb=>?_;have I1:aS X pins σ H {s with heap:=h'}:=I.turned (t':=s.toks) (fun b o hb e=>(sb.2 b hb).trans e) f0 f1 f3 f4 f5;obtain⟨o,e,c,d⟩:=id st';exact⟨u,rfl,yV (s:={s with heap:=h'}) e c d (by decide) ⟨x,H,I1,ru,⟨rfl,fun ys hy=>by rw[I.list_inj hy hq];exact hx⟩,st',fun b hb=>(hf b hb).1⟩⟩
 done:=by
  intro X hP hw hK hc i pins s σ H E I hf st hg;subst hP hw hK;obtain⟨xs,hq,hx⟩:=hg;obtain⟨its,rv,p,hz⟩:=I.list hq;obtain⟨f0,f1,f2,f3,f4,f5⟩:=hf it (by simp);have hl:=rv.length;exact wpAny_pyNext_list_end (I.ok.hd hc) st p.isList (by simp;omega) fun h' eb=>⟨rfl,I.turned (t':=s.toks) (fun b o hb e=>eb b o hb e) f0 f1 f3 f4 f5⟩
 self:=fun _ _ _ _ _ st h=>wpAny_pyIter_listiter st h
theorem uY{P:Program}{w:World}{K:W.Frag}{tg:Expr}(a it:Addr):yD P w K tg (HS K a) [it] it (fun i h=>h.IsTupleIter it a i) where
 mem:=by simp
 obj:=fun i h st b hb=>by
  have e:b=it:=by simpa using hb
  subst e;obtain⟨o,e,c,d⟩:=st;exact⟨o,e,fun v z=>by rw[d]at z;cases z⟩
 keep:=fun i h h' st k=>st.at fun o e=>k it (by simp) o e
 item:=by
  intro X hP hw hK hc i pins s σ H E I hf st hg;subst hP hw hK;obtain⟨xs,x,hq,hx⟩:=hg;obtain⟨its,rv,p,hz⟩:=I.tuple hq;obtain⟨u,hu,ru⟩:=rv.get hx;obtain⟨f0,f1,f2,f3,f4,f5⟩:=hf it (by simp);refine wpAny_pyNext_tuple_item st (show s.heap.IsTuple a its.toArray from p) (x:=u) (by simpa using hu) fun h' st' sb=>?_;have I1:aS X pins σ H {s with heap:=h'}:=I.turned (t':=s.toks) (fun b o hb e=>(sb.2 b hb).trans e) f0 f1 f3 f4 f5;obtain⟨o,e,c,d⟩:=id st';exact⟨u,rfl,yV (s:={s with heap:=h'}) e c d (by decide) ⟨x,H,I1,ru,⟨rfl,fun ys hy=>by rw[I.tuple_inj hy hq];exact hx⟩,st',fun b hb=>(hf b hb).1⟩⟩
 done:=by
  intro X hP hw hK hc i pins s σ H E I hf st hg;subst hP hw hK;obtain⟨xs,hq,hx⟩:=hg;obtain⟨its,rv,p,hz⟩:=I.tuple hq;obtain⟨f0,f1,f2,f3,f4,f5⟩:=hf it (by simp);have hl:=rv.length;exact wpAny_pyNext_tuple_end (I.ok.hd hc) st (show s.heap.IsTuple a its.toArray from p) (by simp;omega) fun h' eb=>⟨rfl,I.turned (t':=s.toks) (fun b o hb e=>eb b o hb e) f0 f1 f3 f4 f5⟩
 self:=fun _ _ _ _ _ st h=>wpAny_pyIter_tupleiter st h
theorem uZ{P:Program}{w:World}{K:W.Frag}{tg:Expr}(it:Addr)(lo:Int)(n:Nat):yD P w K tg (F4 lo n) [it] it (fun i h=>IsRangeIter h it (lo+(i:Nat)*1) ((n:Int)-(i:Nat)) 1) where
 mem:=by simp
 obj:=fun i h st b hb=>by
  have e:b=it:=by simpa using hb
  subst e
  exact⟨_,st,fun v z=>by
   have z':Data.fields _=Data.cell v:=z
   cases z'⟩
 keep:=fun i h h' st k=>k it (by simp) _ st
 item:=by
  intro X hP hw hK hc i pins s σ H E I hf st hg;subst hP hw hK;obtain⟨f0,f1,f2,f3,f4,f5⟩:=hf it (by simp);have W:=Walks.range (prog:=X.prog) (w:=X.w) (I.ok.hd hc) it lo 1 n;refine W.item i s _ _ hg st fun v h' tk hv st' kk=>?_;obtain⟨t,rfl⟩:=hv;have I1:aS X pins σ H {s with heap:=h',toks:=tk}:=I.turned (fun b o hb e=>kk b o (by simpa using hb) e) f0 f1 f3 f4 f5;refine⟨_,rfl,yV (s:={s with heap:=h',toks:=tk}) (n:="range_iterator") st' rfl rfl (by decide) ⟨.int (lo+i),H,I1,⟨t,?_⟩,⟨rfl,rfl⟩,st',fun b hb=>(hf b hb).1⟩⟩;rw[Int.mul_one]
 done:=by
  intro X hP hw hK hc i pins s σ H E I hf st hg;subst hP hw hK;obtain⟨f0,f1,f2,f3,f4,f5⟩:=hf it (by simp);exact wpAny_pyNext_range_end (I.ok.hd hc) st (by have:n<=i:=hg;omega) fun h' eb=>⟨rfl,I.turned (t':=s.toks) (fun b o hb e=>eb b o hb e) f0 f1 f3 f4 f5⟩
 self:=fun _ _ _ _ _ st h=>wpAny_pyIter_rangeiter st h
end L2
namespace L2
open PySem PySem.Spec PyProof.Rows
section
variable{X:Cx}{tg:Expr}
theorem sT{pins:List (Addr×Obj)}{σ:St}{H:Hp}{s:Shared}{R:It->Hp->Prop}{E:Value->Shared->Prop}{lo hi:Int}{t u v:Tok}{tk:Nat}(I:aS X pins σ H s)(h1:-(2^62)<=lo)(h2:lo<2^62)(h3:-(2^62)<=hi)(h4:hi<2^62)
  (q:R (F4 lo (hi-lo).toNat) H):wpAny (model X.prog X.w) X.A (pyIter (.ref s.heap.objs.size)) (IK X pins σ tg R) E {s with heap:=s.heap.push {cls:=.type "range",data:=.fields #[.int lo t,.int hi u,.int 1 v]},toks:=tk}:=by
 refine wpAny_pyIter_range (IsRange.new ..) (small_one h1 h2 h3 h4) ?_;have I1:aS X pins σ H {s with heap:=s.heap.push {cls:=.type "range",data:=.fields #[.int lo t,.int hi u,.int 1 v]},toks:=tk}:=I.kept fun b o e=>JW _ e
 refine⟨(s.heap.push {cls:=.type "range",data:=.fields #[.int lo t,.int hi u,.int 1 v]}).objs.size,[(s.heap.push {cls:=.type "range",data:=.fields #[.int lo t,.int hi u,.int 1 v]}).objs.size],_,_,H,rfl,
  I1.kept (t':=tk) fun b o e=>JW _ e,uZ _ lo (hi-lo).toNat,?_,fun b hb=>?_,q⟩
 ·have e1 : lo + ((0 : Nat) : Int) * 1 = lo := by simp
  have e2:(((hi-lo).toNat:Nat):Int)-((0:Nat):Int)=Builtin.Range.rangeSize lo hi 1:=by rw[rangeSize_one];split <;> omega
  show IsRangeIter _ _ (lo+((0:Nat):Int)*1) ((((hi-lo).toNat:Nat):Int)-((0:Nat):Int)) 1;rw[e1,e2];exact JX _ rfl
 ·have e : b = (s.heap.push { cls := .type "range", data := .fields #[.int lo t, .int hi u, .int 1 v] }).objs.size := by simpa using hb
  subst e;exact I1.fpOk (JY _) (I1.hok.fresh (JY _))
def Hl(ta:TA):TI:=fun σ H R=>ta σ H fun vs H1=>∃j:Int,vs=[.int j]/\-(2^62)<=j/\j<2^62/\R (F4 0 j.toNat) H1
def Hk(ta:TA):TI:=fun σ H R=>ta σ H fun vs H1=>∃i j:Int,vs=[.int i,.int j]/\(-(2^62)<=i/\i<2^62/\-(2^62)<=j/\j<2^62)/\R (F4 i (j-i).toNat) H1
theorem xu {a:Expr}{ta:TA}{p pos:Pos} (hg:Gl X "range") (hm:X.mg "range" = none) (ha:PA X [a] ta) (hs:starEach [a] X.env=[(false,eval a X.env)]:=by rfl):PI X tg (.Call (.Name "range" p) [a] [] pos) (Hl ta):=by
 intro pins s σ H R I h;refine Call_ (lG I hg hm boot_range (JZ (d3 (ha pos pins s σ H _ I h) fun us s1 ⟨vs,H1,I1,r1,q1⟩=>?_) hs rfl));obtain⟨j,e,q1,q2,q⟩:=q1;subst e;cases r1 with
 |cons r rr=>
  cases rr;obtain⟨t,rfl⟩:=r;exact call_range_1 (sT I1 (by omega) (by omega) q1 q2 (by simpa using q))
theorem xt {a b:Expr}{ta:TA}{p pos:Pos} (hg:Gl X "range") (hm:X.mg "range" = none) (ha:PA X [a,b] ta) (hs:starEach [a,b] X.env=[(false,eval a X.env),(false,eval b X.env)]:=by rfl) (hs2:starEach [b] X.env=[(false,eval b X.env)]:=by rfl) :
  PI X tg (.Call (.Name "range" p) [a,b] [] pos) (Hk ta):=by
 intro pins s σ H R I h;refine Call_ (lG I hg hm boot_range (JZ (d3 (ha pos pins s σ H _ I h) fun us s1 ⟨vs,H1,I1,r1,q1⟩=>?_) (by rw[hs,hs2]) (by rw[hs2];rfl)));obtain⟨i,j,e,⟨q1,q2,q3,q4⟩,q⟩:=q1;subst e;cases r1 with
 |cons r rr=>
  cases rr with
  |cons r' rr=>
   cases rr;obtain⟨t,rfl⟩:=r;obtain⟨t',rfl⟩:=r';exact call_range_2 (sT I1 q1 q2 q3 q4 q)
def Ie(wi:TI)(g:TG)(tb:TS):TS:=fun D σ H=>wi σ H fun J H1=>∃W:Nat->Nat->St->Hp->Prop,(∃m,W 0 m σ H1)/\∀i m σ H,W i m σ H ->
 (J.stop i H/\D.nx σ H)\/(J.go i H/\∃N:St->Hp->Prop,(∀σ' H',N σ' H'->∃m',m'<m/\W (i+1) m' σ' H')/\∀x H',J.yld i H x H'->g x σ H' fun σ2 H2=>tb {D with nx:=N,ct:=N,bk:=D.nx} σ2 H2)
def nI(fp:List Addr)(h:Heap):List (Addr×Obj):=fp.filterMap fun b=>(h.get? b).map fun o=>(b,o)
theorem iS{fp:List Addr}{h:Heap}{b:Addr}{o:Obj}(hb:b∈fp)(e:h.get? b=some o):(b,o)∈nI fp h:=J0.mpr ⟨b,hb,by rw[e];rfl⟩
theorem xC{fp:List Addr}{h:Heap}{p:Addr×Obj}(hp:p∈nI fp h):p.1∈fp/\h.get? p.1=some p.2:=by
 obtain⟨b,hb,e⟩:=J0.mp hp;cases q:h.get? b with
 |none=>rw[q]at e;cases e
 |some o=>
  rw[q]at e;have e':(b,o)=p:=Jq e;subst e';exact⟨hb,q⟩
theorem aS.pinned{pins:List (Addr×Obj)}{σ:St}{H:Hp}{s:Shared}{fp:List Addr}(I:aS X pins σ H s)(hf:∀b∈fp,mD X pins H b)(ho:∀b∈fp,∃o,s.heap.get? b=some o/\∀v,o.data≠.cell v):aS X (pins++nI fp s.heap) σ H s:=
 I.pins_of fun p hp=>(JE.mp hp).elim (fun z=>I.pin p (J1 _ z)) fun z=>by
  obtain⟨hb,e⟩:=xC z;obtain⟨f0,f1,f2,_⟩:=hf p.1 hb;obtain⟨o,e',d⟩:=ho p.1 hb;rw[e]at e';cases e';exact⟨e,f0,f1,f2,d⟩
theorem aS.unpinned{pins pl:List (Addr×Obj)}{σ:St}{H:Hp}{s:Shared}(I:aS X (pins++pl) σ H s):aS X pins σ H s:=I.pins_of fun p hp=>I.pin p (J1 _ (JF _ hp))
theorem EE{iter:Expr}{body:List Stmt}{wi:TI}{g:TG}{tb:TS}{pos:Pos}(hp:PassesOwn (model X.prog X.w) X.A X.env X.xe)(hc:X.calm=true)(hi:PI X tg iter wi)(hg:PG X tg g)(hb:jV X body tb)
  (hs:∀x,foldedSetIterable iter X.env x=pure x:=by intro _;rfl):PS X (.For tg iter body [] pos) (Ie wi g tb):=by
 intro pins s σ H D I h;refine wpAny_For (d3 (hi pins s σ H _ I h) fun v s1 h1=>d3 h1 fun itv s2 h2=>?_) hs;obtain⟨it,fp,tn,J,H2,e,I2,T,st2,f2,W,⟨m0,w0⟩,turn⟩:=h2;subst e;have stat:∀{H':Hp},(∀b∈fp,H' b=none)->∀b∈fp,mD X pins H' b:=fun hn b hb=>⟨hn b hb,(f2 b hb).2⟩;refine codeAny_forLoop_any (fun n s'=>∃i σ' H',aS X pins σ' H' s'/\tn i s'.heap/\(∀b∈fp,H' b=none)/\W i n σ' H') ?_ m0 ⟨0,σ,H2,I2,st2,fun b hb=>(f2 b hb).1,w0⟩
 rintro n s3 ⟨i,σ3,H3,I3,st3,fr3,w3⟩
 rcases turn i n σ3 H3 w3 with⟨stop,qn⟩|⟨go,N,hN,step⟩
 ·refine J2 hp (d3 (T.done X rfl rfl rfl hc i pins s3 σ3 H3 X.xe I3 (stat fr3) st3 stop) fun r s4 ⟨hr,I4⟩=>?_);subst hr;exact JO ⟨σ3,H3,I4,qn⟩
 ·refine J2 hp (d3 (T.item X rfl rfl rfl hc i pins s3 σ3 H3 X.xe I3 (stat fr3) st3 go) fun r s4 ⟨u, hr, h4⟩ => ?_);subst hr;refine J2 hp (d3 h4 fun _ s5 ⟨x,H5,I5,r5,y5,st5,fr5⟩=>?_);have I5':=I5.pinned (stat fr5) (T.obj _ _ st5);refine J2 hp (d3 (hg _ s5 σ3 H5 x u _ I5' r5 (step x H5 y5)) fun _ s6 ⟨σ6,H6,I6,q6⟩=>?_);refine J2 hp (d3 (hb _ s6 σ6 H6 _ I6 q6) fun f s7 q7=>?_)
  have again:∀{σ7:St}{H7:Hp},aS X (pins++nI fp s5.heap) σ7 H7 s7->N σ7 H7->∃m,m<n/\∃i σ' H',aS X pins σ' H' s7/\tn i s7.heap/\(∀b∈fp,H' b=none)/\W i m σ' H':=fun {σ7 H7} I7 n7=>by
   obtain⟨m',hm,w7⟩:=hN σ7 H7 n7;refine⟨m',hm,i+1,σ7,H7,I7.unpinned,T.keep _ _ _ st5 fun b hb o e=>(I7.pin (b,o) (J1 _ (J1 _ (iS hb e)))).1,fun b hb=>?_,w7⟩;obtain⟨o,e,d⟩:=T.obj _ _ st5 b hb;exact(I7.pin (b,o) (J1 _ (J1 _ (iS hb e)))).2.1
  cases f with
  |next=>obtain⟨σ7,H7,I7,n7⟩:=q7;exact again I7 n7
  |cont=>obtain⟨σ7,H7,I7,n7⟩:=q7;exact again I7 n7
  |brk=>obtain⟨σ7,H7,I7,q7⟩:=q7;exact⟨σ7,H7,I7.unpinned,q7⟩
  |ret v=>obtain⟨x7,σ7,H7,I7,r7,q7⟩:=q7;exact⟨x7,σ7,H7,I7.unpinned,r7,q7⟩
end
end L2
namespace L2
open PySem PySem.Spec PyProof.Rows
abbrev R2:=V->V->Hp->VK->Prop
def iZ(X:Cx)(f:Value->Value->Sem Value)(r:R2):Prop:=
 ∀(pins:List (Addr×Obj))(s:Shared)(σ:St)(H:Hp)(x y:V)(v u:Value)(Q:VK),aS X pins σ H s->cq x v->cq y u->r x y H Q ->
  wpAny (model X.prog X.w) X.A (f v u) (EP X pins σ Q) X.xe s
def HF(X:Cx)(f:Value->Sem Value)(r:V->Hp->VK->Prop):Prop:=
 ∀(pins:List (Addr×Obj))(s:Shared)(σ:St)(H:Hp)(x:V)(v:Value)(Q:VK),aS X pins σ H s->cq x v->r x H Q ->
  wpAny (model X.prog X.w) X.A (f v) (EP X pins σ Q) X.xe s
def bY(X:Cx)(f:Value)(r:List V->Hp->VK->Prop):Prop:=
 ∀(pins:List (Addr×Obj))(s:Shared)(σ:St)(H:Hp)(xs:List V)(us:List Value)(Q:VK),aS X pins σ H s->aX xs us->r xs H Q ->
  wpAny (model X.prog X.w) X.A (call f us) (EP X pins σ Q) X.xe s
def IC(X:Cx)(r:V->Hp->(Bool->Hp->Prop)->Prop):Prop:=
 ∀(pins:List (Addr×Obj))(s:Shared)(σ:St)(H:Hp)(x:V)(v:Value)(Q:Bool->Hp->Prop),aS X pins σ H s->cq x v->r x H Q ->
  wpAny (model X.prog X.w) X.A (truthy v) (TP X pins σ Q) X.xe s
def HA(r:R2)(ta tb:TE):TE:=fun σ H Q=>ta σ H fun x H1=>tb σ H1 fun y H2=>r x y H2 Q
def IW(r:V->Hp->VK->Prop)(ta:TE):TE:=fun σ H Q=>ta σ H fun x H1=>r x H1 Q
def rI(C:Int->Int->Prop)(g:Int->Int->V):R2:=fun x y H Q=>∃i j,x=.int i/\y=.int j/\C i j/\Q (g i j) H
def F6(g:Int->Int->V):R2:=fun x y H Q=>∃i j,x=.int i/\y=.int j/\Q (g i j) H
def rU(g:Int->V):V->Hp->VK->Prop:=fun x H Q=>∃i,x=.int i/\Q (g i) H
section
variable{X:Cx}{a b c:Expr}{ta tb tc:TE}{pos:Pos}
theorem DH(ha:PE X a ta)(hb:PE X b tb){pins:List (Addr×Obj)}{s:Shared}{σ:St}{H:Hp}{R:V->V->Hp->Prop}(I:aS X pins σ H s)
  (h:ta σ H fun x H1=>tb σ H1 fun y H2=>R x y H2) {Q:Value->Shared->Prop}{f:Value->Value->Sem Value}
  (hf:∀v u s2 x y H2,aS X pins σ H2 s2->cq x v->cq y u->R x y H2->wpAny (model X.prog X.w) X.A (f v u) Q X.xe s2) :
  wpAny (model X.prog X.w) X.A (eval a X.env) (fun v s₁=>wpAny (model X.prog X.w) X.A (eval b X.env) (fun u s₂=>wpAny (model X.prog X.w) X.A (f v u) Q X.xe s₂) X.xe s₁) X.xe s:=by
 refine d3 (ha pins s σ H _ I h) fun v s1 ⟨x,H1,I1,r1,q1⟩=>?_;refine d3 (hb pins s1 σ H1 _ I1 q1) fun u s2 ⟨y,H2,I2,r2,q2⟩=>?_;exact hf v u s2 x y H2 I2 r1 r2 q2
theorem G3{op:Operator}{r:R2}(ho:iZ X (binaryOp op) r)(ha:PE X a ta)(hb:PE X b tb):PE X (.BinOp a op b pos) (HA r ta tb):=by
 intro pins s σ H Q I h;exact wpAny_BinOp (DH ha hb I h fun v u s2 x y H2 I2 rx ry q=>ho pins s2 σ H2 x y v u Q I2 rx ry q)
theorem G0{op:UnaryOp}{r:V->Hp->VK->Prop}(ho:HF X (unaryOp op) r)(ha:PE X a ta):PE X (.UnaryOp op a pos) (IW r ta):=by
 intro pins s σ H Q I h;exact UnaryOp_ (d3 (ha pins s σ H _ I h) fun v s1 ⟨x,H1,I1,r1,q1⟩=>ho pins s1 σ H1 x v Q I1 r1 q1)
theorem HD{f:Value->Value->Sem Value}{C:Int->Int->Prop}{g:Int->Int->Int}
  (rule:∀(i j:Int)(t u:Tok)(s:Shared)(Q:Value->Shared->Prop)(E:Value->Shared->Prop),C i j->Q (.int (g i j) s.toks) {s with toks:=s.toks+1}->wpAny (model X.prog X.w) X.A (f (.int i t) (.int j u)) Q E s) :
  iZ X f (rI C fun i j=>.int (g i j)):=by
 intro pins s σ H x y v u Q I rx ry h;obtain⟨i,j,rfl,rfl,hc,q⟩:=h;obtain⟨t,rfl⟩:=rx;obtain⟨t',rfl⟩:=ry;exact rule i j t t' s _ _ hc ⟨.int (g i j),H,I.tok _,⟨_,rfl⟩,q⟩
theorem Gp{f:Value->Value->Sem Value}{g:Int->Int->Int}
  (rule:∀(i j:Int)(t u:Tok)(s:Shared)(Q:Value->Shared->Prop)(E:Value->Shared->Prop),Q (.int (g i j) s.toks) {s with toks:=s.toks+1}->wpAny (model X.prog X.w) X.A (f (.int i t) (.int j u)) Q E s) :
  iZ X f (F6 fun i j=>.int (g i j)):=by
 intro pins s σ H x y v u Q I rx ry h;obtain⟨i,j,rfl,rfl,q⟩:=h;obtain⟨t,rfl⟩:=rx;obtain⟨t',rfl⟩:=ry;exact rule i j t t' s _ _ ⟨.int (g i j),H,I.tok _,⟨_,rfl⟩,q⟩
def A5(i j:Int):Prop:=0<j/\j<1073741824
def yF(i j:Int):Prop:=0<=j/\j<=1000000/\i.natAbs<2^64
def se(i j:Int):Prop:=(-(2^64)<i/\i<2^64)\/(-(2^64)<j/\j<2^64)
theorem se.ok{i j:Int}(h:se i j):IntMulOk i j:=by
 rcases h with⟨h1,h2⟩|⟨h1,h2⟩
 ·exact .of_left (intBits_le_64 h1 h2)
 ·exact .of_right (intBits_le_64 h1 h2)
theorem E7:iZ X (binaryOp .Add) (F6 fun i j=>.int (i+j)):=Gp fun _ _ _ _ _ _ _ q=>add_int q
theorem EW:iZ X (binaryOp .Sub) (F6 fun i j=>.int (i-j)):=Gp fun _ _ _ _ _ _ _ q=>sub_int q
theorem E1:iZ X (binaryOp .Mult) (rI se fun i j=>.int (i*j)):=HD fun _ _ _ _ _ _ _ hc q=>mul_int q hc.ok
theorem B6:iZ X (binaryOp .FloorDiv) (rI A5 fun i j=>.int (i / j)):=HD fun i j _ _ _ _ _ hc q=>by
 have h1:(0:Int)<j:=hc.1;have h2:j<1073741824:=hc.2;exact floordiv_int (by omega) (by rw[Int.fdiv_eq_ediv_of_nonneg i (by omega)];exact q) (.inl (PyProof.noPylong_small (by omega)))
theorem E2:iZ X (binaryOp .Mod) (rI (fun _ j=>0<j) fun i j=>.int (i%j)):=HD fun i j _ _ _ _ _ hc q=>by
 have h1:(0:Int)<j:=hc;exact mod_int' (by omega) (by rw[Int.fmod_eq_emod_of_nonneg i (by omega)];exact q)
theorem EY:iZ X (binaryOp .Pow) (rI yF fun i j=>.int (i^j.toNat)):=HD fun _ _ _ _ _ _ _ hc q=>pow_int_small hc.1 hc.2.1 hc.2.2 q
theorem IV{f:Value->Sem Value}{g:Int->Int}
  (rule:∀(i:Int)(t:Tok)(s:Shared)(Q:Value->Shared->Prop)(E:Value->Shared->Prop),Q (.int (g i) s.toks) {s with toks:=s.toks+1}->wpAny (model X.prog X.w) X.A (f (.int i t)) Q E s) :
  HF X f (rU fun i=>.int (g i)):=by
 intro pins s σ H x v Q I rx h;obtain⟨i,rfl,q⟩:=h;obtain⟨t,rfl⟩:=rx;exact rule i t s _ _ ⟨.int (g i),H,I.tok _,⟨_,rfl⟩,q⟩
theorem DT:HF X (unaryOp .USub) (rU fun i=>.int (-i)):=IV fun _ _ _ _ _ q=>neg_int q
end
def Ii:V->V->Bool
 |.non,.non=>true | .non,.int _=>true | .int _,.non=>true | .non,.bl _=>true | .bl _,.non=>true | .non,.str _=>true | .str _,.non=>true
 |.int _,.int _=>true | .bl _,.bl _=>true | .str _,.str _=>true | .byt _,.byt _=>true
 |.int _,.str _=>true | .str _,.int _=>true | .bl _,.str _=>true | .str _,.bl _=>true
 |_,_=>false
def HP:R2:=fun x y H Q=>Ii x y=true/\Q (.bl (!decide (x=y))) H
theorem CO{i j:Int}:decide (V.int i=V.int j)=(i == j):=by
 rw[J3];simp
theorem FW{i j:Bool}:decide (V.bl i=V.bl j)=(i == j):=by
 rw[J3];simp
theorem CN{i j:Str}:decide (V.str i=V.str j)=(i == j):=by
 rw[J3];simp
theorem CP{i j:Array UInt8}:decide (V.byt i=V.byt j)=(i.toList == j.toList):=by
 rw[J3];cases i;cases j;simp
section
variable{X:Cx}{a b c:Expr}{ta tb tc:TE}{pos:Pos}
theorem eJ{pins:List (Addr×Obj)}{σ:St}{H:Hp}{s:Shared}{Q:VK}{k k':Bool}(I:aS X pins σ H s)(q:Q (.bl k) H)(e:k=k'):EP X pins σ Q (.bool k') s:=by
 subst e;exact⟨.bl k,H,I,rfl,q⟩
theorem Hb:iZ X (compareOp .NotEq) HP:=by
 intro pins s σ H x y v u Q I rx ry h;obtain⟨hs,q⟩:=h;cases x with
 |non=>
  cases rx;cases y with
  |non=>cases ry;exact PySem.EqNone.ne_none_none (eJ I q (by simp))
  |bl j=>cases ry;exact PySem.EqNone.ne_none_bool (eJ I q (by simp))
  |int j=>obtain⟨t',rfl⟩:=ry;exact PySem.EqNone.ne_none_int (eJ I q (by simp))
  |str j=>obtain⟨t',rfl⟩:=ry;exact PySem.EqNone.ne_none_str (eJ I q (by simp))
  |_=>exact absurd (show false=true from hs) J4
 |bl i=>
  cases rx;cases y with
  |non=>cases ry;exact PySem.EqNone.ne_bool_none (eJ I q (by simp))
  |bl j=>cases ry;exact ne_bool (eJ I q (JN not FW))
  |str j=>obtain⟨t',rfl⟩:=ry;exact PySem.EqMixed.ne_bool_str (eJ I q (by simp))
  |_=>exact absurd (show false=true from hs) J4
 |int i=>
  obtain⟨t,rfl⟩:=rx;cases y with
  |non=>cases ry;exact PySem.EqNone.ne_int_none (eJ I q (by simp))
  |int j=>obtain⟨t',rfl⟩:=ry;exact ne_int (eJ I q (JN not CO))
  |str j=>obtain⟨t',rfl⟩:=ry;exact PySem.EqMixed.ne_int_str (eJ I q (by simp))
  |_=>exact absurd (show false=true from hs) J4
 |str i=>
  obtain⟨t,rfl⟩:=rx;cases y with
  |non=>cases ry;exact PySem.EqNone.ne_str_none (eJ I q (by simp))
  |bl j=>cases ry;exact PySem.EqMixed.ne_str_bool (eJ I q (by simp))
  |int j=>obtain⟨t',rfl⟩:=ry;exact PySem.EqMixed.ne_str_int (eJ I q (by simp))
  |str j=>obtain⟨t',rfl⟩:=ry;exact ne_str (eJ I q (JN not CN))
  |_=>exact absurd (show false=true from hs) J4
 |byt i=>
  obtain⟨t,rfl⟩:=rx;cases y with
  |byt j=>obtain⟨t',rfl⟩:=ry;exact W.ne_bytes (eJ I q (JN not CP))
  |_=>exact absurd (show false=true from hs) J4
 |_=>cases y <;> exact absurd (show false=true from hs) J4
theorem iZ.or{f:Value->Value->Sem Value}{r r':R2}(h:iZ X f r)(h':iZ X f r'):iZ X f (fun x y H Q=>r x y H Q\/r' x y H Q):=by
 intro pins s σ H x y v u Q I rx ry q;rcases q with q|q
 ·exact h pins s σ H x y v u Q I rx ry q
 ·exact h' pins s σ H x y v u Q I rx ry q
theorem BX{op:CmpOp}{r:R2}(ho:iZ X (compareOp op) r)(ha:PE X a ta)(hb:PE X b tb)(hm:behindInMarks op b=false):PE X (.Compare a [op] [b] pos) (HA r ta tb):=by
 intro pins s σ H Q I h;exact wpAny_Compare1 (DH ha hb I h fun v u s2 x y H2 I2 rx ry q=>ho pins s2 σ H2 x y v u Q I2 rx ry q) hm
def GA(t:TE):TT:=fun σ H Q=>t σ H fun x H'=>∃k,x=.bl k/\Q k H'
theorem BK{op:CmpOp}{r:R2}(ho:iZ X (compareOp op) r)(ha:PE X a ta)(hb:PE X b tb)(hm:behindInMarks op b=false):PT X (.Compare a [op] [b] pos) (GA (HA r ta tb)):=by
 intro pins s σ H Q I h
 refine wpAny_isTrue_Compare1 (d3 (ha pins s σ H _ I h) fun v s1 ⟨x,H1,I1,r1,q1⟩=>d3 (hb pins s1 σ H1 _ I1 q1) fun u s2 ⟨y,H2,I2,r2,q2⟩=>
  d3 (ho pins s2 σ H2 x y v u _ I2 r1 r2 q2) fun c s3 ⟨z,H3,I3,r3,k,e,q3⟩=>?_) hm
 subst e;cases r3;exact JL ⟨H3,I3,q3⟩
def zb(r r':R2)(ta tb tc:TE):TE:=fun σ H Q=>ta σ H fun x H1=>tb σ H1 fun y H2=>r x y H2 fun z H3=>∃k,z=.bl k /\
 (if k=true then tc σ H3 fun w' H4=>r' y w' H4 Q else Q (.bl false) H3)
theorem Ac{op op':CmpOp}{r r':R2}(ho:iZ X (compareOp op) r)(ho':iZ X (compareOp op') r')(ha:PE X a ta)(hb:PE X b tb)(hc:PE X c tc)
  (hm:lastMarks [op,op'] [b,c]=false:=by with_unfolding_all rfl):PE X (.Compare a [op,op'] [b,c] pos) (zb r r' ta tb tc):=by
 intro pins s σ H Q I h
 refine Compare_chain (d3 (ha pins s σ H _ I h) fun v s1 ⟨x,H1,I1,r1,q1⟩=>chain_link (d3 (hb pins s1 σ H1 _ I1 q1) fun u s2 ⟨y,H2,I2,r2,q2⟩=>
  d3 (ho pins s2 σ H2 x y v u _ I2 r1 r2 q2) fun d s3 ⟨z,H3,I3,r3,k,e,q3⟩=>?_)) hm
 subst e;cases r3;refine JL ?_;cases k with
 |false=>exact ite_ff ⟨.bl false,H3,I3,rfl,q3⟩
 |true=>exact ite_tt (chain_last (d3 (hc pins s3 σ H3 _ I3 q3) fun w' s4 ⟨z',H4,I4,r4,q4⟩=>ho' pins s4 σ H4 y z' u w' Q I4 r2 r4 q4))
def DK(K:W.Frag)(x:V)(H:Hp)(k:Bool):Prop:=
 match x with
 |.non=>k=false
 |.bl b=>k=b
 |.int i=>k=(i != 0)
 |.str y=>y.length<=sizeLine/\k=((y.length:Int) != 0)
 |.byt y=>y.size<=sizeLine/\k=((y.size:Int) != 0)
 |.ref p=>(∃xs,eT K H p xs/\k=!xs.isEmpty)\/(∃xs,fu K H p xs/\k=!xs.isEmpty)\/∃kvs,H p=some (.dK kvs)/\k=!kvs.isEmpty
 |_=>False
theorem vq{κ:Type}{kvs:List (κ×V)}{vs:List (κ×Value)}(r:KV kvs vs):(!vs.isEmpty)=!kvs.isEmpty:=by
 cases r <;> rfl
theorem om{xs:List V}{its:List Value}(r:aX xs its):(!its.toArray.isEmpty)=!xs.isEmpty:=by
 cases r <;> simp
theorem lF:(sizeLine:Nat)<2^63:=by rw[J5];decide
theorem DZ:IC X (fun x H Q=>∃k,DK X.K x H k/\Q k H):=by
 intro pins s σ H x v Q I rx h;obtain⟨k,e,q⟩:=h;have hl:=lF;have hs:sizeLine=16777216:=J5;cases x with
 |non=>
  cases rx;have e':k=false:=e;subst e';exact truthy_none ⟨H,I,q⟩
 |bl b=>
  cases rx;have e':k=b:=e;subst e';exact JL ⟨H,I,q⟩
 |int i=>
  obtain⟨t,rfl⟩:=rx;have e':k=(i != 0):=e;subst e';exact PySem.P.truthy_int ⟨H,I,q⟩
 |str y=>
  obtain⟨t,rfl⟩:=rx;obtain⟨hy,e'⟩:y.length<=sizeLine/\k=((y.length:Int) != 0):=e;subst e';exact PySem.P.truthy_str (by omega) ⟨H,I.tok _,q⟩
 |byt y=>
  obtain⟨t,rfl⟩:=rx;obtain⟨hy,e'⟩:y.size<=sizeLine/\k=((y.size:Int) != 0):=e;subst e';exact W.truthy_bytes (by omega) ⟨H,I.tok _,q⟩
 |ref p=>
  cases rx;have e':(∃xs,eT X.K H p xs/\k=!xs.isEmpty)\/(∃xs,fu X.K H p xs/\k=!xs.isEmpty)\/∃kvs,H p=some (.dK kvs)/\k=!kvs.isEmpty:=e;rcases e' with⟨xs,hx,e'⟩|⟨xs,hx,e'⟩|⟨kvs,hx,e'⟩
  ·subst e';obtain⟨its,r,pl,hz⟩:=I.list hx;have hlen:=r.length;exact wpAny_truthy_list pl.isList (by simp only[J6];omega) ⟨H,I.tok _,by rw[om r];exact q⟩
  ·subst e';obtain⟨its,r,pl,hz⟩:=I.tuple hx;have hlen:=r.length;exact truthy_tuple pl (by simp only[J6];omega) ⟨H,I.tok _,by rw[om r];exact q⟩
  ·subst e';obtain⟨hz,hS,vs,r,m⟩:kvs.length<=sizeLine/\(p == sysModules)=false/\∃vs,KV kvs vs/\s.heap.DictOf (mS X.prog X.w) p vs:=I.hok p _ hx;have hlen:kvs.length=vs.length:=Paired.length r;exact wpAny_truthy_dict hS m (by omega) ⟨H,I.tok _,by rw[vq r];exact q⟩
 |_=>exact(show False from e).elim
theorem z5(ha:PE X a ta)(he:∀whole,isTrue a X.env whole=(do let v <- whole;standAt a.pos;holding [v] (truthy v))) :
  PT X a (fun σ H Q=>ta σ H fun x H'=>∃k,DK X.K x H' k/\Q k H'):=by
 intro pins s σ H Q I h;exact isTrue_plain (d3 (ha pins s σ H _ I h) fun v s1 ⟨x,H1,I1,r1,q1⟩=>DZ pins s1 σ H1 x v Q I1 r1 q1) (he _)
theorem vh:iZ X (binaryOp .Add) (fun x y H Q=>∃i j,x=.str i/\y=.str j/\i.length+j.length<=sizeLine/\Q (.str (i++j)) H):=by
 intro pins s σ H x y v u Q I rx ry h;obtain⟨i,j,rfl,rfl,hz,q⟩:=h;obtain⟨t,rfl⟩:=rx;obtain⟨t',rfl⟩:=ry;exact add_str (fun t' tk=>⟨.str (i++j),H,I.tok _,⟨_,rfl⟩,q⟩) hz
theorem dk{x:V}{us:List Value}(r:aX [x] us):∃u,us=[u]/\cq x u:=by
 cases r with
 |cons r1 r2=>cases r2;exact⟨_,rfl,r1⟩
theorem yJ{x y:V}{us:List Value}(r:aX [x,y] us):∃u w',us=[u,w']/\cq x u/\cq y w':=by
 cases r with
 |cons r1 r2=>
  cases r2 with
  |cons r3 r4=>cases r4;exact⟨_,_,rfl,r1,r3⟩
theorem x8 (hc:X.calm=true):bY X (.builtin "max") (fun xs H Q=>∃i j,xs=[.int i,.int j]/\Q (.int (if j>i then j else i)) H):=by
 intro pins s σ H xs us Q I r h;obtain⟨i,j,rfl,q⟩:=h;obtain⟨u,w',rfl,⟨t,rfl⟩,⟨t',rfl⟩⟩:=yJ r;refine max_two_ints (I.ok.hd hc) fun h' tk k=>⟨_,H,I.kept k,?_,q⟩;by_cases hj:j>i
 ·rw[Jo hj,Jo hj];exact⟨_,rfl⟩
 ·rw[Jp hj,Jp hj];exact⟨_,rfl⟩
theorem x5 (hc:X.calm=true):bY X (.builtin "min") (fun xs H Q=>∃i j,xs=[.int i,.int j]/\Q (.int (if j<i then j else i)) H):=by
 intro pins s σ H xs us Q I r h;obtain⟨i,j,rfl,q⟩:=h;obtain⟨u,w',rfl,⟨t,rfl⟩,⟨t',rfl⟩⟩:=yJ r;refine min_two_ints (I.ok.hd hc) fun h' tk k=>⟨_,H,I.kept k,?_,q⟩;by_cases hj:j<i
 ·rw[Jo hj,Jo hj];exact⟨_,rfl⟩
 ·rw[Jp hj,Jp hj];exact⟨_,rfl⟩
theorem yc:bY X (.type "int") (fun xs H Q=>(∃i,xs=[.int i]/\Q (.int i) H)\/∃k,xs=[.bl k]/\Q (.int (if k then 1 else 0)) H):=by
 intro pins s σ H xs us Q I r h;rcases h with⟨i,rfl,q⟩|⟨k,rfl,q⟩
 ·obtain⟨u,rfl,t,rfl⟩:=dk r;exact call_int_int ⟨.int i,H,I,⟨_,rfl⟩,q⟩
 ·obtain⟨u,rfl,r1⟩:=dk r;cases r1;exact call_int_bool ⟨.int (if k then 1 else 0),H,I.tok _,⟨_,rfl⟩,q⟩
def DM(K:W.Frag)(x:V)(H:Hp)(n:Nat):Prop:=
 match x with
 |.str y=>y.length<=sizeLine/\n=y.length
 |.byt y=>y.size<=sizeLine/\n=y.size
 |.ref p=>(∃xs,eT K H p xs/\n=xs.length)\/∃xs,fu K H p xs/\n=xs.length
 |_=>False
theorem AF:bY X (.builtin "len") (fun xs H Q=>∃x n,xs=[x]/\DM X.K x H n/\Q (.int n) H):=by
 intro pins s σ H xs us Q I r h;obtain⟨x,n,rfl,e,q⟩:=h;obtain⟨u,rfl,rx⟩:=dk r;have hl:=lF;have hs:sizeLine=16777216:=J5;cases x with
 |str y=>
  obtain⟨t,rfl⟩:=rx;obtain⟨hy,e'⟩:y.length<=sizeLine/\n=y.length:=e;subst e';exact len_str (by omega) ⟨.int _,H,I.tok _,⟨_,rfl⟩,q⟩
 |byt y=>
  obtain⟨t,rfl⟩:=rx;obtain⟨hy,e'⟩:y.size<=sizeLine/\n=y.size:=e;subst e';exact W.len_bytes (by omega) ⟨.int _,H,I.tok _,⟨_,rfl⟩,q⟩
 |ref p=>
  cases rx;have e':(∃xs,eT X.K H p xs/\n=xs.length)\/∃xs,fu X.K H p xs/\n=xs.length:=e;rcases e' with⟨xs,hx,e'⟩|⟨xs,hx,e'⟩
  ·subst e';obtain⟨its,r',pl,hz⟩:=I.list hx;have hlen:=r'.length;exact Calls.call_len_list pl.isList (by simp only[J6];omega) ⟨.int xs.length,H,I.tok _,⟨_,by simp only[J6];rw[hlen]⟩,q⟩
  ·subst e';obtain⟨its,r',pl,hz⟩:=I.tuple hx;have hlen:=r'.length;exact len_tuple pl (by simp only[J6];omega) ⟨.int xs.length,H,I.tok _,⟨_,by simp only[J6];rw[hlen]⟩,q⟩
 |_=>exact(show False from e).elim
end
end L2
namespace L2
open PySem PySem.Spec PyProof.Rows
structure Jf(h:Heap)(x dx C:Addr)(mA:Str->Option Value):Prop where
 obj:h.get? x=some (W.instObj C dx)
 ns:h.Ns1 dx mA
 ne:dx≠x
section
variable{prog:Program}{w:World}{A:Around}{E:Value->Shared->Prop}{s:Shared}{K:W.Frag}{x dx C f:Addr}{mA:Str->Option Value}{name:Str}{v:Value}
end
section
variable{P:Program}{w:World}{H H':Hp}{h h':Heap}{a C dx:Addr}{fs fs':List (Str×V)}
end
structure Jc(K:W.Frag)(C:Addr):Prop where
 pg:W.plainGet K C Str.empty=true
 hd:W.hasDictIn K C=true
 po:W.plainOver K C=true
 sa:W.findIn K (.ref C) "__setattr__" = some (some (.builtin "object.__setattr__"))
structure Jj(K:W.Frag)(C:Addr)(f:Str)(v:V)(u:Value):Prop where
 at_:W.findIn K (.ref C) f=some (some u)
 rel:cq v u
 get:W.specialIn K u "__get__" = some none
 cp:W.copiedNames.contains f=false
structure Jg(K:W.Frag)(C:Addr)(m:Str)(f:Addr):Prop where
 at_:W.findIn K (.ref C) m=some (some (.ref f))
 fn:W.isFn K (.ref f)=true
 kp:W.keepIn K (.ref f)=true
section
variable{X:Cx}{pins:List (Addr×Obj)}{σ:St}{H:Hp}{s:Shared}{a C dx:Addr}{fs:List (Str×V)}{f:Str}{v:V}{A:Around}{E:Value->Shared->Prop}
end
section
variable{X:Cx}{o e value:Expr}{f:Str}{pos pos' tpos:Pos}{ta tv:TE}
end
section
variable{X:Cx}{pins:List (Addr×Obj)}{σ:St}{H:Hp}{s:Shared}{A:Around}{E:Value->Shared->Prop}{Q:Value->Shared->Prop}{c:Value}{b:Bool}
inductive nr(K:W.Frag)(H:Hp):V->Value->Prop where
 |non:nr K H .non (.type "NoneType")
 |bl (x:Bool):nr K H (.bl x) (.type "bool")
 |int (i:Int):nr K H (.int i) (.type "int")
 |str (x:Str):nr K H (.str x) (.type "str")
 |flt (x:UInt64):nr K H (.flt x) (.type "float")
 |lst {a:Addr}{xs:List V} (e:H a=some (.lst xs)):nr K H (.ref a) (.type "list")
 |frz {a:Addr}{o:Obj}{xs:List V} (e:H a=some (.frz o (.lst xs))):nr K H (.ref a) (.type "list")
 |tup {a:Addr}{xs:List V} (e:H a=some (.tup xs)):nr K H (.ref a) (.type "tuple")
 |dK {a:Addr}{kvs:List (oO×V)} (e:H a=some (.dK kvs)):nr K H (.ref a) (.type "dict")
 |dT {a:Addr}{kvs:List (List oO×V)} (e:H a=some (.dT kvs)):nr K H (.ref a) (.type "dict")
 |ins {a C dx:Addr}{fs:List (Str×V)} (e:H a=some (.ins C dx fs)) (cl:Jc K C) (ha:W.findIn K (.ref C) "__class__" = some (some (.builtin "object.__class__")))
   (hn:W.specialIn K (.builtin "object.__class__") "__get__" = some (some (.builtin "getset_descriptor.__get__"))) (htk:W.takesIn K (.builtin "object.__class__")=some true)
   (hm:W.mroIn K C (.type "object")=some true):nr K H (.ref a) (.ref C)
end
end L2
namespace L2
open PySem PySem.Spec PyProof.Rows
structure gu(k:Nat)(A:Around):Prop where
 hd:A.handled=none
 dp:A.depth+3*k+5<recursionLimit
 un:A.units+16*k+200<cLine
 gd:A.guards=some []
theorem gu.mono{j k:Nat}{A:Around}(r:gu k A)(h:j<=k):gu j A:=⟨r.hd,by have:=r.dp;omega,by have:=r.un;omega,r.gd⟩
theorem gu.deeper{k:Nat}{A:Around}(r:gu (k+1) A)(env:Env):gu k (A.deeper env):=
 ⟨r.hd,by have:=r.dp;show A.depth+1+3*k+5<_;omega,by have:=r.un;show A.units+3+16*k+200<_;omega,r.gd⟩
theorem gu.depth{k:Nat}{A:Around}(r:gu k A):A.depth<recursionLimit:=by have:=r.dp;omega
theorem gu.units{k:Nat}{A:Around}(r:gu k A):A.units+64<cLine:=by have:=r.un;omega
def HZ:TA:=fun _ H Q=>Q [] H
def GJ(ta:TE)(tr:TA):TA:=fun σ H Q=>ta σ H fun x H1=>tr σ H1 fun xs H2=>Q (x::xs) H2
section
variable{X:Cx}{e:Expr}{es:List Expr}{te:TE}{t:TA}{pos:Pos}
theorem qx:PA X [] HZ:=fun _ _ _ _ H Q I h=>Calls.spliced_nil ⟨[],H,I,.nil,h⟩
theorem kN(ha:PE X e te)(hr:PA X es t)(hs:starEach (e::es) X.env=(false,eval e X.env)::starEach es X.env:=by rfl):PA X (e::es) (GJ te t):=by
 intro pos pins s σ H Q I h;rw[hs];show wpAny _ _ (spliced ((false,eval e X.env)::backTo pos (starEach es X.env))) _ _ s;refine Calls.spliced_cons (d3 (ha pins s σ H _ I h) fun u s1 ⟨x,H1,I1,r1,q1⟩=>?_);exact d3 (hr pos pins s1 σ H1 _ I1 q1) fun us s2 ⟨xs,H2,I2,r2,q2⟩=>⟨x::xs,H2,I2,.cons r1 r2,q2⟩
def HV(t:TA):TE:=fun σ H Q=>t σ H fun xs H1=>xs.length<=sizeLine/\∀p,H1 p=none->Q (.ref p) (cG H1 p (.tup xs))
def Ib(t:TA):TE:=fun σ H Q=>t σ H fun xs H1=>xs.length<=sizeLine/\∀p,H1 p=none->Q (.ref p) (cG H1 p (.lst xs))
theorem EL{x1}(h:PA X es t):PE X (.Tuple es x1 pos) (HV t):=by
 intro pins s σ H Q I hq;refine wpAny_Tuple_spliced (d3 (h pos pins s σ H _ I hq) fun us s1 ⟨xs,H1,I1,r,z,q⟩=>⟨by rw[<- r.length];exact z,?_⟩);have hf:H1 s1.heap.objs.size=none:=I1.hok.fresh (JY _);refine⟨.ref s1.heap.objs.size,cG H1 s1.heap.objs.size (.tup xs),I1.laid (t':=s1.toks) (fun b u e=>JW _ e) (JY _) ?_,rfl,q _ hf⟩;exact⟨z,us,r,⟨_,JX _ rfl,rfl,_,rfl⟩⟩
theorem ES(h:PA X es t):PE X (.List es pos) (Ib t):=by
 intro pins s σ H Q I hq;refine wpAny_List_spliced (d3 (h pos pins s σ H _ I hq) fun us s1 ⟨xs,H1,I1,r,z,q⟩=>⟨by rw[<- r.length];exact z,?_⟩);have hf:H1 s1.heap.objs.size=none:=I1.hok.fresh (JY _);refine⟨.ref s1.heap.objs.size,cG H1 s1.heap.objs.size (.lst xs),I1.laid (t':=s1.toks) (fun b u e=>JW _ e) (JY _) ?_,rfl,q _ hf⟩;exact⟨z,us,0,r,JX _ rfl⟩
end
abbrev Sp:=List V->Hp->VK->XK->Prop
abbrev wM:=List Env->Hp->Shared->XK->Value->Shared->Prop
structure yE(P:Program)(w:World)(K:W.Frag)(mg:Str->Option Value)(base:Heap)(A:Around)(outer:List Env)(s:Shared)(H:Hp):Prop where
 frames:A.frames=some outer
 mod:Mod K mg base
 bs:∀b o,base.get? b=some o->s.heap.get? b=some o/\H b=none
 bsz:base.objs.size<=s.heap.objs.size
 funs:s.heap.FunFrames base outer
 frf:∀b∈yq outer,H b=none
 hok:nh P w H s.heap
 bare:AllBare s.gens
def CE(outer:List Env)(P:Program)(w:World)(H:Hp)(s:Shared)(Q:VK)(u:Value)(s':Shared):Prop:=
 ∃v H',s'.os=s.os/\AllBare s'.gens/\Un (yq outer) [] H H' s.heap s'.heap/\nh P w H' s'.heap/\cq v u/\Q v H'
def CR(CX:wM)(outer:List Env)(P:Program)(w:World)(H:Hp)(s:Shared)(Q:VK)(E:XK)(r:Result)(s':Shared):Prop:=
 match r with
 |.ok (.ret u)=>CE outer P w H s Q u s'
 |.ok _=>False
 |.error e=>CX outer H s E e s'
structure oS(P:Program)(w:World)(K:W.Frag)(mg:Str->Option Value)(base:Heap)(CX:wM)(k:Nat)(f:Addr)(fd:FuncData)(ps:List Str)(sp:Sp):Prop where
 len:∀vs H Q E,sp vs H Q E->vs.length=ps.length
 run:∀(A:Around)(outer:List Env)(s:Shared)(H:Hp)(args:Args)(us:List Value)(vs:List V)(Q:VK)(E:XK),gu k A->yE P w K mg base A outer s H->BindsTo s fd args (ps.zip us)->aX vs us->sp vs H Q E ->
  codeAny (model P w) A (.call (.ref f) args) (CR CX outer P w H s Q E) s
section
variable{X:Cx}{pins:List (Addr×Obj)}{σ:St}{H:Hp}{s s':Shared}
theorem aS.env0(I:aS X pins σ H s):yE X.prog X.w X.K X.mg X.base X.A X.stack s H:=
 ⟨I.ok.frames,I.ok.mod,I.bs,Jx I.ok.bsz I.sz,I.stack,I.stkFree,I.hok,I.bare⟩
theorem aS.after{Q:VK}{u:Value}(I:aS X pins σ H s)(h:CE X.stack X.prog X.w H s Q u s'):EP X pins σ Q u s':=by
 obtain⟨v,H',os,bare,un,hok,r,q⟩:=h;obtain⟨hh,g,d,t,os'⟩:=s';obtain rfl:os'=s.os:=os;exact⟨v,H',I.call (h':=hh) (g':=g) (d':=d) (t':=t) (ch:=[]) un hok bare (fun b z=>absurd z (by simp)),r,q⟩
end
def GK(sp:Sp)(dvs:List V)(E:XK)(t:TA):TE:=fun σ H Q=>t σ H fun vs H1=>sp (vs++dvs) H1 Q E
def i5(K:W.Frag)(fd:FuncData)(ps:List Str)(ds:List Value):Prop:=
 ∀(s:Shared)(us:List Value),K.In s.heap->(us++ds).length=ps.length->BindsTo s fd ⟨us,[]⟩ (ps.zip (us++ds))
theorem i5.all{K:W.Frag}{fd:FuncData}{ps:List Str}(h:∀us:List Value,us.length=ps.length->bindArgs fd ⟨us,[]⟩=pure (ps.zip us)):i5 K fd ps []:=fun s us _ hl=>by
 rw[J7]at hl⊢;exact .of_eq (h us hl)
def uX(CX:wM)(X:Cx)(E:XK):Prop:=∀(pins:List (Addr×Obj))(σ:St)(H:Hp)(s:Shared)(e:Value)(s':Shared),aS X pins σ H s->CX X.stack H s E e s'->X.xe e s'
section
variable{X:Cx}{CX:wM}{k:Nat}{f C:Addr}{fd:FuncData}{ps:List Str}{sp:Sp}{dvs:List V}{ds:List Value}{E:XK}{x m:Str}{p pos apos:Pos}{e o:Expr}{es:List Expr}{ta:TE}{t:TA}
theorem Ew{pins:List (Addr×Obj)}{σ:St}{H:Hp}{s:Shared}{Q:VK}{us:List Value}{vs:List V}(F:oS X.prog X.w X.K X.mg X.base CX k f fd ps sp)(hr:gu k X.A)(hb:i5 X.K fd ps ds)(hd:aX dvs ds)(hx:uX CX X E)
  (I:aS X pins σ H s) (r:aX vs us) (h:sp (vs++dvs) H Q E):wpAny (model X.prog X.w) X.A (call (.ref f) us) (EP X pins σ Q) X.xe s:=by
 have r2:aX (vs++dvs) (us++ds):=r.append hd;have hl:(us++ds).length=ps.length:=by rw[<- r2.length];exact F.len _ _ _ _ h
 refine wpAny_call (J8 (F.run X.A X.stack s H ⟨us,[]⟩ (us++ds) (vs++dvs) Q E hr I.env0 (hb s us I.kIn hl) r2 h) fun r s' hq=>?_);cases r with
 |error e=>exact hx pins σ H s e s' I hq
 |ok fl=>
  cases fl with
  |ret u=>exact I.after hq
  |next=>exact False.elim hq
  |brk=>exact False.elim hq
  |cont=>exact False.elim hq
theorem BY(F:oS X.prog X.w X.K X.mg X.base CX k f fd ps sp)(hr:gu k X.A)(hg:Gl X x)(hm:X.mg x=some (.ref f))(hk:W.keepIn X.K (.ref f)=true)(hb:i5 X.K fd ps ds)(hd:aX dvs ds)(hx:uX CX X E)
  (ha:PA X (e::es) t) (hdb:(x == ("__debug__" : Str))=false:=by decide) (he:starEach (e::es) X.env=(false,eval e X.env)::starEach es X.env:=by rfl) (hpl:(backTo pos (starEach es X.env)).any (·.1)=false:=by rfl) :
  PE X (.Call (.Name x p) (e::es) [] pos) (GK sp dvs E t):=by
 intro pins s σ H Q I h;refine J9 (Cq I hg hm ?_ hdb);refine W.callWith_K (h₀:=X.base) I.ok.mod.kin hk (d3 (ha pos pins s σ H _ I h) fun us s1 ⟨vs,H1,I1,r,q⟩=>⟨I1.kIn,?_⟩) he hpl;exact Ew F hr hb hd hx I1 r q
structure Mk(K:W.Frag)(C f:Addr):Prop where
 makes:W.makesIn K C=true
 init:W.findIn K (.ref C) "__init__" = some (some (.ref f))
 fn:W.isFn K (.ref f)=true
 kp:W.keepIn K (.ref C)=true
end
section
variable{X:Cx}{CX:wM}{k:Nat}{f C:Addr}{fd:FuncData}{ps ks:List Str}{sp:Sp}{E:XK}{x m:Str}{p pos apos kpos:Pos}{e o:Expr}{es:List Expr}{kws:List Keyword}{te ta:TE}{t tk:TA}{nm:Option Str}
structure IG(K:W.Frag)(fd:FuncData)(ps ks:List Str)(g:List Value->List Value->List Value)(gV:List V->List V->List V):Prop where
 to:∀(s:Shared)(us ws:List Value),K.In s.heap->(g us ws).length=ps.length->BindsTo s fd ⟨us,ks.zip ws⟩ (ps.zip (g us ws))
 rel:∀{vs:List V}{us:List Value}{zs:List V}{ws:List Value},aX vs us->aX zs ws->aX (gV vs zs) (g us ws)
variable{g:List Value->List Value->List Value}{gV:List V->List V->List V}
end
structure aW(N P:List Str)(sc:Scope):Prop where
 kind:sc.kind=.function
 co:sc.isCoroutine=false
 gen:sc.isGenerator=false
 nd:N.Nodup
 pre:N.take P.length=P
 par:∀x∈P,sc.names.lookup x=some .local\/sc.names.lookup x=some .cell
 nofree:∀y∈sc.names,y.2≠.free
theorem qh{kindOf:Str->Option NameKind}{x:Str}:∀{binds:List (Str×Value)}{m:Str->Option Value},(∀v,(x,v)∉binds)->bindL kindOf binds m x=m x
 |[],_,_=>rfl
 |(n,v)::r,m,h=>by
  unfold bindL;rw[qh fun w hw=>h w (JB _ hw)];split
  ·have : x ≠ n := by rintro rfl; exact h v JA
   simp[this]
  ·rfl
theorem qj{kindOf:Str->Option NameKind}{x:Str}:∀{binds:List (Str×Value)}{m:Str->Option Value},(∀v,(x,v)∉binds)->bindC kindOf binds m x=m x
 |[],_,_=>rfl
 |(n,v)::r,m,h=>by
  unfold bindC;rw[qj fun w hw=>h w (JB _ hw)];split
  ·rfl
  ·have : x ≠ n := by rintro rfl; exact h v JA
   simp[this]
theorem qi{kindOf:Str->Option NameKind}{x:Str}{v:Value}:∀{P:List Str}{vs:List Value}{i:Nat}{m:Str->Option Value},P.Nodup->P[i]?=some x->vs[i]?=some v->kindOf x=some .local ->
  bindL kindOf (P.zip vs) m x=some v
 |[],_,_,_,_,h,_,_=>by simp at h
 |_::_,[],_,_,_,_,h,_=>by simp at h
 |p::P,w::vs,0,m,nd,h1,h2,hk=>by
  simp at h1 h2;subst h1;subst h2;show bindL kindOf ((p,w)::P.zip vs) m p=_;unfold bindL;rw[qh fun v hv=>(Ka.mp nd).1 (Kb hv).1,Jo hk];simp
 |p::P,w::vs,i+1,m,nd,h1,h2,hk=>by
  show bindL kindOf ((p,w)::P.zip vs) m x=_;unfold bindL;exact qi (i:=i) (Ka.mp nd).2 (by simpa using h1) (by simpa using h2) hk
theorem qk{kindOf:Str->Option NameKind}{x:Str}{v:Value}:∀{P:List Str}{vs:List Value}{i:Nat}{m:Str->Option Value},P.Nodup->P[i]?=some x->vs[i]?=some v->kindOf x≠some .local ->
  bindC kindOf (P.zip vs) m x=some v
 |[],_,_,_,_,h,_,_=>by simp at h
 |_::_,[],_,_,_,_,h,_=>by simp at h
 |p::P,w::vs,0,m,nd,h1,h2,hk=>by
  simp at h1 h2;subst h1;subst h2;show bindC kindOf ((p,w)::P.zip vs) m p=_;unfold bindC;rw[qj fun v hv=>(Ka.mp nd).1 (Kb hv).1,Jp hk];simp
 |p::P,w::vs,i+1,m,nd,h1,h2,hk=>by
  show bindC kindOf ((p,w)::P.zip vs) m x=_;unfold bindC;exact qk (i:=i) (Ka.mp nd).2 (by simpa using h1) (by simpa using h2) hk
def start(N:List Str)(vs:List V):St:=vs.map some++List.replicate (N.length-vs.length) none
def qt(CX:wM)(P:Program)(w:World)(K:W.Frag)(mg:Str->Option Value)(base:Heap)(N:List Str)(qual:Str)(scope:Scope)(f:Addr)(cd:Value)(A:Around)(outer:List Env)(s:Shared)(H:Hp)(E:XK):Cx where
 prog:=P
 w:=w
 K:=K
 mg:=mg
 base:=base
 A:=A.deeper (envOfC qual scope s.heap.objs.size f cd)
 N:=N
 s₀:=s
 H₀:=H
 env:=envOfC qual scope s.heap.objs.size f cd
 outer:=outer
 stack:=envOfC qual scope s.heap.objs.size f cd::outer
 ex:=[]
 calm:=true
 fn:=fun _=>true
 pn:=[]
 xe:=fun e s'=>wpAny (model P w) (A.deeper (envOfC qual scope s.heap.objs.size f cd)) (leaving (envOfC qual scope s.heap.objs.size f cd) e) (fun _ s''=>CX outer H s E e s'') (fun e' s''=>CX outer H s E e' s'') s'
theorem tZ{sc:Scope}{n:Nat}{x:Str}(h:sc.names.lookup x=some .cell):∃c,(cellsFrom n sc.names []).lookup x=some c:=by
 have q:=W.cellsFrom_some sc.names n [] (.inl h);exact Kc.mp q
theorem xM{CX:wM}{P:Program}{w:World}{K:W.Frag}{mg:Str->Option Value}{base:Heap}{N ps:List Str}{qual:Str}{scope:Scope}{f:Addr}{cd:Value}{A:Around}{outer:List Env}{s s1:Shared}{H:Hp}{E:XK}{us:List Value}{vs:List V}
  (S:aW N ps scope) (hd:A.handled=none) (e0:yE P w K mg base A outer s H) (hl:vs.length=ps.length) (r:aX vs us)
  (x:InCallC s s.heap.objs.size (bindL (envOfC qual scope s.heap.objs.size f cd).kindOf (ps.zip us) fun _=>none) (cellsFrom (s.heap.objs.size+1) scope.names []) (bindC (envOfC qual scope s.heap.objs.size f cd).kindOf (ps.zip us) fun _=>none) s1) :
  aS (qt CX P w K mg base N qual scope f cd A outer s H E) [] (start N vs) H s1:=by
 have hpl:ps.length<=N.length:=by have:=JN List.length S.pre;rw[Kd]at this;omega
 obtain⟨h1,tk,rfl,hk⟩:=x.done;have noA:∀b:Addr,b∉(qt CX P w K mg base N qual scope f cd A outer s H E).ex:=fun b z=>absurd (show b∈([]:List Addr) from z) (by simp)
 refine⟨⟨e0.mod,S.kind,rfl,rfl,JY _,fun y z c h1 h2=>?_,fun y hy=>?_,fun y c _ h=>?_,fun _=>hd,Around.frames_deeper e0.frames,.inr ⟨rfl,rfl⟩,fun b z=>absurd z (noA b),e0.bs,e0.bsz,fun b _ _=>noA b,fun b z=>absurd z (noA b),e0.funs,e0.frf⟩,
  rfl,e0.bare,Un.kept hk,⟨_,x.toInCall.ns,fun i y v h1 h2 h3=>?_⟩,fun y c h=>⟨_,x.cell y c h⟩,e0.hok.fresh (JY _),fun y c h=>?_,fun p hp=>absurd (show p∈([]:List (Addr×Obj)) from hp) (by simp),e0.hok.kept hk,?_⟩
 ·exact name_of_addr x.apart (Ke h1) (Ke h2)
 ·have hy : scope.names.lookup y = some .cell \/ scope.names.lookup y = some .free := hy;rcases hy with hy|hy
  ·exact tZ hy
  ·exact absurd rfl (S.nofree _ (Ke hy))
 ·exact Jy (x.above y c (Ke h))
 ·have hi:i<vs.length:=by
   unfold start at h2;by_cases hi:i<vs.length
   ·exact hi
   ·rw[Kf (by simpa using hi)]at h2;rw[List.getElem?_replicate]at h2;split at h2 <;> cases h2
  have ha:vs[i]?=some v:=by
   unfold start at h2;rw[Kg (by simpa using hi),Kh]at h2;cases e:vs[i]? with
   |none=>rw[e]at h2;cases h2
   |some a=>rw[e]at h2;cases h2;rfl
  obtain⟨u,hu,rv⟩:=r.get ha
  have hp:ps[i]?=some y:=by
   rw[<- S.pre,List.getElem?_take_of_lt (by omega)];exact h1
  have ndP:ps.Nodup:=by rw[<- S.pre];exact S.nd.sublist (List.take_sublist _ _)
  refine⟨u,rv,?_⟩;rcases S.par y (Ki hp) with k|k
  ·exact .inl ⟨k,qi ndP hp hu k⟩
  ·obtain⟨c,e⟩:=tZ (n:=s.heap.objs.size+1) k;refine .inr ⟨.inl k,c,e,?_⟩;have q:=x.cell y c e;rw[qk ndP hp hu (by show scope.names.lookup y≠_;rw[k];decide)]at q;exact q
 ·exact e0.hok.fresh (Jy (x.above y c (Ke h)))
 ·unfold start;show _=N.length;rw[Kj,Kk,List.length_replicate];omega
theorem Ho{CX:wM}{P:Program}{w:World}{K:W.Frag}{mg:Str->Option Value}{base:Heap}{k:Nat}{f:Addr}{name qual:Str}{params:Arguments}{body:List Stmt}{scope:Scope}{dV kV doc pm cdv ct oc:Value}{an od:Option Addr}
  {osl:Array (Option Value)}{N ps:List Str}{sp:Sp} (lk:K.lookup f=some ⟨oc,od,.func (W.fnOf name qual params body scope dV kV doc pm an cdv ct),osl⟩) (hcd:W.codeIn K cdv qual=true) (S:aW N ps scope)
  (len:∀vs H Q E,sp vs H Q E->vs.length=ps.length)
  (hbody : ∀ (A : Around) (outer : List Env) (s : Shared) (H : Hp) (vs : List V) (Q : VK) (E : XK), gu k (A.deeper (envOfC qual scope s.heap.objs.size f cdv)) -> sp vs H Q E ->
   ∃t,jV (qt CX P w K mg base N qual scope f cdv A outer s H E) body t/\t {nx:=fun _ H'=>Q .non H',rt:=Q} (start N vs) H) :
  oS P w K mg base CX (k+1) f (W.fnOf name qual params body scope dV kV doc pm an cdv ct) ps sp:=by
 refine⟨len,fun A outer s H args us vs Q E hr e0 hb r hsp=>?_⟩;have hl:=len _ _ _ _ hsp;have KX:K.In s.heap:=e0.mod.kin.keeps fun b o e=>(e0.bs b o e).1;have lim:s.heap.NoLimit:=e0.mod.nolimit.keeps fun b o e=>(e0.bs b o e).1
 have hkind:∀y∈ps.zip us,scope.names.lookup y.1=some .local\/(scope.names.lookup y.1=some .cell/\((cellsFrom (s.heap.objs.size+1) scope.names []).lookup y.1).isSome=true):=fun⟨n,v⟩ hy=>by
  rcases S.par n (Kb hy).1 with q|q
  ·exact .inl q
  ·exact .inr ⟨q,W.cellsFrom_some _ _ _ (.inl q)⟩
 refine codeAny_call_function hr.depth (KX _ _ lk) rfl S.co S.gen rfl (W.codeRec_of KX hcd) (hb _ _ _ _ ?_);refine wpAny_newFunctionEnv_cells S.kind hkind fun env he s1 x=>?_;subst he;refine⟨lim.keeps x.toInCall.keep,codeAny_func ?_⟩;obtain⟨t,ht,hq⟩:=hbody A outer s H vs Q E (hr.deeper _) hsp;have I:aS (qt CX P w K mg base N qual scope f cdv A outer s H E) [] (start N vs) H s1:=xM S hr.hd e0 hl r x;refine JK (ht [] s1 (start N vs) H _ I hq) (fun fl s' hs=>?_) fun e s' hs=>hs
 have fin:∀{σ':St}{H':Hp}{v:V}{u:Value},aS (qt CX P w K mg base N qual scope f cdv A outer s H E) [] σ' H' s'->cq v u->Q v H'->CE outer P w H s Q u s':=
  fun {σ' H' v u} J rv q=>⟨v,H',J.os,J.bare,J.base,J.hok,rv,q⟩
 cases fl with
 |ret u=>
  obtain⟨v,σ',H',J,rv,q⟩:=hs;exact fin J rv q
 |next=>
  obtain⟨σ',H',J,q⟩:=hs;exact fin (v:=V.non) (u:=Value.none) J rfl q
 |brk=>
  obtain⟨_,_,_,q⟩:=hs;exact False.elim q
 |cont=>
  obtain⟨_,_,_,q⟩:=hs;exact False.elim q
end L2
namespace L2
open PySem PySem.Spec PyProof.Rows
section
variable{X:Cx}{x:Str}{p pos:Pos}{e:Expr}{es:List Expr}{t:TA}{id T:String}{r:List V->Hp->VK->Prop}
def II(r:List V->Hp->VK->Prop)(t:TA):TE:=fun σ H Q=>t σ H fun vs H1=>r vs H1 Q
theorem sZ (hc:bY X (.builtin id) r) (hg:Gl X x) (hm:X.mg x=none) (hv:bootBuiltins x=some (.builtin id)) (ha:PA X (e::es) t) (hn:x ≠ "__name__" := by decide) (hdb:(x == ("__debug__" : Str))=false:=by decide)
  (he:starEach (e::es) X.env=(false,eval e X.env)::starEach es X.env:=by rfl) (hpl:(backTo pos (starEach es X.env)).any (·.1)=false:=by rfl):PE X (.Call (.Name x p) (e::es) [] pos) (II r t):=by
 intro pins s σ H Q I h;refine J9 (lG I hg hm hv ?_ hn hdb);exact PyProof.Rows.callWith_builtin1 (d3 (ha pos pins s σ H _ I h) fun us s1 ⟨vs,H1,I1,r1,q1⟩=>hc pins s1 σ H1 vs us Q I1 r1 q1) he hpl
theorem lN (hc:bY X (.type T) r) (hg:Gl X x) (hm:X.mg x=none) (hv:bootBuiltins x=some (.type T)) (ha:PA X (e::es) t) (hn:x ≠ "__name__" := by decide) (hdb:(x == ("__debug__" : Str))=false:=by decide)
  (he:starEach (e::es) X.env=(false,eval e X.env)::starEach es X.env:=by rfl) (hpl:(backTo pos (starEach es X.env)).any (·.1)=false:=by rfl):PE X (.Call (.Name x p) (e::es) [] pos) (II r t):=by
 intro pins s σ H Q I h;refine J9 (lG I hg hm hv ?_ hn hdb);exact JZ (d3 (ha pos pins s σ H _ I h) fun us s1 ⟨vs,H1,I1,r1,q1⟩=>hc pins s1 σ H1 vs us Q I1 r1 q1) he hpl
end
end L2
namespace HT
open PySem PyProof.Rows
section
open PySem.SeqAt
open PySem.AutoSeq1 (wpAny_loadPart')
open PySem.MeetsSeq PySem.MeetsSeq2 PySem.MeetsSeq3
end
section
variable{prog:Program}{w:World}{A:Around}{E:Value->Shared->Prop}{s:Shared}
theorem cat_tup{t b:Addr}{vs ws:List Value}{Q:Value->Shared->Prop}(ht:IsTup s.heap t vs.toArray)(hb:IsTup s.heap b ws.toArray)(hv:vs≠[])
  (h1:ws=[]->Q (.ref t) s) (h2:ws≠[]->Q (.ref s.heap.objs.size) {s with heap:=s.heap.push {cls:=.type "tuple",data:=.seq (vs++ws).toArray}})
  (hsz:vs.length+ws.length<=sizeLine):wpAny (model prog w) A (binaryOp .Add (.ref t) (.ref b)) Q E s:=by
 obtain⟨⟨cls,dd,data,sl⟩,ho,hc,n,hd⟩:=id ht;obtain⟨⟨cls2,dd2,data2,sl2⟩,ho2,hc2,n2,hd2⟩:=id hb;simp only at hc hd hc2 hd2;subst hc hd hc2 hd2;have e:vs.toArray++ws.toArray=(vs++ws).toArray:=by simp
 by_cases hw:ws=[]
 ·exact concat_meets ⟨_,ho,rfl⟩ ⟨_,ho2,rfl⟩ Kl seq_tuple_add Km Ko (Kq _ _)
   (tuple_addW1 t b vs.toArray ws.toArray n n2 dd dd2 sl sl2 (by simpa using hv) (by simp[hw])) ⟨ho,ho2,h1 hw⟩
 ·refine concat_meets ⟨_,ho,rfl⟩ ⟨_,ho2,rfl⟩ Kl seq_tuple_add Km Ko (Kq _ _)
   (tuple_addW2 t b vs.toArray ws.toArray n n2 dd dd2 sl sl2 (by simpa using hv) (by simpa using hw) (by rw[J6,J6];exact hsz)) ⟨ho,ho2,?_⟩
  rw[e];exact h2 hw
def sIx(n d:Nat):Option Int->Nat
 |none=>d
 |some v=>if v<0 then (v+(n:Int)).toNat else min v.toNat n
theorem sIx_none(n d:Nat):sIx n d none=d:=rfl
theorem sIx_nat(n d k:Nat):sIx n d (some (k:Int))=min k n:=by
 show (if (k:Int)<0 then ((k:Int)+(n:Int)).toNat else min (k:Int).toNat n)=min k n;rw[Jp (by omega),Kr]
theorem Et(n d:Nat)(hd:d<=n)(o:Option Int):sIx n d o<=n:=by
 cases o with
 |none=>exact hd
 |some v=>
  show (if v<0 then (v+(n:Int)).toNat else min v.toNat n)<=n;by_cases hv:v<0
  ·rw[Jo hv];omega
  ·rw[Jp hv];exact Ks _ _
theorem wH(v:Int)(n d:Nat):(if v<0 then max (v+(n:Int)) 0 else min v (n:Int))=((sIx n d (some v):Nat):Int):=by
 show (if v<0 then max (v+(n:Int)) 0 else min v (n:Int))=(((if v<0 then (v+(n:Int)).toNat else min v.toNat n):Nat):Int);by_cases hv:v<0
 ·simp only[Jo hv];omega
 ·simp only[Jp hv];omega
theorem vH(lo hi:Option Int)(n:Nat):Builtin.Slice.sliceAdjust lo hi 1 (n:Int)=(((sIx n 0 lo:Nat):Int),((sIx n n hi:Nat):Int)):=by
 have h1:¬ ((1:Int)<0):=by omega
 unfold Builtin.Slice.sliceAdjust;simp only[h1,Kt];refine Prod.ext ?_ ?_
 ·cases lo with
  |none=>rfl
  |some v=>exact wH v n 0
 ·cases hi with
  |none=>rfl
  |some v=>exact wH v n n
theorem vg(i j:Nat):Builtin.Slice.slicePlaces (i:Int) (j:Int) 1=j-i:=by
 unfold Builtin.Slice.slicePlaces;have h1:(1:Int)>0:=by omega
 simp only[h1,Ku,Int.ediv_one];split <;> omega
theorem oa{v:Value}{o:Option Int}{Q:Option Int->Shared->Prop}(p:IsPart v o)(h:Q o s):wpAny (model prog w) A (Builtin.Slice.slicePartIndex v) Q E s:=by
 cases p with
 |none=>exact Kv h
 |int i t=>exact slicePart_int h
theorem sliceApplied_gen{sl:Addr}{vl vu:Value}{lo hi:Option Int}{n:Nat}{Q:Int×Int×Nat->Shared->Prop}(hs:s.heap.IsSliceOf sl vl vu .none)(pl:IsPart vl lo)(pu:IsPart vu hi)
  (h:Q (((sIx n 0 lo:Nat):Int),1,sIx n n hi-sIx n 0 lo) s):wpAny (model prog w) A (Builtin.Slice.sliceApplied (.ref sl) (pure (n:Int))) Q E s:=by
 obtain⟨os,hos,hcs,hds⟩:=id hs;unfold Builtin.Slice.sliceApplied Builtin.Slice.sliceFields;refine JP (JP (Kx hos hds (x:=vl) rfl (JP (Kx hos hds (x:=vu) rfl (JP (Kx hos hds (x:=.none) rfl (JT ?_)))))));refine JP (Kv ?_);show wpAny _ _ (if ((1:Int) == 0)=true then _ else _) _ _ s;rw[Jp (by decide)];refine JP (oa pl (JP (oa pu (JP (JT ?_)))));show wpAny _ _ (match Builtin.Slice.sliceAdjust lo hi 1 (n:Int) with|(lo,hi)=>pure (lo,(1:Int),Builtin.Slice.slicePlaces lo hi 1)) _ _ s;rw[vH lo hi n];show wpAny _ _ (pure (((sIx n 0 lo:Nat):Int),(1:Int),Builtin.Slice.slicePlaces ((sIx n 0 lo:Nat):Int) ((sIx n n hi:Nat):Int) 1)) _ _ s;rw[vg];exact JT h
theorem z9(xs:Array Value)(i k:Nat):((List.range k).filterMap fun(m:Nat)=>xs[((i:Int)+(m:Int)*1).toNat]?).toArray=((xs.toList.drop i).take k).toArray:=by
 have e:(fun(m:Nat)=>xs[((i:Int)+(m:Int)*1).toNat]?)=fun m=>xs[i+m]?:=by
  funext m;have:((i:Int)+(m:Int)*1).toNat=i+m:=by omega
  rw[this]
 rw[e];have:=pick_run xs i k;rw[Ky]at this;have e2:((fun x=>xs[x]?) ∘ fun x=>i+x)=fun m=>xs[i+m]?:=rfl;rw[e2]at this;rw[this]
theorem getItem_tuple_cut{t sl:Addr}{items:Array Value}{vl vu:Value}{lo hi:Option Int}{Q:Value->Shared->Prop}(ht:IsTup s.heap t items)(hs:s.heap.IsSliceOf sl vl vu .none)(pl:IsPart vl lo)(pu:IsPart vu hi)
  (hw:¬ (sIx items.size 0 lo=0/\sIx items.size items.size hi=items.size))
  (h:Q (.ref s.heap.objs.size) {s with heap:=s.heap.push {cls:=.type "tuple",data:=.seq ((items.toList.drop (sIx items.size 0 lo)).take (sIx items.size items.size hi-sIx items.size 0 lo)).toArray}})
  (hsz:items.size<=sizeLine):wpAny (model prog w) A (getItem (.ref t) (.ref sl)) Q E s:=by
 have htake:sizeOk (.seq ((items.toList.drop (sIx items.size 0 lo)).take (sIx items.size items.size hi-sIx items.size 0 lo)).toArray):=by
  show ((items.toList.drop (sIx items.size 0 lo)).take (sIx items.size items.size hi-sIx items.size 0 lo)).toArray.size<=sizeLine;rw[J6,Kd,KA,JM];omega
 have hj:sIx items.size items.size hi<=items.size:=Et _ _ (JY _) hi;obtain⟨os,hos,hcs,hds⟩:=id hs;have hTs:s.TypeIs (.ref sl) "slice" := ⟨os,hos,hcs⟩;unfold getItem
 try with_reducible refine JQ ?_
 first|refine JP (JT ?_)|skip
 refine JP (KB ht.typeIs (by decide) ?_)
 refine JP (KC (name:=Str.ofString "__getitem__") ht.typeIs KD
  (KE KD ht.typeIs KF ?_ (KG _ _)))
 show wpAny _ _ (Builtin.Tuple.tupleItemsOf (.ref t) >>= _) _ _ s;refine JP (tupleItemsOf_ ht ?_);refine JP (KH hTs ?_);rw[Jo (by decide)];refine JP (sliceApplied_gen hs pl pu ?_)
 have hno:¬ ((((sIx items.size 0 lo:Nat):Int) == 0&&(1:Int) == 1&&(sIx items.size items.size hi-sIx items.size 0 lo) == items.size)=true):=by
  intro q;rw[KJ,KJ]at q;have q1:((sIx items.size 0 lo:Nat):Int)=0:=eq_of_beq q.1.1;have q2:sIx items.size items.size hi-sIx items.size 0 lo=items.size:=eq_of_beq q.2;exact hw ⟨by omega,by omega⟩
 show wpAny _ _ (if (((sIx items.size 0 lo:Nat):Int) == 0&&(1:Int) == 1&&(sIx items.size items.size hi-sIx items.size 0 lo) == items.size)=true then _ else _) _ _ s;rw[Jp hno,z9]
 first
  |exact JP (m:=Builtin.Tuple.tupleExact _) (KL (JT ⟨_,rfl,JT h⟩) htake)
  |exact JP (m:=Builtin.Tuple.tupleExact _) (KL (JP (JT (JT ⟨_,rfl,JT h⟩))) htake)
  |exact JP (JP (m:=Builtin.Tuple.tupleExact _) (KL (JT (JT ⟨_,rfl,JT h⟩)) htake))
  |exact JP (JP (m:=Builtin.Tuple.tupleExact _) (KL (JT ⟨_,rfl,JT h⟩) htake))
end
end HT
namespace L2
open PySem PySem.Spec PyProof.Rows
abbrev TO:=St->Hp->(Option Int->Hp->Prop)->Prop
def PO(X:Cx)(e:Option Expr)(t:TO):Prop:=
 ∀(pins:List (Addr×Obj))(s:Shared)(σ:St)(H:Hp)(Q:Option Int->Hp->Prop),aS X pins σ H s->t σ H Q ->
  wpAny (model X.prog X.w) X.A (evalPart e X.env) (fun u s'=>∃o H',aS X pins σ H' s'/\IsPart u o/\Q o H') X.xe s
def Bg:TO:=fun _ H Q=>Q none H
def GE(t:TE):TO:=fun σ H Q=>t σ H fun x H1=>∃i,x=.int i/\Q (some i) H1
theorem eO{ns:List Int}:∀{us:List Value},aX (ns.map V.int) us->IntsAre us ns:=by
 induction ns with
 |nil=>intro us r;rw[KM]at r;cases r;exact .nil
 |cons n ns ih=>
  intro us r;rw[KN]at r;cases r with
  |cons r1 r2=>
   obtain⟨t,e⟩:=r1;subst e;exact .cons n t (ih r2)
section
variable{X:Cx}{e:Expr}{te:TE}{lo hi:Option Expr}{tl th:TO}{pos p2:Pos}
theorem BQ:PO X none Bg:=by
 intro pins s σ H Q I h;rw[evalPart_none];exact JT ⟨none,H,I,.none,h⟩
theorem BP(h:PE X e te):PO X (some e) (GE te):=by
 intro pins s σ H Q I hw;rw[evalPart_some];refine d3 (h pins s σ H _ I hw) fun u s1 ⟨x,H1,I1,r1,q1⟩=>?_;obtain⟨i,rfl,q⟩:=q1;obtain⟨t,rfl⟩:=r1;exact⟨some i,H1,I1,.int i t,q⟩
def AW(X:Cx)(r:V->Option Int->Option Int->Hp->VK->Prop):Prop:=
 ∀(pins:List (Addr×Obj))(s:Shared)(σ:St)(H:Hp)(x:V)(v vl vu:Value)(lo hi:Option Int)(sl:Addr)(Q:VK),aS X pins σ H s->cq x v->s.heap.IsSliceOf sl vl vu .none->IsPart vl lo->IsPart vu hi->r x lo hi H Q ->
  ∃T id,typeLookup (.type T) "__getitem__" = pure (some (.builtin id))/\s.TypeIs v T/\wpAny (model X.prog X.w) X.A (getItem v (.ref sl)) (EP X pins σ Q) X.xe s
theorem AW.or{r r':V->Option Int->Option Int->Hp->VK->Prop}(h:AW X r)(h':AW X r'):AW X (fun x lo hi H Q=>r x lo hi H Q\/r' x lo hi H Q):=by
 intro pins s σ H x v vl vu lo hi sl Q I rx hs pl pu q;rcases q with q|q
 ·exact h pins s σ H x v vl vu lo hi sl Q I rx hs pl pu q
 ·exact h' pins s σ H x v vl vu lo hi sl Q I rx hs pl pu q
def IX(r:V->Option Int->Option Int->Hp->VK->Prop)(te:TE)(tl th:TO):TE:=fun σ H Q=>te σ H fun x H1=>tl σ H1 fun l H2=>th σ H2 fun u H3=>r x l u H3 Q
theorem Ab{r:V->Option Int->Option Int->Hp->VK->Prop}(hr:AW X r)(he:PE X e te)(hl:PO X lo tl)(hu:PO X hi th):PE X (.Subscript e (.Slice lo hi none p2) pos) (IX r te tl th):=by
 intro pins s σ H Q I h;refine Subscript_ (d3 (he pins s σ H _ I h) fun v s1 ⟨x,H1,I1,r1,q1⟩=>?_);refine wpAny_Slice (d3 (hl pins s1 σ H1 _ I1 q1) fun vl s2 ⟨l,H2,I2,pl,q2⟩=>d3 (hu pins s2 σ H2 _ I2 q2) fun vu s3 ⟨u,H3,I3,pu,q3⟩=>?_);rw[evalPart_none];refine JT ?_;have I4:aS X pins σ H3 {s3 with heap:=s3.heap.push {cls:=.type "slice",data:=.fields #[vl,vu,.none]}}:=I3.kept (t':=s3.toks) fun b ob q=>JW _ q;obtain⟨T,id,hT,ht,hg⟩:=hr pins {s3 with heap:=s3.heap.push {cls:=.type "slice",data:=.fields #[vl,vu,.none]}} σ H3 x v vl vu l u s3.heap.objs.size Q I4 r1 (KO ..) pl pu q3;show wpAny (model X.prog X.w) X.A (subscriptTail e (.Slice lo hi none p2) v (.ref s3.heap.objs.size)) (EP X pins σ Q) X.xe {s3 with heap:=s3.heap.push {cls:=.type "slice",data:=.fields #[vl,vu,.none]}};exact tail_any (ops:=[.ref s3.heap.objs.size,v]) ht hT hg (by with_unfolding_all rfl)
def r8(xs:List V)(lo hi:Option Int):List V:=(xs.drop (HT.sIx xs.length 0 lo)).take (HT.sIx xs.length xs.length hi-HT.sIx xs.length 0 lo)
theorem mf(xs:List V)(lo hi:Option Int):(r8 xs lo hi).length<=xs.length:=by
 unfold r8;rw[Kd,KA];omega
def F9(K:W.Frag):V->Option Int->Option Int->Hp->VK->Prop:=fun x lo hi H Q=>∃a xs,x=.ref a/\fu K H a xs /\
 ¬ (HT.sIx xs.length 0 lo=0/\HT.sIx xs.length xs.length hi=xs.length)/\∀p,H p=none->Q (.ref p) (cG H p (.tup (r8 xs lo hi)))
theorem qv:AW X (F9 X.K):=by
 intro pins s σ H x v vl vu lo hi sl Q I rx hs pl pu h;obtain⟨a,xs,rfl,hx,hw,q⟩:=h;cases rx;obtain⟨its,r,ht,hz⟩:=I.tuple hx;have hlen:its.toArray.size=xs.length:=by rw[J6];exact r.length.symm
 refine⟨"tuple",_,KD.lookup,ht.typeIs,?_⟩;refine HT.getItem_tuple_cut ht hs pl pu (by rw[hlen];exact hw) ?_ (by rw[hlen];exact hz);rw[hlen];refine⟨.ref s.heap.objs.size,_,I.laid (t':=s.toks) (o:=.tup (r8 xs lo hi)) (fun b ob q=>JW _ q) (JY _) ?_,rfl,q _ (I.hok.fresh (JY _))⟩;exact⟨Jx (mf xs lo hi) hz,_,(r.drop (HT.sIx xs.length 0 lo)).take (HT.sIx xs.length xs.length hi-HT.sIx xs.length 0 lo),KQ _ _⟩
def GX(K:W.Frag):R2:=fun x y H Q=>∃a b xs ys,x=.ref a/\y=.ref b/\fu K H a xs/\fu K H b ys/\xs≠[]/\xs.length+ys.length<=sizeLine /\
 (ys=[]->Q (.ref a) H)/\(ys≠[]->∀p,H p=none->Q (.ref p) (cG H p (.tup (xs++ys))))
theorem aX.nil_iff{xs:List V}{us:List Value}(r:aX xs us):us=[]↔xs=[]:=by
 cases r with
 |nil=>simp
 |cons _ _=>simp
theorem B8:iZ X (binaryOp .Add) (GX X.K):=by
 intro pins s σ H x y v u Q I rx ry h;obtain⟨a,b,xs,ys,rfl,rfl,ha,hb,hx,hz,q1,q2⟩:=h;cases rx;cases ry;obtain⟨its,r1,p1,_⟩:=I.tuple ha;obtain⟨its2,r2,p2,_⟩:=I.tuple hb;refine HT.cat_tup p1 p2 (fun z=>hx (r1.nil_iff.mp z)) (fun z=>⟨.ref a,H,I,rfl,q1 (r2.nil_iff.mp z)⟩) (fun z=>?_) (by rw[<- r1.length,<- r2.length];exact hz);refine⟨.ref s.heap.objs.size,_,I.laid (t':=s.toks) (o:=.tup (xs++ys)) (fun b ob q=>JW _ q) (JY _) ?_,rfl,q2 (fun w=>z (r2.nil_iff.mpr w)) _ (I.hok.fresh (JY _))⟩;exact⟨by rw[Kj];exact hz,_,r1.append r2,KQ _ _⟩
end
end L2
namespace L2
open PySem PySem.Spec PyProof.Rows
def wL(n:Nat)(i:Int):Option Nat:=if 0<=i then (if i<n then some i.toNat else none) else if -(n:Int)<=i then some (i+n).toNat else none
def atI{α:Type}(xs:List α)(i:Int):Option α:=(wL xs.length i).bind fun j=>xs[j]?
theorem wu{n:Nat}{i:Int}{j:Nat}(h:wL n i=some j):seqIndex? i n=some j/\j<n/\-(n:Int)<=i/\i<n:=by
 unfold wL at h;by_cases h0:0<=i
 ·rw [Jo h0] at h;by_cases h1:i<n
  ·rw[Jo h1]at h;have e:i.toNat=j:=Jq h;exact⟨by rw[seqIndex_of h0 h1,e],by omega,by omega,h1⟩
  ·rw[Jp h1]at h;cases h
 ·rw [Jp h0] at h;by_cases h1:-(n:Int)<=i
  ·rw[Jo h1]at h;have e:(i+n).toNat=j:=Jq h;exact⟨by rw[seqIndex_neg (by omega) h1,e],by omega,h1,by omega⟩
  ·rw[Jp h1]at h;cases h
theorem qZ{α:Type}{xs:List α}{i:Int}{v:α}(h:atI xs i=some v):∃j,seqIndex? i xs.length=some j/\xs[j]?=some v/\j<xs.length/\-(xs.length:Int)<=i/\i<xs.length:=by
 unfold atI at h;cases e:wL xs.length i with
 |none=>rw[e]at h;cases h
 |some j=>
  rw[e]at h;obtain⟨h1,h2,h3,h4⟩:=wu e;exact⟨j,h1,h,h2,h3,h4⟩
theorem kR{α:Type}{xs:List α}{j:Nat}{v:α}(h:xs[j]?=some v):atI xs (j:Int)=some v:=by
 have hj:j<xs.length:=(JG.mp h).1
 have e:wL xs.length (j:Int)=some j:=by
  unfold wL;rw[Jo (by omega),Jo (by omega)];simp
 unfold atI;rw[e];exact h
def rj(b:Expr):Prop:=∀o i,subscripted b false o i=operate [o,i] (getItem o i)
def AX(X:Cx)(r:R2):Prop:=
 ∀(value slice:Expr)(pins:List (Addr×Obj))(s:Shared)(σ:St)(H:Hp)(x y:V)(v u:Value)(Q:VK),aS X pins σ H s->cq x v->cq y u->r x y H Q ->
  subscripted slice false v u=operate [v,u] (getItem v u)->wpAny (model X.prog X.w) X.A (subscriptTail value slice v u) (EP X pins σ Q) X.xe s
def IM(X:Cx)(id:String)(r:V->List V->Hp->VK->Prop):Prop:=
 ∀(pins:List (Addr×Obj))(s:Shared)(σ:St)(H:Hp)(x:V)(xs:List V)(v:Value)(us:List Value)(Q:VK),aS X pins σ H s->cq x v->aX xs us->r x xs H Q ->
  wpAny (model X.prog X.w) X.A (call (.builtin id) (v::us)) (EP X pins σ Q) X.xe s
section
variable{X:Cx}{a b:Expr}{ta tb:TE}{pos:Pos}
theorem AX.or{r r':R2}(h:AX X r)(h':AX X r'):AX X (fun x y H Q=>r x y H Q\/r' x y H Q):=by
 intro value slice pins s σ H x y v u Q I rx ry q hs;rcases q with q|q
 ·exact h value slice pins s σ H x y v u Q I rx ry q hs
 ·exact h' value slice pins s σ H x y v u Q I rx ry q hs
theorem G6{r:R2}(hr:AX X r)(ha:PE X a ta)(hb:PE X b tb)(hs:rj b):PE X (.Subscript a b pos) (HA r ta tb):=by
 intro pins s σ H Q I h;exact Subscript_ (DH ha hb I h fun v u s2 x y H2 I2 rx ry q=>hr a b pins s2 σ H2 x y v u Q I2 rx ry q (hs _ _))
def Gg(K:W.Frag):R2:=fun x y H Q=>∃p xs i v,x=.ref p/\y=.int i/\eT K H p xs/\atI xs i=some v/\Q v H
def Ge(K:W.Frag):R2:=fun x y H Q=>∃p xs i v,x=.ref p/\y=.int i/\fu K H p xs/\atI xs i=some v/\Q v H
def Gf:R2:=fun x y H Q=>∃z i c,x=.str z/\y=.int i/\z.length<=sizeLine/\atI z.cps.toList i=some c/\Q (.str ⟨#[c]⟩) H
theorem Cy:AX X (Gg X.K):=by
 intro value slice pins s σ H x y v u Q I rx ry h hs;obtain⟨p,xs,i,z,rfl,rfl,hq,he,q⟩:=h;cases rx;obtain⟨t,rfl⟩:=ry;obtain⟨its,r,pl,hz⟩:=I.list hq;obtain⟨j,h1,h2,h3,h4,h5⟩:=qZ he;obtain⟨w,ew,rw'⟩:=r.get h2;have hl:=r.length;have hn:=lF;have fin:EP X pins σ Q w s:=⟨z,H,I,rw',q⟩;by_cases h0:0<=i
 ·have hj:i.toNat=j:=by
   rw[seqIndex_of h0 h5]at h1;exact Jq h1
  exact item_listR pl.isList h0 (by omega) (by rw[hj];simpa using ew) fin hs
 ·have hj:(i+(its.toArray.size:Int)).toNat=j:=by
   rw[seqIndex_neg (by omega) h4]at h1;rw[J6,<- hl];exact Jq h1
  exact subscriptTail_builtinR (x:=w) pl.isList.typeIs KR.lookup
   (wpAny_getItem_list_neg (Q:=fun r s'=>r=w/\EP X pins σ Q r s') pl.isList (by omega) (by rw[J6] <;> omega) (by omega) (by rw[hj];simpa using ew) ⟨rfl,fin⟩) hs
theorem FA:AX X (Ge X.K):=by
 intro value slice pins s σ H x y v u Q I rx ry h hs;obtain⟨p,xs,i,z,rfl,rfl,hq,he,q⟩:=h;cases rx;obtain⟨t,rfl⟩:=ry;obtain⟨its,r,pl,hz⟩:=I.tuple hq;obtain⟨j,h1,h2,h3,h4,h5⟩:=qZ he;obtain⟨w,ew,rw'⟩:=r.get h2;have hl:=r.length;have hn:=lF;have fin:EP X pins σ Q w s:=⟨z,H,I,rw',q⟩
 exact subscriptTail_builtinR (x:=w) pl.typeIs slot_tuple_getitem.lookup
  (getItem_tuple (j:=j) (Q:=fun r s'=>r=w/\EP X pins σ Q r s') pl (by omega) (by omega) (by rw[J6,<- hl];exact h1) (by simpa using ew) ⟨rfl,fin⟩) hs
theorem FB:AX X Gf:=by
 intro value slice pins s σ H x y v u Q I rx ry h hs;obtain⟨z,i,c,rfl,rfl,hz,he,q⟩:=h;obtain⟨t,rfl⟩:=rx;obtain⟨t',rfl⟩:=ry;obtain⟨j,h1,h2,h3,h4,h5⟩:=qZ he;have hl:z.cps.toList.length=z.length:=by simp[Str.length]
 rw[hl]at h1 h4 h5;have hn:=lF
 exact tail_any (typeIs_str s z t) slot_str_getitem.lookup (getItem_str (c:=c) (by
  have e1:decide (i < -(2^63:Int))=false:=Jl (by omega);have e2:decide (i ≥ 2^63)=false:=Jl (by omega)
  rw[e1,e2,Bool.or_false]) (by rw[h1];simpa using h2) ⟨.str ⟨#[c]⟩,H,I.tok _,⟨_,rfl⟩,q⟩) hs
def IJ(K:W.Frag):R2:=fun x y H Q=>Gg K x y H Q\/Ge K x y H Q\/Gf x y H Q
theorem FC:AX X (IJ X.K):=Cy.or (FA.or FB)
theorem vn (its:List Value) (n j:Nat) (u:Value):Obj.mapSeq (·.setIfInBounds j u) {cls:=.type "list",data:=.seq its.toArray n}={cls:=.type "list",data:=.seq (its.set j u).toArray n}:=by
 simp[Obj.mapSeq]
theorem aS.lst{pins:List (Addr×Obj)}{σ:St}{H:Hp}{s:Shared}{p:Addr}{xs:List V}(I:aS X pins σ H s)(h:H p=some (.lst xs)) :
  ∃(its:List Value) (n:Nat),aX xs its/\s.heap.get? p=some {cls:=.type "list",data:=.seq its.toArray n}/\xs.length<=sizeLine:=by
 obtain⟨z,its,n,r,e⟩:=I.hok p _ h;exact⟨its,n,r,e,z⟩
theorem aS.lstUpd{pins:List (Addr×Obj)}{σ:St}{H:Hp}{s:Shared}{p:Addr}{xs ys:List V}{its its':List Value}{n n':Nat}{f:Obj->Obj}(I:aS X pins σ H s)(h:H p=some (.lst xs))
  (ho:s.heap.get? p=some {cls:=.type "list",data:=.seq its.toArray n}) (hf:f {cls:=.type "list",data:=.seq its.toArray n}={cls:=.type "list",data:=.seq its'.toArray n'}) (r:aX ys its') (hz:ys.length<=sizeLine) (t:Nat) :
  aS X pins σ (cG H p (.lst ys)) {s with heap:=s.heap.update p f,toks:=t}:=by
 have e:(s.heap.update p f).get? p=some {cls:=.type "list",data:=.seq its'.toArray n'}:=by
  rw[KS f ho (by rw[hf] <;> rfl),hf]
 refine I.write (x:=p) (e:=p) (by rw[h];trivial) (.inl rfl) (fun b u hb q=>(Heap.get?_update_other _ _ (JD hb)).trans q) ⟨_,e⟩ ?_;exact⟨hz,its',n',r,e⟩
def Dc:V->V->V->Hp->(Hp->Prop)->Prop:=fun o i v H Q=>∃p xs k j,o=.ref p/\i=.int k/\H p=some (.lst xs)/\wL xs.length k=some j/\Q (cG H p (.lst (xs.set j v)))
theorem zO:Gw X Dc:=by
 intro pins s σ H o i v ov iv u Q I ro ri rv h;obtain⟨p,xs,k,j,rfl,rfl,hp,hj,q⟩:=h;cases ro;obtain⟨t,rfl⟩:=ri;obtain⟨its,n,r,ho,hz⟩:=I.lst hp;obtain⟨h1,h2,h3,h4⟩:=wu hj;have hl:=r.length;have hn:=lF
 have I':aS X pins σ (cG H p (.lst (xs.set j v))) {s with heap:=s.heap.update p (Obj.mapSeq (·.setIfInBounds j u))}:=
  I.lstUpd hp ho (vn its n j u) (r.set rv j) (by rw[List.length_set];exact hz) s.toks
 by_cases h0:0<=k
 ·have hk:k.toNat=j:=by
   rw[seqIndex_of h0 h4]at h1;exact Jq h1
  exact W.ki_setAt ho h0 (by omega) (by rw[J6,<- hl];exact h4) (by rw[hk];exact⟨_,I',q⟩)
 ·have hk:(k+(its.toArray.size:Int)).toNat=j:=by
   rw[seqIndex_neg (by omega) h3]at h1;rw[J6,<- hl];exact Jq h1
  exact W.ki_setBack ho (by omega) (by rw[J6,<- hl];exact h3) (by omega) (by rw[hk];exact⟨_,I',q⟩)
theorem rn(lo hi:Option Int)(n:Nat):(sliceBounds lo hi none n).1=((HT.sIx n 0 lo:Nat):Int)/\(sliceBounds lo hi none n).2.1=((HT.sIx n n hi:Nat):Int)/\(sliceBounds lo hi none n).2.2=1:=by
 refine⟨?_,?_,rfl⟩
 ·cases lo with
  |none=>simp[sliceBounds,HT.sIx]
  |some i=>
   simp only[sliceBounds,HT.sIx,Option.getD_none,show (1:Int)>0 by decide,Ku];by_cases h:i<0
   ·simp only[h,Ku] <;> omega
   ·simp only[h,Kt] <;> omega
 ·cases hi with
  |none=>simp[sliceBounds,HT.sIx]
  |some i=>
   simp only[sliceBounds,HT.sIx,Option.getD_none,show (1:Int)>0 by decide,Ku];by_cases h:i<0
   ·simp only[h,Ku] <;> omega
   ·simp only[h,Kt] <;> omega
theorem oV(its:List Value)(lo hi:Option Int):slicePick its.toArray lo hi none=((its.drop (HT.sIx its.length 0 lo)).take (HT.sIx its.length its.length hi-HT.sIx its.length 0 lo)).toArray:=by
 obtain⟨h1,h2,h3⟩:=rn lo hi its.toArray.size;unfold slicePick;rw[h1,h2,h3];simp only[sliceRange_one,pick_run,J6] <;> rfl
def Ga(K:W.Frag):V->Option Int->Option Int->Hp->VK->Prop:=fun x lo hi H Q=>∃a xs,x=.ref a/\eT K H a xs/\∀p,H p=none->Q (.ref p) (cG H p (.lst (r8 xs lo hi)))
theorem Bu:AW X (Ga X.K):=by
 intro pins s σ H x v vl vu lo hi sl Q I rx hs pl pu h;obtain⟨a,xs,rfl,hx,q⟩:=h;cases rx;obtain⟨its,r,ht,hz⟩:=I.list hx;have hlen:=r.length;refine⟨"list",_,KR.lookup,ht.isList.typeIs,?_⟩;refine wpAny_getItem_list_slice ht.isList hs pl pu .none (by simp) ?_ (by rw[J6] <;> omega);rw[oV,<- hlen];refine⟨.ref s.heap.objs.size,_,I.laid (t':=s.toks) (o:=.lst (r8 xs lo hi)) (fun b ob q=>JW _ q) (JY _) ?_,rfl,q _ (I.hok.fresh (JY _))⟩;exact⟨Jx (mf xs lo hi) hz,_,0,(r.drop (HT.sIx xs.length 0 lo)).take (HT.sIx xs.length xs.length hi-HT.sIx xs.length 0 lo),JX _ rfl⟩
theorem bY.or{f:Value}{r r':List V->Hp->VK->Prop}(h:bY X f r)(h':bY X f r'):bY X f (fun xs H Q=>r xs H Q\/r' xs H Q):=by
 intro pins s σ H xs us Q I rs q;rcases q with q|q
 ·exact h pins s σ H xs us Q I rs q
 ·exact h' pins s σ H xs us Q I rs q
theorem rL:bY X (.type "list") (fun xs H Q=>∃p ys,xs=[.ref p]/\(eT X.K H p ys\/fu X.K H p ys)/\∀l,H l=none->Q (.ref l) (cG H l (.lst ys))):=by
 intro pins s σ H xs us Q I r h;obtain⟨p,ys,rfl,hq,q⟩:=h;obtain⟨u,rfl,rx⟩:=dk r;cases rx
 have fin:∀(its:List Value),aX ys its->ys.length<=sizeLine->∀(h':Heap)(c':Nat),(∀b o',s.heap.get? b=some o'->h'.get? b=some o') ->
   h'.get? s.heap.objs.size=some {cls:=.type "list",dict:=none,data:=.seq its.toArray c',slots:=#[]}->EP X pins σ Q (.ref s.heap.objs.size) {s with heap:=h'}:=fun its r' hz h' c' kp e=>
  ⟨.ref s.heap.objs.size,_,I.laid (t':=s.toks) kp (JY _) (show dq X.prog X.w _ h' _ (.lst ys) from⟨hz,its,c',r',e⟩),rfl,q _ (I.hok.fresh (JY _))⟩
 rcases hq with hq|hq
 ·obtain⟨its,r',pl,hz⟩:=I.list hq;have hlen:=r'.length;obtain⟨o,ho,hc,n,hd⟩:=pl.isList;exact call_list_seq p (.inl rfl) ho hc hd (fun h' c' kp e=>fin its r' hz h' c' kp e) (by simp only[J6] <;> omega)
 ·obtain⟨its,r',pl,hz⟩:=I.tuple hq;have hlen:=r'.length;obtain⟨o,ho,hc,n,hd⟩:=pl;exact call_list_seq p (.inr rfl) ho hc hd (fun h' c' kp e=>fin its r' hz h' c' kp e) (by simp only[J6] <;> omega)
theorem ph:bY X (.type "tuple") (fun xs H Q=>∃p ys,xs=[.ref p]/\((eT X.K H p ys/\∀l,H l=none->Q (.ref l) (cG H l (.tup ys)))\/(fu X.K H p ys/\Q (.ref p) H))):=by
 intro pins s σ H xs us Q I r h;obtain⟨p,ys,rfl,h⟩:=h;obtain⟨u,rfl,rx⟩:=dk r;cases rx;rcases h with⟨hq,q⟩|⟨hq,q⟩
 ·obtain ⟨its, r', pl, hz⟩ := I.list hq;have hlen:=r'.length;refine call_tuple_list pl.isList (fun h' kp=>?_) (by simp only[J6] <;> omega);have I1:aS X pins σ H {s with heap:=h'}:=I.kept (t':=s.toks) kp
  have I2:aS X pins σ (cG H h'.objs.size (.tup ys)) {s with heap:=h'.push {cls:=.type "tuple",data:=.seq its.toArray}}:=
   I1.laid (t':=s.toks) (fun b o e=>JW _ e) (JY _) (show dq X.prog X.w _ _ _ (.tup ys) from⟨hz,its,r',KQ _ _⟩)
  exact⟨.ref h'.objs.size,_,I2,rfl,q _ (I1.hok.fresh (JY _))⟩
 ·obtain⟨its,r',pl,hz⟩:=I.tuple hq;exact call_tuple_same pl ⟨.ref p,H,I,rfl,q⟩
def HM(K:W.Frag)(T:String)(x:V)(H:Hp):Prop:=match x with
 |.str _=>T = "str"
 |.int _=>T = "int"
 |.ref p=>(T = "list" /\ ∃xs,eT K H p xs)\/(T = "tuple" /\ ∃o,K.lookup p=some o/\o.cls=.type "tuple" /\ o.dict=none) \/
   (T = "dict" /\ ((∃kvs,H p=some (.dK kvs))\/∃kvs,H p=some (.dT kvs)))\/(T = "set" /\ ∃S n,H p=some (.set S n))
 |_=>False
theorem DU{pins:List (Addr×Obj)}{σ:St}{H:Hp}{s:Shared}{T:String}{x:V}{v:Value}(I:aS X pins σ H s)(r:cq x v)(ty:HM X.K T x H) :
  s.TypeIs v T/\∀a,v=.ref a->∃ob,s.heap.get? a=some ob/\ob.dict=none:=by
 cases x with
 |str z=>
  obtain⟨t,rfl⟩:=r;cases (show T = "str" from ty);exact⟨typeIs_str s z t,fun _ e=>nomatch e⟩
 |int i=>
  obtain⟨t,rfl⟩:=r;cases (show T = "int" from ty);exact⟨typeIs_int s i t,fun _ e=>nomatch e⟩
 |ref p=>
  cases r;rcases ty with⟨rfl,xs,hq⟩|⟨rfl,o,hk,hc,hd⟩|⟨rfl,hk⟩|⟨rfl,S,n,hk⟩
  ·obtain⟨its,_,pl,_⟩:=I.list hq;refine⟨pl.isList.typeIs,fun a e=>?_⟩;cases e;obtain⟨o,n,e,c,hd,_⟩:=pl;exact⟨o,e,hd⟩
  ·refine⟨⟨o,I.kIn p o hk,hc⟩,fun a e=>?_⟩;cases e;exact⟨o,I.kIn _ o hk,hd⟩
  ·have z:∃o,s.heap.get? p=some o/\o.ExactDict:=by
    rcases hk with⟨kvs,hk⟩|⟨kvs,hk⟩
    ·obtain⟨_,_,_,_,o,_,_,e,ex,_⟩:=I.hok p _ hk;exact⟨o,e,ex⟩
    ·obtain⟨_,_,_,_,o,_,_,e,ex,_⟩:=I.hok p _ hk;exact⟨o,e,ex⟩
   obtain⟨o,e,ex⟩:=z;refine⟨⟨o,e,ex.1⟩,fun a e2=>?_⟩;cases e2;exact⟨o,e,ex.2.1⟩
  ·obtain⟨o,_,_,_,e,ex,_⟩:=I.hok p _ hk;refine⟨⟨o,e,ex.1⟩,fun a e2=>?_⟩;cases e2;exact⟨o,e,ex.2.1⟩
 |_=>exact False.elim ty
def IZ(K:W.Frag)(T:String)(r:V->List V->Hp->VK->Prop)(to:TE)(t:TA):TE:=fun σ H Q=>to σ H fun x H1=>HM K T x H1/\t σ H1 fun xs H2=>r x xs H2 Q
variable{o e:Expr}{es:List Expr}{to:TE}{t:TA}{name:Str}{apos cpos:Pos}{T id:String}{r:V->List V->Hp->VK->Prop}
theorem G7 (pa:PlainAttrs T) (slot:Slot T name id) (hty:typeOf (.builtin id)=pure (.type "method_descriptor")) (hm:IM X id r) (ho:PE X o to) (ha:PA X (e::es) t)
  (hbase:attributeBase o name X.env (eval o X.env)=eval o X.env:=by rfl)
  (hfew : ((backTo cpos (starEach (e :: es) X.env)).all (fun x => !x.1) && (backToKw cpos (keywordEach [] X.env)).all (fun x => x.1.isSome)
   && decide ((e::es).length+([]:List Keyword).length+(if ([]:List Keyword).isEmpty then 0 else 1)<30))=true:=by rfl)
  (hline:(apos.endLine == cpos.line)=true:=by rfl) (hs:starEach (e::es) X.env=(false,eval e X.env)::starEach es X.env:=by rfl) (hplain:(backTo cpos (starEach es X.env)).any (·.1)=false:=by rfl) :
  PE X (.Call (.Attribute o name apos) (e::es) [] cpos) (IZ X.K T r to t):=by
 intro pins s σ H Q I h;refine wpAny_Call_method_late hbase hfew hline rfl (d3 (ho pins s σ H _ I h) fun v s1 ⟨x,H1,I1,r1,ty,q1⟩=>?_);obtain⟨h1,h2⟩:=DU I1 r1 ty;refine⟨T,id,pa,slot,hty,h1,h2,?_⟩;have hA:=ha cpos pins s1 σ H1 _ I1 q1;rw[hs]at hA⊢;refine Calls.callWith_builtin (by show (false || (backTo cpos (starEach es X.env)).any (·.1))=false;rw[hplain] <;> rfl) (Calls.evalArgs_plain ?_);exact d3 hA fun us s2 ⟨vs,H2,I2,r2,q2⟩=>hm pins s2 σ H2 x vs v us Q I2 r1 r2 q2
end
end L2
namespace L2
open PySem PySem.Spec PyProof.Rows
def IP(X:Cx)(id:String)(r:V->List V->Hp->VK->Prop):Prop:=
 ∀(pins:List (Addr×Obj))(s:Shared)(σ:St)(H:Hp)(x:V)(xs:List V)(v:Value)(us:List Value)(Q:VK),aS X pins σ H s->cq x v->aX xs us->r x xs H Q ->
  wpAny (model X.prog X.w) X.A (call (.builtin id) (v::us)) (EP X pins σ Q) X.xe s
theorem aX.one:∀{x:V}{us:List Value},aX [x] us->∃u,us=[u]/\cq x u
 |_,_,.cons r .nil=>⟨_,rfl,r⟩
theorem aX.reverse{xs:List V}{us:List Value}(h:aX xs us):aX xs.reverse us.reverse:=by
 induction h with
 |nil=>exact .nil
 |cons r t ih=>rw[KU,KU];exact aX.append ih (.cons r .nil)
theorem aX.rep{xs:List V}{us:List Value}(h:aX xs us):∀k:Nat,aX (List.replicate k xs).flatten (List.replicate k us).flatten
 |0=>.nil
 |k+1=>by
  rw[KW,KW,KY,KY];exact aX.append h (aX.rep h k)
theorem qc(its:List Value):∀(k:Nat)(acc:List Value),
  List.foldl (fun x1 x2=>x1++x2) acc.toArray (List.replicate k its.toArray)=(acc++(List.replicate k its).flatten).toArray
 |0,acc=>by simp
 |k+1,acc=>by
  have e:acc.toArray++its.toArray=(acc++its).toArray:=by simp
  have e2:(acc++its)++(List.replicate k its).flatten=acc++(List.replicate (k+1) its).flatten:=by
   rw[KW,KY,KZ]
  rw[<- e2,<- qc its k (acc++its),<- e,KW,K1]
section
variable{X:Cx}{pins:List (Addr×Obj)}{σ:St}{H:Hp}{s:Shared}{l b:Addr}{xs ys zs:List V}
theorem aS.lset{its its':List Value}{n:Nat}{f:Array Value->Array Value}{t':Nat}(I:aS X pins σ H s)(hH:H l=some (.lst xs))
  (e:s.heap.get? l=some {cls:=.type "list",data:=.seq its.toArray n}) (hf:f its.toArray=its'.toArray) (hv:aX ys its') (hz:ys.length<=sizeLine) :
  aS X pins σ (cG H l (.lst ys)) {s with heap:=s.heap.update l (Obj.mapSeq f),toks:=t'}:=by
 have q:=PySem.IsL.update e f;rw[hf]at q;refine I.write (x:=l) (e:=l) (by rw[hH];exact trivial) (.inl rfl) (fun b' u hb hu=>(Heap.get?_update_other s.heap (Obj.mapSeq f) (JD hb)).trans hu) ⟨_,q⟩ ?_;exact⟨hz,its',_,hv,q⟩
theorem aS.lnew{its:List Value}{t':Nat}(I:aS X pins σ H s)(hv:aX ys its)(hz:ys.length<=sizeLine) :
  aS X pins σ (cG H s.heap.objs.size (.lst ys)) {s with heap:=s.heap.push {cls:=.type "list",data:=.seq its.toArray},toks:=t'}:=
 I.laid (fun _ _ q=>JW _ q) (JY _) ⟨hz,its,0,hv,JX _ rfl⟩
theorem aS.fresh(I:aS X pins σ H s):H s.heap.objs.size=none:=I.hok.fresh (JY _)
theorem aS.lstM (I:aS X pins σ H s) (hH:H l=some (.lst xs)):xs.length<=sizeLine/\∃(its:List Value) (n:Nat),aX xs its/\xs.length=its.length/\s.heap.get? l=some {cls:=.type "list",data:=.seq its.toArray n}:=by
 obtain⟨z,its,n,r,e⟩:=I.hok l _ hH;exact⟨z,its,n,r,r.length,e⟩
theorem tp{n:Nat}(h:n<=sizeLine):Builtin.List.listTooLong n=false:=by
 unfold Builtin.List.listTooLong;exact Jl (by omega)
end
section
variable{X:Cx}
def we:V->List V->Hp->VK->Prop:=fun x vs H Q=>∃l xs y,x=.ref l/\vs=[y]/\H l=some (.lst xs)/\xs.length<sizeLine/\Q .non (cG H l (.lst (xs++[y])))
theorem pX:IP X "list.append" we:=by
 intro pins s σ H x vs v us Q I rx rv h;obtain⟨l,xs,y,rfl,rfl,hH,hz,q⟩:=h;cases rx;obtain⟨u,rfl,ru⟩:=rv.one;obtain⟨z,its,n,r,hl,e⟩:=I.lstM hH;refine call_meets F.slot_list_append ⟨_,e,rfl⟩ F.entry_list_append (F.args_list_append_2 _ _) (PySem.list_append l its.toArray n u (by rw[J6];omega)) ⟨e,?_⟩;refine⟨.non,_,I.lset (its':=its++[u]) hH e (by simp) (r.append (.cons ru .nil)) ?_,rfl,q⟩;rw[Kj,K2];omega
def wd:V->List V->Hp->VK->Prop:=fun x vs H Q=>∃l b xs zs,x=.ref l/\vs=[.ref b]/\H l=some (.lst xs)/\H b=some (.lst zs)/\xs.length+zs.length<=sizeLine/\Q .non (cG H l (.lst (xs++zs)))
theorem xE:IP X "list.extend" wd:=by
 intro pins s σ H x vs v us Q I rx rv h;obtain⟨l,b,xs,zs,rfl,rfl,hH,hB,hz,q⟩:=h;cases rx;obtain⟨u,rfl,ru⟩:=rv.one;cases ru;obtain⟨z,its,n,r,hl,e⟩:=I.lstM hH;obtain⟨z2,its2,n2,r2,hl2,e2⟩:=I.lstM hB;have hsz:its.toArray.size+its2.toArray.size<=sizeLine:=by rw[J6,J6];omega
 have hlong:¬ (!its.toArray.isEmpty&&Builtin.List.listTooLong (its.toArray.size+its2.toArray.size))=true:=by
  rw[tp hsz,Bool.and_false];exact J4
 refine call_meets F.slot_list_extend ⟨_,e,rfl⟩ F.entry_list_extend (F.args_list_extend_2 _ _)
  (AutoSeq1.list_extend_list_list_0 l its.toArray n b its2.toArray n2 hlong (by rw[J6];omega) (by omega)) ⟨e,e2,?_⟩
 refine⟨.non,_,I.lset (its':=its++its2) hH e (by simp) (r.append r2) ?_,rfl,q⟩;rw[Kj];omega
def Gk:R2:=fun x y H Q=>∃l b xs zs,x=.ref l/\y=.ref b/\H l=some (.lst xs)/\H b=some (.lst zs)/\xs.length+zs.length<=sizeLine/\∀p,H p=none->Q (.ref p) (cG H p (.lst (xs++zs)))
theorem E6:iZ X (binaryOp .Add) Gk:=by
 intro pins s σ H x y v u Q I rx ry h;obtain⟨l,b,xs,zs,rfl,rfl,hH,hB,hz,q⟩:=h;cases rx;cases ry;obtain⟨z,its,n,r,hl,e⟩:=I.lstM hH;obtain⟨z2,its2,n2,r2,hl2,e2⟩:=I.lstM hB;refine PySem.P.add_list e e2 ?_ (by rw[J6,J6];omega);have ea:its.toArray++its2.toArray=(its++its2).toArray:=by simp
 rw[ea];exact⟨.ref _,_,I.lnew (t':=s.toks) (r.append r2) (by rw[Kj];omega),rfl,q _ I.fresh⟩
def Gd:R2:=fun x y H Q=>∃l k xs,x=.ref l/\y=.int k/\H l=some (.lst xs)/\-(2^63)<=k/\k<2^63/\xs.length*k.toNat<=sizeLine /\
 ∀p,H p=none->Q (.ref p) (cG H p (.lst (List.replicate k.toNat xs).flatten))
theorem Cp{α:Type}(xs:List α)(k:Nat):(List.replicate k xs).flatten.length=k*xs.length:=by
 induction k with
 |zero=>simp
 |succ k ih=>rw[KW,KY,Kj,ih,K3,Nat.add_comm]
theorem EX:iZ X (binaryOp .Mult) Gd:=by
 intro pins s σ H x y v u Q I rx ry h;obtain⟨l,k,xs,rfl,rfl,hH,h1,h2,hz,q⟩:=h;cases rx;obtain⟨t,rfl⟩:=ry;obtain⟨z,its,n,r,hl,e⟩:=I.lstM hH;have hlen:its.toArray.size*k.toNat<=sizeLine:=by rw[J6,<- hl];exact hz
 have hcap:¬ its.toArray.size*k.toNat>(2^63-1) / 8:=by
  have:(sizeLine:Nat)<=(2^63-1) / 8:=by decide
  omega
 have hfit:¬ (!Builtin.List.listFitsIndex k)=true:=by
  rw[fitsIndex_both h1 h2];exact J4
 have hlong:¬ Builtin.List.listTooLong (its.toArray.size*k.toNat)=true:=by
  rw[tp hlen];exact J4
 have hnew:List.foldl (fun x1 x2=>x1++x2) #[] (List.replicate (if its.toArray.isEmpty=true then 0 else k.toNat) its.toArray)=(List.replicate k.toNat its).flatten.toArray:=by
  have f0:∀m:Nat,List.foldl (fun x1 x2=>x1++x2) #[] (List.replicate m its.toArray)=(List.replicate m its).flatten.toArray:=fun m=>by
   have:=qc its m [];rw[K4]at this;exact this
  rw[f0];cases its with
  |nil=>simp
  |cons a r'=>rw[Jp (by simp)]
 refine wpAny_binaryOp_repeat_ref (T:="list") (U:="int") (by decide) ⟨_,e,rfl⟩ (fun s'=>typeIs_int s' k t) noFill_list_mul F.fills_int_mul F.slot_int_rmul repeat_list F.slot_int_index.lookup
  (call_meets F.slot_int_rmul (typeIs_int s k t) F.entry_int_rmul (F.args_int_rmul_2 _ _) (int___rmul___int_list k t l its.toArray n)
   ⟨e,rfl,⟨_,e,rfl⟩,call_meets F.slot_list_mul ⟨_,e,rfl⟩ F.entry_list_mul (F.args_list_mul_2 _ _) (AutoListH.list___mul___list_int_3 l its.toArray n k t hfit hcap hlong) ⟨e,?_⟩⟩)
 rw[hnew];exact⟨.ref _,_,I.lnew (t':=s.toks) (r.rep k.toNat) (by rw[Cp,Nat.mul_comm];exact hz),rfl,q _ I.fresh⟩
end
section
variable{prog:Program}{w:World}{A:Around}{E:Value->Shared->Prop}{s:Shared}
end
section
variable{X:Cx}
end
end L2
namespace Att
open PySem PySem.W PySem.Calls PyProof.Rows
theorem mN{P:Params}{h:Heap}:∀(ns:List Int)(vs:List Value),WellAll P h vs (ns.map WData.int)->IntsAre vs ns:=by
 intro ns
 induction ns with
 |nil=>
  intro vs w;rw[KM]at w;cases w;exact .nil
 |cons n ns ih=>
  intro vs w;rw[KN]at w;cases w with
  |cons a b=>
   cases a;exact .cons _ _ (ih _ b)
theorem xo{l:OpenLaw}{n:Nat}(hn:l.most=some n){P:Params}{h:Heap}{args:List WData}{vals:List Value}
  (hpre:l.row.toRowW.claim.pre args=true) (hwl:WellAll P h vals args) :
  ∃a vs ns,vals=[Value.ref a]/\args=[WData.list (ns.map WData.int)]/\h.get? a=some {cls:=.type "list",data:=.seq vs.toArray}/\IntsAre vs ns/\ns.length<=n:=by
 have hsh:WShape.hasAll [] args [.list .int]=true:=(pre_splitW hpre).1;have hc:l.pre.holds [] {args:=args}=true:=(pre_splitW hpre).2;obtain⟨d,r,rfl,h1,h2⟩:=hasAllW_cons hsh;obtain rfl:=hasAllW_nil h2;obtain⟨xs,rfl,h3⟩:=hasW_list h1;obtain⟨ns,rfl⟩:=items_int h3
 have hlen:ns.length<=n:=by
  unfold OpenLaw.pre at hc
  have h4:(WTm.not (.lt (.lit (.int (n:Int))) (.len (.arg 0)))).holds [] {args:=[.list (ns.map .int)]}=true:=by
   have h4:=(holds_andW hc).1;rw[hn]at h4;exact h4
  have h5:=condW_of h4 (w_not (w_lt w_lit (w_len_list (w_arg rfl))));rw[Kk]at h5;refine Nat.le_of_not_lt fun q=>?_;have q':(n:Int)<((ns.length:Nat):Int):=by omega
  first
   |(rw[K5 q']at h5;exact absurd h5 (by decide))
   |(simp at h5;omega)
 cases hwl with
 |cons w1 w2=>
  cases w2;cases w1 with
  |list ho hall=>exact⟨_,_,ns,rfl,rfl,ho,mN ns _ hall,hlen⟩
theorem xq(l:OpenLaw)(args:List WData):l.row.toRowW.claim.post args (.bool true) args=true:=
 postW_of (r:=l.row.toRowW) (X:=(true == true))
  (show WShape.has [] (.bool true) .bool=true by first|rfl|decide|simp[WShape.has,WShape.arms,WShape.armsAll])
  (show (WTm.eq .res (.lit (.bool true))).value [] {args:=args,res:=some (.bool true),after:=args}=some (.bool (true == true)) from w_eq_bool (w_res rfl) w_lit) rfl
theorem attach_call{l:OpenLaw}{n:Nat}{q:Program}{loose:List Str}{XP:(Str->Option Value)->Heap->Prop}{YP:World->Heap->Prop}{d:DefRec}
  (hn:l.most=some n) (hdf:d.params.defaults=[])
  (call : ∀ (w : World) (s₀ s₁ : Shared) (mg mb : Str -> Option Value) (fa : Addr) (o : Obj) (pm cd doc : Value) (a : Addr) (vs : List Value) (ns : List Int),
   Ground q loose [] XP w s₀ mg mb s₁.heap->YP w s₁.heap ->
   s₁.heap.get? fa=some o->o.data=.func (docDef d.name d.params d.body d.scope pm cd doc)->s₁.heap.CodeRec cd d.name->mg d.name=some (.ref fa) ->
   s₁.heap.get? a=some {cls:=.type "list",data:=.seq vs.toArray}->IntsAre vs ns->ns.length<=n->s₁.gens=#[] ->
   codeAny (model l.prog w) callerA (.call (.ref fa) ⟨[.ref a],[]⟩) (fun r s'=>r=.ok (.ret (.bool true))/\OldK s₁.heap s'.heap/\s'.os=s₁.os/\AllBare s'.gens) s₁) :
  WalkO q loose XP YP l.row.toRowW d [] (fun f vs=>PySem.call f vs):=by
 intro w s₀ s₁ mg mb G Y fa o pm cd doc dV kV ho hd hcd hD hmg hg args vals as hpre hlay hrd hwl hlo;obtain rfl:dV=.none:=Dflts.none hD hdf;obtain rfl:kV=.none:=Dflts.noKw hD;obtain⟨a,vs,ns,rfl,rfl,hobj,hints,hlen⟩:=xo hn hpre hwl;refine enter_call (J8 (call w s₀ s₁ mg mb fa o pm cd doc a vs ns G Y ho (fd_plain hd) hcd hmg hobj hints hlen hg) fun r s' hq=>?_);obtain⟨rfl,h2,h3,h4⟩:=hq;exact⟨.inl ⟨.bool true,.bool true,[],rfl,fun _=>rfl,.bool true,xq l _,fun _=>⟨List.Pairwise.nil,fun _ hm=>(nomatch hm)⟩⟩,h2,h3,h4⟩
section
variable{prog:Program}{w:World}{A:Around}{E:Value->Shared->Prop}{s:Shared}{K:Frag}
end
end Att
namespace L2
open PySem PySem.Spec PyProof.Rows
theorem pJ:∀{vs:List Value}{ns:List Int},IntsAre vs ns->aX (ns.map V.int) vs
 |_,_,.nil=>.nil
 |_,_,.cons n t h=>.cons ⟨t,rfl⟩ (pJ h)
def A3(H:Hp):Prop:=∀b,H b=none\/∃o xs,H b=some (.frz o (.lst xs))
theorem An{P:Program}{w:World}{K:W.Frag}{mg mb:Str->Option Value}{CX:wM}{k:Nat}{fa a:Addr}{fd:FuncData}{x:Str}{sp:Sp}{s₁:Shared}{vs:List Value}{ns:List Int}
  (KX:K.In s₁.heap) (hns:s₁.heap.Ns mainGlobals mg) (hb:s₁.heap.Ns builtinsNs mb) (hbb:∀x:Str,x ≠ "__name__" -> mb x=bootBuiltins x) (hlim:s₁.heap.NoLimit) (hg:s₁.gens=#[])
  (ha:s₁.heap.get? a=some {cls:=.type "list",data:=.seq vs.toArray}) (hi:IntsAre vs ns) (hl:ns.length<=sizeLine) (hr:gu k callerA)
  (F:∀base:Heap,K.In base->base.Ns mainGlobals mg->oS P w K mg base CX k fa fd [x] sp) (hbind:∀(s:Shared)(u:Value),BindsTo s fd ⟨[u],[]⟩ [(x,u)])
  (hsp:∀H:Hp,A3 H->eT K H a (ns.map V.int)->sp [.ref a] H (fun v _=>v=.bl true) fun _ _ _=>False)
  (hCX:∀H e s',CX [] H s₁ (fun _ _ _=>False) e s'->False) :
  codeAny (model P w) callerA (.call (.ref fa) ⟨[.ref a],[]⟩) (fun r s'=>r=.ok (.ret (.bool true))/\OldK s₁.heap s'.heap/\s'.os=s₁.os/\AllBare s'.gens) s₁:=by
 have rv:=pJ hi;have lenV:=hi.length
 have core:∀H:Hp,A3 H->eT K H a (ns.map V.int)->nh P w H s₁.heap->(∀b,H b≠none->b=a)->(H a≠none->K.lookup a=none) ->
   codeAny (model P w) callerA (.call (.ref fa) ⟨[.ref a],[]⟩) (fun r s'=>r=.ok (.ret (.bool true))/\OldK s₁.heap s'.heap/\s'.os=s₁.os/\AllBare s'.gens) s₁:=by
  intro H hO hS hok hA hK;have base_of:∀{b:Addr}{o:Obj},s₁.heap.get? b=some o->H b=none->(qq s₁.heap H).get? b=some o:=fun e n=>As e n
  have noA:∀{b:Addr}{o:Obj}{es:Array DictEntry}{ep:Nat},s₁.heap.get? b=some o->o.data=.dict es ep->H b=none:=fun {b o es ep} e d=>by
   cases q:H b with
   |none=>rfl
   |some u=>
    have e':b=a:=hA b (by rw[q];simp);subst e';rw[ha]at e;cases e;have d':Data.seq vs.toArray _=Data.dict es ep:=d;cases d'
  have nsK:∀{b:Addr}{m:Str->Option Value},s₁.heap.Ns b m->(qq s₁.heap H).Ns b m:=fun {b m} ⟨o,es,ep,e,d,r⟩=>⟨o,es,ep,base_of e (noA e d),d,r⟩
  have hKb:K.In (qq s₁.heap H):=fun b o e=>base_of (KX b o e) (by
   cases q:H b with
   |none=>rfl
   |some u=>
    have e':b=a:=hA b (by rw[q];simp);subst e'
    rw[hK (by rw[q];simp)]at e;cases e)
  have hM:Mod K mg (qq s₁.heap H):=⟨hKb,nsK hns,⟨mb,nsK hb,hbb⟩,let ⟨mc,h1,h2⟩:=hlim;⟨mc,nsK h1,h2⟩⟩;have e0:yE P w K mg (qq s₁.heap H) callerA [] s₁ H:=⟨rfl,hM,fun b o e=>Ce e,Nat.le_of_eq (xO _ _),trivial,fun b hb=>absurd (show b∈([]:List Addr) from hb) (by simp),hok,.of_eq hg⟩;refine J8 ((F _ hKb (nsK hns)).run callerA [] s₁ H ⟨[.ref a],[]⟩ [.ref a] [.ref a] _ _ hr e0 (hbind s₁ (.ref a)) (.cons rfl .nil) (hsp H hO hS)) fun r s' h=>?_;cases r with
  |error e=>exact(hCX H e s' h).elim
  |ok fl=>
   cases fl with
   |next=>exact False.elim h
   |brk=>exact False.elim h
   |cont=>exact False.elim h
   |ret u=>
    obtain⟨v,H',os,bare,un,hok',r',q⟩:=h;have q':v=.bl true:=q;subst q';obtain rfl:u=Value.bool true:=r';refine⟨rfl,OldK.of_keep fun b o e=>?_,os,bare⟩;cases q:H b with
    |none=>exact un.keep b o e q (by intro z;exact absurd (show b∈([]:List Addr) from z) (by simp)) (by simp)
    |some u=>
     rcases hO b with z|⟨ob,xs,z⟩
     ·rw[q]at z;cases z
     ·have z2:=un.frzs b ob _ z;obtain⟨e1,_⟩:=hok b _ z;obtain⟨e2,_⟩:=hok' b _ z2;rw[e]at e1;cases e1;exact e2
 cases hk:K.lookup a with
 |some o=>
  have e:=KX a o hk;rw[ha]at e;cases e;refine core (fun _=>none) (fun _=>.inl rfl) (.inr ⟨_,vs.toArray,_,hk,rfl,rfl,rfl,by rw[J6,lenV];exact hl,by simpa using rv⟩) (fun b u z=>by have z':(none:Option HO)=some u:=z;cases z') (fun b z=>absurd rfl z) fun z=>absurd rfl z
 |none=>
  refine core (fun b=>if b=a then some (.frz {cls:=.type "list",data:=.seq vs.toArray} (.lst (ns.map V.int))) else none) (fun b=>?_) (.inl (.inr ⟨{cls:=.type "list",data:=.seq vs.toArray},Jo rfl⟩)) (fun b u z=>?_) (fun b z=>?_) fun _=>hk
  ·by_cases hb : b = a
   ·exact .inr ⟨_,_,Jo hb⟩
   ·exact .inl (Jp hb)
  ·by_cases hb : b = a
   ·have z':=(Jo hb).symm.trans z;cases z';subst hb;exact⟨ha,by rw[Kk];exact hl,vs,_,rv,ha⟩
   ·have z':=(Jp hb).symm.trans z;cases z'
  ·by_cases hb : b = a
   ·exact hb
   ·exact absurd (Jp hb) z
end L2
namespace L2
open PySem PySem.Spec PyProof.Rows
theorem walk_of{l:W.OpenLaw}{n k:Nat}{q:Program}{loose:List Str}{XP:(Str->Option Value)->Heap->Prop}{YP:World->Heap->Prop}{d:DefRec}{K:Params->W.Frag}{CX:World->wM}{sp:World->Sp}{x:Str}
  (hn:l.most=some n) (hn2:n<=sizeLine) (hdf:d.params.defaults=[]) (hr:gu k callerA)
  (hY:∀(w:World)(h:Heap),YP w h->(K w.params).In h)
  (F : ∀ (w : World) (mg : Str -> Option Value) (fa : Addr) (h : Heap), (K w.params).In h -> h.Ns mainGlobals mg -> mg d.name = some (.ref fa) ->
   ∃fd:FuncData,(∀(s:Shared)(u:Value),BindsTo s fd ⟨[u],[]⟩ [(x,u)]) /\
    ∀base:Heap,(K w.params).In base->base.Ns mainGlobals mg->oS l.prog w (K w.params) mg base (CX w) k fa fd [x] (sp w))
  (hsp:∀(w:World)(H:Hp)(a:Addr)(ns:List Int),ns.length<=n->A3 H->eT (K w.params) H a (ns.map V.int)->sp w [.ref a] H (fun v _=>v=.bl true) fun _ _ _=>False)
  (hCX:∀(w:World)(H:Hp)(s:Shared)(e:Value)(s':Shared),CX w [] H s (fun _ _ _=>False) e s'->False) :
  W.WalkO q loose XP YP l.row.toRowW d [] (fun f vs=>PySem.call f vs):=by
 refine Att.attach_call hn hdf fun w s₀ s₁ mg mb fa o pm cd doc a vs ns G Y ho hd hcd hmg hobj hints hlen hg=>?_;have KX:=hY w _ Y;obtain⟨fd,hb,hF⟩:=F w mg fa _ KX G.T.g hmg;exact An KX G.T.g G.T.b G.T.builtins G.T.nolimit hg hobj hints (Jx hlen hn2) hr hF hb (fun H hO hS=>hsp w H a ns hlen hO hS) fun H e s'=>hCX w H s₁ e s'
end L2
namespace L2
open PySem PySem.Spec PyProof.Rows
def dJ(s:Stmt):Arguments:=match s with
 |.FunctionDef _ a _ _ _ _ _ _ _ _=>a
 |_=>{posonlyargs:=[],args:=[],vararg:=none,kwonlyargs:=[],kw_defaults:=[],kwarg:=none,defaults:=[]}
def cz(s:Stmt):List Stmt:=match s with
 |.FunctionDef _ _ b _ _ _ _ _ _ _=>b
 |_=>[]
def ar(s:Stmt):Scope:=match s with
 |.FunctionDef _ _ _ _ _ _ sc _ _ _=>sc
 |_=>{kind:=.function,names:=[],isGenerator:=false,isCoroutine:=false}
abbrev yo:wM:=fun _ _ _ _ _ _=>False
abbrev E0:XK:=fun _ _ _=>False
theorem G9{X:Cx}:uX yo X E0:=fun _ _ _ _ _ _ _ h=>h.elim
structure ig(K:W.Frag)(x qual:Str)(st:Stmt)(f:Addr)(fd:FuncData):Prop where
 ex:∃(oc:Value)(od:Option Addr)(kV doc pm:Value)(an:Option Addr)(cdv ct:Value)(osl:Array (Option Value)),
  fd=W.fnOf x qual (dJ st) (cz st) (ar st) .none kV doc pm an cdv ct/\K.lookup f=some ⟨oc,od,.func fd,osl⟩/\W.codeIn K cdv qual=true
 kp:W.keepIn K (.ref f)=true
section
variable{P:Program}{w:World}{K:W.Frag}{mg:Str->Option Value}{base:Heap}
theorem ig.ok{x qual:Str}{st:Stmt}{f:Addr}{fd:FuncData}{N ps:List Str}{k:Nat}{sp:Sp}(F:ig K x qual st f fd)(S:aW N ps (ar st))(len:∀vs H Q E,sp vs H Q E->vs.length=ps.length)
  (hbody : ∀ (cdv : Value) (A : Around) (outer : List Env) (s : Shared) (H : Hp) (vs : List V) (Q : VK) (E : XK), gu k (A.deeper (envOfC qual (ar st) s.heap.objs.size f cdv)) -> sp vs H Q E ->
   ∃t,jV (qt yo P w K mg base N qual (ar st) f cdv A outer s H E).nox (cz st) t/\t {nx:=fun _ H'=>Q .non H',rt:=Q} (start N vs) H):oS P w K mg base yo (k+1) f fd ps sp:=by
 obtain⟨oc,od,kV,doc,pm,an,cdv,ct,osl,rfl,lk,hcd⟩:=F.ex;refine Ho lk hcd S len fun A outer s H vs Q E hr hsp=>?_;obtain⟨t,h,q⟩:=hbody cdv A outer s H vs Q E hr hsp;exact⟨t,h.nox,q⟩
theorem ig.binds{x qual:Str}{st:Stmt}{f:Addr}{fd:FuncData}{ps:List Str}(F:ig K x qual st f fd)
  (h:∀(kV doc pm:Value)(an:Option Addr)(cdv ct:Value)(us:List Value),us.length=ps.length->bindArgs (W.fnOf x qual (dJ st) (cz st) (ar st) .none kV doc pm an cdv ct) ⟨us,[]⟩=pure (ps.zip us)):i5 K fd ps []:=by
 obtain⟨oc,od,kV,doc,pm,an,cdv,ct,osl,rfl,lk,hcd⟩:=F.ex;exact .all (h kV doc pm an cdv ct)
theorem FM{x qual:Str}{st:Stmt}{f:Addr}{oc:Value}{od an:Option Addr}{osl:Array (Option Value)}{kV doc pm cdv ct:Value}(l:K.lookup f=some ⟨oc,od,.func (W.fnOf x qual (dJ st) (cz st) (ar st) .none kV doc pm an cdv ct),osl⟩)
  (c:W.codeIn K cdv qual=true) (k:W.keepIn K (.ref f)=true):ig K x qual st f (W.fnOf x qual (dJ st) (cz st) (ar st) .none kV doc pm an cdv ct):=⟨⟨oc,od,kV,doc,pm,an,cdv,ct,osl,rfl,l,c⟩,k⟩
end
section
variable{X:Cx}
end
theorem Gu{A B:Prop}(h:B):if false=true then A else B:=by
 rw[Jp J4];exact h
theorem Gs{A B:Prop}(h:A):if true=true then A else B:=by
 rw[Jo rfl];exact h
end L2
namespace Lw
open PySem PySem.Spec PyProof.Rows L2
def top(i:Nat):Stmt:=PySem.Challenge.pw_rootwebs_k39_knots.main.body.getD i (.Pass ⟨0,0,0,0⟩)
abbrev gX:Stmt:=top 1
abbrev dM:Stmt:=top 2
abbrev gY:Stmt:=top 3
abbrev ff:Stmt:=top 4
abbrev fe:Stmt:=top 5
abbrev cL:Stmt:=top 6
abbrev iR:Stmt:=top 8
abbrev eZ:Stmt:=top 10
abbrev fg:Stmt:=top 11
abbrev fQ:Stmt:=top 12
abbrev dD:Stmt:=top 13
abbrev fJ:Stmt:=top 14
abbrev eC:Stmt:=top 16
abbrev gm:Stmt:=top 17
abbrev fm:Stmt:=top 18
abbrev gn:Stmt:=top 19
abbrev fK:Stmt:=top 20
abbrev dE:Stmt:=top 21
abbrev cD:Stmt:=top 22
abbrev df:Stmt:=top 23
abbrev cS:Stmt:=top 24
abbrev dg:Stmt:=top 25
abbrev cj:Stmt:=top 26
abbrev dN:Stmt:=top 27
abbrev bN:Stmt:=top 28
abbrev bu:Stmt:=top 29
abbrev ji:Stmt:=top 30
def en(P:Params)(n:Str)(t:Tok)(v:Value):DictEntry:=⟨PyData.keyHash P n,.str n t,v⟩
def fo (n:Str) (st:Stmt) (m:Str) (t:Tok) (c:Addr):Obj:=⟨.type "function",none,.func (W.fnOf n n (dJ st) (cz st) (ar st) .none .none .none (.str m t) none (.ref c) .none),#[]⟩
def co (n:Str) (t:Tok) (l k i:Int) (a:Addr) (p:Bool) (u:Nat):Obj:=⟨.type "code",none,.fields #[.str n t,.str n (t+1),.str "/claim/cut.py" (t+2),.int l 0,.int k 0,.int 0 0,.int 0 0,.int 3 0,.ref a,.bool true,.int i 0,.ref (a+1),.none,bif p then .ref (a+2) else .none,bif p then .ref (a+3) else .none,.ref (bif p then a+4 else a+2),.int u 0,.int l 0,.str "/claim/cut.py" (u+1)],#[]⟩
def Kz (P:Params):W.Frag:=[(3,⟨.type "dict",none,.dict #[en P "__name__" 165 (.str "law_rootwebs_k39_knots" 277),en P "__doc__" 166 .none,en P "__package__" 167 .none,en P "__loader__" 168 (.builtin "__main__.__loader__#opaque"),en P "__spec__" 169 .none,en P "__annotations__" 170 (.ref 6),en P "__builtins__" 171 (.ref 4),en P "__file__" 173 (.str "/claim/cut.py" 172),en P "__cached__" 174 .none,en P "is_whole" 195 (.ref 21),en P "is_whole_from" 204 (.ref 28),en P "is_place" 212 (.ref 35),en P "is_places" 218 (.ref 40),en P "is_rising" 224 (.ref 45),en P "is_rising_places" 232 (.ref 52),en P "is_tied" 243 (.ref 59),en P "knot_good" 251 (.ref 64),en P "fits_knot" 257 (.ref 69),en P "knots_of" 263 (.ref 74),en P "great_knots" 269 (.ref 79),en P "knots_many" 276 (.ref 86),en P "_law_cell_at" 286 (.ref 93),en P "_law_next" 293 (.ref 100),en P "_law_pen_of" 301 (.ref 107),en P "_law_draw" 310 (.ref 114),en P "_law_whole" 317 (.ref 121),en P "_law_web_of" 323 (.ref 126),en P "_law_drawn_web" 329 (.ref 131),en P "_law_near_of" 335 (.ref 136),en P "_law_two_step" 341 (.ref 141),en P "_law_any_web" 347 (.ref 146),en P "_law_tuples_are" 353 (.ref 151),en P "_law_no_place" 362 (.ref 158),en P "_law_is_knot" 368 (.ref 163),en P "_law_lots_right" 374 (.ref 168),en P "law" 380 (.ref 173)] 36,#[]⟩),
 (20,co "is_whole" 189 2 1 181 15 true 193),
 (21,fo "is_whole" gX "rootwebs.kinds" 187 20),
 (27,co "is_whole_from" 196 4 3 181 22 true 202),
 (28,fo "is_whole_from" dM "rootwebs.kinds" 187 27),
 (34,co "is_place" 205 6 2 181 29 true 210),
 (35,fo "is_place" gY "rootwebs.kinds" 187 34),
 (39,co "is_places" 213 8 2 181 36 false 216),
 (40,fo "is_places" ff "rootwebs.kinds" 187 39),
 (44,co "is_rising" 219 10 1 181 41 false 222),
 (45,fo "is_rising" fe "rootwebs.kinds" 187 44),
 (51,co "is_rising_places" 225 12 2 181 46 true 230),
 (52,fo "is_rising_places" cL "rootwebs.kinds" 187 51),
 (58,co "is_tied" 235 15 3 181 53 true 241),
 (59,fo "is_tied" iR "rootwebs.webs" 233 58),
 (63,co "knot_good" 246 18 2 181 60 false 249),
 (64,fo "knot_good" eZ "rootwebs.stars" 244 63),
 (68,co "fits_knot" 252 22 3 181 65 false 255),
 (69,fo "fits_knot" fg "rootwebs.stars" 244 68),
 (73,co "knots_of" 258 24 1 181 70 false 261),
 (74,fo "knots_of" fQ "rootwebs.stars" 244 73),
 (78,co "great_knots" 264 29 1 181 75 false 267),
 (79,fo "great_knots" dD "rootwebs.stars" 244 78),
 (85,co "knots_many" 270 32 1 181 80 true 274),
 (86,fo "knots_many" fJ "rootwebs.stars" 244 85),
 (92,co "_law_cell_at" 279 35 2 181 87 true 284),
 (93,fo "_law_cell_at" eC "law_rootwebs_k39_knots" 277 92),
 (99,co "_law_next" 287 39 1 181 94 true 291),
 (100,fo "_law_next" gm "law_rootwebs_k39_knots" 277 99),
 (106,co "_law_pen_of" 294 42 1 181 101 true 299),
 (107,fo "_law_pen_of" fm "law_rootwebs_k39_knots" 277 106),
 (113,co "_law_draw" 302 45 2 181 108 true 308),
 (114,fo "_law_draw" gn "law_rootwebs_k39_knots" 277 113),
 (120,co "_law_whole" 311 52 1 181 115 true 315),
 (121,fo "_law_whole" fK "law_rootwebs_k39_knots" 277 120),
 (125,co "_law_web_of" 318 54 2 181 122 false 321),
 (126,fo "_law_web_of" dE "law_rootwebs_k39_knots" 277 125),
 (130,co "_law_drawn_web" 324 56 2 181 127 false 327),
 (131,fo "_law_drawn_web" cD "law_rootwebs_k39_knots" 277 130),
 (135,co "_law_near_of" 330 63 2 181 132 false 333),
 (136,fo "_law_near_of" df "law_rootwebs_k39_knots" 277 135),
 (140,co "_law_two_step" 336 65 1 181 137 false 339),
 (141,fo "_law_two_step" cS "law_rootwebs_k39_knots" 277 140),
 (145,co "_law_any_web" 342 72 2 181 142 false 345),
 (146,fo "_law_any_web" dg "law_rootwebs_k39_knots" 277 145),
 (150,co "_law_tuples_are" 348 86 2 181 147 false 351),
 (151,fo "_law_tuples_are" cj "law_rootwebs_k39_knots" 277 150),
 (157,co "_law_no_place" 354 90 2 181 152 true 360),
 (158,fo "_law_no_place" dN "law_rootwebs_k39_knots" 277 157),
 (162,co "_law_is_knot" 363 93 2 181 159 false 366),
 (163,fo "_law_is_knot" bN "law_rootwebs_k39_knots" 277 162),
 (167,co "_law_lots_right" 369 102 1 181 164 false 372),
 (168,fo "_law_lots_right" bu "law_rootwebs_k39_knots" 277 167),
 (172,co "law" 375 120 1 181 169 false 378),
 (173,fo "law" ji "law_rootwebs_k39_knots" 277 172)]
def Qz:Program:=W.view PySem.Challenge.pw_rootwebs_k39_knots [1,2,3,4,5,6,8,10,11,12,13,14,16,17,18,19,20,21,22,23,24,25,26,27,28,29,30]
noncomputable abbrev Hz:W.Hook:=W.kHook Kz [3,20,21,27,28,34,35,39,40,44,45,51,52,58,59,63,64,68,69,73,74,78,79,85,86,92,93,99,100,106,107,113,114,120,121,125,126,130,131,135,136,140,141,145,146,150,151,157,158,162,163,167,168,172,173] fun _=>by kernel_rfl
theorem DN:PySem.Challenge.rw_rootwebs_k39_knots.wellSaid=true:=by kernel_rfl
noncomputable abbrev Xz(s:Shared):Bool:=W.xlAt Qz [] s&&W.recOk (W.RowW.records (W.OpenRow.toRowW (W.OpenLaw.row PySem.Challenge.rw_rootwebs_k39_knots))) s
theorem u6{σ α β γ δ ε:Type _}{o:Option σ}(F:σ->α×β×γ×δ)(G:σ->ε)(g:α×β×γ×δ)(v:ε)
  (h1:o.map (fun s=>(F s).1)=some g.1) (h2:o.map (fun s=>((F s).2.1,(F s).2.2.1))=some (g.2.1,g.2.2.1)) (h3:o.map (fun s=>(F s).2.2.2)=some g.2.2.2)
  (h4:o.map G=some v):o.map (fun s=>(F s,G s))=some (g,v):=by
 cases o with
 |none=>cases h4
 |some s=>
  have e1:(F s).1=g.1:=Jq h1;have e2:((F s).2.1,(F s).2.2.1)=(g.2.1,g.2.2.1):=Jq h2;have e3:(F s).2.2.2=g.2.2.2:=Jq h3;have e4:G s=v:=Jq h4;have e5:(F s).2.1=g.2.1:=(Prod.mk.inj e2).1;have e6:(F s).2.2.1=g.2.2.1:=(Prod.mk.inj e2).2;have e:F s=g:=Prod.ext e1 (Prod.ext e5 (Prod.ext e6 e3));show some (F s,G s)=some (g,v);rw[e,e4]
noncomputable abbrev Oz(w:World):=W.openEnds PySem.treeTable PySem.Challenge.rw_rootwebs_k39_knots.row.prog w 1698
noncomputable abbrev Sz:=W.openSeen Qz [] (PySem.importedModules PySem.Challenge.rw_rootwebs_k39_knots.row.prog.main.body) Xz true
noncomputable abbrev Tz:=W.openGood Qz []
theorem A9:∀w,(Oz w).map (fun s=>(Sz s).1)=some Tz.1:=fun w=>by kernel_rfl
theorem A8:∀w,(Oz w).map (fun s=>((Sz s).2.1,(Sz s).2.2.1))=some (Tz.2.1,Tz.2.2.1):=fun w=>by kernel_rfl
theorem A7:∀w,(Oz w).map (fun s=>(Sz s).2.2.2)=some Tz.2.2.2:=fun w=>by kernel_rfl
theorem A6:∀w,(Oz w).map (W.Hook.obs Hz)=some (W.Hook.val Hz w):=fun w=>by kernel_rfl
theorem DO:W.LeftO PySem.Challenge.rw_rootwebs_k39_knots.row.prog Qz [] Xz (W.Hook.obs Hz) (W.Hook.val Hz) 1698:=fun w=>u6 Sz (W.Hook.obs Hz) Tz (W.Hook.val Hz w) (A9 w) (A8 w) (A7 w) (A6 w)
end Lw
namespace L2
open PySem PySem.Spec PyProof.Rows
theorem eD{x:Str}:∀{names:List (Str×NameKind)}{k:NameKind},names.lookup x=some k->(x,k)∈names
 |[],_,h=>by simp at h
 |(n,j)::r,k,h=>by
  rw[K6]at h;cases hx:x == n with
  |true=>
   rw[hx]at h;have e:x=n:=eq_of_beq hx;cases h;rw[e];exact JA
  |false=>rw[hx]at h;exact JB _ (eD h)
theorem gF{env:Env}{x:Str}:∀{names:List (Str×NameKind)},
  (names.map fun (n, k) => if (k == NameKind.free && env.scope.kind == .function && env.kindOf n == some .cell) then (n, NameKind.cell) else (n, k)).lookup x =
   (names.lookup x).map fun k=>if (k == NameKind.free&&env.scope.kind == .function&&env.kindOf x == some .cell) then NameKind.cell else k
 |[]=>rfl
 |(n,k)::r=>by
  have ih:=gF (env:=env) (x:=x) (names:=r);rw[KN];show List.lookup x ((if (k == NameKind.free&&env.scope.kind == .function&&env.kindOf n == some .cell)=true then (n,NameKind.cell) else (n,k))::_)=_;cases hx:x == n with
  |true=>
   have e:x=n:=eq_of_beq hx;subst e;by_cases hc:(k == NameKind.free&&env.scope.kind == .function&&env.kindOf x == some .cell)=true
   ·rw[Jo hc,K6,hx,K6,hx];show some NameKind.cell=some (if _ then _ else _);rw[Jo hc]
   ·rw[Jp hc,K6,hx,K6,hx];show some k=some (if _ then _ else _);rw[Jp hc]
  |false=>
   by_cases hc:(k == NameKind.free&&env.scope.kind == .function&&env.kindOf n == some .cell)=true
   ·rw[Jo hc,K6,hx,K6,hx];exact ih
   ·rw[Jp hc,K6,hx,K6,hx];exact ih
theorem ku{env:Env}{f:Str×NameKind->List (Str×Addr)->Sem (ForInStep (List (Str×Addr)))}
  (h1:∀n c acc,env.cells.lookup n=some c->f (n,.free) acc=pure (.yield ((n,c)::acc))) (h2:∀n k acc,k≠.free->f (n,k) acc=pure (.yield acc)) :
  ∀(names:List (Str×NameKind))(acc:List (Str×Addr)),(∀y∈names,y.2=.free->∃c,env.cells.lookup y.1=some c)->(∀x c,acc.lookup x=some c->env.cells.lookup x=some c) ->
   ∃cl,forIn names acc f=(pure cl:Sem (List (Str×Addr)))/\(∀x c,cl.lookup x=some c->env.cells.lookup x=some c)/\(∀x,(acc.lookup x).isSome=true->(cl.lookup x).isSome=true)/\(∀y∈names,y.2=.free->(cl.lookup y.1).isSome=true)
 |[],acc,_,ha=>⟨acc,rfl,ha,fun _ h=>h,fun y hy=>by simp at hy⟩
 |(n,k)::r,acc,hn,ha=>by
  by_cases hk:k=.free
  ·subst hk;obtain⟨c,hc⟩:=hn (n,.free) JA rfl
   obtain⟨cl,e1,e2,e3,e4⟩:=ku h1 h2 r ((n,c)::acc) (fun y hy=>hn y (JB _ hy)) (fun x d h=>by
    rw[K6]at h;cases hx:x == n with
    |true=>rw[hx]at h;cases h;rw[eq_of_beq hx];exact hc
    |false=>rw[hx]at h;exact ha x d h)
   refine⟨cl,?_,e2,fun x h=>e3 x ?_,fun y hy hf=>?_⟩
   ·rw[K7,h1 n c acc hc];exact e1
   ·rw[K6];cases hx:x == n <;> simp[h]
   ·rcases JC.mp hy with z | z
    ·subst z;exact e3 n (by simp[K6])
    ·exact e4 y z hf
  ·obtain ⟨cl, e1, e2, e3, e4⟩ := ku h1 h2 r acc (fun y hy => hn y (JB _ hy)) ha;refine⟨cl,?_,e2,e3,fun y hy hf=>?_⟩
   ·rw[K7,h2 n k acc hk];exact e1
   ·rcases JC.mp hy with z | z
    ·subst z;exact absurd hf hk
    ·exact e4 y z hf
theorem um{env:Env}{n:Str}{c:Addr}(h:env.cells.lookup n=some c):cellOf env n=pure c:=by
 unfold cellOf;rw[h]
def vQ(env:Env)(x:Str×NameKind)(r:List (Str×Addr)):Sem (ForInStep (List (Str×Addr))):=
 match x with|(name,kind)=>if kind == .free then do let c <- cellOf env name;pure (.yield ((name,c)::r)) else pure (.yield r)
theorem vz{scope:Scope}{env:Env}(hn:∀y∈scope.names,y.2=.free->∃c,env.cells.lookup y.1=some c) :
  ∃cl,closureFor scope env=pure cl/\(∀x c,cl.lookup x=some c->env.cells.lookup x=some c)/\(∀y∈scope.names,y.2=.free->(cl.lookup y.1).isSome=true):=by
 obtain⟨cl,e1,e2,_,e4⟩:=ku (env:=env) (f:=vQ env)
  (fun n c acc h=>by unfold vQ;simp only[K8,Ku];rw[um h];rfl)
  (fun n k acc h => by
   unfold vQ;have:(k == NameKind.free)=false:=by simpa using h
   simp only[this,K9,Kt]) scope.names [] hn (fun x c h=>by simp at h)
 refine⟨cl,?_,e2,e4⟩;show (forIn scope.names [] (vQ env) >>= fun s=>pure s)=pure cl;rw[e1];rfl
def ij(X:Cx)(Nc:List Str)(scope:Scope)(cl:List (Str×Addr))(C:Addr)(s:Shared)(H:Hp)(fp:List Addr):Cx where
 prog:=X.prog
 w:=X.w
 K:=X.K
 mg:=X.mg
 base:=X.base
 A:=X.A
 N:=Nc
 s₀:=s
 H₀:=H
 env:=compEnvC scope (cellsFrom (C+1) scope.names cl) C X.env
 outer:=X.stack
 stack:=X.stack
 ex:=fp
 fn:=fun x=>scope.names.lookup x == some .cell
 calm:=X.calm
 pn:=[]
 xe:=fun _ _=>False
def nE(cap:List (Option Nat))(σ:St):St:=cap.map fun o=>o.bind fun j=>(σ[j]?).join
def fy(N:List Str)(env:Env)(scope:Scope):List Str->List (Option Nat)->Bool
 |[],[]=>true
 |_::Nc,none::cap=>fy N env scope Nc cap
 |x::Nc,some j::cap=>(N[j]? == some x)&&(scope.names.lookup x == some .free)&&fy N env scope Nc cap
 |_,_=>false
theorem lS{N:List Str}{env:Env}{scope:Scope}:∀{Nc:List Str}{cap:List (Option Nat)},fy N env scope Nc cap=true->cap.length=Nc.length
 |[],[],_=>rfl
 |[],_::_,h=>by simp[fy]at h
 |_::_,[],h=>by simp[fy]at h
 |_::Nc,none::cap,h=>by rw[La,La,lS (Nc:=Nc) (cap:=cap) h]
 |x::Nc,some j::cap,h=>by
  have h':fy N env scope Nc cap=true:=by unfold fy at h;simp only[KJ]at h;exact h.2
  rw[La,La,lS h']
theorem n4{N:List Str}{env:Env}{scope:Scope}:∀{Nc:List Str}{cap:List (Option Nat)}{i j:Nat}{x:Str},fy N env scope Nc cap=true->cap[i]?=some (some j)->Nc[i]?=some x->N[j]?=some x/\scope.names.lookup x=some .free
 |[],_,_,_,_,_,_,e=>by simp at e
 |_::_,[],_,_,_,h,_,_=>by simp[fy]at h
 |y::Nc,none::cap,0,j,x,h,e,_=>by simp at e
 |y::Nc,some k::cap,0,j,x,h,e,e2=>by
  simp at e e2;subst e;subst e2;unfold fy at h;simp only[KJ]at h;exact⟨eq_of_beq h.1.1,eq_of_beq h.1.2⟩
 |y::Nc,none::cap,i+1,j,x,h,e,e2=>n4 (Nc:=Nc) (cap:=cap) (i:=i) h (by simpa using e) (by simpa using e2)
 |y::Nc,some k::cap,i+1,j,x,h,e,e2=>by
  have h':fy N env scope Nc cap=true:=by unfold fy at h;simp only[KJ]at h;exact h.2
  exact n4 (Nc:=Nc) (cap:=cap) (i:=i) h' (by simpa using e) (by simpa using e2)
structure bI(N:List Str)(env:Env)(scope:Scope)(Nc:List Str)(cap:List (Option Nat)):Prop where
 kind:scope.kind=.function
 nd:∀y∈scope.names,scope.names.lookup y.1=some y.2
 free:∀y∈scope.names,y.2=.free->env.kindOf y.1=some .cell\/env.kindOf y.1=some .free
 cap:fy N env scope Nc cap=true
theorem jO{n0:Nat}{x:Str}{c:Addr}:∀{names:List (Str×NameKind)}{cl:List (Str×Addr)}{n:Nat},n0<=n->((x,NameKind.cell)∈names\/∃c',cl.lookup x=some c'/\n0<=c')->(cellsFrom n names cl).lookup x=some c->n0<=c
 |[],cl,n,_,h,e=>by
  rcases h with z|⟨c',z1,z2⟩
  ·simp at z
  ·have e':cl.lookup x=some c:=e;rw[z1]at e';cases e';exact z2
 |(y,k)::r,cl,n,hn,h,e=>by
  unfold cellsFrom at e;split at e
  ·rename_i hk;refine jO (n:=n+1) (by omega) ?_ e;cases hx:x == y with
   |true=>exact .inr ⟨n,by rw[K6,hx],hn⟩
   |false=>
    rcases h with z|⟨c',z1,z2⟩
    ·rcases JC.mp z with q | q
     ·have:x=y:=JN Prod.fst q;rw[this]at hx;simp at hx
     ·exact .inl q
    ·exact .inr ⟨c',by rw[K6,hx];exact z1,z2⟩
  ·rename_i hk;refine jO hn ?_ e;rcases h with z|z
   ·rcases JC.mp z with q | q
    ·have:k=.cell:=(JN Prod.snd q).symm;exact absurd (by rw[this];rfl) hk
    ·exact .inl q
   ·exact .inr z
theorem iB{x:Str}:∀{names:List (Str×NameKind)}{cl:List (Str×Addr)}{n:Nat},(x,NameKind.cell)∉names->(cellsFrom n names cl).lookup x=cl.lookup x
 |[],cl,n,_=>rfl
 |(y,k)::r,cl,n,hn=>by
  unfold cellsFrom;have hr:(x,NameKind.cell)∉r:=fun z=>hn (JB _ z);split
  ·rename_i hk;rw[iB hr,K6];cases hx:x == y with
   |true=>exact absurd (by rw[eq_of_beq hx,(eq_of_beq hk:k=.cell)];exact JA) hn
   |false=>rfl
  ·exact iB hr
theorem lR{n0:Nat}:∀{names:List (Str×NameKind)}{cl:List (Str×Addr)}{n:Nat},n0<=n->(∀x y c,cl.lookup x=some c->cl.lookup y=some c->n0<=c->x=y)->(∀x c,cl.lookup x=some c->c<n) ->
  ∀x y c,(cellsFrom n names cl).lookup x=some c->(cellsFrom n names cl).lookup y=some c->n0<=c->x=y
 |[],cl,n,_,h,_=>h
 |(z,k)::r,cl,n,hn,h,hb=>by
  unfold cellsFrom;split
  ·refine lR (n := n + 1) (by omega) (fun x y c e1 e2 hc => ?_) (fun x c e => ?_)
   ·rw [K6] at e1 e2;cases hx:x == z with
    |true=>
     cases hy:y == z with
     |true=>rw[eq_of_beq hx,eq_of_beq hy]
     |false=>
      rw[hx]at e1;rw[hy]at e2;cases e1;exact absurd (hb y _ e2) (Jt _)
    |false=>
     cases hy:y == z with
     |true=>
      rw[hx]at e1;rw[hy]at e2;cases e2;exact absurd (hb x _ e1) (Jt _)
     |false=>rw[hx]at e1;rw[hy]at e2;exact h x y c e1 e2 hc
   ·rw [K6] at e;cases hx:x == z with
    |true=>rw[hx]at e;cases e;exact Lb _
    |false=>rw[hx]at e;exact Lc (hb x c e)
  ·exact lR hn h hb
theorem jn{x:Str}{c:Addr}:∀{names:List (Str×NameKind)}{cl:List (Str×Addr)}{h:Heap},(cellsFrom h.objs.size names cl).lookup x=some c->cl.lookup x=some c\/(pushCells h names).IsCell c none
 |[],cl,h,e=>.inl e
 |(y,k)::r,cl,h,e=>by
  unfold cellsFrom at e;unfold pushCells;split at e
  ·rename_i hk;rw[Jo hk];have e':(cellsFrom (h.push {cls:=.type "cell",data:=.cell none}).objs.size r ((y,h.objs.size)::cl)).lookup x=some c:=by rw[Ld];exact e
   rcases jn e' with q|q
   ·rw [K6] at q;cases hx:x == y with
    |true=>
     rw[hx]at q;cases q;exact .inr ⟨_,Le _ _ _ _ (JX _ rfl),rfl⟩
    |false=>rw[hx]at q;exact .inl q
   ·exact .inr q
  ·rename_i hk;rw[Jp hk];exact jn e
theorem xN{X:Cx}{pins:List (Addr×Obj)}{σ:St}{H:Hp}{s:Shared}{h':Heap}{t':Nat}{fp:List Addr}{Nc:List Str}{scope:Scope}{cl:List (Str×Addr)}{cap:List (Option Nat)}
  (I:aS X pins σ H s) (hf:∀b∈fp,mD X pins H b) (hfs:∀b∈fp,b<s.heap.objs.size) (S:bI X.N X.env scope Nc cap)
  (hcl:∀x c,cl.lookup x=some c->X.env.cells.lookup x=some c) (hall:∀y∈scope.names,y.2=.free->(cl.lookup y.1).isSome=true)
  (hn:h'.Ns s.heap.objs.size (fun _=>none)) (hk:∀b o,s.heap.get? b=some o->h'.get? b=some o) (hce:∀x c,(cellsFrom (s.heap.objs.size+1) scope.names cl).lookup x=some c->cl.lookup x=some c\/h'.IsCell c none) :
  aS (ij X Nc scope cl s.heap.objs.size s H fp) [] (nE cap σ) H {s with heap:=h',toks:=t'}:=by
 have hrl:∀x,(ij X Nc scope cl s.heap.objs.size s H fp).env.kindOf x=(scope.names.lookup x).map fun k=>if (k == NameKind.free&&X.env.scope.kind == .function&&X.env.kindOf x == some .cell) then NameKind.cell else k:=fun x=>gF
 have hcf:∀x,((ij X Nc scope cl s.heap.objs.size s H fp).env.kindOf x=some .cell\/(ij X Nc scope cl s.heap.objs.size s H fp).env.kindOf x=some .free)->scope.names.lookup x=some .free\/scope.names.lookup x=some .cell:=fun x hx=>by
  rw[hrl]at hx;cases e:scope.names.lookup x with
  |none=>rw[e]at hx;rcases hx with z|z <;> cases z
  |some k=>
   rw[e]at hx;by_cases hkf:k=.free
   ·rw[hkf];exact .inl rfl
   ·have : (k == NameKind.free) = false := by simpa using hkf
    simp only[this,JV,Option.map_some]at hx;rcases hx with z|z
    ·have z' : k = .cell := by simpa using z
     rw[z'];exact .inr rfl
    ·have z' : k = .free := by simpa using z
     exact absurd z' hkf
 have hclx:∀x,scope.names.lookup x=some .free->∃c,cl.lookup x=some c:=fun x e=>Kc.mp (hall (x,.free) (eD e) rfl)
 have hcb:∀x c,cl.lookup x=some c->c<s.heap.objs.size:=fun x c e=>by
  obtain⟨v,q⟩:=I.cell x c (hcl x c e);exact q.lt
 have hcell:∀x c,(cellsFrom (s.heap.objs.size+1) scope.names cl).lookup x=some c->(cl.lookup x=some c/\c<s.heap.objs.size)\/(s.heap.objs.size+1<=c/\h'.IsCell c none):=fun x c e=>by
  by_cases hm:(x,NameKind.cell)∈scope.names
  ·have h1 := jO (JY _) (.inl hm) e;rcases hce x c e with z|z
   ·have:=hcb x c z;exact absurd (Js (Lc this) h1) (Jt _)
   ·exact .inr ⟨h1,z⟩
  ·rw[iB hm]at e;exact .inl ⟨e,hcb x c e⟩
 have hinj:∀x y c,(cellsFrom (s.heap.objs.size+1) scope.names cl).lookup x=some c->(cellsFrom (s.heap.objs.size+1) scope.names cl).lookup y=some c->x=y:=fun x y c e1 e2=>by
  rcases hcell x c e1 with⟨a1,a2⟩|⟨a1,a2⟩
  ·rcases hcell y c e2 with ⟨b1, b2⟩ | ⟨b1, b2⟩
   ·exact I.ok.inj x y c (hcl x c a1) (hcl y c b1)
   ·exact absurd (Js (Lc a2) b1) (Jt _)
  ·exact lR (JY _) (fun x y c q _ hc=>absurd (Js (Lc (hcb x c q)) hc) (Jt _)) (fun x c q=>Lc (hcb x c q)) x y c e1 e2 a1
 refine⟨⟨I.ok.mod,S.kind,I.ok.glob,I.ok.blt,JY _,fun x y c e1 e2=>hinj x y c e1 e2,fun x hx=>?_,fun x c e e2=>?_,I.ok.hd,I.ok.frames,.inl rfl,
  fun b hb=>⟨Ju (hfs b hb),fun x c e=>?_⟩,I.bs,Jx I.ok.bsz I.sz,fun b o e hb=>?_,fun b hb z=>?_,I.stack,I.stkFree⟩,
  rfl,I.bare,Un.kept hk,⟨_,hn,fun i x v e1 e2 e3=>?_⟩,fun x c e=>?_,I.hok.fresh (JY _),fun x c e=>?_,fun p hp=>absurd (show p∈([]:List (Addr×Obj)) from hp) (by simp),I.hok.kept hk,?_⟩
 ·rcases hcf x hx with q | q
  ·by_cases hm : (x, NameKind.cell) ∈ scope.names
   ·rcases Kc.mp (W.cellsFrom_some scope.names (s.heap.objs.size + 1) cl (.inl (S.nd (x, .cell) hm))) with ⟨c, e⟩
    exact⟨c,e⟩
   ·obtain⟨c,e⟩:=hclx x q;exact⟨c,(iB hm).trans e⟩
  ·obtain⟨c,e⟩:=Kc.mp (W.cellsFrom_some scope.names (s.heap.objs.size+1) cl (.inl q));exact⟨c,e⟩
 ·have hm:(x,NameKind.cell)∈scope.names:=eD (eq_of_beq (show (scope.names.lookup x == some .cell)=true from e));exact Nat.le_of_succ_le (jO (JY _) (.inl hm) e2)
 ·rcases hcell x c e with ⟨a1, a2⟩ | ⟨a1, a2⟩
  ·exact(hf b hb).2.2.2.2.1 x c (hcl x c a1)
  ·exact fun z=>absurd (Js (Lc (hfs b hb)) (by rw[<- z];exact a1)) (Jt _)
 ·rcases (hf b hb).2.2.2.1 with z | z
  ·exact I.ok.noex b o e z
  ·exact absurd (Js (Js (Jr e) I.ok.bsz) z) (Jt _)
 ·rcases JC.mp (I.stkSub b z) with q | q
  ·exact(hf b hb).2.1 q
  ·exact(hf b hb).2.2.1 q
 ·have e2':∃j,cap[i]?=some (some j)/\σ[j]?=some (some v):=by
   unfold nE at e2;rw[Kh]at e2;cases hc:cap[i]? with
   |none=>rw[hc]at e2;cases e2
   |some o=>
    rw[hc]at e2;cases o with
    |none=>cases e2
    |some j=>
     refine⟨j,rfl,?_⟩;simp only[Option.map_some,Option.bind_some]at e2;cases hj:σ[j]? with
     |none=>rw[hj]at e2;cases e2
     |some q=>
      rw[hj]at e2;simp only[Option.join_some]at e2;rw[Jq e2]
  obtain⟨j,hj,hv⟩:=e2';obtain⟨hN,hx⟩:=n4 S.cap hj e1;have hkx:=S.free (x,.free) (eD hx) rfl;obtain⟨m,hm,hl⟩:=I.loc;obtain⟨u,r,l⟩:=hl j x v hN hv (hkx.elim (fun z=>.inr (.inl z)) (fun z=>.inr (.inr z)));refine⟨u,r,.inr ⟨?_,?_⟩⟩
  ·rw [hrl, hx];show some (if _ then _ else _)=_\/some (if _ then _ else _)=_;by_cases hc:(NameKind.free == NameKind.free&&X.env.scope.kind == .function&&X.env.kindOf x == some .cell)=true
   ·rw[Jo hc];exact .inl rfl
   ·rw[Jp hc];exact .inr rfl
  ·obtain ⟨c, ec⟩ := hclx x hx
   have hm:(x,NameKind.cell)∉scope.names:=fun z=>by
    have:=S.nd (x,.cell) z;rw[hx]at this;cases this
   refine⟨c,(iB hm).trans ec,?_⟩;rcases l with⟨k,_⟩|⟨k,c',ec',z⟩
   ·rcases hkx with q|q <;> (rw[k]at q;cases q)
   ·have q:=hcl x c ec;rw[ec']at q;cases q;obtain⟨o,ho,hd⟩:=z;exact⟨o,hk _ o ho,hd⟩
 ·rcases hcell x c e with ⟨a1, a2⟩ | ⟨a1, a2⟩
  ·obtain⟨v,o,ho,hd⟩:=I.cell x c (hcl x c a1);exact⟨v,o,hk _ o ho,hd⟩
  ·exact⟨none,a2⟩
 ·rcases hcell x c e with ⟨a1, a2⟩ | ⟨a1, a2⟩
  ·exact I.freeC x c (hcl x c a1)
  ·exact I.hok.fresh (Nat.le_of_succ_le a1)
 ·show (cap.map _).length=Nc.length;rw[Kk,lS S.cap]
abbrev rT:Value->Shared->Prop:=fun _ _=>False
def qH(ifs:List Expr)(env:Env):Sem Bool:=forIn ifs true fun c r=>if r=true then do let ok <- isTrue c env (eval c env);pure (ForInStep.yield ok) else pure (ForInStep.yield r)
def oN(X:Cx)(ifs:List Expr)(t:TT):Prop:=
 ∀(pins:List (Addr×Obj))(s:Shared)(σ:St)(H:Hp)(Q:Bool->Hp->Prop),aS X pins σ H s->t σ H Q->wpAny (model X.prog X.w) X.A (qH ifs X.env) (TP X pins σ Q) X.xe s
def Gz:TT:=fun _ H Q=>Q true H
theorem BJ{X:Cx}:oN X [] Gz:=fun _ _ _ H _ I h=>JT ⟨H,I,h⟩
theorem BI{X:Cx}{c:Expr}{t:TT}(h:PT X c t):oN X [c] t:=fun pins s σ H Q I q=>wpAny_tests_one (h pins s σ H Q I q)
def FS(e:Expr)(acc:Value)(env:Env):Sem Unit:=match e with
 |.ListComp elt _ _ _=>do let _ <- call (.builtin "list.append") [acc,<- eval elt env]
 |.SetComp elt _ _ _=>do let v <- eval elt env;standAt elt.pos;let _ <- call (.builtin "set.add") [acc,v]
 |_=>unsupported "internal:not-a-comprehension"
def kj:Expr->Bool
 |.ListComp ..=>true
 |.SetComp ..=>true
 |_=>false
def kK(M:Model)(A:Around)(e:Expr)(k:Nat)(acc:Value)(env:Env)(C:Shared->Prop)(E:Value->Shared->Prop)(s:Shared):Prop:=match (clausesOf e)[k]? with
 |some g=>wpAny M A (eval g.iter env) (fun x s1=>wpAny M A (foldedSetIterable g.iter env x) (fun x s2=>wpAny M A (pyIter x) (fun it s3=>
   codeAny M A (.compStart e k it acc env) (fun r s4=>(∃f,r=.ok f)/\C s4) s3) E s2) E s1) E s
 |none=>wpAny M A (FS e acc env) (fun _ s1=>C s1) E s
theorem t6{M:Model}{A:Around}{e:Expr}{k:Nat}{acc:Value}{env:Env}{C C':Shared->Prop}{E:Value->Shared->Prop}{s:Shared}(hC:∀s,C s->C' s)(h:kK M A e k acc env C rT s):kK M A e k acc env C' E s:=by
 unfold kK at h⊢;split at h
 ·exact JK h (fun _ _ h=>JK h (fun _ _ h=>JK h (fun _ _ h=>J8 h fun _ _ h=>⟨h.1,hC _ h.2⟩) fun _ _ z=>z.elim) fun _ _ z=>z.elim) fun _ _ z=>z.elim
 ·exact JK h (fun _ _ h=>hC _ h) fun _ _ z=>z.elim
theorem Ba{M:Model}{A:Around}{E:Value->Shared->Prop}{s:Shared}{e:Expr}{d:Nat}{g:Comprehension}{it acc:Value}{env:Env}{Q:Fin->Shared->Prop}(he:kj e=true)(hz:∀g∈clausesOf e,g.is_async=0)(hg:(clausesOf e)[d]?=some g)
  (h : wpAny M A (pyNext it) (fun r s₁ => match r with
   |none=>Q (.done .next) s₁
   |some v=>wpAny M A (letOwnedTupleGo g.target it v) (fun _ s₁'=>wpAny M A (assign g.target env v) (fun _ s₂=>wpAny M A (qH g.ifs env) (fun ok s₃=>
     if ok=true then kK M A e (d+1) acc env (fun s₄=>wpAny M A (again (.compLoop e d it acc env)) Q E s₄) E s₃ else wpAny M A (again (.compLoop e d it acc env)) Q E s₃) E s₂) E s₁') E s₁) E s) :
  wpAny M A (compTurn e d it acc env) Q E s:=by
 have h0:=hz g (Ki hg);have h1:∀g',(clausesOf e)[d+1]?=some g'->g'.is_async=0:=fun g' h=>hz g' (Ki h);unfold compTurn
 cases e <;> first
  |exact absurd (show false=true from he) J4
  | (rename_i elt gens sc pos
     have hg':gens[d]?=some g:=hg;have h1':∀g',gens[d+1]?=some g'->g'.is_async=0:=h1;dsimp only;rw[hg'];dsimp only;rw[h0];refine JP (JR ?_);show wpAny M A (pyNext it >>= _) Q E s;refine JP (JK h (fun r s₁ h₁=>?_) fun _ _ z=>z);cases r with
     |none=>exact JT h₁
     |some v=>
      refine JP (JK h₁ (fun _ s₁' h₁'=>?_) fun _ _ z=>z);refine JP (JK h₁' (fun _ s₂ h₂=>?_) fun _ _ z=>z);refine JP (JK h₂ (fun ok s₃ h₃=>?_) fun _ _ z=>z);cases ok with
      |false=>exact h₃
      |true=>
       simp only[Ku]at h₃⊢;unfold kK at h₃;dsimp only[clausesOf]at h₃;cases e2:gens[d+1]? with
       |none=>
        rw[e2]at h₃;exact JP h₃
       |some g'=>
        rw[e2]at h₃;have e3:=h1' g' e2;simp only[e3];refine JP (JK h₃ (fun x s₄ h₄=>?_) fun _ _ z=>z);refine JP (JR ?_);show wpAny M A (foldedSetIterable g'.iter env x >>= _) Q E s₄;refine JP (JK h₄ (fun x s₅ h₅=>?_) fun _ _ z=>z);refine JP (JQ ?_);show wpAny M A (pyIter x) _ E s₅;refine JK h₅ (fun it' s₆ h₆=>?_) fun _ _ z=>z;refine JP (wpAny_runOwn (J8 h₆ fun r s₇ h₇=>?_));obtain⟨⟨f,rfl⟩,hc⟩:=h₇
        exact hc)
section
variable{prog:Program}{w:World}{A:Around}{R:Result->Shared->Prop}{s:Shared}
theorem pM{e:Expr}{k:Nat}{g:Comprehension}{it acc:Value}{env:Env}(he:kj e=true)(hz:∀g∈clausesOf e,g.is_async=0)(hg:(clausesOf e)[k]?=some g)
  (h0:codeAny (model prog w) A (.compLoop e k it acc env) R s) (h:wpAny (model prog w) A (pyIter it) (fun it' s'=>codeAny (model prog w) A (.compLoop e k it' acc env) R s') rT s) :
  codeAny (model prog w) A (.compStart e k it acc env) R s:=by
 have ha:=hz g (Ki hg)
 cases e <;> first
  |exact absurd (show false=true from he) J4
  | (refine Lf ?_
     show wpAny _ _ ((compStart _ k it acc env).onRaise (fun x=>do noteFrame x env;standAt theWindowsPlace)) _ _ s;refine wpAny_notedAt ?_;unfold compStart;rw[hg];have e1:((some g).elim false fun x=>x.is_async != 0)=false:=by show (g.is_async != 0)=false;rw[ha];rfl
     rw[e1];simp only[K9,Kt];refine JP (Lg (wpAny_ite ?_));split
     ·exact JT (And.intro rfl h0)
     ·refine JP (Lh ?_);refine JP (JR ?_)
      exact JP (JK h (fun it' s' h'=>JT (And.intro rfl h')) fun _ _ z=>z.elim))
theorem xH{e:Expr}{d:Nat}{g:Comprehension}{it acc:Value}{env:Env}(he:kj e=true)(hz:∀g∈clausesOf e,g.is_async=0)(hg:(clausesOf e)[d]?=some g)(I:Nat->Shared->Prop)
  (turn : ∀ n s, I n s -> wpAny (model prog w) A (pyNext it) (fun r s₁ => match r with
   |none=>R (.ok .next) s₁
   |some v=>wpAny (model prog w) A (letOwnedTupleGo g.target it v) (fun _ s₁'=>wpAny (model prog w) A (assign g.target env v) (fun _ s₂=>
     wpAny (model prog w) A (qH g.ifs env) (fun ok s₃=>
      if ok=true then kK (model prog w) A e (d+1) acc env (fun s₅=>∃m,m<n/\I m s₅) rT s₃
      else ∃m,m<n/\I m s₃) rT s₂) rT s₁') rT s₁) rT s)
  (n:Nat) (h:I n s):codeAny (model prog w) A (.compLoop e d it acc env) R s:=by
 refine codeAny_loop (by cases e <;> first|exact absurd (show false=true from he) J4|rfl) I (fun n s hI=>?_) n h
 cases e <;> first
  |exact absurd (show false=true from he) J4
  | (show wpAny _ A ((compTurn _ d it acc env).onRaise (fun x => do noteFrame x env; theTreesLotGoes x)) _ _ s
     refine wpAny_noted (Ba he hz hg (JK (turn n s hI) (fun r s₁ h₁=>?_) fun _ _ z=>z.elim));cases r with
     |none=>exact h₁
     |some v=>
      refine JK h₁ (fun _ s₂ h₂=>JK h₂ (fun _ s₃ h₃=>JK h₃ (fun ok s₄ h₄=>?_) fun _ _ z=>z.elim) fun _ _ z=>z.elim) fun _ _ z=>z.elim;cases ok with
      |false=>exact JT ⟨rfl,h₄⟩
      |true=>
       simp only[Ku]at h₄⊢
       exact t6 (fun s₅ h₅=>JT ⟨rfl,h₅⟩) h₄)
end
abbrev AQ:=St->Hp->(St->Hp->Prop)->Prop
def uz(X:Cx)(e:Expr)(k:Nat)(acc:Addr)(t:AQ):Prop:=
 ∀(pins:List (Addr×Obj))(s:Shared)(σ:St)(H:Hp)(N:St->Hp->Prop),aS X pins σ H s->t σ H N->kK (model X.prog X.w) X.A e k (.ref acc) X.env (fun s'=>∃σ' H',aS X pins σ' H' s'/\N σ' H') rT s
def HB(J:It)(g:TG)(tt:TT)(tb:AQ)(N:St->Hp->Prop)(σ:St)(H:Hp):Prop:=∃W:Nat->Nat->St->Hp->Prop,(∃m,W 0 m σ H)/\∀i m σ1 H,W i m σ1 H ->
 (J.stop i H/\N σ1 H)\/(J.go i H/\∃N':St->Hp->Prop,(∀σ' H',N' σ' H'->∃m',m'<m/\W (i+1) m' σ' H')/\∀x H',J.yld i H x H'->g x σ1 H' fun σ2 H2=>tt σ2 H2 fun b H3=>if b=true then tb σ2 H3 N' else N' σ2 H3)
section
variable{X:Cx}{e:Expr}{d:Nat}{cl:Comprehension}{g:TG}{tt:TT}{tb:AQ}{acc:Addr}
theorem mj{J:It}{fp:List Addr}{it:Addr}{tn:Nat->Heap->Prop}{pins:List (Addr×Obj)}{N:St->Hp->Prop}{σ:St}{H:Hp}{s:Shared}(he:kj e=true)(hz:∀g∈clausesOf e,g.is_async=0)(hg:(clausesOf e)[d]?=some cl)(hxe:X.xe=rT)(hc:X.calm=true)
  (T:yD X.prog X.w X.K cl.target J fp it tn) (hgc:PG X cl.target g) (htc:oN X cl.ifs tt) (hb:uz X e (d+1) acc tb) (I:aS X pins σ H s) (st:tn 0 s.heap) (fr:∀b∈fp,mD X pins H b) (h:HB J g tt tb N σ H) :
  codeAny (model X.prog X.w) X.A (.compLoop e d (.ref it) (.ref acc) X.env) (fun r s'=>r=.ok .next/\∃σ' H',aS X pins σ' H' s'/\N σ' H') s:=by
 obtain⟨W,⟨m0,w0⟩,turn⟩:=h;have stat:∀{H':Hp},(∀b∈fp,H' b=none)->∀b∈fp,mD X pins H' b:=fun hn b hb=>⟨hn b hb,(fr b hb).2⟩;refine xH he hz hg (fun n s'=>∃i σ' H',aS X pins σ' H' s'/\tn i s'.heap/\(∀b∈fp,H' b=none)/\W i n σ' H') ?_ m0 ⟨0,_,_,I,st,fun b hb=>(fr b hb).1,w0⟩
 rintro n s5 ⟨i,σ5,H5,I5,st5,fr5,w5⟩
 rcases turn i n σ5 H5 w5 with⟨stop,qn⟩|⟨go,N',hN,step⟩
 ·refine d3 (T.done X rfl rfl rfl hc i pins s5 σ5 H5 rT I5 (stat fr5) st5 stop) fun r s6 ⟨hr,I6⟩=>?_;subst hr;exact⟨rfl,_,_,I6,qn⟩
 ·refine d3 (T.item X rfl rfl rfl hc i pins s5 σ5 H5 rT I5 (stat fr5) st5 go) fun r s6 ⟨u, hr, h6⟩ => ?_;subst hr;refine d3 h6 fun _ s7 ⟨x,H7,I7,r7,y7,st7,fr7⟩=>?_;have I7':=I7.pinned (stat fr7) (T.obj _ _ st7);have z1:=hgc _ s7 σ5 H7 x u _ I7' r7 (step x H7 y7);rw[hxe]at z1;refine d3 z1 fun _ s8 ⟨σ8,H8,I8,q8⟩=>?_;have z2:=htc _ s8 σ8 H8 _ I8 q8;rw[hxe]at z2;refine d3 z2 fun b s9 ⟨H9,I9,q9⟩=>?_
  have again:∀{σa:St}{Ha:Hp}{sa:Shared},aS X (pins++nI fp s7.heap) σa Ha sa->N' σa Ha->∃m,m<n/\∃i σ' H',aS X pins σ' H' sa/\tn i sa.heap/\(∀b∈fp,H' b=none)/\W i m σ' H':=fun {σa Ha sa} Ia na=>by
   obtain⟨m',hm,wa⟩:=hN σa Ha na;refine⟨m',hm,i+1,σa,Ha,Ia.unpinned,T.keep _ _ _ st7 fun b hb o e=>(Ia.pin (b,o) (J1 _ (J1 _ (iS hb e)))).1,fun b hb=>?_,wa⟩;obtain⟨o,e,d⟩:=T.obj _ _ st7 b hb;exact(Ia.pin (b,o) (J1 _ (J1 _ (iS hb e)))).2.1
  cases b with
  |false=>
   rw[Jp J4]at q9⊢;exact again I9 q9
  |true=>
   rw[Jo rfl]at q9⊢;exact t6 (fun s' ⟨σ',H',I',n'⟩=>again I' n') (hb _ s9 σ8 H9 _ I9 q9)
def za(wi:TI)(g:TG)(tt:TT)(tb:AQ):AQ:=fun σ H N=>wi σ H fun J H1=>HB J g tt tb N σ H1
theorem xv{wi:TI}(he:kj e=true)(hz:∀g∈clausesOf e,g.is_async=0)(hg:(clausesOf e)[d]?=some cl)(hxe:X.xe=rT)(hc:X.calm=true)(hi:PI X cl.target cl.iter wi)(hgc:PG X cl.target g)(htc:oN X cl.ifs tt)(hb:uz X e (d+1) acc tb)
  (hs:∀x,foldedSetIterable cl.iter X.env x=pure x):uz X e d acc (za wi g tt tb):=by
 intro pins s σ H N I h;unfold kK;rw[hg];have z:=hi pins s σ H _ I h;rw[hxe]at z;refine d3 z fun v s1 h1=>Li (hs v) (d3 h1 fun itv s2 h2=>?_);obtain⟨it,fp,tn,J,H2,e',I2,T,st2,f2,rd⟩:=h2;subst e';have loop:=mj he hz hg hxe hc T hgc htc hb I2 st2 f2 rd;exact pM he hz hg (J8 loop fun r s' ⟨h1,h2⟩=>⟨⟨_,h1⟩,h2⟩) (T.self _ 0 _ _ _ st2 (J8 loop fun r s' ⟨h1,h2⟩=>⟨⟨_,h1⟩,h2⟩))
def yL(te:TE)(acc:Addr):AQ:=fun σ H N=>te σ H fun y H4=>∃ys,H4 acc=some (.lst ys)/\ys.length<sizeLine/\N σ (cG H4 acc (.lst (ys++[y])))
theorem nT{te:TE}{elt:Expr}{gens:List Comprehension}{scope:Scope}{pos:Pos}(hg:gens[d]?=none)(hxe:X.xe=rT)(hel:PE X elt te):uz X (.ListComp elt gens scope pos) d acc (yL te acc):=by
 intro pins s σ H N I h;unfold kK;show (match gens[d]? with|some g=>_|none=>_:Prop);rw[hg];show wpAny _ _ (do let _ <- call (.builtin "list.append") [.ref acc,<- eval elt X.env]) _ _ _;have z:=hel pins s σ H _ I h;rw[hxe]at z;refine JP (d3 z fun v10 s10 ⟨y,H10,I10,r10,ys,hy,hz,nn⟩=>?_);have z4:=pX (X:=X) pins s10 σ H10 (.ref acc) [y] (.ref acc) [v10] (fun _ H'=>N σ H') I10 rfl (.cons r10 .nil) ⟨_,ys,y,rfl,rfl,hy,hz,nn⟩;rw[hxe]at z4;exact JP (d3 z4 fun v11 s11 ⟨y',H11,I11,r11,n11⟩=>JT ⟨_,_,I11,n11⟩)
end
theorem Aw{M:Model}{A:Around}{E:Value->Shared->Prop}{s:Shared}{scope:Scope}{cl:List (Str×Addr)}{env:Env}{Q:Env->Shared->Prop}
  (hQ : ∀ h', h'.Ns s.heap.objs.size (fun _ => none) -> (∀ b o, s.heap.get? b = some o -> h'.get? b = some o) -> (∀ x c, (cellsFrom (s.heap.objs.size + 1) scope.names cl).lookup x = some c -> cl.lookup x = some c \/ h'.IsCell c none) ->
   ∀cenv:Env,({cenv with scope:=relabel scope env}:Env)=compEnvC scope (cellsFrom (s.heap.objs.size+1) scope.names cl) s.heap.objs.size env->cenv.locals=s.heap.objs.size->Q cenv {s with heap:=h'}) :
  wpAny M A (newFunctionEnv scope env.globals cl [] env.qual none .none (some env)) Q E s:=by
 simp only[newFunctionEnv,Option.isSome_some,Ku];refine JP (wpAny_alloc ?_);refine JP (wpAny_layCells _ (fun name kind cells=>by cases hkc:kind == NameKind.cell <;> simp[hkc]) _ _ _ _ ?_);have hsz:(s.heap.push {cls:=.type "dict",data:=.dict #[]}).objs.size=s.heap.objs.size+1:=Ld ..;refine JP (JT (JT ?_));show Q _ {s with heap:=pushCells (s.heap.push {cls:=.type "dict",data:=.dict #[]}) scope.names};refine hQ _ ((Heap.Ns.new s.heap (.type "dict")).keeps (Le _ _)) (fun b o e=>Le _ _ b o (JW _ e)) (fun x c e=>?_) _ ?_ rfl
 ·rw[<- hsz]at e;exact jn e
 ·show _=_;unfold compEnvC;rw[<- hsz]
def nG(o0:Addr->HO)(wi:TI)(cap:List (Option Nat))(g:TG)(tt:TT)(tb:Addr->AQ):TE:=fun σ H Q=>wi σ H fun J H1=>∀acc,H1 acc=none->HB J g tt (tb acc) (fun _ H'=>Q (.ref acc) H') (nE cap σ) (cG H1 acc (o0 acc))
def yM(wi:TI)(cap:List (Option Nat))(g:TG)(tt:TT)(te:TE):TE:=nG (fun _=>.lst []) wi cap g tt (yL te)
def IQ(X:Cx)(newAcc:Sem Value)(o0:Addr->HO):Prop:=∀(pins:List (Addr×Obj))(s:Shared)(σ:St)(H:Hp)(Q:Value->Shared->Prop),aS X pins σ H s ->
 (∀s',aS X pins σ (cG H s.heap.objs.size (o0 s.heap.objs.size)) s'->(∀b o,s.heap.get? b=some o->s'.heap.get? b=some o)->s.heap.objs.size<s'.heap.objs.size->Q (.ref s.heap.objs.size) s')->wpAny (model X.prog X.w) X.A newAcc Q X.xe s
theorem tE{X:Cx}:IQ X (newList []) (fun _=>.lst []):=fun pins s σ H Q I h=>
 KL (h _ (I.lnew (t':=s.toks) (ys:=[]) (its:=[]) .nil (Lj _)) (fun b o e=>JW _ e) (by rw[Ld];exact Lb _))
section
variable{X:Cx}{e:Expr}{cl0:Comprehension}{rest:List Comprehension}{scope:Scope}{Nc:List Str}{cap:List (Option Nat)}{wi:TI}{g:TG}{tt:TT}{tb:Addr->AQ}{pos':Pos}{o0:Addr->HO}{newAcc:Sem Value}
theorem qf{use:Option (Value->Sem Unit)}{pins:List (Addr×Obj)}{s:Shared}{σ:St}{H:Hp}{Q:VK}{QQ:Value->Shared->Prop}
  (he:kj e=true) (hz:∀g∈clausesOf e,g.is_async=0) (hcl0:clausesOf e=cl0::rest) (hmk:IQ X newAcc o0)
  (hc:X.calm=true) (S:bI X.N X.env scope Nc cap) (hi:PI X cl0.target cl0.iter wi)
  (hg:∀cl C s H fp,PG (ij X Nc scope cl C s H fp) cl0.target g) (ht:∀cl C s H fp,oN (ij X Nc scope cl C s H fp) cl0.ifs tt) (hb:∀cl C s H fp acc,uz (ij X Nc scope cl C s H fp) e 1 acc (tb acc))
  (I:aS X pins σ H s) (h:nG o0 wi cap g tt tb σ H Q)
  (hfin:∀C acc s' H',aS X pins σ H' s'->mD X pins H' C->(∃m,s'.heap.Ns C m)->Q (.ref acc) H'->compPost (model X.prog X.w) X.A X.xe use QQ (.ref acc) C (.ok .next) s')
  (hs:∀x,foldedSetIterable cl0.iter X.env x=pure x) :
  wpAny (model X.prog X.w) X.A (comprehension e scope X.env pos' newAcc false (eval cl0.iter X.env) use) QQ X.xe s:=by
 obtain⟨cl,hclos,hcl,hall⟩:=vz (scope:=scope) (env:=X.env) (fun y hy hf=>I.ok.has y.1 (S.free y hy hf));have hg0:(clausesOf e)[0]?=some cl0:=by rw[hcl0];rfl
 refine wpAny_comprehension_free hcl0 hs hclos S.kind (fun x hx e=>by rw[S.nd x hx,e]) ?_;refine d3 (hi pins s σ H _ I h) fun v s1 h1=>d3 h1 fun itv s2 h2=>?_;obtain⟨it,fp,tn,J,H2,e',I2,T,st2,f2,rd⟩:=h2;subst e';have rd:=rd _ I2.fresh;refine hmk pins s2 σ H2 _ I2 fun s3 I3 hk3 hsz3=>?_;have st3:tn 0 s3.heap:=T.keep _ _ _ st2 fun b _ o e=>hk3 b o e
 have fpn:∀b∈fp,b≠s2.heap.objs.size:=fun b hb=>by
  obtain⟨o,eo,_⟩:=T.obj _ _ st2 b hb;exact Ju (Jr eo)
 have f3:∀b∈fp,mD X pins (cG H2 s2.heap.objs.size (o0 s2.heap.objs.size)) b:=fun b hb=>⟨by rw[bK (fpn b hb)];exact(f2 b hb).1,(f2 b hb).2⟩
 have hfs:∀b∈fp,b<s3.heap.objs.size:=fun b hb=>by
  obtain⟨o,eo,_⟩:=T.obj _ _ st3 b hb;exact Jr eo
 refine Aw fun h1 hns1 hk1 hce cenv ecenv elc=>?_;rw[ecenv]
 have IB:aS (ij X Nc scope cl s3.heap.objs.size s3 (cG H2 s2.heap.objs.size (o0 s2.heap.objs.size)) fp) [] (nE cap σ) (cG H2 s2.heap.objs.size (o0 s2.heap.objs.size)) {s3 with heap:=h1,toks:=s3.toks}:=
  xN I3 f3 hfs S hcl hall hns1 hk1 hce
 have stB:tn 0 h1:=T.keep _ _ _ st3 fun b _ o e=>hk1 b o e;rw[elc]
 have frB:∀b∈fp,mD (ij X Nc scope cl s3.heap.objs.size s3 (cG H2 s2.heap.objs.size (o0 s2.heap.objs.size)) fp) [] (cG H2 s2.heap.objs.size (o0 s2.heap.objs.size)) b:=fun b hb=>
  ⟨(f3 b hb).1,(IB.ok.exf b hb).1,IB.ok.exfs b hb,.inl hb,(IB.ok.exf b hb).2,fun p hp=>absurd (show p∈([]:List (Addr×Obj)) from hp) (by simp)⟩
 have loop:=mj (X:=ij X Nc scope cl s3.heap.objs.size s3 (cG H2 s2.heap.objs.size (o0 s2.heap.objs.size)) fp) he hz hg0 rfl hc T (hg _ _ _ _ _) (ht _ _ _ _ _) (hb _ _ _ _ _ _) IB stB frB rd
 have fin:∀r s',(r=.ok .next/\∃σ' H',aS (ij X Nc scope cl s3.heap.objs.size s3 (cG H2 s2.heap.objs.size (o0 s2.heap.objs.size)) fp) [] σ' H' s'/\Q (.ref s2.heap.objs.size) H')->compPost (model X.prog X.w) X.A X.xe use QQ (.ref s2.heap.objs.size) s3.heap.objs.size r s':=by
  rintro r s' ⟨rfl,σ',H',J',q⟩
  have I5:aS X pins σ H' s':=I3.call' (ch:=fp) J'.os J'.base J'.hok J'.bare fun b hbf=>⟨(f3 b hbf).2.2.2.1,(f3 b hbf).2.1,(f3 b hbf).2.2.2.2.1,(f3 b hbf).2.2.2.2.2⟩;obtain⟨mm,hnn,_⟩:=J'.loc;exact hfin _ _ s' H' I5 (I3.fpOk (JY _) J'.free) ⟨mm,hnn⟩ q
 exact pM he hz hg0 (J8 loop fin) (T.self _ 0 _ _ _ stB (J8 loop fin))
variable{elt:Expr}{pos:Pos}
theorem sY(hc:X.calm=true)(hz:∀g∈cl0::rest,g.is_async=0)(S:bI X.N X.env scope Nc cap)(hi:PI X cl0.target cl0.iter wi)
  (hg:∀cl C s H fp,PG (ij X Nc scope cl C s H fp) cl0.target g) (ht:∀cl C s H fp,oN (ij X Nc scope cl C s H fp) cl0.ifs tt) (hb:∀cl C s H fp acc,uz (ij X Nc scope cl C s H fp) (.ListComp elt (cl0::rest) scope pos) 1 acc (tb acc))
  (hs:∀x,foldedSetIterable cl0.iter X.env x=pure x):PE X (.ListComp elt (cl0::rest) scope pos) (nG (fun _=>.lst []) wi cap g tt tb):=by
 intro pins s σ H Q I h;have h0:=hz cl0 JA;obtain⟨tg0,it0,if0,as0⟩:=cl0;have h0':as0=0:=h0;subst h0';rw[arm_eval_ListComp];refine qf (e:=.ListComp elt (_::rest) scope pos) (Q:=Q) rfl hz rfl tE hc S hi hg ht hb I h (fun C acc s' H' I' hf hn q=>?_) hs;obtain⟨m,hn⟩:=hn;refine⟨m,hn,fun h' sb=>⟨.ref acc,H',?_,rfl,q⟩⟩;exact I'.turned (t':=s'.toks) (it:=C) (fun b o hb e=>(sb.2 b hb).trans e) hf.1 hf.2.1 hf.2.2.2.1 hf.2.2.2.2.1 hf.2.2.2.2.2
theorem z7{i:Nat}{x:Str}{pos1:Pos}{pos2:Pos}(hc:X.calm=true)(hz:∀g∈cl0::rest,g.is_async=0)(hN:X.N.Nodup)(hix:X.N[i]?=some x)(hx:X.env.scope.names.lookup x=some .local)(S:bI X.N X.env scope Nc cap)(hi:PI X cl0.target cl0.iter wi)
  (hg:∀cl C s H fp,PG (ij X Nc scope cl C s H fp) cl0.target g) (ht:∀cl C s H fp,oN (ij X Nc scope cl C s H fp) cl0.ifs tt) (hb:∀cl C s H fp acc,uz (ij X Nc scope cl C s H fp) (.ListComp elt (cl0::rest) scope pos) 1 acc (tb acc))
  (hsw:swapsWith (.ListComp elt (cl0::rest) scope pos) (some (.Name x pos1)) pos2.line X.env=pure true) (hs:∀x,foldedSetIterable cl0.iter X.env x=pure x) :
  PS X (.Assign [.Name x pos1] (.ListComp elt (cl0::rest) scope pos) pos2) (yw (nG (fun _=>.lst []) wi cap g tt tb) (su i)):=by
 intro pins s σ H D I h;have h0:=hz cl0 JA;obtain⟨tg0,it0,if0,as0⟩:=cl0;have h0':as0=0:=h0;subst h0';rw[exec_Assign_Name_used _ _ _ _ hsw];refine JP (JR (JP ?_));show wpAny _ X.A (do let _ <- comprehension (.ListComp elt (⟨tg0,it0,if0,0⟩::rest) scope pos) scope X.env _ (newList []) false (eval it0 X.env) (some (assign (.Name x pos1) X.env))) _ _ s
 refine JP (JK (qf (e:=.ListComp elt (_::rest) scope pos) (use:=some (assign (.Name x pos1) X.env)) (Q:=fun v H1=>D.nx (σ.set i (some v)) H1) (QQ:=fun _ s'=>SP X pins D .next s') rfl hz rfl tE hc S hi hg ht hb I h (fun C acc s' H' I' hf hn q=>?_) hs)
  (fun _ s' hq=>JT (JT hq)) fun _ _ e=>e)
 obtain⟨m,hn⟩:=hn;show wpAny _ X.A (assign (.Name x pos1) X.env (.ref acc)) _ _ _;refine wpAny_assign_Name (pL I' hN hix (.inl hx) (show cq (.ref acc) (.ref acc) from rfl) (fun s'' I'' hsb=>?_) (.inr hx));obtain⟨a,sb,ha⟩:=hsb
 have hCa:C≠a:=by
  rcases ha with z|z
  ·rw[z];exact hf.2.1
  ·exact fun e=>hf.2.2.2.2.1 x a z e.symm
 refine⟨m,hn.sameBut sb hCa,fun h' sb'=>⟨_,H',?_,q⟩⟩;exact I''.turned (t':=s''.toks) (it:=C) (fun b o hb e=>(sb'.2 b hb).trans e) hf.1 hf.2.1 hf.2.2.2.1 hf.2.2.2.2.1 hf.2.2.2.2.2
variable{tg iter:Expr}{ifs:List Expr}{te:TE}
theorem pW:∀g∈([⟨tg,iter,ifs,0⟩]:List Comprehension),g.is_async=0:=fun g hg=>by rw[Lk.mp hg]
theorem BW(hc:X.calm=true)(S:bI X.N X.env scope Nc cap)(hi:PI X tg iter wi)
  (hg:∀cl C s H fp,PG (ij X Nc scope cl C s H fp) tg g) (ht:∀cl C s H fp,oN (ij X Nc scope cl C s H fp) ifs tt) (he:∀cl C s H fp,PE (ij X Nc scope cl C s H fp) elt te)
  (hs:∀x,foldedSetIterable iter X.env x=pure x:=by intro _;rfl):PE X (.ListComp elt [⟨tg,iter,ifs,0⟩] scope pos) (yM wi cap g tt te):=
 sY (cl0:=⟨tg,iter,ifs,0⟩) hc pW S hi hg ht (fun cl C s H fp acc=>nT rfl rfl (he cl C s H fp)) hs
theorem BN{i:Nat}{x:Str}{pos1:Pos}{pos2:Pos}(hc:X.calm=true)(hN:X.N.Nodup)(hix:X.N[i]?=some x)(hx:X.env.scope.names.lookup x=some .local)(S:bI X.N X.env scope Nc cap)(hi:PI X tg iter wi)
  (hg:∀cl C s H fp,PG (ij X Nc scope cl C s H fp) tg g) (ht:∀cl C s H fp,oN (ij X Nc scope cl C s H fp) ifs tt) (he:∀cl C s H fp,PE (ij X Nc scope cl C s H fp) elt te)
  (hsw:swapsWith (.ListComp elt [⟨tg,iter,ifs,0⟩] scope pos) (some (.Name x pos1)) pos2.line X.env=pure true) (hs:∀x,foldedSetIterable iter X.env x=pure x:=by intro _;rfl) :
  PS X (.Assign [.Name x pos1] (.ListComp elt [⟨tg,iter,ifs,0⟩] scope pos) pos2) (yw (yM wi cap g tt te) (su i)):=
 z7 (cl0:=⟨tg,iter,ifs,0⟩) hc pW hN hix hx S hi hg ht (fun cl C s H fp acc=>nT rfl rfl (he cl C s H fp)) hsw hs
end
end L2
namespace RS
open PySem PySem.W PyProof.Rows
open AutoSeq1 (wpAny_loadPart')
section
variable{prog:Program}{w:World}{A:Around}{E:Value->Shared->Prop}{s:Shared}
end
section
variable{prog:Program}{w:World}{A:Around}{E:Value->Shared->Prop}{s:Shared}
end
end RS
namespace L2
open PySem PySem.Spec PyProof.Rows RS
section
variable{X:Cx}{tg:Expr}
end
end L2
namespace RS
open PySem
def wK(mask:Nat):Nat->Nat->Nat->List Nat
 |0,_,_=>[]
 |n+1,i,pe=>(List.range (SetTable.runEnd mask i+1-i)).map (i+·)++wK mask n (SetTable.leap mask i pe).1 (SetTable.leap mask i pe).2
def cx(mask:Nat)(h:Int):List Nat:=wK mask (SetTable.turns mask) (SetTable.bits h%(mask+1)) (SetTable.bits h)
def gx(t:SetTable):Nat->SetTable.Probe->List Nat
 |0,_=>[]
 |n+1,p=>p.j::gx t n (t.advance p)
def kM(mask i pe:Nat)(d:Option Nat):SetTable.Probe:={j:=i,more:=SetTable.runEnd mask i-i,i,perturb:=pe,dummy:=d}
theorem sF(t:SetTable):∀(m n:Nat)(p:SetTable.Probe),p.more=m ->
  gx t (m+1+n) p=(List.range (m+1)).map (p.j+·)++gx t n (kM t.mask (SetTable.leap t.mask p.i p.perturb).1 (SetTable.leap t.mask p.i p.perturb).2 p.dummy)
 |0,n,p,h=>by
  have e:0+1+n=n+1:=by omega
  rw[e];show p.j::gx t n (t.advance p)=_
  have ea:t.advance p=kM t.mask (SetTable.leap t.mask p.i p.perturb).1 (SetTable.leap t.mask p.i p.perturb).2 p.dummy:=by
   unfold SetTable.advance;rw[Jp (by omega)];rfl
  rw[ea];simp
 |m+1,n,p,h=>by
  have e:m+1+1+n=(m+1+n)+1:=by omega
  rw[e];show p.j::gx t (m+1+n) (t.advance p)=_
  have ea:t.advance p={p with j:=p.j+1,more:=p.more-1}:=by
   unfold SetTable.advance;rw[Jo (by omega)]
  rw[ea,sF t m n {p with j:=p.j+1,more:=p.more-1} (by show p.more-1=m;omega)];rw[Ll (n:=m+1),KN,Lm];show p.j::((List.range (m+1)).map (p.j+1+·)++_)=(p.j+0)::(List.map _ _)++_;rw[Nat.add_zero];show p.j::(_++_)=p.j::(_++_);congr 2;apply Ln;intro a _;show p.j+1+a=p.j+(a+1);omega
theorem ze(mask i:Nat):i<=SetTable.runEnd mask i/\SetTable.runEnd mask i<=i+9:=by
 unfold SetTable.runEnd;split <;> omega
theorem nO(t:SetTable):∀(n i pe:Nat)(d:Option Nat),gx t (wK t.mask n i pe).length (kM t.mask i pe d)=wK t.mask n i pe
 |0,_,_,_=>rfl
 |n+1,i,pe,d=>by
  have hr:=ze t.mask i;show gx t ((List.range (SetTable.runEnd t.mask i+1-i)).map (i+·)++_).length _=_;rw[Kj,Kk,Lo];have e:SetTable.runEnd t.mask i+1-i=(SetTable.runEnd t.mask i-i)+1:=by omega
  rw[e,sF t (SetTable.runEnd t.mask i-i) _ (kM t.mask i pe d) rfl];show _++gx t (wK t.mask n (SetTable.leap t.mask i pe).1 (SetTable.leap t.mask i pe).2).length (kM t.mask (SetTable.leap t.mask i pe).1 (SetTable.leap t.mask i pe).2 d)=_;rw[nO t n];show _=(List.range (SetTable.runEnd t.mask i+1-i)).map (i+·)++_;rw[e];rfl
theorem qI(mask:Nat):∀(n i pe:Nat),(wK mask n i pe).length<=10*n
 |0,_,_=>Lj _
 |n+1,i,pe=>by
  have hr:=ze mask i;have ih:=qI mask n (SetTable.leap mask i pe).1 (SetTable.leap mask i pe).2;show ((List.range (SetTable.runEnd mask i+1-i)).map (i+·)++_).length<=_;rw[Kj,Kk,Lo];omega
theorem qT(t:SetTable)(hashAt:Nat->Int)(h:Int):∀(pre:List Nat)(j:Nat)(post:List Nat)(fuel:Nat)(p:SetTable.Probe),gx t (pre.length+1+post.length) p=pre++j::post->pre.length<fuel->p.dummy=none ->
  (∀k∈pre,∃i,t.slot k=.live i/\hashAt i≠h) ->
  (t.slot j=.empty->SetTable.probe.go t hashAt h fuel p=some (.empty j none))/\(∀i,t.slot j=.live i->hashAt i=h->∃nx,SetTable.probe.go t hashAt h fuel p=some (.candidate j i nx))
 |[],j,post,0,p,_,hf,_,_=>by simp at hf
 |[],j,post,fuel+1,p,hw,_,hd,_=>by
  have ew:gx t (([]:List Nat).length+1+post.length) p=p.j::gx t post.length (t.advance p):=by
   rw[Lp,show 0+1+post.length=post.length+1 from by omega];rfl
  rw[ew,K4]at hw;have ej:p.j=j:=(Lq hw).1;refine⟨fun he=>?_,fun i hl hh=>?_⟩
  ·show (match t.slot p.j with | .empty=>_ | .dummy=>_ | .live i=>_)=_;rw[ej,he,hd]
  ·refine⟨t.advance p,?_⟩;show (match t.slot p.j with | .empty=>_ | .dummy=>_ | .live i=>_)=_;rw[ej,hl];show (if (hashAt i == h)=true then _ else _)=_;rw[Jo (by simpa using hh)]
 |x::pre,j,post,0,p,_,hf,_,_=>by simp at hf
 |x::pre,j,post,fuel+1,p,hw,hf,hd,hp=>by
  have ew:gx t ((x::pre).length+1+post.length) p=p.j::gx t (pre.length+1+post.length) (t.advance p):=by
   rw[La,show pre.length+1+1+post.length=(pre.length+1+post.length)+1 from by omega];rfl
  rw[ew,Lr]at hw;have ej:p.j=x:=(Lq hw).1;have er:=(Lq hw).2;obtain⟨i,hl,hne⟩:=hp x JA
  have hda:(t.advance p).dummy=none:=by
   unfold SetTable.advance;split
   ·exact hd
   ·exact hd
  have ih:=qT t hashAt h pre j post fuel (t.advance p) er (by rw[La]at hf;omega) hda (fun k hk=>hp k (JB _ hk))
  have eg:SetTable.probe.go t hashAt h (fuel+1) p=SetTable.probe.go t hashAt h fuel (t.advance p):=by
   show (match t.slot p.j with | .empty=>_ | .dummy=>_ | .live i=>_)=_;rw[ej,hl];show (if (hashAt i == h)=true then _ else _)=_;rw[Jp (by simpa using hne)]
  rw[eg];exact ih
def mz(xs:List Nat):Prop:=xs.Pairwise (·<·)
theorem n6(xs:Array Nat)(j:Nat):∀(fuel lo hi:Nat),lo<=hi->hi<=xs.size->hi-lo<=fuel->(∀i k,i<k->k<xs.size->xs.getD i j<xs.getD k j)->(∀i,i<lo->xs.getD i j<j)->(∀i,hi<=i->i<xs.size->j<=xs.getD i j) ->
  let b:=SetTable.below.go xs j fuel lo hi
  b<=xs.size/\(∀i,i<b->xs.getD i j<j)/\(∀i,b<=i->i<xs.size->j<=xs.getD i j)
 |0,lo,hi,h1,h2,h3,hr,ha,hb=>by
  have e:lo=hi:=by omega
  subst e;exact⟨h2,ha,hb⟩
 |fuel+1,lo,hi,h1,h2,h3,hr,ha,hb=>by
  by_cases hlt:lo<hi
  ·simp only [SetTable.below.go, hlt, Ku];by_cases hc:xs.getD ((lo+hi) / 2) j<j
   ·rw [Jo hc];refine n6 xs j fuel _ hi (by omega) h2 (by omega) hr (fun i hi'=>?_) hb;by_cases e:i=(lo+hi) / 2
    ·rw[e];exact hc
    ·have:=hr i ((lo+hi) / 2) (by omega) (by omega);omega
   ·rw [Jp hc];refine n6 xs j fuel lo _ (by omega) (by omega) (by omega) hr ha (fun i hi' hs=>?_);by_cases e:i=(lo+hi) / 2
    ·rw[e];omega
    ·have:=hr ((lo+hi) / 2) i (by omega) hs;omega
  ·have e : lo = hi := by omega
   subst e;simp only[SetTable.below.go,hlt,Kt];exact⟨h2,ha,hb⟩
theorem qN{xs:Array Nat}(h:mz xs.toList)(j:Nat):∀i k,i<k->k<xs.size->xs.getD i j<xs.getD k j:=fun i k hik hk=>by
 have hi:i<xs.size:=by omega
 have:=Ls.mp h i k (by simpa using hi) (by simpa using hk) hik;simpa[Array.getD,hi,hk] using this
theorem kx{xs:Array Nat}(h:mz xs.toList)(j:Nat):SetTable.below xs j<=xs.size/\(∀i,i<SetTable.below xs j->xs.getD i j<j)/\(∀i,SetTable.below xs j<=i->i<xs.size->j<=xs.getD i j):=
 n6 xs j xs.size 0 xs.size (Lj _) (JY _) (by omega) (qN h j) (fun i hi=>by omega) (fun i h1 h2=>by omega)
theorem yf{xs:Array Nat}(h:mz xs.toList){i j:Nat}(e:xs[i]?=some j):SetTable.below xs j=i:=by
 obtain⟨h1,h2,h3⟩:=kx h j
 have hi:i<xs.size:=by
  rcases Lu.mp e with⟨q,_⟩;exact q
 have ei:xs.getD i j=j:=by
  rcases Lu.mp e with⟨q,z⟩
  simp[Array.getD,hi,z]
 by_cases hlt:SetTable.below xs j<i
 ·have a:=h3 (SetTable.below xs j) (JY _) (by omega);have b:=qN h j (SetTable.below xs j) i hlt hi;omega
 ·by_cases hgt : i < SetTable.below xs j
  ·have:=h2 i hgt;omega
  ·omega
theorem i7{α:Type}(xs:Array α)(p:Nat)(x:α):(SetTable.insertAt xs p x).toList=xs.toList.take p++x::xs.toList.drop p:=by
 unfold SetTable.insertAt;simp[Lx]
theorem iT{α:Type}(p:α->Prop):∀(l:List α),(∃x∈l,p x)->∃pre x post,l=pre++x::post/\p x/\∀y∈pre,¬ p y
 |[],h=>by obtain⟨x,hx,_⟩:=h;simp at hx
 |a::l,h=>by
  by_cases ha:p a
  ·exact⟨[],a,l,rfl,ha,fun y hy=>by simp at hy⟩
  ·obtain ⟨x, hx, px⟩ := h;rcases JC.mp hx with z|z
   ·rw[z]at px;exact absurd px ha
   ·obtain ⟨pre, y, post, e, py, hp⟩ := iT p l ⟨x, z, px⟩;refine⟨a::pre,y,post,by rw[e];rfl,py,fun w hw=>?_⟩;rcases JC.mp hw with q|q
    ·rw[q];exact ha
    ·exact hp w q
structure pj(t:SetTable)(es:Array (Int×Value))(Z:List (Nat×Int×Value)):Prop where
 place:t.place.toList=Z.map (·.1)
 ents:es.toList=Z.map (·.2)
 ris:mz (Z.map (·.1))
 top:∀z∈Z,z.1<=t.mask
 dum:t.dummies=#[]
 reach:∀z∈Z,∃pre post,cx t.mask z.2.1=pre++z.1::post/\∀k∈pre,k∈Z.map (·.1)
theorem pj.size{t:SetTable}{es:Array (Int×Value)}{Z:List (Nat×Int×Value)}(T:pj t es Z):t.place.size=Z.length/\es.size=Z.length:=by
 have a:=JN List.length T.place;have b:=JN List.length T.ents;simp at a b;exact⟨a,b⟩
theorem pj.fill{t:SetTable}{es:Array (Int×Value)}{Z:List (Nat×Int×Value)}(T:pj t es Z):t.fill=Z.length:=by
 unfold SetTable.fill;rw[T.size.1,T.dum];rfl
theorem p6(j:Nat):SetTable.has #[] j=false:=by
 unfold SetTable.has;simp
theorem pj.slot_empty{t:SetTable}{es:Array (Int×Value)}{Z:List (Nat×Int×Value)}(T:pj t es Z){j:Nat}(h:j∉Z.map (·.1)):t.slot j=.empty:=by
 unfold SetTable.slot
 have hn:¬ (t.place[SetTable.below t.place j]? == some j)=true:=by
  intro e;have e':t.place[SetTable.below t.place j]?=some j:=by simpa using e
  apply h;rw[<- T.place];rw[<- Ly]at e';exact Ki e'
 simp only[hn,T.dum,p6];rfl
theorem pj.slot_live{t:SetTable}{es:Array (Int×Value)}{Z:List (Nat×Int×Value)}(T:pj t es Z){i:Nat}{z:Nat×Int×Value}(h:Z[i]?=some z):t.slot z.1=.live i:=by
 have e:t.place[i]?=some z.1:=by
  rw[<- Ly,T.place,Kh,h];rfl
 have r:mz t.place.toList:=by rw[T.place];exact T.ris
 have eb:=yf r e;unfold SetTable.slot;have hc:(t.place[SetTable.below t.place z.1]? == some z.1)=true:=by rw[eb,e];simp
 simp only[hc,Ku];rw[eb]
theorem pj.hashAt{t:SetTable}{es:Array (Int×Value)}{Z:List (Nat×Int×Value)}(T:pj t es Z){i:Nat}{z:Nat×Int×Value}(h:Z[i]?=some z):es[i]?=some z.2:=by
 rw[<- Ly,T.ents,Kh,h];rfl
theorem gB{α:Type}:∀{l1 l2:List α},l1.Nodup->(∀x∈l1,x∈l2)->l1.length<=l2.length
 |[],_,_,_=>Lj _
 |a::r,l2,hn,hs=>by
  obtain⟨s,t,e⟩:=List.append_of_mem (hs a JA);have hn':=Ka.mp hn
  have ih:=gB (l1:=r) (l2:=s++t) hn'.2 (fun x hx=>by
   have hx2:=hs x (JB _ hx);rw[e]at hx2;rcases JE.mp hx2 with q|q
   ·exact JF _ q
   ·rcases JC.mp q with q | q
    ·rw[q]at hx;exact absurd hx hn'.1
    ·exact J1 _ q)
  rw[e,Kj,La,La];rw[Kj]at ih;omega
theorem vV(mask:Nat):∀(n i pe:Nat),i<=mask->∀j∈wK mask n i pe,j<=mask
 |0,_,_,_,j,h=>by simp[wK]at h
 |n+1,i,pe,hi,j,h=>by
  rcases JE.mp h with q|q
  ·obtain ⟨k, hk, e⟩ := Lz.mp q;have hk':=Jw.mp hk;have:SetTable.runEnd mask i<=mask:=by unfold SetTable.runEnd;split <;> omega
   have e':i+k=j:=e;omega
  ·refine vV mask n _ _ ?_ j q;show (i*5+1+pe / 32)%(mask+1)<=mask;exact LA (Nat.mod_lt _ (Nat.succ_pos mask))
theorem iz{mask:Nat}{h:Int}{j:Nat}(e:j∈cx mask h):j<=mask:=by
 refine vV mask _ _ _ ?_ j e;exact LA (Nat.mod_lt _ (Nat.succ_pos mask))
theorem p8{m:Nat}{l:List Nat}(h:l.length<=m):∃j,j<=m/\j∉l:=by
 refine LB fun hn=>?_
 have hall:∀j∈List.range (m+1),j∈l:=fun j hj=>by
  refine LB fun hj'=>hn ⟨j,?_,hj'⟩;have:=Jw.mp hj;omega
 have:=gB (LC (n:=m+1)) hall;rw[Lo]at this;omega
theorem pj.search{t:SetTable}{es:Array (Int×Value)}{Z:List (Nat×Int×Value)}(T:pj t es Z){h:Int}(cov:∀j,j<=t.mask->j∈cx t.mask h)(hz:Z.length<=t.mask)(hA:Nat->Int)(hAe:∀i z,Z[i]?=some z->hA i=z.2.1) :
  (∃i z nx,Z[i]?=some z/\z.2.1=h/\t.probe hA h (t.probeStart h)=some (.candidate z.1 i nx)) \/
  ((∀z∈Z,z.2.1≠h)/\∃j pre post,t.probe hA h (t.probeStart h)=some (.empty j none)/\j<=t.mask/\j∉Z.map (·.1)/\cx t.mask h=pre++j::post/\∀k∈pre,k∈Z.map (·.1)):=by
 obtain⟨j0,hj0,hn0⟩:=p8 (m:=t.mask) (l:=Z.map (·.1)) (by rw[Kk];exact hz);obtain⟨pre,j,post,e,hs,hp⟩:=iT (fun j=>j∉Z.map (·.1)\/∃z∈Z,z.1=j/\z.2.1=h) (cx t.mask h) ⟨j0,cov j0 hj0,.inl hn0⟩
 have hw:gx t (pre.length+1+post.length) (t.probeStart h)=pre++j::post:=by
  have q:=nO t (SetTable.turns t.mask) (SetTable.bits h%(t.mask+1)) (SetTable.bits h) none
  have el:(wK t.mask (SetTable.turns t.mask) (SetTable.bits h%(t.mask+1)) (SetTable.bits h)).length=pre.length+1+post.length:=by
   show (cx t.mask h).length=_;rw[e,Kj,La];omega
  rw[el]at q;exact q.trans e
 have hlen:pre.length<10*SetTable.turns t.mask:=by
  have q:=qI t.mask (SetTable.turns t.mask) (SetTable.bits h%(t.mask+1)) (SetTable.bits h)
  have el:(wK t.mask (SetTable.turns t.mask) (SetTable.bits h%(t.mask+1)) (SetTable.bits h)).length=pre.length+1+post.length:=by
   show (cx t.mask h).length=_;rw[e,Kj,La];omega
  omega
 have occ:∀k∈pre,k∈Z.map (·.1):=fun k hk=>by
  refine LB fun q=>hp k hk (.inl q)
 have hpre:∀k∈pre,∃i,t.slot k=.live i/\hA i≠h:=fun k hk=>by
  obtain⟨z,hzm,ez⟩:=Lz.mp (occ k hk);obtain⟨i,hi⟩:=LD hzm;refine⟨i,ez ▸ T.slot_live hi,fun q=>hp k hk (.inr ⟨z,hzm,ez,?_⟩)⟩;rw[<- hAe i z hi];exact q
 obtain⟨g1,g2⟩:=qT t hA h pre j post (10*SetTable.turns t.mask) (t.probeStart h) hw hlen rfl hpre;by_cases hany:∃z∈Z,z.2.1=h
 ·obtain ⟨z, hzm, ez⟩ := hany;obtain⟨pz,qz,ezz,hoz⟩:=T.reach z hzm;rw[ez]at ezz
  have hjo:j∈Z.map (·.1):=by
   have e2:pre++j::post=pz++z.1::qz:=by rw[<- e,<- ezz]
   rcases List.append_eq_append_iff.mp e2 with⟨a,h1,h2⟩|⟨c,h1,h2⟩
   ·cases a with
    |nil=>
     simp only[K4]at h2;rw[(Lq h2).1];exact LF hzm
    |cons x a=>
     rw[Lr]at h2;have:j∈pz:=by rw[h1,(Lq h2).1];simp
     exact hoz j this
   ·cases c with
    |nil=>
     simp only[K4]at h2;rw[<- (Lq h2).1];exact LF hzm
    |cons x c=>
     rw[Lr]at h2;have:z.1∈pre:=by rw[h1,(Lq h2).1];simp
     exact absurd (.inr ⟨z,hzm,rfl,ez⟩) (hp z.1 this)
  rcases hs with q|⟨z',hz',e1,e2⟩
  ·exact absurd hjo q
  ·obtain⟨i,hi⟩:=LD hz';obtain⟨nx,en⟩:=g2 i (e1 ▸ T.slot_live hi) (by rw[hAe i z' hi];exact e2);exact .inl ⟨i,z',nx,hi,e2,by rw[e1];exact en⟩
 ·have hno : ∀ z ∈ Z, z.2.1 ≠ h := fun z hz' e' => hany ⟨z, hz', e'⟩;rcases hs with q|⟨z',hz',e1,e2⟩
  ·have hjm:j<=t.mask:=iz (h:=h) (by rw[e];simp);exact .inr ⟨hno,j,pre,post,g1 (T.slot_empty q),hjm,q,e,occ⟩
  ·exact absurd e2 (hno z' hz')
theorem vf{l:List Nat}{j p:Nat}(h:mz l)(h1:∀x∈l.take p,x<j)(h2:∀x∈l.drop p,j<x):mz (l.take p++j::l.drop p):=by
 unfold mz at *;have h':(l.take p++l.drop p).Pairwise (·<·):=by rw[LG];exact h
 rw[LH]at h'⊢;refine⟨h'.1,LI.mpr ⟨fun x hx=>h2 x hx,h'.2.1⟩,fun a ha b hb=>?_⟩;rcases JC.mp hb with q|q
 ·rw[q];exact h1 a ha
 ·exact h'.2.2 a ha b q
theorem pj.put{t:SetTable}{es:Array (Int×Value)}{Z:List (Nat×Int×Value)}(T:pj t es Z){j:Nat}{h:Int}{x:Value}{pre post:List Nat}(hj:j<=t.mask)(hn:j∉Z.map (·.1))(e:cx t.mask h=pre++j::post)(hp:∀k∈pre,k∈Z.map (·.1)) :
  ∃Z',pj (t.put j).1 (SetTable.insertAt es (t.put j).2 (h,x)) Z'/\Z'.Perm ((j,h,x)::Z)/\(t.put j).1={t with place:=SetTable.insertAt t.place (SetTable.below t.place j) j}:=by
 have e1:(t.put j).1={t with place:=SetTable.insertAt t.place (SetTable.below t.place j) j}:=by
  unfold SetTable.put;simp only[T.dum,p6];rw[Jp J4]
 have e2:(t.put j).2=SetTable.below t.place j:=rfl;have r:mz t.place.toList:=by rw[T.place];exact T.ris
 obtain⟨b1,b2,b3⟩:=kx r j;generalize hb:SetTable.below t.place j=p at *;refine⟨Z.take p++(j,h,x)::Z.drop p,⟨?_,?_,?_,fun z hz=>?_,by rw[e1];exact T.dum,fun z hz=>?_⟩,?_,e1⟩
 ·rw[e1];show (SetTable.insertAt t.place p j).toList=_;rw[i7,T.place,LJ,KN,LK,LL]
 ·rw[e2,i7,T.ents,LJ,KN,LK,LL]
 ·rw [LJ, KN, LK, LL];have hlen:t.place.size=(Z.map (·.1)).length:=by rw[<- T.place];simp
  refine vf T.ris (fun y hy=>?_) (fun y hy=>?_)
  ·obtain ⟨i, hi⟩ := LD hy;rw[List.getElem?_take]at hi;split at hi
   ·rename_i hlt;have q:=b2 i hlt;rw[<- T.place,Ly]at hi;simp only[LM,hi,LN]at q;exact q
   ·cases hi
  ·obtain⟨i,hi⟩:=LD hy;rw[List.getElem?_drop]at hi;have hmem:y∈Z.map (·.1):=Ki hi;rw[<- T.place,Ly]at hi;have hlt:p+i<t.place.size:=(Lu.mp hi).1;have q:=b3 (p+i) (by omega) hlt;simp only[LM,hi,LN]at q;have:y≠j:=fun ey=>hn (ey ▸ hmem);omega
 ·rw [e1];show z.1<=t.mask;rcases JE.mp hz with q|q
  ·exact T.top z (LO q)
  ·rcases JC.mp q with q | q
   ·rw[q];exact hj
   ·exact T.top z (LP q)
 ·rw [e1];show ∃pre post,cx t.mask z.2.1=pre++z.1::post/\_
  have sub:∀k∈Z.map (·.1),k∈(Z.take p++(j,h,x)::Z.drop p).map (·.1):=fun k hk=>by
   rw[<- LG p Z,LJ]at hk;rw[LJ,KN];rcases JE.mp hk with q|q
   ·exact JF _ q
   ·exact J1 _ (JB _ q)
  have old:∀z∈Z,∃pre post,cx t.mask z.2.1=pre++z.1::post/\∀k∈pre,k∈(Z.take p++(j,h,x)::Z.drop p).map (·.1):=fun z hz=>by
   obtain⟨a,b,c,d⟩:=T.reach z hz;exact⟨a,b,c,fun k hk=>sub k (d k hk)⟩
  rcases JE.mp hz with q|q
  ·exact old z (LO q)
  ·rcases JC.mp q with q | q
   ·rw[q];exact⟨pre,post,e,fun k hk=>sub k (hp k hk)⟩
   ·exact old z (LP q)
 ·have q:(Z.take p++(j,h,x)::Z.drop p).Perm ((j,h,x)::(Z.take p++Z.drop p)):=List.perm_middle;rw[LG]at q;exact q
theorem p9(mask:Nat)(owner:Array (Option Nat)):∀(n i pe:Nat),
  SetTable.layClean.free mask owner n i pe=(wK mask n i pe).find? fun j=>(owner.getD j (some 0)).isNone
 |0,_,_=>rfl
 |n+1,i,pe=>by
  show (match (List.range (SetTable.runEnd mask i+1-i)).find? fun k=>(owner.getD (i+k) (some 0)).isNone with|some k=>_|none=>_)=_;show _=((List.range (SetTable.runEnd mask i+1-i)).map (i+·)++wK mask n (SetTable.leap mask i pe).1 (SetTable.leap mask i pe).2).find? _;rw[List.find?_append,List.find?_map,<- p9 mask owner n];have ec:((fun j=>(owner.getD j (some 0)).isNone) ∘ fun x=>i+x)=fun k=>(owner.getD (i+k) (some 0)).isNone:=rfl;rw[ec];cases (List.range (SetTable.runEnd mask i+1-i)).find? fun k=>(owner.getD (i+k) (some 0)).isNone with
  |some k=>rfl
  |none=>rfl
structure DA(mask:Nat)(hs:List Int)(owner:Array (Option Nat)):Prop where
 size:owner.size=mask+1
 all:∀(i:Nat)(h:Int),hs[i]?=some h->∃j:Nat,j<=mask/\owner[j]?=some (some i)/\∃pre post,cx mask h=pre++j::post/\∀k∈pre,∃i':Nat,owner[k]?=some (some i')
 lt:∀(j i:Nat),owner[j]?=some (some i)->i<hs.length
 inj:∀(j j' i:Nat),owner[j]?=some (some i)->owner[j']?=some (some i)->j=j'
theorem B3(mask:Nat):DA mask [] (Array.replicate (mask+1) none):=by
 have hno:∀(j i:Nat),(Array.replicate (mask+1) (none:Option Nat))[j]?≠some (some i):=fun j i e=>by
  rw[Array.getElem?_replicate]at e;split at e <;> cases e
 exact⟨by simp,fun i h e=>by simp at e,fun j i e=>absurd e (hno j i),fun j j' i e=>absurd e (hno j i)⟩
theorem Ae{mask:Nat}{hs:List Int}{owner:Array (Option Nat)}(O:DA mask hs owner)(hl:hs.length<=mask):∃j,j<=mask/\owner[j]?=some none:=by
 refine LB fun hn=>?_
 have hall:∀j,j<=mask->∃i,owner[j]?=some (some i):=fun j hj=>by
  have hs':j<owner.size:=by rw[O.size];omega
  cases e:owner[j]? with
  |none=>rw[LQ]at e;omega
  |some o=>
   cases o with
   |none=>exact absurd ⟨j,hj,e⟩ hn
   |some i=>exact⟨i,rfl⟩
 have key:∀n,n<=mask+1->∃l:List Nat,l.length=n/\l.Nodup/\(∀i∈l,i<hs.length)/\∀i∈l,∃j,j<n/\owner[j]?=some (some i):=by
  intro n
  induction n with
  |zero=>exact fun _=>⟨[],rfl,LR,fun _ h=>by simp at h,fun _ h=>by simp at h⟩
  |succ n ih=>
   intro hn';obtain⟨l,h1,h2,h3,h4⟩:=ih (by omega);obtain⟨i,hi⟩:=hall n (by omega);refine⟨i::l,by rw[La,h1],Ka.mpr ⟨fun hm=>?_,h2⟩,fun x hx=>?_,fun x hx=>?_⟩
   ·obtain⟨j,hj,ej⟩:=h4 i hm;have:=O.inj j n i ej hi;omega
   ·rcases JC.mp hx with q | q
    ·rw[q];exact O.lt n i hi
    ·exact h3 x q
   ·rcases JC.mp hx with q | q
    ·rw[q];exact⟨n,by omega,hi⟩
    ·obtain⟨j,hj,ej⟩:=h4 x q;exact⟨j,by omega,ej⟩
 obtain⟨l,h1,h2,h3,_⟩:=key (mask+1) (JY _);have:=gB h2 (l2:=List.range hs.length) (fun x hx=>Jw.mpr (h3 x hx));rw[Lo,h1]at this;omega
theorem Ad{mask:Nat}{hs:List Int}{owner:Array (Option Nat)}{h:Int}(O:DA mask hs owner)(hl:hs.length<=mask)(cov:∀j,j<=mask->j∈cx mask h) :
  ∃j,SetTable.layClean.free mask owner (SetTable.turns mask) (SetTable.bits h%(mask+1)) (SetTable.bits h)=some j/\DA mask (hs++[h]) (owner.setIfInBounds j (some hs.length)):=by
 obtain⟨j0,hj0,e0⟩:=Ae O hl
 have none_iff:∀j,((owner.getD j (some 0)).isNone=true)↔owner[j]?=some none:=fun j=>by
  rw[LM];cases owner[j]? with
  |none=>simp
  |some o=>cases o <;> simp
 obtain⟨pre,j,post,e,hs',hp⟩:=iT (fun j=>owner[j]?=some none) (cx mask h) ⟨j0,cov j0 hj0,e0⟩;have hjm:j<=mask:=iz (h:=h) (by rw[e];simp);have hjs:j<owner.size:=by rw[O.size];omega
 have hocc:∀k∈pre,∃i',owner[k]?=some (some i'):=fun k hk=>by
  have hkm:k<=mask:=iz (h:=h) (by rw[e];simp[hk]);cases q:owner[k]? with
  |none=>
   rw[LQ,O.size]at q;omega
  |some o=>
   cases o with
   |none=>exact absurd q (hp k hk)
   |some i=>exact⟨i,rfl⟩
 have hset:∀k,(owner.setIfInBounds j (some hs.length))[k]?=if j=k then some (some hs.length) else owner[k]?:=fun k=>by
  rw[Array.getElem?_setIfInBounds];by_cases q:j=k
  ·rw[Jo q,Jo q,Jo hjs]
  ·rw[Jp q,Jp q]
 have keep:∀k i',owner[k]?=some (some i')->(owner.setIfInBounds j (some hs.length))[k]?=some (some i'):=fun k i' q=>by
  rw[hset,Jp]
  ·exact q
  ·intro ej;rw[<- ej,hs']at q;cases q
 refine⟨j,?_,by simp[O.size],fun i h' ei=>?_,fun k i ei=>?_,fun k k' i e1 e2=>?_⟩
 ·rw [p9];show (cx mask h).find? _=some j;rw[e,List.find?_append]
  have e1:pre.find? (fun j=>(owner.getD j (some 0)).isNone)=none:=by
   rw[List.find?_eq_none];intro k hk q;exact hp k hk ((none_iff k).mp q)
  simp only[e1,Option.none_or,List.find?_cons,(none_iff j).mpr hs']
 ·by_cases hi : i < hs.length
  ·rw[Kg hi]at ei;obtain⟨j',a1,a2,pr,po,a3,a4⟩:=O.all i h' ei;exact⟨j',a1,keep j' i a2,pr,po,a3,fun k hk=>(a4 k hk).elim fun i' q=>⟨i',keep k i' q⟩⟩
  ·have hi':i=hs.length:=by
    have:=(JG.mp ei).1;simp at this;omega
   subst hi';rw[Kf (JY _),LS]at ei;have eh:h=h':=by simpa using ei
   subst eh;exact⟨j,hjm,by rw[hset,Jo rfl],pre,post,e,fun k hk=>(hocc k hk).elim fun i' q=>⟨i',keep k i' q⟩⟩
 ·rw [hset] at ei;rw[Kj,K2];split at ei
  ·cases ei;omega
  ·have:=O.lt k i ei;omega
 ·rw [hset] at e1 e2;split at e1
  ·rename_i q1;cases e1;split at e2
   ·rename_i q2;rw[<- q1,q2]
   ·have:=O.lt k' _ e2;omega
  ·split at e2
   ·cases e2;have:=O.lt k _ e1;omega
   ·exact O.inj k k' i e1 e2
theorem tj{mask:Nat}:∀(hs0 hs1:List Int)(owner:Array (Option Nat)),DA mask hs0 owner->hs0.length+hs1.length<=mask+1->(∀h∈hs1,∀j,j<=mask->j∈cx mask h) ->
  ∃owner',hs1.foldl (fun(acc:Option (Array (Option Nat)×Nat)) h=>do
   let (owner,k) <- acc
   let j <- SetTable.layClean.free mask owner (SetTable.turns mask) (SetTable.bits h%(mask+1)) (SetTable.bits h)
   pure (owner.setIfInBounds j (some k),k+1)) (some (owner,hs0.length))=some (owner',(hs0++hs1).length)/\DA mask (hs0++hs1) owner'
 |hs0,[],owner,O,_,_=>⟨owner,by simp,by simpa using O⟩
 |hs0,h::hs1,owner,O,hl,cov=>by
  rw[La]at hl;obtain⟨j,ej,O'⟩:=Ad (h:=h) O (by omega) (cov h JA);obtain⟨ow,e1,e2⟩:=tj (hs0++[h]) hs1 _ O' (by rw[Kj,K2];omega) (fun x hx=>cov x (JB _ hx));rw[KZ,LU]at e1 e2;refine⟨ow,?_,e2⟩;rw[K1];show List.foldl _ ((SetTable.layClean.free mask owner (SetTable.turns mask) (SetTable.bits h%(mask+1)) (SetTable.bits h)).bind fun j=>some (owner.setIfInBounds j (some hs0.length),hs0.length+1)) hs1=_;rw[ej];show List.foldl _ (some (owner.setIfInBounds j (some hs0.length),hs0.length+1)) hs1=_;rw[Kj,K2]at e1;exact e1
theorem sU{α:Type}:∀l:List α,(List.range l.length).filterMap (fun i=>l[i]?)=l
 |[]=>rfl
 |a::l=>by
  rw[La,Ll,Jz];show a::List.filterMap _ _=_;rw[Ky];show a::List.filterMap (fun i=>l[i]?) _=_;rw[sU l]
theorem Cr{mask:Nat}{hs:List Int}(hl:hs.length<=mask+1)(cov:∀h∈hs,∀j,j<=mask->j∈cx mask h):∃owner,SetTable.layClean mask hs.toArray=some owner/\DA mask hs owner:=by
 obtain⟨ow,e1,e2⟩:=tj [] hs _ (B3 mask) (by rw[Lp,Nat.zero_add];exact hl) cov;refine⟨ow,?_,by simpa using e2⟩;unfold SetTable.layClean;rw[List.foldl_toArray']
 ·show Option.map (·.1) (hs.foldl _ (some (Array.replicate (mask+1) none,([]:List Int).length)))=_;rw[e1];rfl
 ·simp
theorem og{t:SetTable}{es:Array (Int×Value)}{wanted mask:Nat}(hm:SetTable.sizeAbove wanted-1=mask)(hl:es.size<=mask)(cov:∀e∈es.toList,∀j,j<=mask->j∈cx mask e.1) :
  ∃t' order Z',t.relaid (es.map (·.1)) wanted=some (t',order)/\pj t' (order.filterMap (es[·]?)) Z'/\(Z'.map (·.2)).Perm es.toList/\t'.mask=mask/\t'.led=t.led/\t'.plain=t.plain/\order.toList.Perm (List.range es.size):=by
 have ea:es.map (·.1)=(es.toList.map (·.1)).toArray:=by rw[<- LV]
 obtain⟨ow,e1,O⟩:=Cr (mask:=mask) (hs:=es.toList.map (·.1)) (by simp;omega) (fun h hh=>by
  obtain⟨e,he,q⟩:=Lz.mp hh
  rw[<- q];exact cov e he)
 let live:List (Nat×Nat):=(List.range (mask+1)).filterMap fun j=>(ow.getD j none).map (j,·)
 have hlive:∀j i,(j,i)∈live↔(j<=mask/\ow[j]?=some (some i)):=fun j i=>by
  simp only[live,J0,Jw];constructor
  ·rintro ⟨k, hk, q⟩
   rw[LM]at q;cases e:ow[k]? with
   |none=>rw[e]at q;cases q
   |some o=>
    rw[e]at q;cases o with
    |none=>cases q
    |some i'=>
     simp only[LN,Option.map_some,Option.some.injEq,Prod.mk.injEq]at q;obtain⟨q1,q2⟩:=q;subst q1;subst q2;exact⟨by omega,e⟩
  ·rintro ⟨hj, e⟩
   refine⟨j,by omega,?_⟩;rw[LM,e];rfl
 have hfst:(live.map (·.1)).Pairwise (·<·):=by
  have gen:∀(l:List Nat),l.Pairwise (·<·)->((l.filterMap fun j=>(ow.getD j none).map (j,·)).map (·.1)).Pairwise (·<·)/\∀x∈((l.filterMap fun j=>(ow.getD j none).map (j,·)).map (·.1)),x∈l:=by
   intro l
   induction l with
   |nil=>intro _;exact⟨List.Pairwise.nil,fun x hx=>by simp at hx⟩
   |cons a l ih=>
    intro hp;obtain⟨h1,h2⟩:=LI.mp hp;obtain⟨i1,i2⟩:=ih h2;rw[Jz];cases q:(ow.getD a none).map (a,·) with
    |none=>exact⟨i1,fun x hx=>JB _ (i2 x hx)⟩
    |some p=>
     have ep:p.1=a:=by
      cases hq:ow.getD a none with
      |none=>rw[hq]at q;cases q
      |some i=>rw[hq]at q;cases q;rfl
     show (p.1::List.map _ _).Pairwise _/\∀x∈p.1::List.map _ _,x∈a::l;rw[ep]
     exact⟨LI.mpr ⟨fun x hx=>h1 x (i2 x hx),i1⟩,fun x hx=>by
      rcases JC.mp hx with z|z
      ·rw[z];exact JA
      ·exact JB _ (i2 x z)⟩
  exact(gen _ List.pairwise_lt_range).1
 have hnd:live.Nodup:=by
  have:=hfst.imp (fun h=>Ju h);exact List.Pairwise.of_map (·.1) (fun a b h e=>h (by rw[e])) this
 have hsz:∀j i,(j,i)∈live->i<es.size:=fun j i h=>by
  have:=O.lt j i ((hlive j i).mp h).2;simpa using this
 have hsnd:(live.map (·.2)).Perm (List.range es.size):=by
  refine(LW ?_ LC).mpr fun i=>?_
  ·refine List.Pairwise.map _ (fun a b h=>?_) (List.Pairwise.and_mem.mp hnd);obtain⟨ha,hb,hne⟩:=h;intro e;have q1:=((hlive a.1 a.2).mp ha).2;have q2:=((hlive b.1 b.2).mp hb).2;rw[<- e]at q2;exact hne (Prod.ext (O.inj _ _ _ q1 q2) e)
  ·rw [Jw, Lz];constructor
   ·rintro⟨p,hp,e⟩;rw[<- e];exact hsz p.1 p.2 hp
   ·intro hi;obtain⟨j,hj,q,_⟩:=O.all i (es[i].1) (by rw[Kh,Ly,LX hi];rfl);exact⟨(j,i),(hlive j i).mpr ⟨hj,q⟩,rfl⟩
 let Z':List (Nat×Int×Value):=live.filterMap fun p=>(es[p.2]?).map fun e=>(p.1,e)
 have hZ1:Z'.map (·.1)=live.map (·.1):=by
  have gen:∀l:List (Nat×Nat),(∀p∈l,p.2<es.size)->(l.filterMap fun p=>(es[p.2]?).map fun e=>(p.1,e)).map (·.1)=l.map (·.1):=by
   intro l
   induction l with
   |nil=>intro _;rfl
   |cons p l ih=>
    intro h;rw[Jz,LX (h p JA)];show p.1::List.map _ _=p.1::List.map _ _;rw[ih fun q hq=>h q (JB _ hq)]
  exact gen live fun p hp=>hsz p.1 p.2 hp
 have hZ2:Z'.map (·.2)=(live.map (·.2)).filterMap (es[·]?):=by
  have gen:∀l:List (Nat×Nat),(l.filterMap fun p=>(es[p.2]?).map fun e=>(p.1,e)).map (·.2)=(l.map (·.2)).filterMap (es[·]?):=by
   intro l
   induction l with
   |nil=>rfl
   |cons p l ih=>
    rw[Jz,KN,Jz];cases es[p.2]? with
    |none=>exact ih
    |some e=>show e::List.map _ _=e::_;rw[ih]
  exact gen live
 have hes:(List.range es.size).filterMap (es[·]?)=es.toList:=by
  have q:=sU es.toList;rw[JM]at q;simpa only[Ly] using q
 refine⟨{mask,place:=(live.map (·.1)).toArray,dummies:=#[],finger:=t.finger,led:=t.led,moves:=t.movedTo mask,plain:=t.plain},(live.map (·.2)).toArray,Z',?_,⟨?_,?_,?_,fun z hz=>?_,rfl,fun z hz=>?_⟩,?_,rfl,rfl,rfl,hsnd⟩
 ·unfold SetTable.relaid SetTable.laid;rw[hm,ea,e1];rfl
 ·show (live.map (·.1))=_;rw[hZ1]
 ·rw[hZ2];simp
 ·rw[hZ1];exact hfst
 ·have : z.1 ∈ live.map (·.1) := by rw [<- hZ1]; exact LF hz
  obtain⟨p,hp,q⟩:=Lz.mp this;rw[<- q];exact((hlive p.1 p.2).mp hp).1
 ·obtain⟨p,hp,q⟩:=J0.mp hz;rw[LX (hsz p.1 p.2 hp)]at q;have ez:z=(p.1,es[p.2]'(hsz p.1 p.2 hp)):=(Jq q).symm;obtain⟨hj,ho⟩:=(hlive p.1 p.2).mp hp;obtain⟨j,a1,a2,pre,post,a3,a4⟩:=O.all p.2 (es[p.2]'(hsz p.1 p.2 hp)).1 (by rw[Kh,Ly,LX (hsz p.1 p.2 hp)];rfl);have ejp:j=p.1:=O.inj _ _ _ a2 ho;refine⟨pre,post,by rw[ez];rw[ejp]at a3;exact a3,fun k hk=>?_⟩;obtain⟨i',hi'⟩:=a4 k hk;rw[hZ1];have hkm:k<=mask:=iz (h:=(es[p.2]'(hsz p.1 p.2 hp)).1) (by rw[a3];simp[hk]);exact Lz.mpr ⟨(k,i'),(hlive k i').mpr ⟨hkm,hi'⟩,rfl⟩
 ·rw[hZ2,<- hes];exact hsnd.filterMap _
def prs:List (List Int):=((List.range 36).filter fun n=>n / 6<n%6).map fun n=>[((n / 6:Nat):Int),((n%6:Nat):Int)]
def hsh(ks:List Int):Int:=reduceHash (Builtin.Tuple.tupleHashOf (ks.map hashInt))
theorem FI{prog:Program}{w:World}(ks:List Int):tupleKeyHash (intKind prog w) ks=hsh ks:=rfl
def DG(mask:Nat):Bool:=prs.all fun ks=>(List.range (mask+1)).all fun j=>(cx mask (hsh ks)).contains j
theorem Iw:DG 7=true:=by decide +kernel
theorem Dv:DG 31=true:=by decide +kernel
theorem Hi:(prs.map hsh).Nodup:=by decide +kernel
theorem wg:prs.length=15:=by decide +kernel
theorem uU{mask:Nat}(h:DG mask=true){ks:List Int}(hk:ks∈prs):∀j,j<=mask->j∈cx mask (hsh ks):=fun j hj=>by
 have a:=LY.mp h ks hk;have b:=LY.mp a j (Jw.mpr (by omega));simpa using b
theorem FG{l:List (List Int)}(h:(l.map hsh).Nodup){a b:List Int}(ha:a∈l)(hb:b∈l)(e:hsh a=hsh b):a=b:=by
 induction l with
 |nil=>simp at ha
 |cons c l ih=>
  rw[KN]at h;obtain⟨h1,h2⟩:=Ka.mp h;rcases JC.mp ha with qa|qa <;> rcases JC.mp hb with qb|qb
  ·rw[qa,qb]
  ·exact absurd (by rw[<- qa,e];exact LF qb) h1
  ·exact absurd (by rw[<- qb,<- e];exact LF qa) h1
  ·exact ih h2 qa qb
theorem CC{a b:List Int}(ha:a∈prs)(hb:b∈prs)(e:hsh a=hsh b):a=b:=FG Hi ha hb e
theorem qO{a b:Int}(h1:0<=a)(h2:a<b)(h3:b<6):[a,b]∈prs:=by
 have key:∀x:Nat,x<6->∀y:Nat,y<6->x<y->[(x:Int),(y:Int)]∈prs:=by decide +kernel
 have:=key a.toNat (by omega) b.toNat (by omega) (by omega);rw[Int.toNat_of_nonneg h1,Int.toNat_of_nonneg (by omega)]at this;exact this
end RS
namespace RS
open PySem PyProof.Rows
abbrev KP:=List Int×Addr
structure bJ(w:World)(h:Heap)(a:Addr)(qs:List (Int×Value))(o:Obj)(es:Array (Int×Value))(ep:Nat)(t:SetTable)(Z:List (Nat×Int×Value)):Prop where
 ho:h.get? a=some o
 ex:o.ExactSet
 hd:o.data=.set es ep t
 tab:pj t es Z
 plain:t.plain=true
 led:t.led=!w.params.followText "set-order"
 big:(t.mask=7/\Z.length<=4)\/(t.mask=31/\Z.length<=18)
 perm:(Z.map (·.2)).Perm qs
def uD(p:KP):Int×Value:=(hsh p.1,Value.ref p.2)
def d5(w:World)(h:Heap)(a:Addr)(ps:List KP):Prop:=∃o es ep t Z,bJ w h a (ps.map uD) o es ep t Z/\(∀p∈ps,p.1∈prs)/\(ps.map (·.1)).Nodup
theorem bJ.len{w:World}{h:Heap}{a:Addr}{ps:List (Int×Value)}{o es ep t Z}(S:bJ w h a ps o es ep t Z):Z.length=ps.length:=by
 have:=S.perm.length_eq;simpa using this
theorem jD{ps:List KP}(hk:∀p∈ps,p.1∈prs)(hn:(ps.map (·.1)).Nodup):ps.length<=15:=by
 have:=gB hn (l2:=prs) (fun x hx=>by obtain⟨p,hp,e⟩:=Lz.mp hx;rw[<- e];exact hk p hp);rw[Kk,wg]at this;exact this
theorem bJ.fits{w:World}{h:Heap}{a:Addr}{ps:List (Int×Value)}{o es ep t Z}(S:bJ w h a ps o es ep t Z):t.fits es.size=true:=by
 unfold SetTable.fits;rw[S.tab.fill,S.tab.size.1,S.tab.size.2];rcases S.big with⟨h1,h2⟩|⟨h1,h2⟩ <;> simp[h1] <;> omega
theorem bJ.cov{w:World}{h:Heap}{a:Addr}{ps:List (Int×Value)}{o es ep t Z}(S:bJ w h a ps o es ep t Z){k:List Int}(hk:k∈prs):∀j,j<=t.mask->j∈cx t.mask (hsh k):=by
 rcases S.big with⟨h1,h2⟩|⟨h1,h2⟩ <;> rw[h1]
 ·exact uU Iw hk
 ·exact uU Dv hk
theorem d5.keeps{w:World}{h h':Heap}{a:Addr}{ps:List KP}(S:d5 w h a ps)(k:∀o,h.get? a=some o->h'.get? a=some o):d5 w h' a ps:=by
 obtain⟨o,es,ep,t,Z,S,hk,hn⟩:=S;exact⟨o,es,ep,t,Z,⟨k o S.ho,S.ex,S.hd,S.tab,S.plain,S.led,S.big,S.perm⟩,hk,hn⟩
section
variable{prog:Program}{w:World}{A:Around}{E:Value->Shared->Prop}{s:Shared}
abbrev Tk(prog:Program)(w:World)(h:Heap)(k:List Int)(r:Addr):Prop:=IsTupleKey (intKind prog w) h k r
theorem items_int{k:List Int}{vs:List Value}(h:ItemsAre (intKind prog w) k vs):∀v∈vs,∃i t,v=.int i t:=by
 induction h with
 |nil=>intro v hv;simp at hv
 | @cons k v' ks vs h1 _ ih=>
  intro v hv;rcases JC.mp hv with q|q
  ·obtain⟨t,e⟩:=Jk (k:=k) (v:=v') h1;exact⟨k,t,by rw[q,e]⟩
  ·exact ih v q
theorem tm{k:List Int}{r:Addr}{Q:Bool->Shared->Prop}(hk:Tk prog w s.heap k r)(h:Q false s):wpAny (model prog w) A (ofAClassStatement 8 (.ref r)) Q E s:=by
 have hT:=hk.typeIs;obtain⟨o,items,n,ho,hc,hd,hi⟩:=hk;unfold ofAClassStatement;refine JP (KH hT ?_);dsimp only;simp only[K8,Ku];refine JP (JT ?_);simp only[LZ,K9,Kt];refine JP (wpAny_seqItems ho hd ?_);dsimp only;refine JP ?_;show wpAny _ _ (forIn items _ _) _ _ s;rw[<- Array.forIn_toList];refine L0 _ (fun rest r s'=>r.1=none/\s'=s/\∀v∈rest,∃i t,v=.int i t) _ ?_ ?_ _ _ ⟨rfl,rfl,items_int hi⟩
 ·rintro v rest r s' ⟨hr, rfl, hall⟩
  obtain⟨i,t,e⟩:=hall v JA;subst e;unfold ofAClassStatement;refine JP (JT ?_);simp only[K9,Kt];exact JT ⟨rfl,rfl,fun u hu'=>hall u (JB _ hu')⟩
 ·rintro ⟨r1, r2⟩ s' ⟨hr, rfl, _⟩
  simp only at hr;subst hr;exact JT h
theorem pd{k:List Int}{r:Addr}{Q:Bool->Shared->Prop}(hk:Tk prog w s.heap k r)(h:Q true s):wpAny (model prog w) A (hashByValue 8 (.ref r)) Q E s:=by
 have hT:=hk.typeIs;obtain⟨o,items,n,ho,hc,hd,hi⟩:=hk;unfold hashByValue;refine JP (wpAny_specialOf hT F.slot_tuple_hash.lookup ?_);dsimp only;refine JP (wpAny_seqItems ho hd ?_);refine JP ?_;show wpAny _ _ (forIn items _ _) _ _ s;rw[<- Array.forIn_toList];refine L0 _ (fun rest r s'=>r.1=none/\s'=s/\∀v∈rest,∃i t,v=.int i t) _ ?_ ?_ _ _ ⟨rfl,rfl,items_int hi⟩
 ·rintro v rest r s' ⟨hr, rfl, hall⟩
  obtain⟨i,t,e⟩:=hall v JA;subst e;unfold hashByValue;refine JP (JT ?_);simp only[LZ,K9,Kt];exact JT ⟨rfl,rfl,fun u hu'=>hall u (JB _ hu')⟩
 ·rintro ⟨r1, r2⟩ s' ⟨hr, rfl, _⟩
  simp only at hr;subst hr;exact JT h
theorem Ah{k:List Int}{r:Addr}{ys:List Value}{Q:Bool->Shared->Prop}(hk:Tk prog w s.heap k r)(hy:∀y∈ys,∃k' r',y=.ref r'/\Tk prog w s.heap k' r')(h:Q false s):wpAny (model prog w) A (searchCouldBeSeen (.ref r) ys) Q E s:=by
 unfold searchCouldBeSeen;refine JP ?_;refine L0 _ (fun rest r' s'=>r'.1=none/\s'=s/\∀y∈rest,∃k' r',y=.ref r'/\Tk prog w s.heap k' r') _ ?_ ?_ _ _ ⟨rfl,rfl,hy⟩
 ·rintro v rest q s' ⟨hr, rfl, hall⟩
  obtain⟨k',r',e,hk'⟩:=hall v JA;subst e;have hrest:=fun u hu'=>hall u (JB _ hu');dsimp only;by_cases hv:(r == r' || carriedByValue (Value.ref r)&&carriedByValue (Value.ref r'))=true
  ·rw[Jo hv];exact JT ⟨rfl,rfl,hrest⟩
  ·rw[Jp hv];refine JP (wpAny_eqIsQuiet_tuple hk ?_);simp only[LZ,K9,Kt];refine JP (wpAny_eqIsQuiet_tuple hk' ?_);simp only[LZ,K9,Kt];refine JP (tm hk ?_);simp only[K9,Kt];refine JP (tm hk' ?_);simp only[K9,Kt];exact JT ⟨rfl,rfl,hrest⟩
 ·rintro ⟨r1, r2⟩ s' ⟨hr, rfl, _⟩
  simp only at hr;subst hr;exact JT h
end
end RS
namespace RS
open PySem PyProof.Rows
section
variable{prog:Program}{w:World}{A:Around}{E:Value->Shared->Prop}{s:Shared}
theorem zv{h:Heap}{a:Addr}{ps:List KP}{o es ep t Z}(S:bJ w h a (ps.map uD) o es ep t Z){z:Nat×Int×Value}(hz:z∈Z):∃p∈ps,z.2=(hsh p.1,Value.ref p.2):=by
 have:z.2∈Z.map (·.2):=LF hz;obtain⟨p,hp,e⟩:=Lz.mp (S.perm.mem_iff.mp this);exact⟨p,hp,e.symm⟩
theorem FR{h:Heap}{a:Addr}{ps:List KP}{o es ep t Z}(S:bJ w h a (ps.map uD) o es ep t Z){p:KP}(hp:p∈ps):∃z∈Z,z.2=(hsh p.1,Value.ref p.2):=by
 have:uD p∈ps.map uD:=LF hp;obtain⟨z,hz,e⟩:=Lz.mp (S.perm.mem_iff.mpr this);exact⟨z,hz,e⟩
theorem w9{a r:Addr}{k:List Int}{ps:List KP}{o es ep t Z}{Q:SetFound->Shared->Prop}(S:bJ w s.heap a (ps.map uD) o es ep t Z)(hks:∀p∈ps,p.1∈prs)(hk:k∈prs)(hr:Tk prog w s.heap k r)(hps:∀p∈ps,Tk prog w s.heap p.1 p.2)(hu:A.units<cLine)
  (h1:k∈ps.map (·.1)->Q (.there none) s)
  (h2:k∉ps.map (·.1)->∀j pre post,j<=t.mask->j∉Z.map (·.1)->cx t.mask (hsh k)=pre++j::post->(∀x∈pre,x∈Z.map (·.1))->Q (.free j false) s) :
  wpAny (model prog w) A (setSearch a (.ref r) (hsh k) true) Q E s:=by
 have hodd:t.gaveWay=false:=by
  unfold SetTable.gaveWay;rcases S.big with⟨q,_⟩|⟨q,_⟩ <;> rw[q] <;> decide
 have hz:Z.length<=t.mask:=by rcases S.big with⟨q,q2⟩|⟨q,q2⟩ <;> omega
 unfold setSearch setSearchFrom;refine JP (L1 S.ho S.hd S.fits ?_);dsimp only;rw[hodd];simp only[K9,Kt];generalize hpr:SetTable.probe t _ (hsh k) (Option.getD none (t.probeStart (hsh k)))=pr
 have key:∀(hA:Nat->Int) pr,(∀i z,Z[i]?=some z->hA i=z.2.1)->t.probe hA (hsh k) (t.probeStart (hsh k))=pr ->
   (∃i z nx,Z[i]?=some z/\z.2.1=hsh k/\pr=some (.candidate z.1 i nx)) \/
   ((∀z∈Z,z.2.1≠hsh k)/\∃j pre post,pr=some (.empty j none)/\j<=t.mask/\j∉Z.map (·.1)/\cx t.mask (hsh k)=pre++j::post/\∀x∈pre,x∈Z.map (·.1)):=fun hA pr hAe e=>by
  subst e;exact S.tab.search (S.cov hk) hz hA hAe
 rcases key _ pr (fun i z hi=>by show (Option.map (·.1) es[i]?).getD 0=_;rw[S.tab.hashAt hi];rfl) hpr with⟨i,z,nx,hi,ez,e⟩|⟨hno,j,pre,post,e,hj,hn,e2,hp⟩
 ·subst e;dsimp only;have hzm:z∈Z:=Ki hi;obtain⟨p,hp,ep'⟩:=zv S hzm;have ek:p.1=k:=CC (hks p hp) hk (by rw[<- ez,ep']);have hin:k∈ps.map (·.1):=by rw[<- ek];exact LF hp
  have rest:wpAny (model prog w) A (do
    let some (_,y):=es[i]? | unsupported "internal:set-entry"
    let equal <- holding [y] (eqBool y (.ref r))
    let (es',_,t') <- setState a
    if true&&equal then return SetFound.there none
    let some same:=t'.sameMemory t.moves t.mask|unsupported "set.changed-during-lookup:is-the-new-block-at-the-old-address"
    let still <- match (if same then t'.slot z.1 else .empty) with
     |.live i'=>match es'[i']? with
      |some (_,y')=>do pure (if <- isSame y' y then some i' else none)
      |none=>pure none
     |_=>pure none
    match still with
    |none=>rule "set.search.anew";setSearchFrom a (.ref r) (hsh k) true 99999 none
    |some i'=>if equal then return .there (some i') else setSearchFrom a (.ref r) (hsh k) true 99999 (some nx)) Q E s:=by
   rw[S.tab.hashAt hi,ep'];dsimp only;refine JP (JQ (wpAny_eqBool_tuple hu (hps p hp) hr ?_));refine JP (L1 S.ho S.hd S.fits ?_);dsimp only;rw[ek,K5 rfl];simp only[L3,Ku];exact JT (h1 hin)
  by_cases hl:(!t.led)=true
  ·rw [Jo hl];refine JP (Ah hr (fun y hy=>?_) ?_)
   ·obtain ⟨e', he', q⟩ := Lz.mp hy
    have he2:e'∈es.toList:=by
     have:=Array.mem_filter.mp (L4.mp he');exact L4.mpr this.1
    rw[S.tab.ents]at he2;obtain⟨z',hz',q2⟩:=Lz.mp he2;obtain⟨p',hp',q3⟩:=zv S hz';exact⟨p'.1,p'.2,by rw[<- q,<- q2,q3],hps p' hp'⟩
   ·simp only[K9,Kt];exact rest
  ·rw[Jp hl];exact rest
 ·subst e;dsimp only;refine JT (h2 (fun hin=>?_) j pre post hj hn e2 hp);obtain⟨p,hpm,ek⟩:=Lz.mp hin;obtain⟨z,hzm,ez⟩:=FR S hpm;exact hno z hzm (by rw[ez,<- ek])
end
end RS
namespace RS
open PySem PyProof.Rows
def kG(ps:List KP)(k:List Int)(r:Addr):List KP:=if k∈ps.map (·.1) then ps else ps++[(k,r)]
section
variable{prog:Program}{w:World}{A:Around}{E:Value->Shared->Prop}{s:Shared}
theorem DP{a r:Addr}{k:List Int}{ps:List KP}{Q:Bool->Shared->Prop}(S:d5 w s.heap a ps)(hk:k∈prs)(hr:Tk prog w s.heap k r)(hps:∀p∈ps,Tk prog w s.heap p.1 p.2)(hu:A.units<cLine)
  (h:∀b h',Heap.SameBut a s.heap h'->d5 w h' a (kG ps k r)->Q b {s with heap:=h'}):wpAny (model prog w) A (setAddHashed a (.ref r) (hsh k)) Q E s:=by
 obtain⟨o,es,ep,t,Z,S,hk0,hn0⟩:=S;unfold setAddHashed setAddHashedIn;refine JQ (JP (L1 S.ho S.hd S.fits ?_));dsimp only;have hsc:byScan (Value.ref r) es=false:=rfl;rw[hsc];simp only[K9,Kt];refine JP (w9 S hk0 hk hr hps hu (fun hin=>?_) fun hin j pre post hj hn e hp=>?_)
 ·dsimp only;refine JT ?_;have q:=h false s.heap (Heap.SameBut.refl a s.heap) (by unfold kG;rw[Jo hin];exact⟨o,es,ep,t,Z,S,hk0,hn0⟩);cases s;exact q
 ·dsimp only;refine JP (L1 S.ho S.hd S.fits ?_);dsimp only;obtain⟨Z',T',hperm,et⟩:=S.tab.put (x:=Value.ref r) hj hn e hp;have e2:(t.put j).2=SetTable.below t.place j:=rfl;have hpl:(t.put j).1.plain=true:=by rw[et];exact S.plain
  have hled:(t.put j).1.led=t.led:=by rw[et]
  have hmask:(t.put j).1.mask=t.mask:=by rw[et]
  have hperm':(Z'.map (·.2)).Perm ((ps++[(k,r)]).map uD):=by
   have q1:=hperm.map (·.2);refine q1.trans ?_;rw[KN,LJ];refine List.Perm.trans (List.Perm.cons _ S.perm) ?_;exact(List.perm_append_singleton _ _).symm
  have hkeys:∀p∈ps++[(k,r)],p.1∈prs:=fun p hp'=>by
   rcases JE.mp hp' with q|q
   ·exact hk0 p q
   ·rw[Lk]at q;rw[q];exact hk
  have hnd:((ps++[(k,r)]).map (·.1)).Nodup:=by
   rw[LJ];refine L5.mpr ⟨hn0,by simp,fun x hx y hy=>?_⟩;simp at hy;rw[hy];rintro rfl;exact hin hx
  have hlen15:=jD hkeys hnd;have hZ':Z'.length=ps.length+1:=by rw[hperm.length_eq,La,S.len,Kk]
  have hesz:(SetTable.insertAt es (t.put j).2 (hsh k,Value.ref r)).size=Z'.length:=T'.size.2;have hadd:kG ps k r=ps++[(k,r)]:=by unfold kG;rw[Jp hin]
  rw[hadd]at h;rw[Kj,K2]at hlen15;generalize ht1:(t.put j).1=t1 at *;generalize hes1:SetTable.insertAt es (t.put j).2 (hsh k,Value.ref r)=es1 at *;have hline:es1.size<=sizeLine:=by rw[hesz,hZ'];exact Jx hlen15 (by decide)
  rw[hpl];simp only[Ku];refine JP (pd hr ?_);simp only[Ku];refine JP (L6 S.ho S.hd ?_ hline)
  have hg:(s.heap.update a (Obj.putSet es1 t1)).get? a=some {o with data:=.set es1 (ep+1) t1}:=by
   have:=KS (Obj.putSet es1 t1) S.ho (by rw[L7 es1 t1 S.hd];rfl);rw[L7 es1 t1 S.hd]at this;exact this
  have hsb1:=L8 s.heap a (Obj.putSet es1 t1);have hfill:t1.fill=ps.length+1:=by rw[T'.fill,hZ']
  by_cases hfull:t1.tooFull=true
  ·simp only [hfull, L9, L3, Ku]
   have hm7:t.mask=7/\ps.length=4:=by
    unfold SetTable.tooFull at hfull;rw[hfill,hmask]at hfull;have hf:(ps.length+1)*5 ≥ t.mask*3:=by simpa using hfull
    have hl:=S.len;rw[Kk]at hl;rcases S.big with⟨q,q2⟩|⟨q,q2⟩
    ·rw[q]at hf;exact⟨q,by omega⟩
    ·rw[q]at hf;omega
   have hes0:es.size=4:=by rw[S.tab.size.2,S.len,Kk,hm7.2]
   have hsz1:es1.size=5:=by rw[hesz,hZ',hm7.2]
   have hgr:SetTable.grown (es.size+1)=20:=by rw[hes0];rfl
   rw[hgr];unfold setRelay
   have hfits1:t1.fits es1.size=true:=by
    unfold SetTable.fits;rw[T'.fill,T'.size.1,hesz,hmask,hm7.1,hZ',hm7.2];rfl
   refine JP (JP (L1 hg rfl hfits1 ?_));dsimp only;rw[Jp (by decide)]
   obtain⟨t2,order,Z2,er,T2,hp2,hm2,hl2,hpl2,_⟩:=og (t:=t1) (es:=es1) (wanted:=20) (mask:=31) (by rfl) (by rw[hsz1];decide) (fun e' he'=>by
    rw[T'.ents]at he';obtain⟨p,hp',q⟩:=Lz.mp (hperm'.mem_iff.mp he');rw[<- q]
    exact uU Dv (hkeys p hp'))
   rw[er]
   have hZ2:Z2.length=5:=by
    have:=hp2.length_eq;simp at this;omega
   have hes2:(order.filterMap (es1[·]?)).size=5:=by rw[T2.size.2,hZ2]
   have hne:((order.filterMap (es1[·]?)).size != es1.size)=false:=by rw[hes2,hsz1];rfl
   refine JP ?_;show wpAny _ A (if ((order.filterMap (es1[·]?)).size != es1.size)=true then _ else _) _ _ _;rw[hne];simp only[K9,Kt];refine JT ?_;refine L6 hg rfl ?_ (by rw[hes2];decide)
   have hg2:((s.heap.update a (Obj.putSet es1 t1)).update a (Obj.putSet (order.filterMap (es1[·]?)) t2)).get? a=some {o with data:=.set (order.filterMap (es1[·]?)) (ep+1+1) t2}:=by
    have:=KS (Obj.putSet (order.filterMap (es1[·]?)) t2) hg (by rw[L7 _ t2 rfl];rfl);rw[L7 _ t2 rfl]at this;exact this
   refine JT ?_;refine h true _ (hsb1.trans (L8 _ a _)) ⟨_,_,_,t2,Z2,⟨hg2,S.ex,rfl,T2,by rw[hpl2];exact hpl,by rw[hl2,hled];exact S.led,.inr ⟨hm2,by omega⟩,?_⟩,hkeys,hnd⟩;refine hp2.trans ?_;rw[T'.ents];exact hperm'
  ·have hf : t1.tooFull = false := by simpa using hfull
   simp only[hf,Bool.and_false,K9,Kt];refine JT ?_;refine h true _ hsb1 ⟨_,_,_,t1,Z',⟨hg,S.ex,rfl,T',hpl,by rw[hled];exact S.led,?_,hperm'⟩,hkeys,hnd⟩;unfold SetTable.tooFull at hf;rw[hfill,hmask]at hf;have hf':¬ ((ps.length+1)*5 ≥ t.mask*3):=by simpa using hf
   rw[hmask,hZ'];rcases S.big with⟨q,q2⟩|⟨q,q2⟩
   ·rw[q]at hf'⊢;exact .inl ⟨rfl,by omega⟩
   ·rw[q]at hf'⊢;exact .inr ⟨rfl,by omega⟩
end
def eN(qs:List KP):List KP:=qs.foldl (fun ps p=>kG ps p.1 p.2) []
theorem uq(qs:List KP)(p:KP):eN (qs++[p])=kG (eN qs) p.1 p.2:=by unfold eN;rw[List.foldl_append];rfl
theorem AK{ps:List KP}{k:List Int}{r:Addr}{p:KP}(h:p∈kG ps k r):p∈ps\/p=(k,r):=by
 unfold kG at h;split at h
 ·exact .inl h
 ·rcases JE.mp h with q | q
  ·exact .inl q
  ·exact .inr (Lk.mp q)
theorem ml:∀{qs ps:List KP}{p:KP},p∈qs.foldl (fun ps p=>kG ps p.1 p.2) ps->p∈ps\/p∈qs
 |[],_,_,h=>.inl h
 |q::qs,ps,p,h=>by
  rw[K1]at h;rcases ml h with z|z
  ·rcases AK z with z | z
   ·exact .inl z
   ·exact .inr (by rw[z];exact JA)
  ·exact .inr (JB _ z)
theorem ky{qs:List KP}{p:KP}(h:p∈eN qs):p∈qs:=(ml h).elim (fun z=>by simp at z) id
theorem vI{ps:List KP}{k:List Int}{r:Addr}(h:(ps.map (·.1)).Nodup):((kG ps k r).map (·.1)).Nodup:=by
 unfold kG;split
 ·exact h
 ·rename_i hn;rw[LJ];refine L5.mpr ⟨h,by simp,fun x hx y hy=>?_⟩;simp at hy;rw[hy];rintro rfl;exact hn hx
theorem j6:∀{qs ps:List KP},(ps.map (·.1)).Nodup->((qs.foldl (fun ps p=>kG ps p.1 p.2) ps).map (·.1)).Nodup
 |[],_,h=>h
 |q::qs,ps,h=>by rw[K1];exact j6 (vI h)
theorem rM{qs:List KP}:((eN qs).map (·.1)).Nodup:=j6 (ps:=[]) LR
def kJ (w:World):Bool:=!w.params.followText "set-order"
theorem ma {w:World}{h:Heap}{a:Addr} (e:h.get? a=some {cls:=.type "set",dict:=none,data:=.set #[] 0 (.fresh 0 0 (kJ w))}):d5 w h a []:=
 ⟨_,_,_,_,[],⟨e,⟨rfl,rfl,rfl⟩,rfl,⟨rfl,rfl,List.Pairwise.nil,fun z hz=>by simp at hz,rfl,fun z hz=>by simp at hz⟩,rfl,rfl,.inl ⟨rfl,by decide⟩,List.Perm.nil⟩,fun p hp=>by simp at hp,LR⟩
section
variable{prog:Program}{w:World}{A:Around}{R:Result->Shared->Prop}{I:Addr}{fp wr:List Addr}{G:Array GenState->Array GenState->Prop}{P:Nat->Value->Prop}{St:Nat->Shared->Prop}
structure yG(prog:Program)(w:World)(u:Nat)(S:Addr)(vs:List Value)(J:Nat->Heap->Prop):Prop where
 keep:∀i h h',(∀b o,b<=S->h.get? b=some o->h'.get? b=some o)->J i h->J i h'
 add:∀(A:Around)(i:Nat)(v:Value)(s:Shared)(E:Value->Shared->Prop)(Q:Bool->Shared->Prop),A.units<=u->vs[i]?=some v->J i s.heap ->
  (∀b h' tk,s.toks<=tk->Heap.SameBut S s.heap h'->J (i+1) h'->Q b {s with heap:=h',toks:=tk})->wpAny (model prog w) A (setAdd S v) Q E s
theorem tG{u:Nat}{vs:List Value}{J:Nat->Heap->Prop}(W:WalksS prog w A.in1 I fp wr G vs.length P St)(S:Addr)(hSf:S∉fp)(hwr:∀b∈wr,S<b)(hP:∀(i:Nat) v,P i v->vs[i]?=some v)(hJ:yG prog w u S vs J)(hu:A.units+1<=u) :
  ∀(k i:Nat)(s:Shared),vs.length-i=k->i<=vs.length->St i s->J i s.heap ->
   (∀s',Moved (S::wr) G s s'->J vs.length s'.heap->R (.ok (.ret .none)) s') ->
   codeAny (model prog w) A (.builtin "set.update.loop" ⟨[.ref S,.ref I],[]⟩) R s:=by
 have hSw:S∉wr:=fun h=>hSf (W.sub _ h);have hsub:∀b∈wr,b∈S::wr:=fun b hb=>JB _ hb;have hle:∀b,b<=S->b∉wr:=fun b hb z=>Jt _ (Js (hwr b z) hb);intro k
 induction k with
 |zero=>
  intro i s ek hi hst hS hR;have hin:i=vs.length:=by omega
  subst hin;refine Ma F.entry_set_update_loop ?_;rw[Mb Mc _];show wpAny _ A.in1 (pyNext (.ref I) >>= _) _ _ s;refine JP (W.done s _ _ hst fun s' hm=>?_);show wpAny _ A.in1 (ret Value.none) _ _ s';exact JT (hR s' (hm.mono hsub) (hJ.keep _ _ _ (fun b o hb e=>hm.heap b o (hle b hb) e) hS))
 |succ k ih=>
  intro i s ek hi hst hS hR;have hlt:i<vs.length:=by omega
  refine Ma F.entry_set_update_loop ?_;rw[Mb Mc _];show wpAny _ A.in1 (pyNext (.ref I) >>= _) _ _ s;refine JP (W.item i s _ _ hlt hst fun v s' hPv hst' hm=>?_);have hv:=hP i v hPv;have hS':=hJ.keep i _ s'.heap (fun b o hb e=>hm.heap b o (hle b hb) e) hS;show wpAny _ A.in1 (holding [v] (setAdd S v) >>= _) _ _ s';refine JP (JQ ?_);refine hJ.add A.in1 i v s' _ _ (by show A.units+1<=u;exact hu) hv hS' fun b h' tk ht hsb hS2=>?_;have hkeep:∀b o,b≠S->s'.heap.get? b=some o->h'.get? b=some o:=fun b o hb e=>(hsb.2 b hb).trans e;refine JT ⟨Md Mc _,ih (i+1) _ (by omega) hlt (W.frame _ s' _ _ hst' ht fun b hb o e=>hkeep b o (fun z=>hSf (by rw[<- z];exact hb)) e) hS2 fun s'' hm'' hS''=>?_⟩;refine hR s'' (Moved.trans W.gtrans ((hm.mono hsub).then_heap ht fun b o hb e=>?_) hm'') hS'';exact hkeep b o (fun z=>hb (by rw[z];exact JA)) e
end
section
variable{prog:Program}{w:World}{A:Around}{E:Value->Shared->Prop}{s:Shared}
theorem la(a:Value){Q1:Value->Shared->Prop}
  (h:Q1 (.ref s.heap.objs.size) {s with heap:=s.heap.push {cls:=.type "set",dict:=none,data:=.set #[] 0 (.fresh 0 0 (kJ w))}}) :
  codeAny (model prog w) A (.call (.builtin "set.__new__") ⟨[.type "set",a],[]⟩) (wants Q1 E) s:=by
 refine Lf ?_;show wpAny _ A.in1 (do checkBuiltinCall "set.__new__" ⟨[.type "set",a],[]⟩;again (.builtin "set.__new__" ⟨[.type "set",a],[]⟩)) _ _ s;refine JP (Li (F.newCall_set_1 a) (JT ⟨Md F.plain_set_new _,Ma F.entry_set_new ?_⟩));rw[Mb F.plain_set_new _];unfold Builtin.«set.__new__» Builtin.Frozenset.newClass;have hsub:=sub_set_self;obtain⟨hp,g,d,tk,os⟩:=s;dsimp only
 wp_walk
 refine Lg (JT ?_);dsimp only;simp only[newObj];refine JP (wpAny_alloc (JT ?_));exact JT h
namespace F
theorem sub_list_set:isSubtype (.type "list") (.type "set")=pure false:=by rw[Me];kernel_rfl
theorem sub_list_frozenset:isSubtype (.type "list") (.type "frozenset")=pure false:=by rw[Me];kernel_rfl
end F
theorem k6{l:Addr}{items:Array Value}{J:Nat->Heap->Prop}{Q:Value->Shared->Prop}
  (hh:A.handled=none) (hl:s.heap.IsList l items) (hJ:yG prog w (A.units+20) s.heap.objs.size items.toList J)
  (h0:∀h',(∀b o,s.heap.get? b=some o->h'.get? b=some o)->h'.get? s.heap.objs.size=some {cls:=.type "set",dict:=none,data:=.set #[] 0 (.fresh 0 0 (kJ w))}->J 0 h')
  (h:∀(h':Heap)(tk:Nat),J items.size h'->(∀b o,b<s.heap.objs.size->s.heap.get? b=some o->h'.get? b=some o)->Q (.ref s.heap.objs.size) {s with heap:=h',toks:=tk}) :
  wpAny (model prog w) A (call (.type "set") [.ref l]) Q E s:=by
 obtain⟨c,tl,hmro⟩:=Mg.mro;have hmade:=Mg.made;have hsub:=Mg.sub;refine wpAny_call (Lf ?_);show wpAny _ _ (callAny (.type "set") _) _ _ _;refine JT ⟨Mh _ (by decide +kernel),Ma PySem.F.entry_type_call ?_⟩;rw[Around.under_plain (weight_type_call_type "set" [.ref l] []) rfl];have h1:=Mg.notType;have h2:=Mg.canCreate;have hct:=PySem.F.typeCall_set_1 (.ref l)
 repeat (any_goals (first|assumption|wp_step))
 refine J8 (la (.ref l) (E:=E) (Q1:=fun obj s1=>obj=.ref s.heap.objs.size/\s1={s with heap:=s.heap.push {cls:=.type "set",dict:=none,data:=.set #[] 0 (.fresh 0 0 (kJ w))}}) ⟨rfl,rfl⟩) fun r s1 hr=>?_;cases r with
 |error e=>exact hr
 |ok fl=>
  cases fl with
  |ret obj=>
   obtain⟨rfl,rfl⟩:=hr;generalize hled:kJ w=led;have hS:(s.heap.push {cls:=.type "set",dict:=none,data:=.set #[] 0 (.fresh 0 0 led)}).get? s.heap.objs.size=some {cls:=.type "set",dict:=none,data:=.set #[] 0 (.fresh 0 0 led)}:=JX _ rfl;have hTy:Shared.TypeIs {s with heap:=s.heap.push {cls:=.type "set",dict:=none,data:=.set #[] 0 (.fresh 0 0 led)}} (.ref s.heap.objs.size) "set" := ⟨_,hS,rfl⟩;have hli:=Mg.init.lookup;have hbi:=Mg.init.bind (.ref s.heap.objs.size)
   repeat (any_goals (first|assumption|wp_step))
   refine J8 (codeAny_call_builtin (R:=wants (fun r s2=>r=.none/\∃h' tk,s2={s with heap:=h',toks:=tk}/\J items.size h' /\
     (∀b o,b<s.heap.objs.size->s.heap.get? b=some o->h'.get? b=some o)) E) Mg.init.plain PySem.F.entry_set_init (check_set_init_1 hTy ?_)) fun r2 s2 hr2=>?_
   ·obtain ⟨ol, hol, hcl, nl, hdl⟩ := hl;obtain⟨ocls,odict,odata,oslots⟩:=ol;simp only at hcl hdl;subst hcl;subst hdl;have hol':(s.heap.push {cls:=.type "set",dict:=none,data:=.set #[] 0 (.fresh 0 0 led)}).get? l=some {cls:=.type "list",dict:=odict,data:=.seq items nl,slots:=oslots}:=JW _ hol;have hsls:=F.sub_list_set;have hslf:=F.sub_list_frozenset;have hne:(Value.type "list" == Value.type "dict")=false:=by decide
    have hl1:(s.heap.push {cls:=.type "set",dict:=none,data:=.set #[] 0 (.fresh 0 0 led)}).IsList l items:=⟨_,hol',rfl,nl,rfl⟩;unfold Builtin.«set.__init__» noKeywords Builtin.Frozenset.updateFrom;generalize hPI:pyIter=PI
    wp_walk
    subst hPI;refine Mi hl1 ?_;refine JP (Mj ?_);have hlS:l<s.heap.objs.size:=Jr hol;have hh3:A.in1.in1.in1.handled=none:=by simp[hh]
    have hneI:l≠(s.heap.push {cls:=.type "set",dict:=none,data:=.set #[] 0 (.fresh 0 0 led)}).objs.size:=by
     rw[Ld];exact Ju (Lc hlS)
    have hSf:s.heap.objs.size ∉ [(s.heap.push {cls:=.type "set",dict:=none,data:=.set #[] 0 (.fresh 0 0 led)}).objs.size,l]:=by
     rw[Ld];simp only[JC,Lk,Ml,Mm,not_or];exact⟨Ju (Lb _),JS hlS⟩
    have W:=(Mn (prog:=prog) (w:=w) hh3 (s.heap.push {cls:=.type "set",dict:=none,data:=.set #[] 0 (.fresh 0 0 led)}).objs.size l hneI items).toS;rw[show items.size=items.toList.length by rw[JM]]at W
    refine tG W s.heap.objs.size hSf (fun b hb=>?_) (fun i v hv=>by rw[Ly];exact hv) hJ (by simp only[Around.in1];omega) (items.toList.length-0) 0 _ (by omega) (Lj _)
     ⟨⟨_,JX _ rfl,rfl,rfl⟩,?hL⟩ ?hS0 ?hR
    case hL=>
     obtain⟨o,ho,rest⟩:=hl1;exact⟨o,JW _ ho,rest⟩
    case hS0=>
     refine h0 _ (fun b o e=>JW _ (JW _ e)) ?_;rw[hled];exact JW _ hS
    case hR=>
     intro s' hm hS';obtain⟨h',g',d',tk',os'⟩:=s';have eg:g'=s.gens:=hm.gens;have ed:d'=s.drawn:=hm.drawn;have eo:os'=s.os:=hm.os;subst eg;subst ed;subst eo;show wpAny _ _ _ _ _ _;refine JT ?_;show wpAny _ _ (ret Value.none) _ _ _;refine JT ⟨rfl,h',tk',rfl,by rw[JM]at hS';exact hS',fun b o hb e=>?_⟩;have hb1:b≠s.heap.objs.size:=Ju hb
     have hb2:b≠(s.heap.push {cls:=.type "set",dict:=none,data:=.set #[] 0 (.fresh 0 0 led)}).objs.size:=by
      rw[Ld];exact Ju (Lc hb)
     exact hm.heap b o (by simp only[JC,Lk,Ml,Mm,not_or];exact⟨hb1,hb2⟩) (JW _ (JW _ e))
    ·rw[Ld]at hb;rw[Lk.mp hb];exact Lb _
   ·cases r2 with
    |error e=>exact hr2
    |ok fl2=>
     cases fl2 with
     |ret r=>
      obtain⟨rfl,h',tk,rfl,hS',hk'⟩:=hr2
      repeat (any_goals (first|assumption|wp_step))
      exact h _ _ hS' hk'
     |_=>exact hr2.elim
  |_=>exact hr.elim
namespace F
theorem sub_tuple_set:isSubtype (.type "tuple") (.type "set")=pure false:=by rw[Me];kernel_rfl
theorem sub_tuple_frozenset:isSubtype (.type "tuple") (.type "frozenset")=pure false:=by rw[Me];kernel_rfl
end F
theorem j5{l:Addr}{items:Array Value}{J:Nat->Heap->Prop}{Q:Value->Shared->Prop}
  (hh:A.handled=none) (hl:s.heap.IsTuple l items) (hJ:yG prog w (A.units+20) s.heap.objs.size items.toList J)
  (h0:∀h',(∀b o,s.heap.get? b=some o->h'.get? b=some o)->h'.get? s.heap.objs.size=some {cls:=.type "set",dict:=none,data:=.set #[] 0 (.fresh 0 0 (kJ w))}->J 0 h')
  (h:∀(h':Heap)(tk:Nat),J items.size h'->(∀b o,b<s.heap.objs.size->s.heap.get? b=some o->h'.get? b=some o)->Q (.ref s.heap.objs.size) {s with heap:=h',toks:=tk}) :
  wpAny (model prog w) A (call (.type "set") [.ref l]) Q E s:=by
 obtain⟨c,tl,hmro⟩:=Mg.mro;have hmade:=Mg.made;have hsub:=Mg.sub;refine wpAny_call (Lf ?_);show wpAny _ _ (callAny (.type "set") _) _ _ _;refine JT ⟨Mh _ (by decide +kernel),Ma PySem.F.entry_type_call ?_⟩;rw[Around.under_plain (weight_type_call_type "set" [.ref l] []) rfl];have h1:=Mg.notType;have h2:=Mg.canCreate;have hct:=PySem.F.typeCall_set_1 (.ref l)
 repeat (any_goals (first|assumption|wp_step))
 refine J8 (la (.ref l) (E:=E) (Q1:=fun obj s1=>obj=.ref s.heap.objs.size/\s1={s with heap:=s.heap.push {cls:=.type "set",dict:=none,data:=.set #[] 0 (.fresh 0 0 (kJ w))}}) ⟨rfl,rfl⟩) fun r s1 hr=>?_;cases r with
 |error e=>exact hr
 |ok fl=>
  cases fl with
  |ret obj=>
   obtain⟨rfl,rfl⟩:=hr;generalize hled:kJ w=led;have hS:(s.heap.push {cls:=.type "set",dict:=none,data:=.set #[] 0 (.fresh 0 0 led)}).get? s.heap.objs.size=some {cls:=.type "set",dict:=none,data:=.set #[] 0 (.fresh 0 0 led)}:=JX _ rfl;have hTy:Shared.TypeIs {s with heap:=s.heap.push {cls:=.type "set",dict:=none,data:=.set #[] 0 (.fresh 0 0 led)}} (.ref s.heap.objs.size) "set" := ⟨_,hS,rfl⟩;have hli:=Mg.init.lookup;have hbi:=Mg.init.bind (.ref s.heap.objs.size)
   repeat (any_goals (first|assumption|wp_step))
   refine J8 (codeAny_call_builtin (R:=wants (fun r s2=>r=.none/\∃h' tk,s2={s with heap:=h',toks:=tk}/\J items.size h' /\
     (∀b o,b<s.heap.objs.size->s.heap.get? b=some o->h'.get? b=some o)) E) Mg.init.plain PySem.F.entry_set_init (check_set_init_1 hTy ?_)) fun r2 s2 hr2=>?_
   ·obtain ⟨ol, hol, hcl, nl, hdl⟩ := hl;obtain⟨ocls,odict,odata,oslots⟩:=ol;simp only at hcl hdl;subst hcl;subst hdl;have hol':(s.heap.push {cls:=.type "set",dict:=none,data:=.set #[] 0 (.fresh 0 0 led)}).get? l=some {cls:=.type "tuple",dict:=odict,data:=.seq items nl,slots:=oslots}:=JW _ hol;have hsls:=F.sub_tuple_set;have hslf:=F.sub_tuple_frozenset;have hne:(Value.type "tuple" == Value.type "dict")=false:=by decide
    have hl1:(s.heap.push {cls:=.type "set",dict:=none,data:=.set #[] 0 (.fresh 0 0 led)}).IsTuple l items:=⟨_,hol',rfl,nl,rfl⟩;unfold Builtin.«set.__init__» noKeywords Builtin.Frozenset.updateFrom;generalize hPI:pyIter=PI
    wp_walk
    subst hPI;refine Mo hl1 ?_;refine JP (Mj ?_);have hlS:l<s.heap.objs.size:=Jr hol;have hh3:A.in1.in1.in1.handled=none:=by simp[hh]
    have hneI:l≠(s.heap.push {cls:=.type "set",dict:=none,data:=.set #[] 0 (.fresh 0 0 led)}).objs.size:=by
     rw[Ld];exact Ju (Lc hlS)
    have hSf:s.heap.objs.size ∉ [(s.heap.push {cls:=.type "set",dict:=none,data:=.set #[] 0 (.fresh 0 0 led)}).objs.size,l]:=by
     rw[Ld];simp only[JC,Lk,Ml,Mm,not_or];exact⟨Ju (Lb _),JS hlS⟩
    have W:=(Walks.tuple (prog:=prog) (w:=w) hh3 (s.heap.push {cls:=.type "set",dict:=none,data:=.set #[] 0 (.fresh 0 0 led)}).objs.size l hneI items).toS;rw[show items.size=items.toList.length by rw[JM]]at W
    refine tG W s.heap.objs.size hSf (fun b hb=>?_) (fun i v hv=>by rw[Ly];exact hv) hJ (by simp only[Around.in1];omega) (items.toList.length-0) 0 _ (by omega) (Lj _)
     ⟨⟨_,JX _ rfl,rfl,rfl⟩,?hL⟩ ?hS0 ?hR
    case hL=>
     obtain⟨o,ho,rest⟩:=hl1;exact⟨o,JW _ ho,rest⟩
    case hS0=>
     refine h0 _ (fun b o e=>JW _ (JW _ e)) ?_;rw[hled];exact JW _ hS
    case hR=>
     intro s' hm hS';obtain⟨h',g',d',tk',os'⟩:=s';have eg:g'=s.gens:=hm.gens;have ed:d'=s.drawn:=hm.drawn;have eo:os'=s.os:=hm.os;subst eg;subst ed;subst eo;show wpAny _ _ _ _ _ _;refine JT ?_;show wpAny _ _ (ret Value.none) _ _ _;refine JT ⟨rfl,h',tk',rfl,by rw[JM]at hS';exact hS',fun b o hb e=>?_⟩;have hb1:b≠s.heap.objs.size:=Ju hb
     have hb2:b≠(s.heap.push {cls:=.type "set",dict:=none,data:=.set #[] 0 (.fresh 0 0 led)}).objs.size:=by
      rw[Ld];exact Ju (Lc hb)
     exact hm.heap b o (by simp only[JC,Lk,Ml,Mm,not_or];exact⟨hb1,hb2⟩) (JW _ (JW _ e))
    ·rw[Ld]at hb;rw[Lk.mp hb];exact Lb _
   ·cases r2 with
    |error e=>exact hr2
    |ok fl2=>
     cases fl2 with
     |ret r=>
      obtain⟨rfl,h',tk,rfl,hS',hk'⟩:=hr2
      repeat (any_goals (first|assumption|wp_step))
      exact h _ _ hS' hk'
     |_=>exact hr2.elim
  |_=>exact hr.elim
theorem ot{qs:List KP}{S:Addr}{u:Nat}(hk:∀p∈qs,p.1∈prs)(hS:∀p∈qs,p.2<S)(hu:u<cLine):yG prog w u S (qs.map fun p=>Value.ref p.2) (fun i h=>d5 w h S (eN (qs.take i))/\∀p∈qs,Tk prog w h p.1 p.2):=by
 have keepT:∀{h1 h2:Heap}{q:KP},q∈qs->(∀b o,b<S->h1.get? b=some o->h2.get? b=some o)->Tk prog w h1 q.1 q.2->Tk prog w h2 q.1 q.2:=fun {h1 h2 q} hq kk t=>by
  obtain⟨o,items,n,ho,r⟩:=t;exact⟨o,items,n,kk _ o (hS q hq) ho,r⟩
 refine⟨fun i h h' hk' ⟨j1,j2⟩=>⟨j1.keeps fun o e=>hk' S o (JY _) e,fun p hp=>keepT hp (fun b o hb e=>hk' b o (Jy hb) e) (j2 p hp)⟩,fun A i v s E Q hA hv ⟨j1,j2⟩ hQ=>?_⟩;rw[Kh]at hv;cases e:qs[i]? with
 |none=>rw[e]at hv;cases hv
 |some p=>
  rw[e]at hv;cases hv;have hpm:p∈qs:=Ki e;unfold setAdd;refine JQ ?_;refine JP (wpAny_pyHash_tuple (by omega) (j2 p hpm) ?_);rw[FI];refine DP (s:={s with toks:=s.toks+(p.1.length+1)}) j1 (hk p hpm) (j2 p hpm) (fun q hq=>j2 q (LO (ky hq))) (by omega) fun b h' hsb hS2=>?_;have etk:qs.take (i+1)=qs.take i++[p]:=by rw[Mp,e];rfl
  refine hQ b h' _ (Nat.le_add_right _ _) hsb ⟨by rw[etk,uq];exact hS2,fun q hq=>keepT hq (fun b o hb e=>(hsb.2 b (Ju hb)).trans e) (j2 q hq)⟩
theorem zi{qs:List KP}(hT:∀p∈qs,Tk prog w s.heap p.1 p.2):∀p∈qs,p.2<s.heap.objs.size:=fun p hp=>by
 obtain⟨o,_,_,ho,_⟩:=hT p hp;exact Jr ho
theorem uc{l:Addr}{items:Array Value}{qs:List KP}{Q:Value->Shared->Prop}
  (hh:A.handled=none) (hl:s.heap.IsList l items) (hi:items.toList=qs.map fun p=>Value.ref p.2) (hk:∀p∈qs,p.1∈prs) (hT:∀p∈qs,Tk prog w s.heap p.1 p.2) (hu:A.units+20<cLine)
  (h:∀(h':Heap)(tk:Nat),d5 w h' s.heap.objs.size (eN qs)->(∀b o,b<s.heap.objs.size->s.heap.get? b=some o->h'.get? b=some o)->Q (.ref s.heap.objs.size) {s with heap:=h',toks:=tk}) :
  wpAny (model prog w) A (call (.type "set") [.ref l]) Q E s:=by
 have hlen:items.size=qs.length:=by rw[<- JM,hi,Kk]
 refine k6 hh hl (hi ▸ ot hk (zi hT) hu) (fun h' k e=>⟨ma e,fun p hp=>?_⟩) fun h' tk ⟨j1,_⟩=>h h' tk ?_
 ·obtain⟨o,its,n,ho,rest⟩:=hT p hp;exact⟨o,its,n,k _ _ ho,rest⟩
 ·rw[hlen,Mq]at j1;exact j1
theorem rp{l:Addr}{items:Array Value}{qs:List KP}{Q:Value->Shared->Prop}
  (hh:A.handled=none) (hl:s.heap.IsTuple l items) (hi:items.toList=qs.map fun p=>Value.ref p.2) (hk:∀p∈qs,p.1∈prs) (hT:∀p∈qs,Tk prog w s.heap p.1 p.2) (hu:A.units+20<cLine)
  (h:∀(h':Heap)(tk:Nat),d5 w h' s.heap.objs.size (eN qs)->(∀b o,b<s.heap.objs.size->s.heap.get? b=some o->h'.get? b=some o)->Q (.ref s.heap.objs.size) {s with heap:=h',toks:=tk}) :
  wpAny (model prog w) A (call (.type "set") [.ref l]) Q E s:=by
 have hlen:items.size=qs.length:=by rw[<- JM,hi,Kk]
 refine j5 hh hl (hi ▸ ot hk (zi hT) hu) (fun h' k e=>⟨ma e,fun p hp=>?_⟩) fun h' tk ⟨j1,_⟩=>h h' tk ?_
 ·obtain⟨o,its,n,ho,rest⟩:=hT p hp;exact⟨o,its,n,k _ _ ho,rest⟩
 ·rw[hlen,Mq]at j1;exact j1
end
end RS
namespace RS
open PySem PySem.W PyProof.Rows
structure dS(n:Nat)(p:Array Nat):Prop where
 size:p.size=n
 perm:p.toList.Perm (List.range n)
def at'(key:Nat->Int)(p:Array Nat)(k:Nat):Int:=key (p.getD k 0)
def yr(key:Nat->Int)(p:Array Nat)(m:Nat):Prop:=∀i j,i<j->j<m->at' key p i<at' key p j
def A4(key:Nat->Int)(p:Array Nat)(m:Nat):Prop:=∀i j,i<j->j<m->at' key p j<at' key p i
section
variable{n:Nat}{key:Nat->Int}{cmp:Nat->Nat->(Bool->Shared->Prop)->Shared->Prop}{s:Shared}{p:Array Nat}
theorem dS.lt(g:dS n p){k:Nat}(hk:k<n):p.getD k 0<n:=by
 have hs:k<p.size:=by rw[g.size];exact hk
 have:p[k]∈p.toList:=by rw[L4];exact Array.getElem_mem hs
 have:=g.perm.mem_iff.mp this;rw[Jw]at this;simpa[Array.getD,hs] using this
theorem dS.inj(g:dS n p){k k':Nat}(hk:k<n)(hk':k'<n)(e:p.getD k 0=p.getD k' 0):k=k':=by
 have hs:k<p.toList.length:=by rw[JM,g.size];exact hk
 have hs':k'<p.toList.length:=by rw[JM,g.size];exact hk'
 have nd:p.toList.Nodup:=g.perm.nodup_iff.mpr LC;refine(JH (h₀:=hs) (h₁:=hs') nd).mp ?_;have h1:k<p.size:=by rw[g.size];exact hk
 have h2:k'<p.size:=by rw[g.size];exact hk'
 simpa[Array.getD,h1,h2] using e
variable(hkey:∀i j,i<n->j<n->key i=key j->i=j)(hc:∀i j,i<n->j<n->∀C:Bool->Shared->Prop,C (decide (key i<key j)) s->cmp i j C s)
include hkey in
theorem y3(g:dS n p){k k':Nat}(hk:k<n)(hk':k'<n)(h:k≠k'):at' key p k≠at' key p k':=fun e=>h (g.inj hk hk' (hkey _ _ (g.lt hk) (g.lt hk') e))
include hkey hc
theorem uW(g:dS n p):∀(f m:Nat)(Q:Nat->Shared->Prop),1<=m->m+f<=n->yr key p m->(∀m',m<=m'->m'<=m+f->yr key p m'->(m'=m+f\/at' key p m'<at' key p (m'-1))->Q m' s)->(kas_asc p f m).kasWp cmp Q s
 |0,m,Q,h1,h2,ha,hQ=>hQ m (JY _) (JY _) ha (.inl rfl)
 |f+1,m,Q,h1,h2,ha,hQ=>by
  show cmp (p.getD m 0) (p.getD (m-1) 0) _ s;refine hc _ _ (g.lt (by omega)) (g.lt (by omega)) _ ?_;by_cases hlt:key (p.getD m 0)<key (p.getD (m-1) 0)
  ·rw[K5 hlt];(show (if true=true then _ else _:KasT _).kasWp cmp _ s);rw[Jo rfl];exact hQ m (JY _) (by omega) ha (.inr hlt)
  ·rw [Jl hlt]; (show (if false = true then _ else _ : KasT _).kasWp cmp _ s); rw [Jp J4];have hne:=y3 hkey g (k:=m) (k':=m-1) (by omega) (by omega) (by omega);have hgt:at' key p (m-1)<at' key p m:=by unfold at' at *;omega
   refine uW g f (m+1) Q (by omega) (by omega) (fun i j hij hj=>?_) (fun m' a b c d=>hQ m' (by omega) (by omega) c (d.elim (fun e=>.inl (by omega)) .inr));by_cases ej:j=m
   ·subst ej;by_cases ei:i=j-1
    ·rw[ei];exact hgt
    ·have:=ha i (j-1) (by omega) (by omega);omega
   ·exact ha i j hij (by omega)
theorem wF(g:dS n p):∀(f m:Nat)(Q:Array Nat×Nat×Nat->Shared->Prop),1<=m->m+f<=n->A4 key p m->(∀m',m<=m'->m'<=m+f->A4 key p m'->Q (p,m',0) s)->(kas_desc f p m 0).kasWp cmp Q s
 |0,m,Q,h1,h2,ha,hQ=>hQ m (JY _) (JY _) ha
 |f+1,m,Q,h1,h2,ha,hQ=>by
  show cmp (p.getD m 0) (p.getD (m-1) 0) _ s;refine hc _ _ (g.lt (by omega)) (g.lt (by omega)) _ ?_;by_cases hlt:key (p.getD m 0)<key (p.getD (m-1) 0)
  ·rw [K5 hlt]; (show (if true = true then _ else _ : KasT _).kasWp cmp _ s); rw [Jo rfl, Jp (by omega)];refine wF g f (m+1) Q (by omega) (by omega) (fun i j hij hj=>?_) (fun m' a b c=>hQ m' (by omega) (by omega) c);by_cases ej:j=m
   ·subst ej;by_cases ei:i=j-1
    ·rw[ei];exact hlt
    ·have:=ha i (j-1) (by omega) (by omega);have:at' key p j<at' key p (j-1):=hlt;omega
   ·exact ha i j hij (by omega)
  ·rw [Jl hlt]; (show (if false = true then _ else _ : KasT _).kasWp cmp _ s); rw [Jp J4];show cmp (p.getD (m-1) 0) (p.getD m 0) _ s;refine hc _ _ (g.lt (by omega)) (g.lt (by omega)) _ ?_;have hne:=y3 hkey g (k:=m) (k':=m-1) (by omega) (by omega) (by omega);have hgt:key (p.getD (m-1) 0)<key (p.getD m 0):=by unfold at' at hne;omega
   rw[K5 hgt];(show (if true=true then _ else _:KasT _).kasWp cmp _ s);rw[Jo rfl];exact hQ m (JY _) (by omega) ha
omit hkey hc in
theorem nN{p p':Array Nat}{k k':Nat}(h:p[k]?=p'[k']?):at' key p k=at' key p' k':=by
 unfold at';rw[LM,LM,h]
omit hkey hc in
theorem p7{p':Array Nat}(g:dS n p)(h:p'.Perm p)(hs:p'.size=p.size):dS n p':=⟨hs.trans g.size,(Array.perm_iff_toList_perm.mp h).trans g.perm⟩
omit hkey hc in
theorem BG(g:dS n p){m:Nat}(hm:m<=n)(hd:A4 key p m):dS n (kas_rev p 0 m)/\yr key (kas_rev p 0 m) m:=by
 have hs:m<=p.size:=by rw[g.size];exact hm
 refine⟨p7 g (mirror_perm _ _ _ _) (mirror_size _ _ _ _),fun i j hij hj=>?_⟩;have ei:at' key (kas_rev p 0 m) i=at' key p (0+m-1-i):=nN (by unfold kas_rev;rw[getElem?_mirror_all hs,Jo ⟨Lj _,by omega⟩]);have ej:at' key (kas_rev p 0 m) j=at' key p (0+m-1-j):=nN (by unfold kas_rev;rw[getElem?_mirror_all hs,Jo ⟨Lj _,by omega⟩]);rw[ei,ej];exact hd _ _ (by omega) (by omega)
theorem zB(g:dS n p){m:Nat}(h1:1<=m)(hm:m<=n)(hd:A4 key p m)(Q:Nat×Array Nat->Shared->Prop)(hQ:∀m' p',dS n p'->1<=m'->m'<=n->yr key p' m'->Q (m',p') s):(kas_tail3 m n p).kasWp cmp Q s:=by
 obtain⟨g',ha⟩:=BG (key:=key) g hm hd;unfold kas_tail3;rw[Mr];exact uW hkey hc g' (n-m) m _ h1 (by omega) ha fun m' a b c d=>hQ m' _ g' (by omega) (by omega) c
theorem AA(g:dS n p)(h2:2<=n)(Q:Nat×Array Nat->Shared->Prop)(hQ:∀m' p',dS n p'->1<=m'->m'<=n->yr key p' m'->Q (m',p') s):(kas_count n p).kasWp cmp Q s:=by
 unfold kas_count;rw[Mr];refine uW hkey hc g (n-1) 1 _ (JY _) (by omega) (fun i j hij hj=>by omega) fun m a b c d=>?_;by_cases e:m=n
 ·rw[Jo (by simpa using e)];exact hQ m p g a (by omega) c
 ·rw [Jp (by simpa using e)];by_cases h1:m>1
  ·rw[Jo h1];show cmp (p.getD 0 0) (p.getD (m-1) 0) _ s;refine hc _ _ (g.lt (by omega)) (g.lt (by omega)) _ ?_;have:at' key p 0<at' key p (m-1):=c 0 (m-1) (by omega) (by omega);rw[K5 (show key (p.getD 0 0)<key (p.getD (m-1) 0) from this)];(show (if true=true then _ else _:KasT _).kasWp cmp _ s);rw[Jo rfl];exact hQ m p g a (by omega) c
  ·rw [Jp h1];have em:m=1:=by omega
   subst em;unfold kas_descPart;rw[Mr];have hlt:at' key p 1<at' key p 0:=d.elim (fun e'=>by omega) id;refine wF hkey hc g (n-(1+1)) (1+1) _ (by omega) (by omega) (fun i j hij hj=>?_) fun m' a' b' c'=>?_
   ·have ei : i = 0 := by omega
    have ej:j=1:=by omega
    rw[ei,ej];exact hlt
   ·show (if (0:Nat)>0 then _ else _:KasT (Nat×Array Nat)).kasWp cmp Q s;rw[Jp (by omega)];exact zB hkey hc g (by omega) (by omega) c' Q hQ
theorem nS(g:dS n p){k:Nat}(hk:k<n)(ha:yr key p k):∀(f l r:Nat)(Q:Nat->Shared->Prop),l<=r->r<=k->r-l<=f->(∀i,i<l->at' key p i<at' key p k)->(∀i,r<=i->i<k->at' key p k<at' key p i) ->
  (∀l',l'<=k->(∀i,i<l'->at' key p i<at' key p k)->(∀i,l'<=i->i<k->at' key p k<at' key p i)->Q l' s)->(kas_place p k f l r).kasWp cmp Q s
 |0,l,r,Q,h1,h2,h3,ha1,hb1,hQ=>by
  have e:l=r:=by omega
  subst e;exact hQ l h2 ha1 hb1
 |f+1,l,r,Q,h1,h2,h3,ha1,hb1,hQ=>by
  unfold kas_place;by_cases e:l ≥ r
  ·rw [Jo e];have e':l=r:=by omega
   subst e';exact hQ l h2 ha1 hb1
  ·rw [Jp e];show cmp (p.getD k 0) (p.getD ((l+r) / 2) 0) _ s;refine hc _ _ (g.lt hk) (g.lt (by omega)) _ ?_;by_cases hlt:key (p.getD k 0)<key (p.getD ((l+r) / 2) 0)
   ·rw [K5 hlt]; (show (if true = true then _ else _ : KasT _).kasWp cmp _ s); rw [Jo rfl];refine nS g hk ha f l ((l+r) / 2) Q (by omega) (by omega) (by omega) ha1 (fun i hi hik=>?_) hQ;by_cases ei:i=(l+r) / 2
    ·rw[ei];exact hlt
    ·have:=ha ((l+r) / 2) i (by omega) hik;have:at' key p k<at' key p ((l+r) / 2):=hlt;omega
   ·rw [Jl hlt]; (show (if false = true then _ else _ : KasT _).kasWp cmp _ s); rw [Jp J4];have hne:=y3 hkey g (k:=k) (k':=(l+r) / 2) hk (by omega) (by omega);have hgt:at' key p ((l+r) / 2)<at' key p k:=by unfold at' at *;omega
    refine nS g hk ha f ((l+r) / 2+1) r Q (by omega) h2 (by omega) (fun i hi=>?_) hb1 hQ;by_cases ei:i=(l+r) / 2
    ·rw[ei];exact hgt
    ·have:=ha i ((l+r) / 2) (by omega) (by omega);omega
theorem zy:∀(f:Nat)(p:Array Nat)(k:Nat)(Q:Array Nat->Shared->Prop),dS n p->k+f=n->yr key p k->(∀p',dS n p'->yr key p' n->Q p' s)->(kas_bin f p k).kasWp cmp Q s
 |0,p,k,Q,g,hk,ha,hQ=>by
  have e:k=n:=by omega
  rw[e]at ha;exact hQ p g ha
 |f+1,p,k,Q,g,hk,ha,hQ=>by
  unfold kas_bin;rw[Mr];refine nS hkey hc g (by omega) ha k 0 k _ (Lj _) (JY _) (by omega) (fun i hi=>by omega) (fun i h1 h2=>by omega) fun l hl ha1 hb1=>?_;have hs:k<p.size:=by rw[g.size];omega
  refine zy f _ (k+1) Q (p7 g (bubble_perm _ _ _) (bubble_size _ _ _)) (by omega) (fun i j hij hj=>?_) hQ
  have hb:∀x,at' key (bubble p k (k-l)) x=if x=l then at' key p k else if l<x/\x<=k then at' key p (x-1) else at' key p x:=fun x=>by
   have e:=getElem?_bubble hs (k-l) (by omega) x;have el:k-(k-l)=l:=by omega
   rw[el]at e;by_cases e1:x=l
   ·rw[Jo e1]at e⊢;exact nN e
   ·rw [Jp e1] at e ⊢;by_cases e2:l<x/\x<=k
    ·rw[Jo e2]at e⊢;exact nN e
    ·rw[Jp e2]at e⊢;exact nN e
  rw[hb i,hb j];by_cases i1:i=l
  ·rw[Jo i1,Jp (by omega),Jo ⟨by omega,by omega⟩];exact hb1 (j-1) (by omega) (by omega)
  ·rw [Jp i1];by_cases i2:l<i/\i<=k
   ·rw[Jo i2,Jp (by omega),Jo ⟨by omega,by omega⟩];exact ha (i-1) (j-1) (by omega) (by omega)
   ·rw [Jp i2];have hi:i<l:=by omega
    by_cases j1:j=l
    ·rw[Jo j1];exact ha1 i hi
    ·rw [Jp j1];by_cases j2:l<j/\j<=k
     ·rw [Jo j2];by_cases ej:i=j-1
      ·omega
      ·exact ha i (j-1) (by omega) (by omega)
     ·rw[Jp j2];exact ha i j hij (by omega)
theorem v3(h2:2<=n)(Q:Array Nat->Shared->Prop)(hQ:∀p',dS n p'->yr key p' n->Q p' s):(kas_sort n).kasWp cmp Q s:=by
 unfold kas_sort;rw[Mr];have g0:dS n (List.toArray (List.range n)):=⟨by simp,by simp⟩;refine AA hkey hc g0 h2 _ fun m p' g h1 hm ha=>?_;show (if m<n then _ else _:KasT (Array Nat)).kasWp cmp Q s;by_cases e:m<n
 ·rw [Jo e];have em:max m 1=m:=by omega
  rw[em];exact zy hkey hc (n-m) p' m Q g (by omega) ha hQ
 ·rw [Jp e];have em:m=n:=by omega
  rw[em]at ha;exact hQ p' g ha
end
def oJ(k:List Int):Int:=k.getD 0 0*6+k.getD 1 0
theorem eQ{k:List Int}(h:k∈prs):∃a b:Int,k=[a,b]/\0<=a/\a<b/\b<6:=by
 have key:∀k∈prs,0<=k.getD 0 0/\k.getD 0 0<k.getD 1 0/\k.getD 1 0<6/\k=[k.getD 0 0,k.getD 1 0]:=by decide +kernel
 obtain⟨h1,h2,h3,h4⟩:=key k h;exact⟨_,_,h4,h1,h2,h3⟩
theorem CL{k k':List Int}(h:k∈prs)(h':k'∈prs)(e:oJ k=oJ k'):k=k':=by
 obtain⟨a,b,rfl,h1,h2,h3⟩:=eQ h;obtain⟨c,d,rfl,h4,h5,h6⟩:=eQ h';have e':a*6+b=c*6+d:=e;have:a=c:=by omega
 have:b=d:=by omega
 subst_vars;rfl
section
variable{prog:Program}{w:World}{A:Around}{E:Value->Shared->Prop}{s:Shared}
theorem uH {h:Heap}{a b:Int}{r:Addr} (t:Tk prog w h [a,b] r):∃o n t1 t2,h.get? r=some o/\o.cls=.type "tuple" /\ o.data=.seq #[.int a t1,.int b t2] n:=by
 obtain⟨o,items,n,ho,hc,hd,hi⟩:=t;cases hi':items.toList with
 |nil=>rw[hi']at hi;cases hi
 |cons v1 r1=>
  rw[hi']at hi;cases hi with
  |cons h1 t1=>
   cases t1 with
   |cons h2 t2=>
    cases t2;obtain⟨x1,e1⟩:=Jk (k:=a) h1;obtain⟨x2,e2⟩:=Jk (k:=b) h2
    have e:items=#[.int a x1,.int b x2]:=by
     apply Ms.mp;rw[hi',e1,e2]
    exact⟨o,n,x1,x2,ho,hc,by rw[hd,e]⟩
theorem B0{x y:Addr}{k k':List Int}{Q:Bool->Shared->Prop}(hx:Tk prog w s.heap k x)(hy:Tk prog w s.heap k' y)(hk:k∈prs)(hk':k'∈prs)(h:Q (decide (oJ k<oJ k')) s) :
  wpAny (model prog w) A (keyLt' (tuples' true) (.ref x) (.ref y)) Q E s:=by
 obtain⟨a,b,rfl,h1,h2,h3⟩:=eQ hk;obtain⟨c,d,rfl,h4,h5,h6⟩:=eQ hk';obtain⟨o,n,t1,t2,ho,_,hd⟩:=uH hx;obtain⟨o',n',t1',t2',ho',_,hd'⟩:=uH hy;have h':Q (decide (a*6+b<c*6+d)) s:=h;refine kat_lt ho hd ho' hd' ?_;show KatLex prog w A true (decide (2<2)) Q [(.int a t1,.int c t1'),(.int b t2,.int d t2')] 0 s;refine kat_cons (Jn ?_);by_cases e1:a=c
 ·rw [show (a == c) = true by simpa using e1];refine kat_yes (kat_cons (Jn ?_));by_cases e2:b=d
  ·rw [show (b == d) = true by simpa using e2];refine kat_yes (kat_nil ?_);have:decide (a*6+b<c*6+d)=decide (2<2):=by rw[Mt];omega
   rw[<- this];exact h'
  ·rw [show (b == d) = false by simpa using e2];refine kat_no ?_;show wpAny _ A (oneLt' false _ _) Q _ s;refine kat_one _ _ (lt_int ?_);have:decide (a*6+b<c*6+d)=decide (b<d):=by rw[Mt];omega
   show Q _ s;rw[<- this];exact h'
 ·rw [show (a == c) = false by simpa using e1];refine kat_no ?_;show wpAny _ A (keyLt' oneType' _ _) Q _ s;refine kat_lt_int ?_;have:decide (a*6+b<c*6+d)=decide (a<c):=by rw[Mt];omega
  rw[<- this];exact h'
end
def gA(ps:List KP):Prop:=ps.Pairwise fun p q=>oJ p.1<oJ q.1
def aw(ps:List KP):List Value:=ps.map fun p=>Value.ref p.2
section
variable{prog:Program}{w:World}{A:Around}{E:Value->Shared->Prop}{s:Shared}
theorem vT{h:Heap}:∀{ps:List KP},(∀p∈ps,p.1∈prs)->(∀p∈ps,Tk prog w h p.1 p.2)->∃fs,KatTups h (aw ps) fs/\fs.length=ps.length/\∀v∈fs,∃i t,v=Value.int i t
 |[],_,_=>⟨[],KatTups.nil,rfl,fun v hv=>by simp at hv⟩
 |p::ps,hk,ht=>by
  obtain⟨fs,h1,h2,h3⟩:=vT (ps:=ps) (fun q hq=>hk q (JB _ hq)) (fun q hq=>ht q (JB _ hq));obtain⟨a,b,e,_⟩:=eQ (hk p JA);have t:=ht p JA;rw[e]at t;obtain⟨o,n,t1,t2,ho,hc,hd⟩:=uH t;refine⟨.int a t1::fs,KatTups.cons ho hc hd rfl h1,by rw[La,La,h2],fun v hv=>?_⟩;rcases JC.mp hv with q|q
  ·exact⟨a,t1,q⟩
  ·exact h3 v q
theorem EV{ps:List KP}(hk:∀p∈ps,p.1∈prs)(hn:(ps.map (·.1)).Nodup){p:Array Nat}(g:dS ps.length p)(ha:yr (fun i=>oJ (ps.getD i ([],0)).1) p ps.length) :
  ∃out:List KP,(p.toList.map fun i=>(aw ps).getD i Value.none)=aw out/\out.Perm ps/\gA out:=by
 refine⟨p.toList.map fun i=>ps.getD i ([],0),?_,?_,?_⟩
 ·unfold aw;rw[Lm];refine Ln fun i hi=>?_;have hi':i<ps.length:=Jw.mp (g.perm.mem_iff.mp hi);simp[Mu,hi']
 ·refine (g.perm.map _).trans ?_
  have:(List.range ps.length).map (fun i=>ps.getD i ([],0))=ps:=by
   apply Mv;intro i;rw[Kh];by_cases hi:i<ps.length
   ·rw[Mw hi];simp[hi]
   ·rw[Mx (by simpa using hi),Mx (by omega)];rfl
  rw[this]
 ·unfold gA;rw[My];refine Ls.mpr fun i j hi hj hij=>?_;have hi':i<p.size:=by simpa using hi
  have hj':j<p.size:=by simpa using hj
  have:=ha i j hij (by rw[<- g.size];exact hj');unfold at' at this;simpa[Array.getD,hi',hj'] using this
theorem vd {a:Addr}{ps:List KP}{n:Nat}{P:PySem.Fin->Shared->Prop} (ho:s.heap.get? a=some (seqObj "list" (aw ps).toArray n)) (hk:∀p∈ps,p.1∈prs) (hn:(ps.map (·.1)).Nodup) (hT:∀p∈ps,Tk prog w s.heap p.1 p.2)
  (h:∀out:List KP,out.Perm ps->gA out->P (.done (.ret .none)) {s with heap:=sortedHeap s.heap a (aw ps) (aw out).toArray}) :
  wpAny (model prog w) A (Builtin.«list.sort» ⟨[.ref a],[]⟩) P E s:=by
 have hlen:=jD hk hn;have hvl:(aw ps).length=ps.length:=by unfold aw;rw[Kk]
 rw[list_sort_plain];have hal:a<s.heap.objs.size:=Jr ho;refine JP (Mz ho rfl ?_);refine JP (MC ho rfl ?_ (by rw[J6,hvl];exact Jx hlen (by decide)) (Lj _));obtain⟨e1,ho1⟩:∃e1,(s.heap.update a (Obj.mapSeq fun _=>#[])).get? a=some (seqObj "list" #[] e1):=⟨_,MD ho (fun _=>#[])⟩;refine JP (MF ho1 rfl ?_);refine JP (wpAny_newTuple ?_);refine JP (MH ?_);refine JQ ?_
 have ho6:(((s.heap.update a (Obj.mapSeq fun _=>#[])).push (seqObj "tuple" (aw ps).toArray 0)).push (seqObj "list" #[] 0)).get? a=some (seqObj "list" #[] e1):=by
  rw[MJ _ _ _ (by rw[MK,ML];exact Ju (Lc hal)),MJ _ _ _ (by rw[ML];exact Ju hal)];exact ho1
 show wpAny (model prog w) A _ P E {s with heap:=((s.heap.update a (Obj.mapSeq fun _=>#[])).push (seqObj "tuple" (aw ps).toArray 0)).push (seqObj "list" #[] 0)};dsimp only
 have hna:∀p∈ps,p.2≠a:=fun p hp e=>by
  obtain⟨o,items,m,ho',hc',_⟩:=hT p hp;rw[e,ho]at ho';have:=Jq ho';subst this;exact absurd (show Value.type "list" = Value.type "tuple" from hc') (by decide)
 generalize hS:({s with heap:=((s.heap.update a (Obj.mapSeq fun _=>#[])).push (seqObj "tuple" (aw ps).toArray 0)).push (seqObj "list" #[] 0)}:Shared)=s1;have eh1:s1.heap=((s.heap.update a (Obj.mapSeq fun _=>#[])).push (seqObj "tuple" (aw ps).toArray 0)).push (seqObj "list" #[] 0):=by rw[<- hS]
 have hT1:∀p∈ps,Tk prog w s1.heap p.1 p.2:=fun p hp=>by
  obtain⟨o,items,m,ho',rest⟩:=hT p hp;refine⟨o,items,m,?_,rest⟩;rw[eh1];refine JW _ (JW _ ?_);rw[MM _ _ _ _ (hna p hp)];exact ho'
 rw[<- eh1]at ho6
 have hfin:∀out:List KP,out.Perm ps->gA out->P (.done (.ret .none)) {s1 with heap:=s1.heap.update a (Obj.mapSeq fun _=>(aw out).toArray)}:=fun out h1 h2=>by
  have q:=h out h1 h2;rw[<- hS];exact q
 have hszv:(aw ps).toArray.size=ps.length:=by rw[J6,hvl]
 by_cases h2:(aw ps).toArray.size<2
 ·rw [Jo h2, Jo h2];refine JP (JT ?_);rw[StateT.run_pure];refine JP (JT ?_);dsimp only;refine JP (MF ho6 rfl ?_)
  have eo:(arrOf (SortSt.mk' general' ((aw ps).toArray.zip (aw ps).toArray) #[] 7 none)).map (·.2)=(aw ps).toArray:=by
   show (((aw ps).toArray.zip (aw ps).toArray)).map (·.2)=_;apply Ms.mp;rw[LV,Array.toList_zip];exact List.map_snd_zip (JY _)
  rw[eo];refine JP (MC ho6 rfl ?_ (Lj _) (by show (aw ps).toArray.size<=_;rw[hszv];exact Jx hlen (by decide)));simp only[MN,K9,Kt];refine JT (hfin ps (MP _) ?_);rw[hszv]at h2
  match ps,h2 with
  |[],_=>exact List.Pairwise.nil
  |[_],_=>exact List.pairwise_singleton _ _
  |_::_::_,h=>rw[La,La]at h;omega
 ·rw [Jp h2, Jp h2];rw[hszv]at h2;obtain⟨fs,k1,k2,k3⟩:=vT hk hT1;refine JP (kat_kind (T:=Value.type "int") k1 (by omega) (fun v hv=>?_) (by rfl) ?_)
  ·obtain⟨i,t,e⟩:=k3 v hv;rw[e];exact .now
  ·have et : (Value.type "int" != Value.type "tuple") = true := by decide
   rw[et]
   refine JP (JK (kat_run (ks:=aw ps) (vs:=aw ps) (Q:=fun st' s'=>s'=s1/\failedOf st'=none/\∃out:List KP,out.Perm ps/\gA out/\(arrOf st').map (·.2)=(aw out).toArray)
    (G:=fun p s'=>s'=s1/\∃out:List KP,(p.toList.map fun i=>(aw ps).getD i Value.none)=aw out/\out.Perm ps/\gA out) rfl (by rw[hvl];omega) (by rw[hvl];omega) ?_ ?_) ?_ fun _ _ e=>e)
   ·rintro p st' s' hp har hf ⟨e, out, o1, o2, o3⟩
    exact⟨e,hf,out,o2,o3,by rw[kat_snds rfl har,o1]⟩
   ·rw [hvl];refine v3 (key:=fun i=>oJ (ps.getD i ([],0)).1) (fun i j hi hj e=>?_) (fun i j hi hj C hC=>?_) (by omega) _ (fun p g ha=>⟨rfl,EV hk hn g ha⟩)
    ·have hi' : ps.getD i ([], 0) = ps[i] := by simp [Mu, hi]
     have hj':ps.getD j ([],0)=ps[j]:=by simp[Mu,hj]
     simp only[hi',hj']at e;have e2:=CL (hk _ (MQ hi)) (hk _ (MQ hj)) e;have hil:i<(ps.map (·.1)).length:=by rw[Kk];exact hi
     have hjl:j<(ps.map (·.1)).length:=by rw[Kk];exact hj
     exact(JH (h₀:=hil) (h₁:=hjl) hn).mp (by simpa using e2)
    ·unfold kas_ask;have gi:(aw ps).getD i Value.none=.ref ps[i].2:=by unfold aw;simp[Mu,hi]
     have gj:(aw ps).getD j Value.none=.ref ps[j].2:=by unfold aw;simp[Mu,hj]
     have hi':ps.getD i ([],0)=ps[i]:=by simp[Mu,hi]
     have hj':ps.getD j ([],0)=ps[j]:=by simp[Mu,hj]
     rw[gi,gj];simp only[hi',hj']at hC;exact B0 (hT1 _ (MQ hi)) (hT1 _ (MQ hj)) (hk _ (MQ hi)) (hk _ (MQ hj)) hC
   ·rintro ⟨⟨⟩, st'⟩ s' ⟨rfl, hf, out, o1, o2, o3⟩
    dsimp only;refine JP (MF ho6 rfl ?_);rw[o3];refine JP (MC ho6 rfl ?_ (Lj _) (by show (aw out).toArray.size<=_;rw[J6];unfold aw;rw[Kk,o1.length_eq];exact Jx hlen (by decide)));rw[hf];simp only[MN,K9,Kt];exact JT (hfin out o1 o2)
end
end RS
namespace RS
open PySem PySem.W PyProof.Rows
namespace Fx
theorem slot_setiter_next:Slot "set_iterator" "__next__" "set_iterator.__next__" :=
 .of (owner:="set_iterator") (n:="__next__") (by rw[typeLookup_type,builtinLookup_eq_fast];kernel_rfl) (by decide +kernel) (by decide +kernel) (by decide +kernel)
  (by first|exact .inl (by decide +kernel)|exact .inr (by decide +kernel)) (by rw[Me];kernel_rfl)
theorem entry_setiter_next:entryFor table "set_iterator.__next__" = some Builtin.«set_iterator.__next__»:=entryFor_of_fast (by kernel_rfl)
theorem args_setiter_next (a:Value):argsOk "set_iterator.__next__" ⟨[a],[]⟩:=by unfold argsOk;kernel_rfl
theorem entry_set_iter:entryFor table "set.__iter__" = some Builtin.«frozenset.__iter__»:=
 entryFor_alias (id':="frozenset.__iter__") (by kernel_rfl) rfl (by decide +kernel) (by kernel_rfl)
end Fx
def dj (h:Heap) (I S:Addr) (i n ep slot:Nat):Prop:=h.get? I=some {cls:=.type "set_iterator",dict:=none,data:=.fields #[.int (slot:Int) 0,.int (i:Int) 0,.ref S,.int (n:Int) 0,.int (ep:Int) 0],slots:=#[]}
def dm (w:World) (S:Addr) (ep:Nat) (es:Array (Int×Value)):List (Int×Value):=if w.params.followText "set-order" then (pickOrder (w.params.setOrder S ep) es).toList else es.toList
def c5 (w:World) (Z:List (Nat×Int×Value)) (i:Nat):Nat:=if w.params.followText "set-order" then 0 else if i=0 then 0 else (Z.getD (i-1) (0,0,.none)).1+1
theorem pS{α:Type}(next:Nat->Nat):∀(fuel k:Nat)(left:List α)(out:Array α),left.length=fuel->(pickOrder.go next fuel k left out).toList.Perm (out.toList++left)
 |0,k,left,out,h=>by
  have:left=[]:=List.length_eq_zero_iff.mp h;subst this;show out.toList.Perm (out.toList++[]);rw[J7]
 |fuel+1,k,left,out,h=>by
  have hlt:next k%left.length<left.length:=Nat.mod_lt _ (by omega)
  show (match left[next k%left.length]? with|some x=>_|none=>_:Array α).toList.Perm _;rw[MR hlt];show (pickOrder.go next fuel (k+1) (left.eraseIdx (next k%left.length)) (out.push left[next k%left.length])).toList.Perm _;refine(pS next fuel (k+1) _ _ (by rw[List.length_eraseIdx_of_lt hlt];omega)).trans ?_;rw[Array.toList_push,KZ];refine List.Perm.append_left _ ?_;rw[LU,List.eraseIdx_eq_take_drop_succ]
  have q:(left.take (next k%left.length)++left[next k%left.length]::left.drop (next k%left.length+1))=left:=by
   rw[List.getElem_cons_drop];exact LG _ _
  have q2:=(List.perm_middle (a:=left[next k%left.length]) (l₁:=left.take (next k%left.length)) (l₂:=left.drop (next k%left.length+1))).symm;rw[q]at q2;exact q2
theorem jk{w:World}{S:Addr}{ep:Nat}{es:Array (Int×Value)}:(dm w S ep es).Perm es.toList:=by
 unfold dm;split
 ·have:=pS (w.params.setOrder S ep) es.size 0 es.toList #[] (by simp);simpa[pickOrder] using this
 ·exact MP _
theorem AI {t:SetTable}{es:Array (Int×Value)}{Z:List (Nat×Int×Value)} (T:pj t es Z) {w:World} (hb:w.params.followText "set-order" = false) {i:Nat} (hi:i<=Z.length):SetTable.below t.place (c5 w Z i)=i:=by
 have r:mz t.place.toList:=by rw[T.place];exact T.ris
 obtain⟨b1,b2,b3⟩:=kx r (c5 w Z i);have hsz:=T.size.1
 have gz:∀k,k<Z.length->t.place.getD k (c5 w Z i)=(Z.getD k (0,0,.none)).1:=fun k hk=>by
  have e:t.place[k]?=some (Z[k]).1:=by rw[<- Ly,T.place,Kh,MR hk];rfl
  rw[LM,e,Mu,MR hk];rfl
 have hris:∀a b,a<b->b<Z.length->(Z.getD a (0,0,.none)).1<(Z.getD b (0,0,.none)).1:=fun a b hab hbz=>by
  rw[<- gz a (by omega),<- gz b hbz];exact qN r _ a b hab (by omega)
 have hs:c5 w Z i=if i=0 then 0 else (Z.getD (i-1) (0,0,.none)).1+1:=by
  unfold c5;rw[hb,Jp J4]
 by_cases h0:i=0
 ·rw [Jo h0] at hs;rw[hs]at b2⊢;by_cases hz:SetTable.below t.place 0=0
  ·rw[hz,h0]
  ·have:=b2 0 (by omega);omega
 ·rw [Jp h0] at hs
  have hlo:¬ SetTable.below t.place (c5 w Z i)<=i-1:=fun hle=>by
   have:=b3 (i-1) hle (by omega);rw[gz _ (by omega)]at this;omega
  have hhi:¬ i<SetTable.below t.place (c5 w Z i):=fun hlt=>by
   have:=b2 i hlt;have hiz:i<Z.length:=by omega
   rw[gz i hiz]at this;have:=hris (i-1) i (by omega) hiz;omega
  omega
section
variable{prog:Program}{w:World}{A:Around}{E:Value->Shared->Prop}{s:Shared}
theorem sP{a:Addr}{ps:List (Int×Value)}{o es ep t Z}{i:Nat}{Q:Option (Value×Nat)->Shared->Prop}(S:bJ w s.heap a ps o es ep t Z)(hi:i<=Z.length)
  (h:Q (((dm w a ep es)[i]?).map fun e=>(e.2,c5 w Z (i+1))) s):wpAny (model prog w) A (setNext a (c5 w Z i) i ep) Q E s:=by
 unfold setNext;refine JP (L1 S.ho S.hd S.fits ?_);dsimp only;unfold setsByText;refine JP (JP (Lg (JT ?_)));cases hb:w.params.followText "set-order" with
 |true=>
  have e1:dm w a ep es=(pickOrder (w.params.setOrder a ep) es).toList:=by unfold dm;rw[hb,Jo rfl]
  have e2:∀j,c5 w Z j=0:=fun j=>by unfold c5;rw[hb,Jo rfl]
  rw[e1,e2]at h;show wpAny _ _ (if (w.params.followText "set-order")=true then _ else _) _ _ _;rw[hb,Jo rfl];rw[Jp (by simp)];refine JP ?_;unfold setWalk;refine JP (L1 S.ho S.hd S.fits ?_);dsimp only;unfold setsByText;refine JP (JP (Lg (JT ?_)));show wpAny _ _ (if (w.params.followText "set-order")=true then _ else _) _ _ _;rw[hb,Jo rfl];refine JP (Lg (JT (JT ?_)));rw[e2,<- Ly];exact h
 |false=>
  have e1:dm w a ep es=es.toList:=by unfold dm;rw[hb,Jp J4]
  have hled:t.led=true:=by rw[S.led,hb];rfl
  show wpAny _ _ (if (w.params.followText "set-order")=true then _ else _) _ _ _;rw[hb,Jp J4];have hdr:(!t.plain&&decide (es.size>1))=false:=by rw[S.plain];rfl
  show wpAny _ _ (if (!t.plain&&decide (es.size>1))=true then _ else _) _ _ _;rw[hdr,Jp J4];refine JP ?_;show wpAny _ _ (if (!t.led && !es.isEmpty)=true then _ else _) _ _ _;rw[hled];simp only[LZ,JV,K9,Kt];refine JT (JT ?_);rw[AI S.tab hb hi];rw[e1,Ly]at h;by_cases hlt:i<Z.length
  ·have ez : Z[i]? = some Z[i] := MR hlt;have ee:=S.tab.hashAt ez;have ep':t.place[i]?=some (Z[i]).1:=by rw[<- Ly,S.tab.place,Kh,ez];rfl
   rw[ee,ep'];rw[ee]at h
   have es':c5 w Z (i+1)=(Z[i]).1+1:=by
    unfold c5;rw[hb,Jp J4,Jp (by omega),Nat.add_sub_cancel,Mu,ez];rfl
   rw[es']at h;exact h
  ·have : es[i]? = none := by rw [LQ, S.tab.size.2]; omega
   rw[this];rw[this]at h;exact h
end
end RS
namespace RS
open PySem PySem.W PyProof.Rows
section
variable{prog:Program}{w:World}{A:Around}{E:Value->Shared->Prop}{s:Shared}
theorem dj.typeIs {I S:Addr}{i n ep slot:Nat} (h:dj s.heap I S i n ep slot):s.TypeIs (.ref I) "set_iterator" := ⟨_,h,rfl⟩
theorem fE {a:Addr}{ps:List (Int×Value)}{o es ep t Z} (S:bJ w s.heap a ps o es ep t Z):s.TypeIs (.ref a) "set" := ⟨o,S.ho,S.ex.1⟩
theorem zP{a:Addr}{ps:List (Int×Value)}{o es ep t Z}{Q:Value->Shared->Prop}(S:bJ w s.heap a ps o es ep t Z)
  (hQ:Q (.ref s.heap.objs.size) {s with heap:=s.heap.push {cls:=.type "set_iterator",data:=.fields #[.int ((0:Nat):Int) 0,.int ((0:Nat):Int) 0,.ref a,.int (Z.length:Int) 0,.int (ep:Int) 0]}}) :
  wpAny (model prog w) A (pyIter (.ref a)) Q E s:=by
 refine wpAny_pyIter_slot (fE S) PySem.F.slot_set_iter (KE PySem.F.slot_set_iter (fE S) Fx.entry_set_iter ?_ (PySem.F.args_set_iter_1 _));unfold Builtin.«frozenset.__iter__» Builtin.Frozenset.sizeOf;refine JP (m:=Builtin.Frozenset.slot0 "__iter__" _) (Li (a:=a) rfl ?_);refine JP (JP (MU S.ho S.hd S.fits (JT ?_)));unfold setDrawn;refine JP (JP (L1 S.ho S.hd S.fits ?_));dsimp only;unfold setsByText;refine JP (JP (Lg (JT (JT ?_))));have hdr:(!w.params.followText "set-order" && (!t.plain&&decide (es.size>1)))=false:=by rw[S.plain];simp
 show wpAny _ _ (if (!w.params.followText "set-order" && (!t.plain&&decide (es.size>1)))=true then _ else _) _ _ _;rw[hdr,Jp J4];refine JP (JT ?_);refine JP (MV S.ho S.hd S.fits ?_);refine JP (KL (JT ⟨_,rfl, "set_iterator",_,⟨_,JX _ rfl,rfl⟩,Fx.slot_setiter_next.lookup,?_⟩));rw[S.tab.size.2];exact hQ
theorem zQ{I a:Addr}{ps:List (Int×Value)}{o es ep t Z}{i:Nat}{v:Int×Value}{Q:Option Value->Shared->Prop}(S:bJ w s.heap a ps o es ep t Z)(hit:dj s.heap I a i Z.length ep (c5 w Z i))(hv:(dm w a ep es)[i]?=some v)
  (hQ:∀h',dj h' I a (i+1) Z.length ep (c5 w Z (i+1))->Heap.SameBut I s.heap h'->Q (some v.2) {s with heap:=h'}):wpAny (model prog w) A (pyNext (.ref I)) Q E s:=by
 have hT:=hit.typeIs;have hoi:=hit;unfold dj at hoi
 have hil:i<Z.length:=by
  have:=(JG.mp hv).1;rw[jk.length_eq,JM,S.tab.size.2]at this;exact this
 unfold pyNext;refine JP (wpAny_attempt (KC (name:=Str.ofString "__next__") hT Fx.slot_setiter_next (KE Fx.slot_setiter_next hT Fx.entry_setiter_next ?_ (Fx.args_setiter_next _))));unfold Builtin.«set_iterator.__next__»;refine JP (m:=slotArgs "__next__" 0 _) (Li (a:=(.ref I,[])) rfl ?_);dsimp only;unfold fieldsOf;refine JP (JP (JU hoi ?_));refine JT ?_;refine JP (MU S.ho S.hd S.fits ?_);rw[S.tab.size.2];simp only[MN,K9,Kt,Kr];refine JP (sP S (Jy hil) ?_);rw[hv];dsimp only[Option.map_some];refine JP (MW hoi (by simp) fun h1 e1 sb1=>?_);refine JP (MW (s:={s with heap:=h1}) e1 (by simp) fun h2 e2 sb2=>?_);refine JT ⟨v.2,rfl,JT (hQ h2 ?_ (sb1.trans sb2))⟩;unfold dj;rw[e2];simp[rawInt]
theorem By{I a:Addr}{ps:List (Int×Value)}{o es ep t Z}{Q:Option Value->Shared->Prop}(hh:A.handled=none)(S:bJ w s.heap a ps o es ep t Z)(hit:dj s.heap I a Z.length Z.length ep (c5 w Z Z.length))
  (hQ:∀h',Heap.ExtBut I s.heap h'->Q none {s with heap:=h'}):wpAny (model prog w) A (pyNext (.ref I)) Q E s:=by
 have hT:=hit.typeIs;have hoi:=hit;unfold dj at hoi
 have hv:(dm w a ep es)[Z.length]?=none:=by
  rw[List.getElem?_eq_none_iff,jk.length_eq,JM,S.tab.size.2];exact JY _
 unfold pyNext;refine JP (wpAny_attempt (KC (name:=Str.ofString "__next__") hT Fx.slot_setiter_next (KE Fx.slot_setiter_next hT Fx.entry_setiter_next ?_ (Fx.args_setiter_next _))));unfold Builtin.«set_iterator.__next__»;refine JP (m:=slotArgs "__next__" 0 _) (Li (a:=(.ref I,[])) rfl ?_);dsimp only;unfold fieldsOf;refine JP (JP (JU hoi ?_));refine JT ?_;refine JP (MU S.ho S.hd S.fits ?_);rw[S.tab.size.2];simp only[MN,K9,Kt,Kr];refine JP (sP S (JY _) ?_);rw[hv];dsimp only[Option.map_none];refine JP (MW hoi (by simp) fun h1 e1 sb1=>?_);refine JP ?_;simp only[newExc,newTuple];refine JP (KL ?_ (by size_fits));refine JP (m:=firstArgMember _ _) (Li (a:=Value.none) (by first|rfl|(simp only[firstArgMember];rfl)) ?_);refine KL ?_ (by size_fits);simp only[raiseNew];refine JP (wpAny_handled ?_);rw[show A.in1.handled=none from hh];refine JP (JT (wpAny_throw ?_));refine JP (MX (T:="StopIteration") (b:=true) ⟨_,JX _ rfl,rfl⟩ isSubtype_stop ?_);exact JT (hQ _ ((sb1.extBut.push _).push _))
end
end RS
namespace RS
open PySem PySem.W PyProof.Rows
namespace Fx
theorem entry_extend_loop:entryFor table "list.extend.loop" = some Builtin.«list.extend.loop»:=entryFor_of_fast (by kernel_rfl)
theorem plain_extend_loop:plainId "list.extend.loop" = true:=by decide +kernel
theorem split_set_len:splitId "set.__len__" = some ("set", "__len__"):=by decide +kernel
end Fx
section
variable{prog:Program}{w:World}{A:Around}{E:Value->Shared->Prop}{s:Shared}
theorem ui{a:Addr}{ps:List (Int×Value)}{o es ep t Z}{Q:Bool->Shared->Prop}(S:bJ w s.heap a ps o es ep t Z)(h:Q false s):wpAny (model prog w) A (Builtin.List.listLengthHint (.ref a)) Q E s:=by
 unfold Builtin.List.listLengthHint;refine JP (wpAny_specialOf (fE S) PySem.F.slot_set_len.lookup ?_);dsimp only;rw[Fx.split_set_len];dsimp only;refine JP (MX (fE S) sub_set_self ?_);simp only[LZ,K9,Kt];rw[Jo (by rfl)];refine JP (KH (fE S) ?_);exact JT h
theorem uj{R:Result->Shared->Prop}{I a L:Addr}{ps:List (Int×Value)}{o es ep t Z}(hh:A.handled=none)(hIa:I≠a)(hIL:I≠L)(hLa:L≠a)(hz:Z.length<=100) :
  ∀(k i n:Nat) (s:Shared),Z.length-i=k->i<=Z.length->bJ w s.heap a ps o es ep t Z->dj s.heap I a i Z.length ep (c5 w Z i)->s.heap.get? L=some (seqObj "list" (((dm w a ep es).take i).map (·.2)).toArray n) ->
   (∀h' m,(∀b u,b≠I->b≠L->s.heap.get? b=some u->h'.get? b=some u)->h'.get? L=some (seqObj "list" ((dm w a ep es).map (·.2)).toArray m)->R (.ok (.ret (.ref L))) {s with heap:=h'}) ->
   codeAny (model prog w) A (.builtin "list.extend.loop" ⟨[.ref L,.ref I,.ref L],[]⟩) R s:=by
 intro k
 induction k with
 |zero=>
  intro i n s ek hi S hit hL hR;have e:i=Z.length:=by omega
  subst e;refine Ma Fx.entry_extend_loop ?_;rw[Mb Fx.plain_extend_loop _];show wpAny _ A.in1 (pyNext (.ref I) >>= _) _ _ s;refine JP (By (by simpa using hh) S hit fun h' eb=>?_);show wpAny _ A.in1 (ret (.ref L)) _ _ _;refine JT (hR h' n (fun b u hb _ q=>eb b u hb q) ?_);rw[Lx (by rw[jk.length_eq,JM,S.tab.size.2];exact JY _)]at hL;exact eb L _ (JD hIL) hL
 |succ k ih=>
  intro i n s ek hi S hit hL hR;have hil:i<(dm w a ep es).length:=by rw[jk.length_eq,JM,S.tab.size.2];omega
  refine Ma Fx.entry_extend_loop ?_;rw[Mb Fx.plain_extend_loop _];show wpAny _ A.in1 (pyNext (.ref I) >>= _) _ _ s;refine JP (zQ S hit (MR hil) fun h' hit' sb=>?_);have hL':h'.get? L=some (seqObj "list" (((dm w a ep es).take i).map (·.2)).toArray n):=(sb.2 L (JD hIL)).trans hL
  have hsz:(((dm w a ep es).take i).map (·.2)).toArray.size<=100:=by
   rw[J6,Kk,Kd];omega
  show wpAny _ A.in1 (Builtin.List.listUpdate (.ref L) _ >>= _) _ _ _;refine JP (MC (s:={s with heap:=h'}) hL' rfl ?_ (Jx hsz (by decide)) (by rw[Array.size_push];exact Jx (Nat.succ_le_succ hsz) (by decide)));have hL2:=MD hL' (·.push ((dm w a ep es)[i]).2)
  have eL:(((dm w a ep es).take i).map (·.2)).toArray.push ((dm w a ep es)[i]).2=(((dm w a ep es).take (i+1)).map (·.2)).toArray:=by
   have q:(dm w a ep es).take (i+1)=(dm w a ep es).take i++[(dm w a ep es)[i]]:=by rw[Mp,MR hil];rfl
   rw[q,LJ,List.push_toArray];rfl
  rw[eL]at hL2;have hsb2:=L8 h' L (Obj.mapSeq (·.push ((dm w a ep es)[i]).2));refine JT ⟨Md Fx.plain_extend_loop _,ih (i+1) _ _ (by omega) (by omega) ?_ ?_ hL2 fun h'' m kk hm=>?_⟩
  ·refine⟨?_,S.ex,S.hd,S.tab,S.plain,S.led,S.big,S.perm⟩;exact(hsb2.2 a (JD hLa)).trans ((sb.2 a (JD hIa)).trans S.ho)
  ·exact(hsb2.2 I hIL).trans hit'
  ·refine hR h'' m (fun b u hb1 hb2 q=>kk b u hb1 hb2 ?_) hm;exact(hsb2.2 b hb2).trans ((sb.2 b hb1).trans q)
theorem iV{α β:Type}{f:α->β}{l m:List β}(h:l.Perm m):∀ps:List α,m=ps.map f->∃qs:List α,qs.Perm ps/\l=qs.map f:=by
 induction h with
 |nil=>
  intro ps e;have:ps=[]:=List.map_eq_nil_iff.mp e.symm;exact⟨[],by rw[this],rfl⟩
 |cons x _ ih=>
  intro ps e;cases ps with
  |nil=>cases e
  |cons p ps=>
   rw[KN]at e;obtain⟨qs,h1,h2⟩:=ih ps (Lq e).2;exact⟨p::qs,h1.cons p,by rw[KN,<- h2,(Lq e).1]⟩
 |swap x y l=>
  intro ps e
  match ps,e with
  |p::q::r,e=>
   rw[KN,KN]at e;obtain⟨e1,e2⟩:=Lq e;obtain⟨e2,e3⟩:=Lq e2;exact⟨q::p::r,List.Perm.swap _ _ _,by rw[KN,KN,e1,e2,e3]⟩
 |trans _ _ ih1 ih2=>
  intro ps e;obtain⟨qs,h1,h2⟩:=ih2 ps e;obtain⟨rs,h3,h4⟩:=ih1 qs h2;exact⟨rs,h3.trans h1,h4⟩
theorem mi{a:Addr}{ps:List (Int×Value)}{o es ep t Z}{Q:List Value->Shared->Prop}(hh:A.handled=none)(S:bJ w s.heap a ps o es ep t Z)(hz:Z.length<=100)
  (h:∀qs:List (Int×Value),qs.Perm ps->∀h',(∀b u,s.heap.get? b=some u->h'.get? b=some u)->s.heap.objs.size<=h'.objs.size->Q (qs.map (·.2)) {s with heap:=h'}):wpAny (model prog w) A (collect (.ref a)) Q E s:=by
 have hal:a<s.heap.objs.size:=Jr S.ho;unfold collect;refine JP (Mj (Ma entry_proto_collect' ?_));show wpAny _ _ (do again (.builtin "list.__iadd__" ⟨[<- newList [],.ref a],[]⟩)) _ _ s;refine JP (MH (JT ⟨Mh _ (by decide +kernel),Ma entry_list_iadd' ?_⟩));show wpAny _ _ (Builtin.List.listExtendWith (.ref s.heap.objs.size) (.ref a) (.ref s.heap.objs.size)) _ _ {s with heap:=s.heap.push (seqObj "list" #[] 0)};have S1:bJ w (s.heap.push (seqObj "list" #[] 0)) a ps o es ep t Z:=⟨JW _ S.ho,S.ex,S.hd,S.tab,S.plain,S.led,S.big,S.perm⟩;unfold Builtin.List.listExtendWith;refine JP (KH (fE (s:={s with heap:=s.heap.push (seqObj "list" #[] 0)}) S1) ?_)
 have hsame:Builtin.List.listSameRef (.ref s.heap.objs.size) (.ref a)=false:=by
  show (s.heap.objs.size == a)=false;simpa using JS hal
 rw[hsame,Jp (by decide)];refine JP (zP (s:={s with heap:=s.heap.push (seqObj "list" #[] 0)}) S1 ?_);dsimp only;generalize hH:(s.heap.push (seqObj "list" #[] 0)).push {cls:=.type "set_iterator",data:=.fields #[.int ((0:Nat):Int) 0,.int ((0:Nat):Int) 0,.ref a,.int (Z.length:Int) 0,.int (ep:Int) 0]}=H2;have eI:(s.heap.push (seqObj "list" #[] 0)).objs.size=s.heap.objs.size+1:=by rw[MK]
 have hk2:∀b u,s.heap.get? b=some u->H2.get? b=some u:=fun b u q=>by rw[<- hH];exact JW _ (JW _ q)
 have S2:bJ w H2 a ps o es ep t Z:=⟨hk2 a o S.ho,S.ex,S.hd,S.tab,S.plain,S.led,S.big,S.perm⟩;have hL2:H2.get? s.heap.objs.size=some (seqObj "list" #[] 0):=by rw[<- hH];exact JW _ (JX _ rfl)
 have hI2:H2.get? (s.heap.objs.size+1)=some {cls:=.type "set_iterator",data:=.fields #[.int ((0:Nat):Int) 0,.int ((0:Nat):Int) 0,.ref a,.int (Z.length:Int) 0,.int (ep:Int) 0]}:=by
  rw[<- hH,<- eI];exact JX _ rfl
 rw[eI];refine JP (JQ (ui (s:={s with heap:=H2}) S2 ?_));rw[Jo (by rfl)];refine JP (Lh ?_);refine JP ?_;unfold Builtin.List.listTouch;refine JP (MC (s:={s with heap:=H2}) hL2 rfl ?_ (Lj _) (by decide));have hL3:=MD hL2 (·.push Value.none);refine MC (s:={s with heap:=H2.update s.heap.objs.size (Obj.mapSeq (·.push Value.none))}) hL3 rfl ?_ (by decide) (by decide);have hL4:=MD hL3 (·.pop);have sb3:=L8 H2 s.heap.objs.size (Obj.mapSeq (·.push Value.none));have sb4:=(sb3.trans (L8 (H2.update s.heap.objs.size (Obj.mapSeq (·.push Value.none))) s.heap.objs.size (Obj.mapSeq (·.pop))));generalize hH4:(H2.update s.heap.objs.size (Obj.mapSeq (·.push Value.none))).update s.heap.objs.size (Obj.mapSeq (·.pop))=H4 at hL4 sb4;have neL:a≠s.heap.objs.size:=Ju hal;have neI:s.heap.objs.size+1≠s.heap.objs.size:=Nat.succ_ne_self _;refine JT ⟨Mh _ (by decide +kernel),?_⟩
 refine uj (by simpa using hh) (JS (Lc hal)) neI (JD neL) hz (Z.length-0) 0 _ {s with heap:=H4} (by omega) (Lj _)
  ⟨(sb4.2 a neL).trans S2.ho,S.ex,S.hd,S.tab,S.plain,S.led,S.big,S.perm⟩ ?_ (by rw[List.take_zero];exact hL4) fun h' m kk hm=>?_
 ·unfold dj;have e0:c5 w Z 0=0:=by unfold c5;split <;> simp
  rw[e0];exact(sb4.2 _ neI).trans hI2
 ·dsimp only;refine JP (JU hm ?_);refine JT ?_;have hp:(dm w a ep es).Perm ps:=jk.trans (by rw[S.tab.ents];exact S.perm)
  have fin:=h (dm w a ep es) hp h' fun b u q=>by
   have hb:b<s.heap.objs.size:=Jr q;exact kk b u (Ju (Lc hb)) (Ju hb) ((sb4.2 b (Ju hb)).trans (hk2 b u q))
  exact fin (Jy (Jr hm))
theorem uk{a:Addr}{ps:List KP}{Q:List Value->Shared->Prop}(hh:A.handled=none)(S:d5 w s.heap a ps)
  (h:∀qs:List KP,qs.Perm ps->∀h',(∀b u,s.heap.get? b=some u->h'.get? b=some u)->s.heap.objs.size<=h'.objs.size->Q (aw qs) {s with heap:=h'}):wpAny (model prog w) A (collect (.ref a)) Q E s:=by
 obtain⟨o,es,ep,t,Z,S,hk,hn⟩:=S;have h15:=jD hk hn;refine mi hh S (by rw[S.len,Kk];omega) fun qs hq h' k1 k2=>?_;obtain⟨rs,q1,q2⟩:=iV hq ps rfl;have q3:qs.map (·.2)=aw rs:=by rw[q2,Lm];rfl
 rw[q3];exact h rs q1 h' k1 k2
theorem xi{x:Value}{ps:List KP}{Q:Value->Shared->Prop}(hk:∀p∈ps,p.1∈prs)(hn:(ps.map (·.1)).Nodup)(hT:∀p∈ps,Tk prog w s.heap p.1 p.2)
  (hcol:∀Q':List Value->Shared->Prop,(∀qs:List KP,qs.Perm ps->∀h',(∀b u,s.heap.get? b=some u->h'.get? b=some u)->s.heap.objs.size<=h'.objs.size->Q' (aw qs) {s with heap:=h'})->wpAny (model prog w) A.in1 (collect x) Q' E s)
  (h:∀out:List KP,out.Perm ps->gA out->∀h' D,s.heap.objs.size<=D->(∀b u,s.heap.get? b=some u->h'.get? b=some u)->(∃n,h'.get? D=some (seqObj "list" (aw out).toArray n))->Q (.ref D) {s with heap:=h'}) :
  wpAny (model prog w) A (call (.builtin "sorted") [x]) Q E s:=by
 refine MY MZ Na Nd (Nf _) ?_;unfold Builtin.«sorted»;refine JP (m:=checkCount "sorted" 1 1 _) (JT ?_);refine JP (hcol _ fun qs hqs h1 k1 hsz=>?_);have hkq:∀p∈qs,p.1∈prs:=fun p hp=>hk p (hqs.mem_iff.mp hp);have hnq:(qs.map (·.1)).Nodup:=(hqs.map _).nodup_iff.mpr hn;have hlen:=jD hkq hnq;have hvl:(aw qs).length<=15:=by unfold aw;rw[Kk];exact hlen
 refine JP (MH ?_ (Jx hvl (by decide)));have hoL:(h1.push (seqObj "list" (aw qs).toArray 0)).get? h1.objs.size=some (seqObj "list" (aw qs).toArray 0):=JX _ rfl;have hnn:∀b u,h1.get? b=some u->b≠h1.objs.size:=fun b u q=>Ju (Jr q);refine JP (JQ (KE Ng (s:={s with heap:=h1.push (seqObj "list" (aw qs).toArray 0)}) ⟨_,hoL,rfl⟩ Nh ?body (Ni _)))
 case body=>
  refine vd (s:={s with heap:=h1.push (seqObj "list" (aw qs).toArray 0)}) hoL hkq hnq (fun p hp=>?_) fun out h2 h3=>?_
  ·obtain⟨o,its,n,ho,rest⟩:=hT p (hqs.mem_iff.mp hp);exact⟨o,its,n,JW _ (k1 _ _ ho),rest⟩
  ·refine ⟨_, rfl, JT ⟨_, rfl, h out (h2.trans hqs) h3 _ h1.objs.size hsz (fun b u q => ?_) ?_⟩⟩
   ·have hb:=hnn b u (k1 b u q);unfold sortedHeap;rw[MM _ _ _ _ hb];refine JW _ (JW _ ?_);rw[MM _ _ _ _ hb];exact JW _ (k1 b u q)
   ·unfold sortedHeap;have g1:=MD hoL (fun _=>#[]);have g2:=JW (seqObj "list" #[] 0) (JW (seqObj "tuple" (aw qs).toArray 0) g1);exact⟨_,MD g2 (fun _=>(aw out).toArray)⟩
theorem vb{a:Addr}{ps:List KP}{Q:Value->Shared->Prop}(hh:A.handled=none)(S:d5 w s.heap a ps)(hT:∀p∈ps,Tk prog w s.heap p.1 p.2)
  (h:∀out:List KP,out.Perm ps->gA out->∀h' D,s.heap.objs.size<=D->(∀b u,s.heap.get? b=some u->h'.get? b=some u)->(∃n,h'.get? D=some (seqObj "list" (aw out).toArray n))->Q (.ref D) {s with heap:=h'}) :
  wpAny (model prog w) A (call (.builtin "sorted") [.ref a]) Q E s:=by
 obtain⟨o,es,ep,t,Z,S0,hk,hn⟩:=id S;exact xi hk hn hT (fun Q' hq=>uk (by simpa using hh) S hq) h
end
end RS
namespace RS
open PySem PySem.W PyProof.Rows
theorem pj.free{t:SetTable}{es:Array (Int×Value)}{Z:List (Nat×Int×Value)}(T:pj t es Z){h:Int}(cov:∀j,j<=t.mask->j∈cx t.mask h)(hz:Z.length<=t.mask)(hA:Nat->Int)(hne:∀i,hA i≠h) :
  ∃j pre post,t.probe hA h (t.probeStart h)=some (.empty j none)/\j<=t.mask/\j∉Z.map (·.1)/\cx t.mask h=pre++j::post/\∀k∈pre,k∈Z.map (·.1):=by
 obtain⟨j0,hj0,hn0⟩:=p8 (m:=t.mask) (l:=Z.map (·.1)) (by rw[Kk];exact hz);obtain⟨pre,j,post,e,hs,hp⟩:=iT (fun j=>j∉Z.map (·.1)) (cx t.mask h) ⟨j0,cov j0 hj0,hn0⟩
 have el:(wK t.mask (SetTable.turns t.mask) (SetTable.bits h%(t.mask+1)) (SetTable.bits h)).length=pre.length+1+post.length:=by
  show (cx t.mask h).length=_;rw[e,Kj,La];omega
 have hw:gx t (pre.length+1+post.length) (t.probeStart h)=pre++j::post:=by
  have q:=nO t (SetTable.turns t.mask) (SetTable.bits h%(t.mask+1)) (SetTable.bits h) none;rw[el]at q;exact q.trans e
 have hlen:pre.length<10*SetTable.turns t.mask:=by
  have q:=qI t.mask (SetTable.turns t.mask) (SetTable.bits h%(t.mask+1)) (SetTable.bits h);omega
 have occ:∀k∈pre,k∈Z.map (·.1):=fun k hk=>LB fun q=>hp k hk q
 have hpre:∀k∈pre,∃i,t.slot k=.live i/\hA i≠h:=fun k hk=>by
  obtain⟨z,hzm,ez⟩:=Lz.mp (occ k hk);obtain⟨i,hi⟩:=LD hzm;exact⟨i,ez ▸ T.slot_live hi,hne i⟩
 obtain⟨g1,g2⟩:=qT t hA h pre j post (10*SetTable.turns t.mask) (t.probeStart h) hw hlen rfl hpre;exact⟨j,pre,post,g1 (T.slot_empty hs),iz (h:=h) (by rw[e];simp),hs,e,occ⟩
abbrev KI:=Int×Tok
def ip(p:KI):Int×Value:=(hashInt p.1,Value.int p.1 p.2)
def ins:List Int:=[0,1,2,3,4,5]
theorem Cz{i:Int}:i∈ins↔0<=i/\i<6:=by
 unfold ins;simp only[JC,Ml,Mm];omega
def DF(mask:Nat):Bool:=ins.all fun k=>(List.range (mask+1)).all fun j=>(cx mask (hashInt k)).contains j
theorem Hq:DF 7=true:=by decide +kernel
theorem zw:DF 31=true:=by decide +kernel
theorem qX{mask:Nat}(h:DF mask=true){k:Int}(hk:k∈ins):∀j,j<=mask->j∈cx mask (hashInt k):=fun j hj=>by
 have a:=LY.mp h k hk;have b:=LY.mp a j (Jw.mpr (by omega));simpa using b
theorem jM{a b:Int}(ha:a∈ins)(hb:b∈ins)(e:hashInt a=hashInt b):a=b:=by
 have key:∀x∈ins,∀y∈ins,hashInt x=hashInt y->x=y:=by decide +kernel
 exact key a ha b hb e
def bE(w:World)(h:Heap)(a:Addr)(ps:List KI):Prop:=∃o es ep t Z,bJ w h a (ps.map ip) o es ep t Z/\(∀p∈ps,p.1∈ins)/\(ps.map (·.1)).Nodup
theorem iu{ps:List KI}(hk:∀p∈ps,p.1∈ins)(hn:(ps.map (·.1)).Nodup):ps.length<=6:=by
 have:=gB hn (l2:=ins) (fun x hx=>by obtain⟨p,hp,e⟩:=Lz.mp hx;rw[<- e];exact hk p hp);rw[Kk]at this;exact this
theorem bE.keeps{w:World}{h h':Heap}{a:Addr}{ps:List KI}(S:bE w h a ps)(k:∀o,h.get? a=some o->h'.get? a=some o):bE w h' a ps:=by
 obtain⟨o,es,ep,t,Z,S,hk,hn⟩:=S;exact⟨o,es,ep,t,Z,⟨k o S.ho,S.ex,S.hd,S.tab,S.plain,S.led,S.big,S.perm⟩,hk,hn⟩
theorem Iv{w:World}{h:Heap}{a:Addr}{ps:List (Int×Value)}{o es ep t Z}(S:bJ w h a ps o es ep t Z){k:Int}(hk:k∈ins):∀j,j<=t.mask->j∈cx t.mask (hashInt k):=by
 rcases S.big with⟨h1,h2⟩|⟨h1,h2⟩ <;> rw[h1]
 ·exact qX Hq hk
 ·exact qX zw hk
def r9(ps:List KI)(k:Int)(t:Tok):List KI:=if k∈ps.map (·.1) then ps else ps++[(k,t)]
section
variable{prog:Program}{w:World}{A:Around}{E:Value->Shared->Prop}{s:Shared}
theorem pO{a:Addr}{k:Int}{tk:Tok}{ps0:List (Int×Value)}{o es ep t Z}(S:bJ w s.heap a ps0 o es ep t Z){Q:ScanMet->Shared->Prop} :
  ∀(l:List (Int×Value))(n:Nat),(∀e∈l,∃p:KI,e=ip p/\p.1∈ins)->k∈ins->((∃e∈l,e.1=hashInt k)->∀i,Q (.found i) s)->((∀e∈l,e.1≠hashInt k)->Q .absent s)->wpAny (model prog w) A (setScanFrom a (.int k tk) (hashInt k) true l n) Q E s
 |[],n,_,_,h1,h2=>by
  unfold setScanFrom;exact JT (h2 fun e he=>by simp at he)
 |e::l,n,hl,hk,h1,h2=>by
  obtain⟨p,rfl,hp⟩:=hl e JA;show wpAny _ _ (setScanFrom a _ _ true ((hashInt p.1,Value.int p.1 p.2)::l) n) _ _ _;unfold setScanFrom;by_cases he:hashInt p.1=hashInt k
  ·rw[Jo (by simpa using he)];have ek:=jM hp hk he;refine JP (m:=setEpoch a) (MV S.ho S.hd S.fits ?_);refine JP (Jn ?_);rw[ek];simp only[K8,L3,Ku];exact JT (h1 ⟨_,JA,he⟩ _)
  ·rw [Jp (by simpa using he)];refine pO S l (n+1) (fun x hx=>hl x (JB _ hx)) hk (fun⟨x,hx,ex⟩=>h1 ⟨x,JB _ hx,ex⟩) fun hx=>h2 fun x hxm=>?_;rcases JC.mp hxm with z|z
   ·rw[z];exact he
   ·exact hx x z
theorem CU{a:Addr}{k:Int}{tk:Tok}{ps:List KI}{Q:Bool->Shared->Prop}(S:bE w s.heap a ps)(hk:k∈ins)
  (h:∀b h',Heap.SameBut a s.heap h'->bE w h' a (r9 ps k tk)->Q b {s with heap:=h'}):wpAny (model prog w) A (setAddHashed a (.int k tk) (hashInt k)) Q E s:=by
 obtain⟨o,es,ep,t,Z,S,hk0,hn0⟩:=S
 have hent:∀e∈es.toList,∃p∈ps,e=ip p:=fun e he=>by
  rw[S.tab.ents]at he;obtain⟨p,hp,q⟩:=Lz.mp (S.perm.mem_iff.mp he);exact⟨p,hp,q.symm⟩
 have hto:∀p∈ps,ip p∈es.toList:=fun p hp=>by
  rw[S.tab.ents];exact S.perm.mem_iff.mpr (LF hp)
 have hlen6:=iu hk0 hn0;have hZl:Z.length=ps.length:=by rw[S.len,Kk]
 have hesz0:es.size=ps.length:=by rw[S.tab.size.2,hZl]
 have hz:Z.length<=t.mask:=by rcases S.big with⟨q,q2⟩|⟨q,q2⟩ <;> omega
 unfold setAddHashed setAddHashedIn;refine JQ (JP (L1 S.ho S.hd S.fits ?_));dsimp only
 have hsc:byScan (Value.int k tk) es=true:=by
  unfold byScan;have h1:decide (es.size<scanBound)=true:=K5 (by rw[hesz0];unfold scanBound;omega)
  have h2:es.all (fun x=>x.2.scannable)=true:=by
   rw[<- Array.all_toList,LY];intro e he;obtain⟨p,_,rfl⟩:=hent e he;rfl
  rw[h1,h2];rfl
 rw[hsc];simp only[Ku];refine JP ?_;unfold setAddByScan;refine JP (Lh ?_);refine JP ?_;show wpAny _ _ (setScanFrom a (.int k tk) (hashInt k) true es.toList 0) _ _ _;refine pO S es.toList 0 (fun e he=>by obtain⟨p,hp,e'⟩:=hent e he;exact⟨p,e',hk0 p hp⟩) hk (fun hex i=>?_) fun hno=>?_
 ·obtain ⟨e, he, q⟩ := hex;obtain⟨p,hp,rfl⟩:=hent e he;have ek:p.1=k:=jM (hk0 p hp) hk q;refine JT (JT ?_)
  have q:=h false s.heap (Heap.SameBut.refl a s.heap) (by
   unfold r9;rw[Jo (by rw[<- ek];exact LF hp)];exact⟨o,es,ep,t,Z,S,hk0,hn0⟩)
  cases s;exact q
 ·have hin:k∉ps.map (·.1):=fun hx=>by
   obtain⟨p,hp,e⟩:=Lz.mp hx;exact hno _ (hto p hp) (by rw[<- e];rfl)
  dsimp only;obtain⟨j,pre,post,epr,hj,hn,e,hp⟩:=S.tab.free (Iv S hk) hz (fun _=>hashInt k+1) (fun _=>by omega);obtain⟨Z',T',hperm,et⟩:=S.tab.put (x:=Value.int k tk) hj hn e hp
  have hfree:t.freeSlot (hashInt k)=some (j,false):=by
   unfold SetTable.freeSlot;rw[epr];rfl
  have hpl:(t.put j).1.plain=true:=by rw[et];exact S.plain
  have hled:(t.put j).1.led=t.led:=by rw[et]
  have hmask:(t.put j).1.mask=t.mask:=by rw[et]
  have hperm':(Z'.map (·.2)).Perm ((ps++[(k,tk)]).map ip):=by
   refine(hperm.map (·.2)).trans ?_;rw[KN,LJ];refine List.Perm.trans (List.Perm.cons _ S.perm) ?_;exact(List.perm_append_singleton _ _).symm
  have hkeys:∀p∈ps++[(k,tk)],p.1∈ins:=fun p hp'=>by
   rcases JE.mp hp' with q|q
   ·exact hk0 p q
   ·rw[Lk]at q;rw[q];exact hk
  have hnd:((ps++[(k,tk)]).map (·.1)).Nodup:=by
   rw[LJ];refine L5.mpr ⟨hn0,by simp,fun x hx y hy=>?_⟩;simp at hy;rw[hy];rintro rfl;exact hin hx
  have hlen:=iu hkeys hnd;have hZ':Z'.length=ps.length+1:=by rw[hperm.length_eq,La,hZl]
  have hesz:(SetTable.insertAt es (t.put j).2 (hashInt k,Value.int k tk)).size=Z'.length:=T'.size.2;have hadd:r9 ps k tk=ps++[(k,tk)]:=by unfold r9;rw[Jp hin]
  rw[hadd]at h;rw[Kj,K2]at hlen
  have hfit:(t.put j).1.fits (SetTable.insertAt es (t.put j).2 (hashInt k,Value.int k tk)).size=true:=by
   unfold SetTable.fits;rw[T'.fill,T'.size.1,hesz,hmask];rcases S.big with⟨q,q2⟩|⟨q,q2⟩ <;> simp[q] <;> omega
  have hlay:layNew t es (hashInt k) (.int k tk)=(SetTable.insertAt es (t.put j).2 (hashInt k,Value.int k tk),(t.put j).1,false,false):=by
   unfold layNew;rw[hfree];dsimp only;unfold SetTable.orStandIn;rw[hfit];rfl
  rw[hlay];dsimp only;generalize ht1:(t.put j).1=t1 at *;generalize hes1:SetTable.insertAt es (t.put j).2 (hashInt k,Value.int k tk)=es1 at *;have hline:es1.size<=sizeLine:=by rw[hesz,hZ'];exact Jx hlen (by decide)
  refine JP (JT ?_);refine JP (JT ?_);rw[hpl];simp only[Ku];refine JP (m:=hashByValue 8 (.int k tk)) (JT ?_);simp only[Ku];refine JP (L6 S.ho S.hd ?_ hline)
  have hg:(s.heap.update a (Obj.putSet es1 t1)).get? a=some {o with data:=.set es1 (ep+1) t1}:=by
   have:=KS (Obj.putSet es1 t1) S.ho (by rw[L7 es1 t1 S.hd];rfl);rw[L7 es1 t1 S.hd]at this;exact this
  have hsb1:=L8 s.heap a (Obj.putSet es1 t1);have hfill:t1.fill=ps.length+1:=by rw[T'.fill,hZ']
  by_cases hfull:t1.tooFull=true
  ·simp only [hfull, L9, L3, Ku]
   have hm7:t.mask=7/\ps.length=4:=by
    unfold SetTable.tooFull at hfull;rw[hfill,hmask]at hfull;have hf:(ps.length+1)*5 ≥ t.mask*3:=by simpa using hfull
    rcases S.big with⟨q,q2⟩|⟨q,q2⟩
    ·rw[q]at hf;exact⟨q,by omega⟩
    ·rw[q]at hf;omega
   have hsz1:es1.size=5:=by rw[hesz,hZ',hm7.2]
   have hgr:SetTable.grown es1.size=20:=by rw[hsz1];rfl
   rw[hgr]
   obtain⟨t2,order,Z2,er,T2,hp2,hm2,hl2,hpl2,hord⟩:=og (t:=t1) (es:=es1) (wanted:=20) (mask:=31) (by rfl) (by rw[hsz1];decide) (fun e' he'=>by
    rw[T'.ents]at he';obtain⟨p,hp',q⟩:=Lz.mp (hperm'.mem_iff.mp he');rw[<- q]
    exact qX zw (hkeys p hp'))
   have hZ2:Z2.length=5:=by
    have:=hp2.length_eq;simp at this;omega
   have hes2:(order.filterMap (es1[·]?)).size=5:=by rw[T2.size.2,hZ2]
   have hrel:relayAll t1 es1 20=(order.filterMap (es1[·]?),t2,false):=by
    unfold relayAll;rw[er];dsimp only
    have c1:coversAll order es1.size=true:=by
     unfold coversAll;exact List.isPerm_iff.mpr hord
    have c2:t2.fits (order.filterMap (es1[·]?)).size=true:=by
     unfold SetTable.fits;rw[T2.fill,T2.size.1,hes2,hm2,hZ2];rfl
    rw[c1,c2];rfl
   rw[hrel];dsimp only;refine JP (JP (JT (JT ?_)));refine JP (L6 hg rfl ?_ (by rw[hes2];decide))
   have hg2:((s.heap.update a (Obj.putSet es1 t1)).update a (Obj.putSet (order.filterMap (es1[·]?)) t2)).get? a=some {o with data:=.set (order.filterMap (es1[·]?)) (ep+1+1) t2}:=by
    have:=KS (Obj.putSet (order.filterMap (es1[·]?)) t2) hg (by rw[L7 _ t2 rfl];rfl);rw[L7 _ t2 rfl]at this;exact this
   refine JT (JT ?_);refine h true _ (hsb1.trans (L8 _ a _)) ⟨_,_,_,t2,Z2,⟨hg2,S.ex,rfl,T2,by rw[hpl2];exact hpl,by rw[hl2,hled];exact S.led,.inr ⟨hm2,by omega⟩,?_⟩,hkeys,hnd⟩;refine hp2.trans ?_;rw[T'.ents];exact hperm'
  ·have hf : t1.tooFull = false := by simpa using hfull
   simp only[hf,Bool.and_false,K9,Kt];refine JT (JT ?_);refine h true _ hsb1 ⟨_,_,_,t1,Z',⟨hg,S.ex,rfl,T',hpl,by rw[hled];exact S.led,?_,hperm'⟩,hkeys,hnd⟩;unfold SetTable.tooFull at hf;rw[hfill,hmask]at hf;have hf':¬ ((ps.length+1)*5 ≥ t.mask*3):=by simpa using hf
   rw[hmask,hZ'];rcases S.big with⟨q,q2⟩|⟨q,q2⟩
   ·rw[q]at hf'⊢;exact .inl ⟨rfl,by omega⟩
   ·rw[q]at hf'⊢;exact .inr ⟨rfl,by omega⟩
end
end RS
namespace L2
open PySem PySem.Spec PyProof.Rows
section
variable{P:Program}{w:World}{K:W.Frag}{mg:Str->Option Value}{base:Heap}{N:List Str}{qual:Str}{scope:Scope}{f:Addr}{cdv:Value}{A:Around}{outer:List Env}{s0:Shared}{H0:Hp}{E:XK}
end
end L2
namespace L2
open PySem PySem.Spec PyProof.Rows
structure IR(X:Cx):Prop where
 ex:X.ex=[]
 stk:X.stack=X.env::X.outer
 fr:X.env.frame=some X.env.locals
section
variable{X:Cx}{pins pins':List (Addr×Obj)}{σ:St}{H:Hp}{s:Shared}{E:XK}
end
section
variable{X:Cx}{pins:List (Addr×Obj)}{σ:St}{H:Hp}{s:Shared}{h' B:Heap}{ea C:Addr}{a0:Value}
def IE(ea C:Addr):HO:=.ext fun h=>∃oe,h.get? ea=some oe/\oe.cls=.ref C
end
structure Ht(k:Nat)(A:Around):Prop where
 dp:A.depth+3*k+5<recursionLimit
 un:A.units+16*k+200<cLine
 gd:A.guards=some []
structure Hu(P:Program)(w:World)(K:W.Frag)(mg:Str->Option Value)(base:Heap)(CX:wM)(k:Nat)(f:Addr)(fd:FuncData)(ps:List Str)(sp:Sp):Prop where
 len:∀vs H Q E,sp vs H Q E->vs.length=ps.length
 run:∀(A:Around)(outer:List Env)(s:Shared)(H:Hp)(args:Args)(us:List Value)(vs:List V)(Q:VK)(E:XK),Ht k A->yE P w K mg base A outer s H->BindsTo s fd args (ps.zip us)->aX vs us->sp vs H Q E ->
  codeAny (model P w) A (.call (.ref f) args) (CR CX outer P w H s Q E) s
section
variable{X:Cx}{CX:wM}{k:Nat}{f C:Addr}{fd:FuncData}{ps:List Str}{sp:Sp}{dvs:List V}{ds:List Value}{E:XK}{x m:Str}{p pos apos:Pos}{e o:Expr}{es:List Expr}{ta:TE}{t:TA}
end
section
variable{P:Program}{w:World}{K:W.Frag}{mg:Str->Option Value}{base:Heap}
end
end L2
namespace PySem.W
open PySem PySem.Spec PySem.Calls PyProof.Rows
section
variable{prog:Program}{w:World}{A:Around}{E:Value->Shared->Prop}{s:Shared}{K:Frag}{x D:Addr}{a g:Value}{name:Str}{h:Heap}{M:Model}
end
section
variable{K:Frag}{x D:Addr}
end
end PySem.W
namespace L2
open PySem PySem.Spec PyProof.Rows
end L2
namespace L2
open PySem PySem.Spec PyProof.Rows RS
inductive D where
 |non|bl (b:Bool)|int (i:Int)|str (x:Str)|tup (xs:List D)|frz (xs:List D)|obj (n:Nat)
inductive O where
 |lst (xs:List D)|set (ks:List (List Int))|iset (ks:List Int)|dic|exc (c:Str)
abbrev au:=List O
abbrev Ro:=List (Option D)
def C1(K:W.Frag)(H:Hp)(a:Addr)(xs:List V):Prop:=
 (∃ o, H a = some (.frz o (.lst xs))) \/
  ∃(o:Obj) (its:Array Value) (n:Nat),K.lookup a=some o/\o.cls=.type "list" /\ o.dict=none/\o.data=.seq its n/\its.size<=sizeLine/\aX xs its.toList
theorem C1.sq{K:W.Frag}{H:Hp}{a:Addr}{xs:List V}(h:C1 K H a xs):eT K H a xs:=by
 rcases h with⟨o,h⟩|h
 ·exact .inl (.inr ⟨o,h⟩)
 ·exact .inr h
section
variable(K:W.Frag)(H:Hp)(α:List Addr)
mutual
def aL:D->V->Prop
 |.non,v=>v=.non
 |.bl b,v=>v=.bl b
 |.int i,v=>v=.int i
 |.str x,v=>v=.str x
 |.tup xs,v=>∃a vs,v=.ref a/\fu K H a vs/\Reps xs vs
 |.frz xs,v=>∃a vs,v=.ref a/\C1 K H a vs/\Reps xs vs
 |.obj n,v=>∃a,v=.ref a/\α[n]?=some a
def Reps:List D->List V->Prop
 |[],vs=>vs=[]
 |x::xs,vs=>∃v r,vs=v::r/\aL x v/\Reps xs r
end
end
structure kE(K:W.Frag)(H H':Hp)(α α':List Addr):Prop where
 tup:∀a xs,fu K H a xs->fu K H' a xs
 frz:∀a xs,C1 K H a xs->C1 K H' a xs
 pre:∀(n:Nat) a,α[n]?=some a->α'[n]?=some a
section
variable{K:W.Frag}{H H' H1 H2:Hp}{α α' α1 α2:List Addr}
theorem kE.refl:kE K H H α α:=⟨fun _ _ h=>h,fun _ _ h=>h,fun _ _ h=>h⟩
theorem kE.trans(a:kE K H H1 α α1)(b:kE K H1 H2 α1 α2):kE K H H2 α α2:=
 ⟨fun c xs h=>b.tup c xs (a.tup c xs h),fun c xs h=>b.frz c xs (a.frz c xs h),fun n c h=>b.pre n c (a.pre n c h)⟩
mutual
theorem aL.mono(e:kE K H H' α α'):∀{d:D}{v:V},aL K H α d v->aL K H' α' d v
 |.non,_,h=>by simp only[aL]at h⊢;exact h
 |.bl _,_,h=>by simp only[aL]at h⊢;exact h
 |.int _,_,h=>by simp only[aL]at h⊢;exact h
 |.str _,_,h=>by simp only[aL]at h⊢;exact h
 |.tup xs,_,h=>by
  simp only[aL]at h⊢;obtain⟨a,vs,rfl,h1,h2⟩:=h;exact⟨a,vs,rfl,e.tup a vs h1,Reps.mono e h2⟩
 |.frz xs,_,h=>by
  simp only[aL]at h⊢;obtain⟨a,vs,rfl,h1,h2⟩:=h;exact⟨a,vs,rfl,e.frz a vs h1,Reps.mono e h2⟩
 |.obj n,_,h=>by
  simp only[aL]at h⊢;obtain⟨a,rfl,h1⟩:=h;exact⟨a,rfl,e.pre n a h1⟩
theorem Reps.mono(e:kE K H H' α α'):∀{ds:List D}{vs:List V},Reps K H α ds vs->Reps K H' α' ds vs
 |[],_,h=>by simp only[Reps]at h⊢;exact h
 |d::ds,_,h=>by
  simp only[Reps]at h⊢;obtain⟨v,r,rfl,h1,h2⟩:=h;exact⟨v,r,rfl,aL.mono e h1,Reps.mono e h2⟩
end
theorem Reps.nil:Reps K H α [] []:=by simp only[Reps]
theorem Reps.cons{d:D}{ds:List D}{v:V}{vs:List V}(h1:aL K H α d v)(h2:Reps K H α ds vs):Reps K H α (d::ds) (v::vs):=by
 simp only[Reps];exact⟨v,vs,rfl,h1,h2⟩
theorem Reps.length:∀{ds:List D}{vs:List V},Reps K H α ds vs->vs.length=ds.length
 |[],vs,h=>by simp only[Reps]at h;rw[h];rfl
 |d::ds,vs,h=>by
  simp only[Reps]at h;obtain⟨v,r,rfl,h1,h2⟩:=h;simp[Reps.length h2]
theorem Reps.get:∀{ds:List D}{vs:List V}{i:Nat}{d:D},Reps K H α ds vs->ds[i]?=some d->∃v,vs[i]?=some v/\aL K H α d v
 |[],_,_,_,_,e=>by simp at e
 |d::ds,vs,i,x,h,e=>by
  simp only[Reps]at h;obtain⟨v,r,rfl,h1,h2⟩:=h;cases i with
  |zero=>simp at e;subst e;exact⟨v,rfl,h1⟩
  |succ i=>exact Reps.get (i:=i) h2 (by simpa using e)
theorem Reps.append:∀{ds es:List D}{vs ws:List V},Reps K H α ds vs->Reps K H α es ws->Reps K H α (ds++es) (vs++ws)
 |[],_,vs,_,h,g=>by simp only[Reps]at h;subst h;exact g
 |d::ds,_,vs,_,h,g=>by
  simp only[Reps]at h;obtain⟨v,r,rfl,h1,h2⟩:=h;exact Reps.cons h1 (Reps.append h2 g)
theorem Reps.take:∀{ds:List D}{vs:List V}(n:Nat),Reps K H α ds vs->Reps K H α (ds.take n) (vs.take n)
 |[],vs,n,h=>by simp only[Reps]at h;subst h;simpa using Reps.nil
 |d::ds,vs,n,h=>by
  simp only[Reps]at h;obtain⟨v,r,rfl,h1,h2⟩:=h;cases n with
  |zero=>exact Reps.nil
  |succ n=>exact Reps.cons h1 (Reps.take n h2)
theorem Reps.drop:∀{ds:List D}{vs:List V}(n:Nat),Reps K H α ds vs->Reps K H α (ds.drop n) (vs.drop n)
 |[],vs,n,h=>by simp only[Reps]at h;subst h;simpa using Reps.nil
 |d::ds,vs,n,h=>by
  cases n with
  |zero=>exact h
  |succ n=>
   simp only[Reps]at h;obtain⟨v,r,rfl,h1,h2⟩:=h;exact Reps.drop n h2
theorem Reps.set{d:D}{v:V}(q:aL K H α d v):∀{ds:List D}{vs:List V}(n:Nat),Reps K H α ds vs->Reps K H α (ds.set n d) (vs.set n v)
 |[],vs,n,h=>by simp only[Reps]at h;subst h;simpa using Reps.nil
 |e::ds,vs,n,h=>by
  simp only[Reps]at h;obtain⟨v',r,rfl,h1,h2⟩:=h;cases n with
  |zero=>exact Reps.cons q h2
  |succ n=>exact Reps.cons h1 (Reps.set q n h2)
theorem Reps.reverse:∀{ds:List D}{vs:List V},Reps K H α ds vs->Reps K H α ds.reverse vs.reverse
 |[],vs,h=>by simp only[Reps]at h;subst h;exact Reps.nil
 |d::ds,vs,h=>by
  simp only[Reps]at h;obtain⟨v,r,rfl,h1,h2⟩:=h;rw[KU,KU];exact Reps.append (Reps.reverse h2) (Reps.cons h1 Reps.nil)
theorem Reps.one{d:D}{vs:List V}(h:Reps K H α [d] vs):∃v,vs=[v]/\aL K H α d v:=by
 simp only[Reps]at h;obtain⟨v,r,rfl,h1,rfl⟩:=h;exact⟨v,rfl,h1⟩
theorem Reps.two{d e:D}{vs:List V}(h:Reps K H α [d,e] vs):∃v u,vs=[v,u]/\aL K H α d v/\aL K H α e u:=by
 simp only[Reps]at h;obtain⟨v,r,rfl,h1,u,r',rfl,h2,rfl⟩:=h;exact⟨v,u,rfl,h1,h2⟩
theorem Reps.snoc{d:D}{ds:List D}{v:V}{vs:List V}(h:Reps K H α ds vs)(q:aL K H α d v):Reps K H α (ds++[d]) (vs++[v]):=h.append (Reps.cons q Reps.nil)
theorem Reps.ints:∀{ns:List Int}{vs:List V},Reps K H α (ns.map D.int) vs->vs=ns.map V.int
 |[],vs,h=>by simp only[KM,Reps]at h;exact h
 |n::ns,vs,h=>by
  simp only[KN,Reps]at h;obtain⟨v,r,rfl,h1,h2⟩:=h;simp only[aL]at h1;rw[h1,Reps.ints h2];rfl
theorem g4:∀(ns:List Int),Reps K H α (ns.map D.int) (ns.map V.int)
 |[]=>Reps.nil
 |n::ns=>Reps.cons (by simp only[aL]) (g4 ns)
theorem aD{xs:List D}{v:V}:aL K H α (.tup xs) v↔∃a vs,v=.ref a/\fu K H a vs/\Reps K H α xs vs:=by simp only[aL]
theorem bf{xs:List D}{v:V}:aL K H α (.frz xs) v↔∃a vs,v=.ref a/\C1 K H a vs/\Reps K H α xs vs:=by simp only[aL]
theorem aN{n:Nat}{v:V}:aL K H α (.obj n) v↔∃a,v=.ref a/\α[n]?=some a:=by simp only[aL]
theorem ak{n:Int}{v:V}:aL K H α (.int n) v↔v=.int n:=by simp only[aL]
theorem aU{n:Bool}{v:V}:aL K H α (.bl n) v↔v=.bl n:=by simp only[aL]
theorem aZ{n:Str}{v:V}:aL K H α (.str n) v↔v=.str n:=by simp only[aL]
theorem bV{v:V}:aL K H α .non v↔v=.non:=by simp only[aL]
end
def sd(K:W.Frag)(w:World)(H:Hp)(α:List Addr):O->Addr->Prop
 |.lst xs,a=>∃vs,H a=some (.lst vs)/\Reps K H α xs vs
 |.set ks,a=>∃ps:List KP,ps.map (·.1)=ks/\H a=some (.ext fun h=>d5 w h a ps)/\(∀p∈ps,p.1∈prs)/\(ps.map (·.1)).Nodup/\∀p∈ps,fu K H p.2 (p.1.map V.int)
 |.iset ks,a=>∃ps:List KI,ps.map (·.1)=ks/\H a=some (.ext fun h=>bE w h a ps)/\ks.length<=6
 |.dic,a=>H a=some (.dK [])
 |.exc c,a=>∃C,W.nsIn K mainGlobals c=some (some (.ref C))/\H a=some (IE a C)
structure gq(K:W.Frag)(w:World)(H:Hp)(α:List Addr)(μ:au):Prop where
 len:α.length=μ.length
 nd:α.Nodup
 ob:∀(n:Nat) o a,μ[n]?=some o->α[n]?=some a->sd K w H α o a
section
variable{K:W.Frag}{w:World}{H H':Hp}{α α':List Addr}{μ:au}
theorem sd.live{o:O}{a:Addr}(h:sd K w H α o a):H a≠none:=by
 cases o with
 |lst xs=>obtain⟨vs,e,_⟩:=h;rw[e];exact fun z=>by cases z
 |set ks=>obtain⟨ps,_,e,_⟩:=h;rw[e];exact fun z=>by cases z
 |iset ks=>obtain⟨ps,_,e,_⟩:=h;rw[e];exact fun z=>by cases z
 |dic=>have e:H a=some (.dK []):=h;rw[e];exact fun z=>by cases z
 |exc c=>obtain⟨C,_,e⟩:=h;rw[e];exact fun z=>by cases z
theorem sd.mono{o:O}{a:Addr}(h:sd K w H α o a)(e:kE K H H' α α')(ha:H' a=H a):sd K w H' α' o a:=by
 cases o with
 |lst xs=>obtain⟨vs,q,r⟩:=h;exact⟨vs,ha.trans q,r.mono e⟩
 |set ks=>obtain⟨ps,h1,q,h2,h3,h4⟩:=h;exact⟨ps,h1,ha.trans q,h2,h3,fun p hp=>e.tup _ _ (h4 p hp)⟩
 |iset ks=>obtain⟨ps,h1,q,h2⟩:=h;exact⟨ps,h1,ha.trans q,h2⟩
 |dic=>exact ha.trans h
 |exc c=>obtain⟨C,h1,q⟩:=h;exact⟨C,h1,ha.trans q⟩
theorem gq.at(S:gq K w H α μ){n:Nat}{o:O}(e:μ[n]?=some o):∃a,α[n]?=some a/\sd K w H α o a:=by
 have hn:n<μ.length:=(JG.mp e).1;have hn':n<α.length:=by rw[S.len];exact hn
 exact⟨α[n],MR hn',S.ob n o _ e (MR hn')⟩
theorem gq.live(S:gq K w H α μ){a:Addr}(h:a∈α):H a≠none:=by
 obtain⟨n,hn,e⟩:=List.getElem_of_mem h;have hm:n<μ.length:=by rw[<- S.len];exact hn
 exact(S.ob n _ a (MR hm) (by rw[<- e];exact MR hn)).live
theorem gq.fresh(S:gq K w H α μ){p:Addr}(h:H p=none):p∉α:=fun z=>S.live z h
theorem gq.same(S:gq K w H α μ)(e:kE K H H' α α)(h:∀a,H a≠none->H' a=H a):gq K w H' α μ:=
 ⟨S.len,S.nd,fun n o a h1 h2=>(S.ob n o a h1 h2).mono e (h a (S.ob n o a h1 h2).live)⟩
theorem bx{p:Addr}{o:HO}(h:H p=none):kE K H (cG H p o) α α:=by
 refine⟨fun a xs q=>?_,fun a xs q=>?_,fun _ _ z=>z⟩
 ·rcases q with (q | ⟨x, q⟩) | q
  ·exact .inl (.inl (by rw[bK (dA q h)];exact q))
  ·exact .inl (.inr ⟨x,by rw[bK (dA q h)];exact q⟩)
  ·exact .inr q
 ·rcases q with ⟨x, q⟩ | q
  ·exact .inl ⟨x,by rw[bK (dA q h)];exact q⟩
  ·exact .inr q
theorem iP{p:Addr}{vs:List V}{o:HO}(h:H p=some (.lst vs)):kE K H (cG H p o) α α:=by
 refine⟨fun a xs q=>?_,fun a xs q=>?_,fun _ _ z=>z⟩
 ·rcases q with (q | ⟨x, q⟩) | q
  ·exact .inl (.inl (by rw[bK (yS q h (by intro z;cases z))];exact q))
  ·exact .inl (.inr ⟨x,by rw[bK (yS q h (by intro z;cases z))];exact q⟩)
  ·exact .inr q
 ·rcases q with ⟨x, q⟩ | q
  ·exact .inl ⟨x,by rw[bK (yS q h (by intro z;cases z))];exact q⟩
  ·exact .inr q
theorem jl(β:List Addr):kE K H H α (α++β):=⟨fun _ _ h=>h,fun _ _ h=>h,fun n a h=>by rw[Kg (JG.mp h).1];exact h⟩
theorem gq.tuple(S:gq K w H α μ){p:Addr}{vs:List V}(h:H p=none):gq K w (cG H p (.tup vs)) α μ:=
 S.same (bx h) fun a ha=>bK fun z=>ha (by rw[z];exact h)
theorem gq.more(S:gq K w H α μ){p:Addr}{o:O}{ho:HO}(h:H p=none)(q:sd K w (cG H p ho) (α++[p]) o p):gq K w (cG H p ho) (α++[p]) (μ++[o]):=by
 refine⟨by simp[S.len],?_,fun n o' a h1 h2=>?_⟩
 ·rw[L5];exact⟨S.nd,by simp,fun x hx y hy z=>by simp at hy;subst hy;subst z;exact S.fresh h hx⟩
 ·by_cases hn : n < μ.length
  ·rw[Kg hn]at h1;rw[Kg (by rw[S.len];exact hn)]at h2;exact(S.ob n o' a h1 h2).mono ((bx h).trans (jl [p])) (bK fun z=>(S.ob n o' a h1 h2).live (by rw[z];exact h))
  ·have hn':n=μ.length:=by
    have:=(JG.mp h1).1;simp at this;omega
   subst hn';rw[Kf (JY _)]at h1;rw[Kf (by rw[S.len];exact JY _),S.len]at h2;simp at h1 h2;subst h1;subst h2;exact q
theorem gq.put(S:gq K w H α μ){n:Nat}{a:Addr}{xs ys:List D}{us vs:List V}(h1:μ[n]?=some (.lst xs))(h2:α[n]?=some a)(h3:H a=some (.lst us))(q:Reps K H α ys vs):gq K w (cG H a (.lst vs)) α (μ.set n (.lst ys)):=by
 have e:=iP (K:=K) (α:=α) (o:=.lst vs) h3;refine⟨by simp[S.len],S.nd,fun m o b g1 g2=>?_⟩;have hn:n<μ.length:=(JG.mp h1).1;by_cases hm:m=n
 ·subst hm;rw[JI hn]at g1;cases g1;rw[h2]at g2;cases g2;exact⟨vs,bO,q.mono e⟩
 ·rw[JJ (fun z=>hm z.symm)]at g1;refine(S.ob m o b g1 g2).mono e (bK fun z=>hm ?_);subst z;have i1:=(JG.mp g2);have i2:=(JG.mp h2);obtain⟨l1,e1⟩:=i1;obtain⟨l2,e2⟩:=i2;exact(JH S.nd).mp (e1.trans e2.symm)
end
structure cZ(K:W.Frag)(H:Hp)(α:List Addr)(ρ:Ro)(σ:St):Prop where
 len:ρ.length=σ.length
 at':∀(i:Nat) d,ρ[i]?=some (some d)->∃v,σ[i]?=some (some v)/\aL K H α d v
theorem cZ.mono{K:W.Frag}{H H':Hp}{α α':List Addr}{ρ:Ro}{σ:St}(e:kE K H H' α α')(R:cZ K H α ρ σ):cZ K H' α' ρ σ:=
 ⟨R.len,fun i d h=>let ⟨v,h1,h2⟩:=R.at' i d h;⟨v,h1,h2.mono e⟩⟩
theorem cZ.set{K:W.Frag}{H:Hp}{α:List Addr}{ρ:Ro}{σ:St}{d:D}{v:V}(R:cZ K H α ρ σ)(i:Nat)(q:aL K H α d v):cZ K H α (ρ.set i (some d)) (σ.set i (some v)):=by
 refine⟨by simp[R.len],fun j d' h=>?_⟩;by_cases hj:j=i
 ·subst hj;have hl:j<ρ.length:=by have:=(JG.mp h).1;simpa using this
  rw[JI hl]at h;cases h;exact⟨v,by rw[JI (by rw[<- R.len];exact hl)],q⟩
 ·rw[JJ (fun z=>hj z.symm)]at h⊢;exact R.at' j d' h
structure DX where
 cls:Str
 args:List D
inductive af(β:Type) where
 |ok (a:β) (μ:au)|exc (x:DX) (μ:au)|bad
def af.bind{β γ:Type}(o:af β)(g:β->au->af γ):af γ:=match o with
 |.ok a μ=>g a μ
 |.exc x μ=>.exc x μ
 |.bad=>.bad
@[simp] theorem aa {β γ:Type}{a:β}{μ:au}{g:β->au->af γ}:(af.ok a μ).bind g=g a μ:=Nj (Nk _)
inductive SO where
 |next (ρ:Ro) (μ:au)|ret (d:D) (μ:au)|brk (ρ:Ro) (μ:au)|cnt (ρ:Ro) (μ:au)|exc (x:DX) (μ:au)|bad
def af.bindS{β:Type}(o:af β)(g:β->au->SO):SO:=match o with
 |.ok a μ=>g a μ
 |.exc x μ=>.exc x μ
 |.bad=>.bad
@[simp] theorem ae {β:Type}{a:β}{μ:au}{g:β->au->SO}:(af.ok a μ).bindS g=g a μ:=Nj (Nk _)
def SO.bind(o:SO)(g:Ro->au->SO):SO:=match o with
 |.next ρ μ=>g ρ μ
 |o=>o
structure Pa where
 K:W.Frag
 w:World
 xw:DX->au->Hp->List Addr->Prop
abbrev Pa.S(p:Pa):=gq p.K p.w
abbrev Pa.X(p:Pa):=kE p.K
abbrev Pa.R(p:Pa):=aL p.K
abbrev Pa.Rs(p:Pa):=Reps p.K
def aC{β:Type}(p:Pa)(H:Hp)(α:List Addr)(o:af β)(R:β->au->Hp->List Addr->Prop):Prop:=match o with
 |.ok a μ'=>∀H' α',p.X H H' α α'->p.S H' α' μ'->R a μ' H' α'
 |.exc x μ'=>∀H' α',p.X H H' α α'->p.S H' α' μ'->p.xw x μ' H' α'
 |.bad=>False
def fP(p:Pa)(H:Hp)(α:List Addr)(o:SO)(D:nt):Prop:=match o with
 |.next ρ' μ'=>∀H' α' σ',p.X H H' α α'->p.S H' α' μ'->cZ p.K H' α' ρ' σ'->D.nx σ' H'
 |.brk ρ' μ'=>∀H' α' σ',p.X H H' α α'->p.S H' α' μ'->cZ p.K H' α' ρ' σ'->D.bk σ' H'
 |.cnt ρ' μ'=>∀H' α' σ',p.X H H' α α'->p.S H' α' μ'->cZ p.K H' α' ρ' σ'->D.ct σ' H'
 |.ret d μ'=>∀H' α' v,p.X H H' α α'->p.S H' α' μ'->p.R H' α' d v->D.rt v H'
 |.exc x μ'=>∀H' α',p.X H H' α α'->p.S H' α' μ'->p.xw x μ' H' α'
 |.bad=>False
section
variable{p:Pa}{H H1:Hp}{α α1:List Addr}{β γ:Type}
theorem aC.imp{o:af β}{R R':β->au->Hp->List Addr->Prop}(h:aC p H α o R)(k:∀a μ' H' α',p.X H H' α α'->p.S H' α' μ'->R a μ' H' α'->R' a μ' H' α'):aC p H α o R':=by
 cases o with
 |ok a μ=>exact fun H' α' e s=>k a μ H' α' e s (h H' α' e s)
 |exc x μ=>exact h
 |bad=>exact h
theorem aC.from{o:af β}{R:β->au->Hp->List Addr->Prop}(e:p.X H H1 α α1)(h:aC p H α o R):aC p H1 α1 o R:=by
 cases o with
 |ok a μ=>exact fun H' α' e' s=>h H' α' (e.trans e') s
 |exc x μ=>exact fun H' α' e' s=>h H' α' (e.trans e') s
 |bad=>exact h
theorem aC.bind{o:af β}{g:β->au->af γ}{R:γ->au->Hp->List Addr->Prop}(h:aC p H α (o.bind g) R):aC p H α o (fun a μ1 H1 α1=>aC p H1 α1 (g a μ1) R):=by
 cases o with
 |ok a μ=>exact fun H' α' e s=>aC.from e h
 |exc x μ=>exact h
 |bad=>exact h
theorem aC.now{a:β}{μ:au}{R:β->au->Hp->List Addr->Prop}(h:aC p H α (.ok a μ) R)(s:p.S H α μ):R a μ H α:=h H α kE.refl s
theorem fP.from{o:SO}{D:nt}(e:p.X H H1 α α1)(h:fP p H α o D):fP p H1 α1 o D:=by
 cases o with
 |next ρ μ=>exact fun H' α' σ' e' s r=>h H' α' σ' (e.trans e') s r
 |brk ρ μ=>exact fun H' α' σ' e' s r=>h H' α' σ' (e.trans e') s r
 |cnt ρ μ=>exact fun H' α' σ' e' s r=>h H' α' σ' (e.trans e') s r
 |ret d μ=>exact fun H' α' v e' s r=>h H' α' v (e.trans e') s r
 |exc x μ=>exact fun H' α' e' s=>h H' α' (e.trans e') s
 |bad=>exact h
theorem aC.bindS{o:af β}{g:β->au->SO}{D:nt}(h:fP p H α (o.bindS g) D):aC p H α o (fun a μ1 H1 α1=>fP p H1 α1 (g a μ1) D):=by
 cases o with
 |ok a μ=>exact fun H' α' e s=>fP.from e h
 |exc x μ=>exact h
 |bad=>exact h
end
abbrev ME:=Ro->au->af D
abbrev MT:=Ro->au->af Bool
abbrev MA:=Ro->au->af (List D)
abbrev MS:=Ro->au->SO
abbrev MG:=D->Ro->au->af Ro
abbrev RV(p:Pa)(Q:VK):D->au->Hp->List Addr->Prop:=fun d _ H' α'=>∀v,p.R H' α' d v->Q v H'
def tD(p:Pa)(f:ME):TE:=fun σ H Q=>∃α ρ μ,p.S H α μ/\cZ p.K H α ρ σ/\aC p H α (f ρ μ) (RV p Q)
def gI(p:Pa)(f:MT):TT:=fun σ H Q=>∃α ρ μ,p.S H α μ/\cZ p.K H α ρ σ/\aC p H α (f ρ μ) (fun b _ H' _=>Q b H')
def l8(p:Pa)(f:MA):TA:=fun σ H Q=>∃α ρ μ,p.S H α μ/\cZ p.K H α ρ σ/\aC p H α (f ρ μ) (fun ds _ H' α'=>∀vs,p.Rs H' α' ds vs->Q vs H')
def iY(p:Pa)(f:MS):TS:=fun D σ H=>∃α ρ μ,p.S H α μ/\cZ p.K H α ρ σ/\fP p H α (f ρ μ) D
def l7(p:Pa)(g:MG):TG:=fun v σ H Q=>∃α ρ μ d,p.S H α μ/\cZ p.K H α ρ σ/\p.R H α d v/\aC p H α (g d ρ μ) (fun ρ' _ H' α'=>∀σ',cZ p.K H' α' ρ' σ'->Q σ' H')
theorem PE.weak{X:Cx}{e:Expr}{t t':TE}(h:PE X e t)(k:∀σ H Q,t' σ H Q->t σ H Q):PE X e t':=fun pins s σ H Q I q=>h pins s σ H Q I (k σ H Q q)
theorem PT.weak{X:Cx}{e:Expr}{t t':TT}(h:PT X e t)(k:∀σ H Q,t' σ H Q->t σ H Q):PT X e t':=fun pins s σ H Q I q=>h pins s σ H Q I (k σ H Q q)
theorem PW.weak{X:Cx}{e:Expr}{t t':TT}(h:PW X e t)(k:∀σ H Q,t' σ H Q->t σ H Q):PW X e t':=fun wh pins s σ H Q I q=>h wh pins s σ H Q I (k σ H Q q)
theorem PA.weak{X:Cx}{e:List Expr}{t t':TA}(h:PA X e t)(k:∀σ H Q,t' σ H Q->t σ H Q):PA X e t':=fun pos pins s σ H Q I q=>h pos pins s σ H Q I (k σ H Q q)
theorem PS.weak{X:Cx}{e:Stmt}{t t':TS}(h:PS X e t)(k:∀D σ H,t' D σ H->t D σ H):PS X e t':=fun pins s σ H Q I q=>h pins s σ H Q I (k Q σ H q)
theorem jV.weak{X:Cx}{e:List Stmt}{t t':TS}(h:jV X e t)(k:∀D σ H,t' D σ H->t D σ H):jV X e t':=fun pins s σ H Q I q=>h pins s σ H Q I (k Q σ H q)
def aj(i:Nat):ME:=fun ρ μ=>match ρ[i]? with
 |some (some d)=>.ok d μ
 |_=>.bad
def cC(d:D):ME:=fun _ μ=>.ok d μ
def aM(op:D->D->au->af D)(fa fb:ME):ME:=fun ρ μ=>(fa ρ μ).bind fun a μ1=>(fb ρ μ1).bind fun b μ2=>op a b μ2
def rS(op:D->au->af D)(fa:ME):ME:=fun ρ μ=>(fa ρ μ).bind fun a μ1=>op a μ1
def aH:MA:=fun _ μ=>.ok [] μ
def ah(fa:ME)(fr:MA):MA:=fun ρ μ=>(fa ρ μ).bind fun a μ1=>(fr ρ μ1).bind fun r μ2=>.ok (a::r) μ2
def aF(f:List D->au->af D)(fa:MA):ME:=fun ρ μ=>(fa ρ μ).bind f
def hV(fa:MA):ME:=aF (fun ds μ=>if ds.length<=sizeLine then .ok (.tup ds) μ else .bad) fa
def jf(fa:MA):ME:=aF (fun ds μ=>if ds.length<=sizeLine then .ok (.obj μ.length) (μ++[.lst ds]) else .bad) fa
def AO:D->au->af Bool
 |.bl b,μ=>.ok b μ
 |_,_=>.bad
def lx(f:ME):MT:=fun ρ μ=>(f ρ μ).bind AO
def pH(f g:MT):MT:=fun ρ μ=>(f ρ μ).bind fun b μ1=>if b=true then g ρ μ1 else .ok false μ1
def oR(f g:MT):MT:=fun ρ μ=>(f ρ μ).bind fun b μ1=>if b=true then .ok true μ1 else g ρ μ1
def iq(f:MT):MT:=fun ρ μ=>(f ρ μ).bind fun b μ1=>.ok (!b) μ1
def j4(f g:ME):ME:=fun ρ μ=>(f ρ μ).bind fun a μ1=>(AO a μ1).bind fun b μ2=>if b=true then g ρ μ2 else .ok (.bl false) μ2
def sD(f:ME):ME:=fun ρ μ=>(f ρ μ).bind fun a μ1=>(AO a μ1).bind fun b μ2=>.ok (.bl (!b)) μ2
def qp(p:Pa)(op:D->D->au->af D)(r:R2):Prop:=∀a b v y H α μ Q,p.S H α μ->p.R H α a v->p.R H α b y->aC p H α (op a b μ) (RV p Q)->r v y H Q
def IL(p:Pa)(op:D->au->af D)(r:V->Hp->VK->Prop):Prop:=∀a v H α μ Q,p.S H α μ->p.R H α a v->aC p H α (op a μ) (RV p Q)->r v H Q
def rQ(p:Pa)(f:List D->au->af D)(r:List V->Hp->VK->Prop):Prop:=∀ds vs H α μ Q,p.S H α μ->p.Rs H α ds vs->aC p H α (f ds μ) (RV p Q)->r vs H Q
section
variable{p:Pa}
theorem qE{d:D}{μ:au}{H:Hp}{α:List Addr}{R:Bool->au->Hp->List Addr->Prop}{v:V}(h:aC p H α (AO d μ) R)(r:p.R H α d v)(s:p.S H α μ):∃b,d=.bl b/\v=.bl b/\R b μ H α:=by
 cases d with
 |bl b=>exact⟨b,rfl,aU.mp r,h.now s⟩
 |non=>exact h.elim
 |int i=>exact h.elim
 |str x=>exact h.elim
 |tup xs=>exact h.elim
 |frz xs=>exact h.elim
 |obj n=>exact h.elim
variable{X:Cx}{a b c:Expr}{es:List Expr}{fa fb fc:ME}{pos:Pos}
theorem Ei{i:Nat}{x:Str}(h:PE X (.Name x pos) (F8 i)):PE X (.Name x pos) (tD p (aj i)):=h.weak fun σ H Q ⟨α,ρ,μ,S,R,P⟩=>by
 unfold aj at P;cases e:ρ[i]? with
 |none=>rw[e]at P;exact P.elim
 |some o=>
  rw[e]at P;cases o with
  |none=>exact P.elim
  |some d=>
   obtain⟨v,h1,h2⟩:=R.at' i d e;exact⟨v,h1,P.now S v h2⟩
theorem AZ{e:Expr}{v:V}{d:D}(h:PE X e (tC v))(r:∀H α,p.R H α d v):PE X e (tD p (cC d)):=h.weak fun σ H Q ⟨α,ρ,μ,S,R,P⟩=>P.now S v (r H α)
theorem lD{op:Operator}{o:D->D->au->af D}{r:R2}(ho:iZ X (binaryOp op) r)(hd:qp p o r)(ha:PE X a (tD p fa))(hb:PE X b (tD p fb)):PE X (.BinOp a op b pos) (tD p (aM o fa fb)):=
 (G3 ho ha hb).weak fun σ H Q ⟨α,ρ,μ,S,R,P⟩=>⟨α,ρ,μ,S,R,P.bind.imp fun x μ1 H1 α1 X1 S1 P1 v rv=>⟨α1,ρ,μ1,S1,R.mono X1,P1.bind.imp fun y μ2 H2 α2 X2 S2 P2 u ru=>hd x y v u H2 α2 μ2 Q S2 (rv.mono X2) ru P2⟩⟩
theorem Eo{op:CmpOp}{o:D->D->au->af D}{r:R2}(ho:iZ X (compareOp op) r)(hd:qp p o r)(ha:PE X a (tD p fa))(hb:PE X b (tD p fb))(hm:behindInMarks op b=false):PE X (.Compare a [op] [b] pos) (tD p (aM o fa fb)):=
 (BX ho ha hb hm).weak fun σ H Q ⟨α,ρ,μ,S,R,P⟩=>⟨α,ρ,μ,S,R,P.bind.imp fun x μ1 H1 α1 X1 S1 P1 v rv=>⟨α1,ρ,μ1,S1,R.mono X1,P1.bind.imp fun y μ2 H2 α2 X2 S2 P2 u ru=>hd x y v u H2 α2 μ2 Q S2 (rv.mono X2) ru P2⟩⟩
theorem D5{op:CmpOp}{o:D->D->au->af D}{r:R2}(ho:iZ X (compareOp op) r)(hd:qp p o r)(ha:PE X a (tD p fa))(hb:PE X b (tD p fb))(hm:behindInMarks op b=false):PT X (.Compare a [op] [b] pos) (gI p (lx (aM o fa fb))):=
 (BK ho ha hb hm).weak fun σ H Q ⟨α, ρ, μ, S, R, P⟩ => ⟨α, ρ, μ, S, R, P.bind.bind.imp fun x μ1 H1 α1 X1 S1 P1 v rv => ⟨α1, ρ, μ1, S1, R.mono X1, P1.bind.imp fun y μ2 H2 α2 X2 S2 P2 u ru =>
  hd x y v u H2 α2 μ2 _ S2 (rv.mono X2) ru (P2.imp fun d μ3 H3 α3 X3 S3 P3 z rz=>by
   obtain⟨k,_,e,q⟩:=qE P3 rz S3
   exact⟨k,e,q⟩)⟩⟩
theorem GQ{op:UnaryOp}{o:D->au->af D}{r:V->Hp->VK->Prop}(ho:HF X (unaryOp op) r)(hd:IL p o r)(ha:PE X a (tD p fa)):PE X (.UnaryOp op a pos) (tD p (rS o fa)):=
 (G0 ho ha).weak fun σ H Q ⟨α,ρ,μ,S,R,P⟩=>⟨α,ρ,μ,S,R,P.bind.imp fun x μ1 H1 α1 X1 S1 P1 v rv=>hd x v H1 α1 μ1 Q S1 rv P1⟩
theorem Er:PA X [] (l8 p aH):=qx.weak fun σ H Q ⟨α,ρ,μ,S,R,P⟩=>P.now S [] Reps.nil
theorem BE{fr:MA}(ha:PE X a (tD p fa))(hr:PA X es (l8 p fr))(hs:starEach (a::es) X.env=(false,eval a X.env)::starEach es X.env):PA X (a::es) (l8 p (ah fa fr)):=
 (kN ha hr hs).weak fun σ H Q ⟨α,ρ,μ,S,R,P⟩=>⟨α,ρ,μ,S,R,P.bind.imp fun x μ1 H1 α1 X1 S1 P1 v rv=>⟨α1,ρ,μ1,S1,R.mono X1,P1.bind.imp fun y μ2 H2 α2 X2 S2 P2 us ru=>P2.now S2 _ (Reps.cons (rv.mono X2) ru)⟩⟩
theorem Ej{k:Nat}{fr:MA}(h:PA X es (l8 p fr)):PE X (.Tuple es k pos) (tD p (hV fr)):=
 (EL h).weak fun σ H Q ⟨α, ρ, μ, S, R, P⟩ => ⟨α, ρ, μ, S, R, P.bind.imp fun ds μ1 H1 α1 X1 S1 P1 vs rv => by
  by_cases hl:ds.length<=sizeLine
  ·rw[Jo hl]at P1;refine⟨by rw[rv.length];exact hl,fun q hq=>?_⟩;exact P1 _ _ (bx hq) (S1.tuple hq) _ (aD.mpr ⟨q,vs,rfl,fu.of bO,rv.mono (bx hq)⟩)
  ·rw [Jp hl] at P1
   exact P1.elim⟩
theorem bZ{H:Hp}{α:List Addr}{μ:au}{ds:List D}{vs:List V}{q:Addr}(S:p.S H α μ)(hq:H q=none)(rv:p.Rs H α ds vs) :
  p.X H (cG H q (.lst vs)) α (α++[q])/\p.S (cG H q (.lst vs)) (α++[q]) (μ++[.lst ds])/\p.R (cG H q (.lst vs)) (α++[q]) (.obj μ.length) (.ref q):=by
 have X1:p.X H (cG H q (.lst vs)) α (α++[q]):=(bx hq).trans (jl [q]);exact⟨X1,S.more hq ⟨vs,bO,rv.mono X1⟩,aN.mpr ⟨q,rfl,by rw[<- S.len];simp⟩⟩
theorem El{fr:MA}(h:PA X es (l8 p fr)):PE X (.List es pos) (tD p (jf fr)):=
 (ES h).weak fun σ H Q ⟨α, ρ, μ, S, R, P⟩ => ⟨α, ρ, μ, S, R, P.bind.imp fun ds μ1 H1 α1 X1 S1 P1 vs rv => by
  by_cases hl:ds.length<=sizeLine
  ·rw[Jo hl]at P1;refine⟨by rw[rv.length];exact hl,fun q hq=>?_⟩;obtain⟨x1,x2,x3⟩:=bZ S1 hq rv;exact P1 _ _ x1 x2 _ x3
  ·rw [Jp hl] at P1
   exact P1.elim⟩
variable{ft gt:MT}{rest:List Expr}
theorem D1(ha:PT X a (gI p ft))(hb:PW X (.BoolOp .And (b::rest) pos) (gI p gt)):PW X (.BoolOp .And (a::b::rest) pos) (gI p (pH ft gt)):=
 (EA ha hb).weak fun σ H Q ⟨α, ρ, μ, S, R, P⟩ => ⟨α, ρ, μ, S, R, P.bind.imp fun k μ1 H1 α1 X1 S1 P1 => by
  cases k with
  |true=>rw[Jo rfl]at P1⊢;exact⟨α1,ρ,μ1,S1,R.mono X1,P1⟩
  |false=>rw[Jp J4]at P1⊢;exact P1.now S1⟩
theorem GM(ha:PT X a (gI p ft))(hb:PW X (.BoolOp .Or (b::rest) pos) (gI p gt)):PW X (.BoolOp .Or (a::b::rest) pos) (gI p (oR ft gt)):=
 (GY ha hb).weak fun σ H Q ⟨α, ρ, μ, S, R, P⟩ => ⟨α, ρ, μ, S, R, P.bind.imp fun k μ1 H1 α1 X1 S1 P1 => by
  cases k with
  |true=>rw[Jo rfl]at P1⊢;exact P1.now S1
  |false=>rw[Jp J4]at P1⊢;exact⟨α1,ρ,μ1,S1,R.mono X1,P1⟩⟩
theorem D3(ha:PT X a (gI p ft)):PT X (.UnaryOp .Not a pos) (gI p (iq ft)):=
 (EB ha).weak fun σ H Q ⟨α,ρ,μ,S,R,P⟩=>⟨α,ρ,μ,S,R,P.bind.imp fun k μ1 H1 α1 X1 S1 P1=>P1.now S1⟩
theorem Ep(ha:PE X a (tD p fa))(hb:PE X (.BoolOp .And (b::rest) pos) (tD p fb)):PE X (.BoolOp .And (a::b::rest) pos) (tD p (j4 fa fb)):=
 (EU ha hb).weak fun σ H Q ⟨α, ρ, μ, S, R, P⟩ => ⟨α, ρ, μ, S, R, P.bind.imp fun d μ1 H1 α1 X1 S1 P1 v rv => by
  obtain⟨k,_,e,q⟩:=qE P1.bind rv S1;refine⟨k,e,?_⟩;cases k with
  |true=>rw[Jo rfl]at q⊢;exact⟨α1,ρ,μ1,S1,R.mono X1,q⟩
  |false=>rw[Jp J4]at q⊢;exact q.now S1 _ (aU.mpr rfl)⟩
theorem Ek(ha:PE X a (tD p fa)):PE X (.UnaryOp .Not a pos) (tD p (sD fa)):=
 (EO ha).weak fun σ H Q ⟨α, ρ, μ, S, R, P⟩ => ⟨α, ρ, μ, S, R, P.bind.imp fun d μ1 H1 α1 X1 S1 P1 v rv => by
  obtain⟨k,_,e,q⟩:=qE P1.bind rv S1
  exact⟨k,e,q.now S1 _ (aU.mpr rfl)⟩⟩
theorem zW{id:String}{x:Str}{px:Pos}{f:List D->au->af D}{fr:MA}{r:List V->Hp->VK->Prop}(hc:bY X (.builtin id) r)(hd:rQ p f r)(hg:Gl X x)(hm:X.mg x=none)(hv:bootBuiltins x=some (.builtin id))(ha:PA X (a::es) (l8 p fr))
  (hn:x ≠ "__name__") (hdb:(x == ("__debug__" : Str))=false) (he:starEach (a::es) X.env=(false,eval a X.env)::starEach es X.env) (hpl:(backTo pos (starEach es X.env)).any (·.1)=false):PE X (.Call (.Name x px) (a::es) [] pos) (tD p (aF f fr)):=
 (sZ hc hg hm hv ha hn hdb he hpl).weak fun σ H Q ⟨α,ρ,μ,S,R,P⟩=>⟨α,ρ,μ,S,R,P.bind.imp fun ds μ1 H1 α1 X1 S1 P1 vs rv=>hd ds vs H1 α1 μ1 Q S1 rv P1⟩
theorem xn{T:String}{x:Str}{px:Pos}{f:List D->au->af D}{fr:MA}{r:List V->Hp->VK->Prop}(hc:bY X (.type T) r)(hd:rQ p f r)(hg:Gl X x)(hm:X.mg x=none)(hv:bootBuiltins x=some (.type T))(ha:PA X (a::es) (l8 p fr))
  (hn:x ≠ "__name__") (hdb:(x == ("__debug__" : Str))=false) (he:starEach (a::es) X.env=(false,eval a X.env)::starEach es X.env) (hpl:(backTo pos (starEach es X.env)).any (·.1)=false):PE X (.Call (.Name x px) (a::es) [] pos) (tD p (aF f fr)):=
 (lN hc hg hm hv ha hn hdb he hpl).weak fun σ H Q ⟨α,ρ,μ,S,R,P⟩=>⟨α,ρ,μ,S,R,P.bind.imp fun ds μ1 H1 α1 X1 S1 P1 vs rv=>hd ds vs H1 α1 μ1 Q S1 rv P1⟩
end
def cI(f:ME):MS:=fun ρ μ=>(f ρ μ).bindS fun d μ'=>.ret d μ'
def fx:MS:=fun ρ μ=>.next ρ μ
def bG(f g:MS):MS:=fun ρ μ=>(f ρ μ).bind g
def rP(c:MT)(f g:MS):MS:=fun ρ μ=>(c ρ μ).bindS fun b μ1=>if b=true then f ρ μ1 else g ρ μ1
def cH(f:ME)(g:MG):MS:=fun ρ μ=>(f ρ μ).bindS fun d μ1=>(g d ρ μ1).bindS fun ρ' μ2=>.next ρ' μ2
def kI(f:ME):MS:=fun ρ μ=>(f ρ μ).bindS fun _ μ1=>.next ρ μ1
def ao(i:Nat):MG:=fun d ρ μ=>.ok (ρ.set i (some d)) μ
abbrev DB:=List D->Ro->au->af Ro
def pE:DB:=fun ds ρ μ=>match ds with
 |[]=>.ok ρ μ
 |_::_=>.bad
def hW(g:MG)(u:DB):DB:=fun ds ρ μ=>match ds with
 |[]=>.bad
 |d::r=>(g d ρ μ).bind fun ρ' μ'=>u r ρ' μ'
def pD(n:Nat)(u:DB):MG:=fun d ρ μ=>match d with
 |.tup xs=>if xs.length=n then u xs ρ μ else .bad
 |_=>.bad
def wO(o i v:D)(μ:au):af Unit:=match o,i with
 |.obj n,.int k=>match μ[n]? with
  |some (.lst xs)=>match wL xs.length k with
   |some j=>.ok () (μ.set n (.lst (xs.set j v)))
   |none=>.bad
  |_=>.bad
 |_,_=>.bad
def sr(fo fi:ME):MG:=fun d ρ μ=>(fo ρ μ).bind fun o μ1=>(fi ρ μ1).bind fun i μ2=>(wO o i d μ2).bind fun _ μ3=>.ok ρ μ3
def rX(p:Pa)(g:DB):AU:=fun vs σ H Q=>∃α ρ μ ds,p.S H α μ/\cZ p.K H α ρ σ/\p.Rs H α ds vs/\aC p H α (g ds ρ μ) (fun ρ' _ H' α'=>∀σ',cZ p.K H' α' ρ' σ'->Q σ' H')
theorem PG.weak{X:Cx}{e:Expr}{t t':TG}(h:PG X e t)(k:∀v σ H Q,t' v σ H Q->t v σ H Q):PG X e t':=fun pins s σ H v u Q I r q=>h pins s σ H v u Q I r (k v σ H Q q)
theorem uy.weak{X:Cx}{e:List Expr}{t t':AU}(h:uy X e t)(k:∀v σ H Q,t' v σ H Q->t v σ H Q):uy X e t':=fun pins s σ H v u Q I r q=>h pins s σ H v u Q I r (k v σ H Q q)
theorem PI.weak{X:Cx}{tg e:Expr}{t t':TI}(h:PI X tg e t)(k:∀σ H R,t' σ H R->t σ H R):PI X tg e t':=fun pins s σ H Q I q=>h pins s σ H Q I (k σ H Q q)
section
variable{p:Pa}{X:Cx}{a b c e tg:Expr}{es:List Expr}{f:ME}{g:MG}{u:DB}{pos:Pos}{st:Stmt}{sts:List Stmt}{fs gs:MS}{ft:MT}
theorem D9:jV X [] (iY p fx):=BM.weak fun D σ H ⟨α,ρ,μ,S,R,P⟩=>P H α σ kE.refl S R
theorem zR{t u:TS}{D:nt}{σ:St}{H:Hp}{α:List Addr}{o:SO}{k:MS}(h:fP p H α (o.bind k) D)
  (hk:∀D σ H,iY p k D σ H->u D σ H):fP p H α o {D with nx:=u D}:=by
 cases o with
 |next ρ μ=>exact fun H' α' σ' e s r=>hk _ _ _ ⟨α',ρ,μ,s,r,fP.from e h⟩
 |brk ρ μ=>exact h
 |cnt ρ μ=>exact h
 |ret d μ=>exact h
 |exc x μ=>exact h
 |bad=>exact h
theorem Bm(h1:PS X st (iY p fs))(h2:jV X sts (iY p gs)):jV X (st::sts) (iY p (bG fs gs)):=
 (z6 h1 h2).weak fun D σ H ⟨α,ρ,μ,S,R,P⟩=>⟨α,ρ,μ,S,R,zR (t:=iY p fs) (σ:=σ) P fun _ _ _ z=>z⟩
theorem D8(h1:PS X st (iY p fs)):jV X [st] (iY p fs):=BL h1
theorem D7(h:PE X e (tD p f)):PS X (.Return (some e) pos) (iY p (cI f)):=
 (ED h).weak fun D σ H ⟨α,ρ,μ,S,R,P⟩=>⟨α,ρ,μ,S,R,(aC.bindS P).imp fun d μ1 H1 α1 X1 S1 P1 v rv=>P1 H1 α1 v kE.refl S1 rv⟩
theorem GN{A B:List Stmt}(hc:PT X c (gI p ft))(ha:jV X A (iY p fs))(hb:jV X B (iY p gs)):PS X (.If c A B pos) (iY p (rP ft fs gs)):=
 (GZ hc ha hb).weak fun D σ H ⟨α, ρ, μ, S, R, P⟩ => ⟨α, ρ, μ, S, R, (aC.bindS P).imp fun k μ1 H1 α1 X1 S1 P1 => by
  cases k with
  |true=>rw[Jo rfl]at P1⊢;exact⟨α1,ρ,μ1,S1,R.mono X1,P1⟩
  |false=>rw[Jp J4]at P1⊢;exact⟨α1,ρ,μ1,S1,R.mono X1,P1⟩⟩
theorem t4{D:nt}{σ:St}{H:Hp}(h:iY p (cH f g) D σ H):yw (tD p f) (l7 p g) D σ H:=by
 obtain⟨α,ρ,μ,S,R,P⟩:=h;exact⟨α,ρ,μ,S,R,(aC.bindS P).imp fun d μ1 H1 α1 X1 S1 P1 v rv=>⟨α1,ρ,μ1,d,S1,R.mono X1,rv,(aC.bindS P1).imp fun ρ' μ2 H2 α2 X2 S2 P2 σ' r'=>P2 H2 α2 σ' kE.refl S2 r'⟩⟩
theorem Eb(he:PE X e (tD p f))(hg:PG X tg (l7 p g))(hs:swapsWithSole [tg] e pos.line X.env=pure false)(hw:swappedStores [tg] e X.env=pure none)
  (h1:(assignEach [tg] X.env).map (·.2)=[assign tg X.env]):PS X (.Assign [tg] e pos) (iY p (cH f g)):=(EF he hg hs hw h1).weak fun D σ H h=>t4 h
theorem oo{i:Nat}{v:V}{σ:St}{H:Hp}{Q:St->Hp->Prop}(h:l7 p (ao i) v σ H Q):su i v σ H Q:=by
 obtain⟨α,ρ,μ,d,S,R,r,P⟩:=h;exact P.now S _ (R.set i r)
theorem Bw{i:Nat}{x:Str}(hN:X.N.Nodup)(hi:X.N[i]?=some x)(hx:C0 X.env.scope x)(hf:X.fn x=true\/X.env.scope.names.lookup x=some .local):PG X (.Name x pos) (l7 p (ao i)):=
 (BS hN hi hx hf).weak fun v σ H Q h=>oo h
theorem D6{i:Nat}{x:Str}{pos':Pos}(hN:X.N.Nodup)(hi:X.N[i]?=some x)(hx:C0 X.env.scope x)(he:PE X e (tD p f))(hs:swapsWith e (some (.Name x pos')) pos.line X.env=pure false)(hf:X.fn x=true\/X.env.scope.names.lookup x=some .local) :
  PS X (.Assign [.Name x pos'] e pos) (iY p (cH f (ao i))):=(EC hN hi hx he hs hf).weak fun D σ H h=>by
 obtain⟨α,ρ,μ,S,R,P⟩:=t4 h;exact⟨α,ρ,μ,S,R,P.imp fun d μ1 H1 α1 X1 S1 P1 v rv=>oo (P1 v rv)⟩
theorem Bl(he:PE X e (tD p f))(hs:swapsWith e none pos.line X.env=pure false):PS X (.Expr e pos) (iY p (kI f)):=
 (BO he hs).weak fun D σ H ⟨α,ρ,μ,S,R,P⟩=>⟨α,ρ,μ,S,R,(aC.bindS P).imp fun d μ1 H1 α1 X1 S1 P1 v rv=>P1 H1 α1 σ kE.refl S1 (R.mono X1)⟩
theorem Bv:uy X [] (rX p pE):=BR.weak fun vs σ H Q ⟨α,ρ,μ,ds,S,R,r,P⟩=>by
 cases ds with
 |nil=>simp only[Reps]at r;exact⟨r,P.now S σ R⟩
 |cons d ds=>exact P.elim
theorem zN(h1:PG X e (l7 p g))(h2:uy X es (rX p u))(hs:(assignEach (e::es) X.env).map (·.2)=assign e X.env::(assignEach es X.env).map (·.2)):uy X (e::es) (rX p (hW g u)):=
 (Aa h1 h2 hs).weak fun vs σ H Q ⟨α, ρ, μ, ds, S, R, r, P⟩ => by
  cases ds with
  |nil=>exact P.elim
  |cons d ds=>
   simp only[Reps]at r;obtain⟨v,vr,rfl,r1,r2⟩:=r;refine⟨v,vr,rfl,α,ρ,μ,d,S,R,r1,?_⟩;exact(aC.bind (o:=g d ρ μ) P).imp fun ρ' μ1 H1 α1 X1 S1 P1 σ' r'=>⟨α1,ρ',μ1,ds,S1,r',r2.mono X1,P1⟩
theorem Eg{k n:Nat}(hK:X.K=p.K)(hc:X.calm=true)(h:uy X es (rX p u))(hn:(assignEach es X.env).length=n)(hst:(assignEach es X.env).findIdx? (·.1)=none):PG X (.Tuple es k pos) (l7 p (pD n u)):=
 (EI hc h hn hst).weak fun v σ H Q ⟨α, ρ, μ, d, S, R, r, P⟩ => by
  cases d with
  |tup xs=>
   obtain⟨a,vs,rfl,h1,h2⟩:=aD.mp r;have P':aC p H α (if xs.length=n then u xs ρ μ else .bad) _:=P;by_cases hl:xs.length=n
   ·rw[Jo hl]at P';exact⟨a,vs,rfl,by rw[hK];exact h1,by rw[h2.length];exact hl,α,ρ,μ,xs,S,R,h2,P'⟩
   ·rw[Jp hl]at P';exact P'.elim
  |non=>exact P.elim
  |bl b=>exact P.elim
  |int i=>exact P.elim
  |str x=>exact P.elim
  |frz xs=>exact P.elim
  |obj n=>exact P.elim
theorem Bz{o i d:D}{μ:au}{H:Hp}{α:List Addr}{R:Unit->au->Hp->List Addr->Prop}{vo vi v:V}(S:p.S H α μ)(ro:p.R H α o vo)(ri:p.R H α i vi)(rv:p.R H α d v)(P:aC p H α (wO o i d μ) R) :
  Dc vo vi v H fun H'=>∃μ',p.X H H' α α/\p.S H' α μ'/\R () μ' H' α:=by
 unfold wO at P;split at P
 ·rename_i n k;split at P
  ·rename_i xs hx;split at P
   ·rename_i j hj;obtain⟨a,ea,us,hH,rr⟩:=S.at hx;obtain⟨a',rfl,ea'⟩:=aN.mp ro;rw[ea]at ea';cases ea';rw[ak.mp ri];have q:=rr.set rv j;refine⟨a,us,k,j,rfl,rfl,hH,by rw[rr.length];exact hj,_,iP hH,S.put hx ea hH q,?_⟩;exact P _ _ (iP hH) (S.put hx ea hH q)
   ·exact P.elim
  ·exact P.elim
 ·exact P.elim
theorem Eh{o i:Expr}{fo fi:ME}(ho:PE X o (tD p fo))(hi:PE X i (tD p fi))
  (ha : ∀ v, assign (.Subscript o i pos) X.env v = (do
   let ov <- holding [v] (eval o X.env)
   let iv <- holding [v,ov] (eval i X.env)
   standAt pos
   holding [v,ov,iv] (setItem ov iv v)
   release [v,ov,iv] [])):PG X (.Subscript o i pos) (l7 p (sr fo fi)):=
 (EJ ho hi zO ha).weak fun v σ H Q ⟨α, ρ, μ, d, S, R, r, P⟩ => ⟨α, ρ, μ, S, R, (aC.bind P).imp fun od μ1 H1 α1 X1 S1 P1 vo ro => ⟨α1, ρ, μ1, S1, R.mono X1, (aC.bind P1).imp fun id μ2 H2 α2 X2 S2 P2 vi ri => by
  obtain⟨pp,xs,k,j,e1,e2,e3,e4,μ3,x3,s3,q⟩:=Bz S2 (ro.mono X2) ri ((r.mono X1).mono X2) (aC.bind P2)
  exact⟨pp,xs,k,j,e1,e2,e3,e4,q.now s3 σ (((R.mono X1).mono X2).mono x3)⟩⟩⟩
end
inductive mP where
 |fix (xs:List D)|own (n:Nat) (xs:List D)|eno (n:Nat) (xs:List D)
def Du:Nat->List D->List D
 |_,[]=>[]
 |i,x::r=>.tup [.int i,x]::Du (i+1) r
def mP.items:mP->List D
 |.fix xs=>xs
 |.own _ xs=>xs
 |.eno _ xs=>Du 0 xs
def bB:mP->au->Prop
 |.fix _,_=>True
 |.own n xs,μ=>μ[n]?=some (.lst xs)
 |.eno n xs,μ=>μ[n]?=some (.lst xs)
def w8(p:Pa)(J:It)(src:mP)(H0:Hp)(α0:List Addr):Prop:=
 ∀H2 α2 μ2,p.X H0 H2 α0 α2->p.S H2 α2 μ2->bB src μ2 ->
  (∀(i:Nat) d,src.items[i]?=some d->J.go i H2/\∀x H3,J.yld i H2 x H3->p.X H2 H3 α2 α2/\p.S H3 α2 μ2/\p.R H3 α2 d x)/\J.stop src.items.length H2
abbrev MI:=Ro->au->af mP
def qo(p:Pa)(f:MI):TI:=fun σ H R=>∃α ρ μ,p.S H α μ/\cZ p.K H α ρ σ/\aC p H α (f ρ μ) (fun src μ' H' α'=>∀J,bB src μ'->w8 p J src H' α'->R J H')
def SO.loop(o:SO)(k:Ro->au->SO):SO:=match o with
 |.next ρ μ=>k ρ μ
 |.cnt ρ μ=>k ρ μ
 |.brk ρ μ=>.next ρ μ
 |.ret d μ=>.ret d μ
 |.exc x μ=>.exc x μ
 |.bad=>.bad
open Classical in
def cY(src:mP)(g:MG)(fb:MS):List D->Ro->au->SO
 |[],ρ,μ=>if bB src μ then .next ρ μ else .bad
 |d::r,ρ,μ=>if bB src μ then (g d ρ μ).bindS fun ρ' μ'=>(fb ρ' μ').loop (cY src g fb r) else .bad
def lA(fi:MI)(g:MG)(fb:MS):MS:=fun ρ μ=>(fi ρ μ).bindS fun src μ1=>cY src g fb src.items ρ μ1
section
variable{p:Pa}{X:Cx}{tg iter c:Expr}{fi:MI}{g:MG}{fb:MS}{ft:MT}{body:List Stmt}{pos:Pos}
theorem xG{H:Hp}{α:List Addr}{o:SO}{k:Ro->au->SO}{D:nt}{N:St->Hp->Prop}(h:fP p H α (o.loop k) D)
  (hN:∀ρ μ H' α' σ',p.X H H' α α'->p.S H' α' μ->cZ p.K H' α' ρ σ'->fP p H' α' (k ρ μ) D->N σ' H'):fP p H α o {D with nx:=N,ct:=N,bk:=D.nx}:=by
 cases o with
 |next ρ μ=>exact fun H' α' σ' e s r=>hN ρ μ H' α' σ' e s r (fP.from e h)
 |cnt ρ μ=>exact fun H' α' σ' e s r=>hN ρ μ H' α' σ' e s r (fP.from e h)
 |brk ρ μ=>exact h
 |ret d μ=>exact h
 |exc x μ=>exact h
 |bad=>exact h
theorem Ea(hp:PassesOwn (model X.prog X.w) X.A X.env X.xe)(hc:X.calm=true)(hi:PI X tg iter (qo p fi))(hg:PG X tg (l7 p g))(hb:jV X body (iY p fb))(hs:∀x,foldedSetIterable iter X.env x=pure x) :
  PS X (.For tg iter body [] pos) (iY p (lA fi g fb)):=(EE hp hc hi hg hb hs).weak fun D σ H ⟨α,ρ,μ,S,R,P⟩=>by
 refine⟨α,ρ,μ,S,R,(aC.bindS P).imp fun src μ1 H1 α1 X1 S1 P1 J hok hJ=>?_⟩
 refine⟨fun i m σ2 H2=>m=src.items.length-i/\i<=src.items.length/\∃α2 ρ2 μ2,p.X H1 H2 α1 α2/\p.S H2 α2 μ2/\cZ p.K H2 α2 ρ2 σ2/\fP p H2 α2 (cY src g fb (src.items.drop i) ρ2 μ2) D,
  ⟨_,rfl,Lj _,α1,ρ,μ1,kE.refl,S1,R.mono X1,by simpa using P1⟩,?_⟩
 rintro i m σ2 H2 ⟨rfl,hi,α2,ρ2,μ2,X2,S2,R2,P2⟩
 by_cases hlt:i<src.items.length
 ·rw [Nl hlt] at P2;unfold cY at P2;by_cases ho:bB src μ2
  ·rw [Jo ho] at P2;obtain⟨hgo,hy⟩:=(hJ H2 α2 μ2 X2 S2 ho).1 i _ (MR hlt)
   refine .inr ⟨hgo,fun σ' H'=>i+1<=src.items.length/\∃α2 ρ2 μ2,p.X H1 H' α1 α2/\p.S H' α2 μ2/\cZ p.K H' α2 ρ2 σ'/\fP p H' α2 (cY src g fb (src.items.drop (i+1)) ρ2 μ2) D,
    fun σ' H' ⟨h1,h2⟩=>⟨_,by omega,rfl,h1,h2⟩,fun x H3 yx=>?_⟩
   obtain⟨X3,S3,R3⟩:=hy x H3 yx;refine⟨α2,ρ2,μ2,_,S3,R2.mono X3,R3,(aC.from X3 (aC.bindS P2)).imp fun ρ4 μ4 H4 α4 X4 S4 P4 σ4 R4=>⟨α4,ρ4,μ4,S4,R4,xG P4 fun ρ5 μ5 H5 α5 σ5 X5 S5 R5 P5=>⟨hlt,α5,ρ5,μ5,((X2.trans X3).trans X4).trans X5,S5,R5,P5⟩⟩⟩
  ·rw[Jp ho]at P2;exact P2.elim
 ·have e : i = src.items.length := by omega
  subst e;rw[Nn]at P2;unfold cY at P2;by_cases ho:bB src μ2
  ·rw[Jo ho]at P2;exact .inl ⟨(hJ H2 α2 μ2 X2 S2 ho).2,P2 H2 α2 σ2 kE.refl S2 R2⟩
  ·rw[Jp ho]at P2;exact P2.elim
end
section
variable{p:Pa}{X:Cx}{tg iter:Expr}
theorem xJ{H:Hp}{α:List Addr}{μ:au}{n:Nat}{xs:List D}{a:Addr}(S:p.S H α μ)(hn:μ[n]?=some (.lst xs))(ha:α[n]?=some a):w8 p (HH p.K a) (.own n xs) H α:=by
 intro H2 α2 μ2 X2 S2 ho;obtain⟨a',ea,vs,hH,rr⟩:=S2.at ho;rw[X2.pre n a ha]at ea;cases ea;refine⟨fun i d hd=>?_,vs,eT.of hH,by rw[rr.length];exact JY _⟩;obtain⟨v,hv,rv⟩:=rr.get hd;refine⟨⟨vs,v,eT.of hH,hv⟩,fun x H3 ⟨e,hx⟩=>?_⟩;subst e;have:=hx vs (eT.of hH);rw[hv]at this;cases this;exact⟨kE.refl,S2,rv⟩
theorem Ap{H:Hp}{α:List Addr}{xs:List D}{vs:List V}{a:Addr}(h:C1 p.K H a vs)(r:p.Rs H α xs vs):w8 p (HH p.K a) (.fix xs) H α:=by
 intro H2 α2 μ2 X2 S2 ho;have h2:=(X2.frz a vs h).sq;have rr:=r.mono X2;refine⟨fun i d hd=>?_,vs,h2,by rw[rr.length];exact JY _⟩;obtain⟨v,hv,rv⟩:=rr.get hd;refine⟨⟨vs,v,h2,hv⟩,fun x H3 ⟨e,hx⟩=>?_⟩;subst e;have:=hx vs h2;rw[hv]at this;cases this;exact⟨kE.refl,S2,rv⟩
theorem Ao{H:Hp}{α:List Addr}{xs:List D}{vs:List V}{a:Addr}(h:fu p.K H a vs)(r:p.Rs H α xs vs):w8 p (HS p.K a) (.fix xs) H α:=by
 intro H2 α2 μ2 X2 S2 ho;have h2:=X2.tup a vs h;have rr:=r.mono X2;refine⟨fun i d hd=>?_,vs,h2,by rw[rr.length];exact JY _⟩;obtain⟨v,hv,rv⟩:=rr.get hd;refine⟨⟨vs,v,h2,hv⟩,fun x H3 ⟨e,hx⟩=>?_⟩;subst e;have:=hx vs h2;rw[hv]at this;cases this;exact⟨kE.refl,S2,rv⟩
def cJ(lo:Int)(n:Nat):List D:=(List.range n).map fun(i:Nat)=>D.int (lo+(i:Int))
theorem tM{H:Hp}{α:List Addr}(lo:Int)(n:Nat):w8 p (F4 lo n) (.fix (cJ lo n)) H α:=by
 intro H2 α2 μ2 X2 S2 ho;refine⟨fun i d hd=>?_,by simp[mP.items,cJ,F4]⟩;have hd':(cJ lo n)[i]?=some d:=hd;unfold cJ at hd';rw[Kh]at hd';by_cases hi:i<n
 ·rw[Mw hi]at hd';cases hd';refine⟨hi,fun x H3 ⟨e,hx⟩=>?_⟩;subst e;subst hx;exact⟨kE.refl,S2,ak.mpr rfl⟩
 ·rw[Mx (by simpa using hi)]at hd';cases hd'
def uB(d:D)(μ:au):af mP:=match d with
 |.tup xs=>.ok (.fix xs) μ
 |.frz xs=>.ok (.fix xs) μ
 |.obj n=>match μ[n]? with
  |some (.lst xs)=>.ok (.own n xs) μ
  |_=>.bad
 |_=>.bad
def fA(f:ME):MI:=fun ρ μ=>(f ρ μ).bind uB
def Io(K:W.Frag)(tl:TE):TI:=fun σ H R=>tl σ H fun x H1=>∃a,x=.ref a/\(((∃xs,eT K H1 a xs)/\R (HH K a) H1)\/((∃xs,fu K H1 a xs)/\R (HS K a) H1))
theorem EH{l:Expr}{tl:TE}(hl:PE X l tl):PI X tg l (Io X.K tl):=by
 intro pins s σ H R I h;refine d3 (hl pins s σ H _ I h) fun v s1 ⟨x,H1,I1,r1,q1⟩=>?_;obtain⟨a,e,q⟩:=q1;subst e;cases r1;rcases q with⟨⟨xs,hq⟩,q⟩|⟨⟨xs,hq⟩,q⟩
 ·obtain ⟨its, rv, p, hz⟩ := I1.list hq;refine Mi p.isList ?_;refine⟨s1.heap.objs.size,[s1.heap.objs.size],_,_,H1,rfl,I1.kept (t':=s1.toks) fun b o e=>JW _ e,xb a _,⟨_,JX _ rfl,rfl,rfl⟩,fun b hb=>?_,q⟩;have e:b=s1.heap.objs.size:=by simpa using hb
  subst e;exact I1.fpOk (JY _) (I1.hok.fresh (JY _))
 ·obtain ⟨its, rv, p, hz⟩ := I1.tuple hq;refine Mo (show s1.heap.IsTuple a its.toArray from p) ?_;refine⟨s1.heap.objs.size,[s1.heap.objs.size],_,_,H1,rfl,I1.kept (t':=s1.toks) fun b o e=>JW _ e,uY a _,⟨_,JX _ rfl,rfl,rfl⟩,fun b hb=>?_,q⟩;have e:b=s1.heap.objs.size:=by simpa using hb
  subst e;exact I1.fpOk (JY _) (I1.hok.fresh (JY _))
theorem Ef{l:Expr}{f:ME}(hK:X.K=p.K)(hl:PE X l (tD p f)):PI X tg l (qo p (fA f)):=(EH hl).weak fun σ H R ⟨α,ρ,μ,S,Rr,P⟩=>by
 refine⟨α,ρ,μ,S,Rr,(aC.bind P).imp fun d μ1 H1 α1 X1 S1 P1 v rv=>?_⟩;rw[hK];cases d with
 |tup xs=>
  obtain⟨a,vs,rfl,h1,h2⟩:=aD.mp rv;exact⟨a,rfl,.inr ⟨⟨vs,h1⟩,P1.now S1 _ trivial (Ao h1 h2)⟩⟩
 |frz xs=>
  obtain⟨a,vs,rfl,h1,h2⟩:=bf.mp rv;exact⟨a,rfl,.inl ⟨⟨vs,h1.sq⟩,P1.now S1 _ trivial (Ap h1 h2)⟩⟩
 |obj n=>
  obtain⟨a,rfl,ha⟩:=aN.mp rv;unfold uB at P1;dsimp only at P1;split at P1
  ·rename_i xs hx;obtain⟨a',ea,vs,hH,rr⟩:=S1.at hx;rw[ha]at ea;cases ea;exact⟨a,rfl,.inl ⟨⟨vs,eT.of hH⟩,P1.now S1 _ hx (xJ S1 hx ha)⟩⟩
  ·exact P1.elim
 |non=>exact P1.elim
 |bl b=>exact P1.elim
 |int i=>exact P1.elim
 |str x=>exact P1.elim
def kd(ds:List D)(μ:au):af mP:=match ds with
 |[.int j]=>if -(2^62)<=j/\j<2^62 then .ok (.fix (cJ 0 j.toNat)) μ else .bad
 |_=>.bad
def wQ(ds:List D)(μ:au):af mP:=match ds with
 |[.int i,.int j]=>if -(2^62)<=i/\i<2^62/\-(2^62)<=j/\j<2^62 then .ok (.fix (cJ i (j-i).toNat)) μ else .bad
 |_=>.bad
def kF(f:List D->au->af mP)(fa:MA):MI:=fun ρ μ=>(fa ρ μ).bind f
theorem xm {a:Expr}{fa:MA}{px pos:Pos} (hg:Gl X "range") (hm:X.mg "range" = none) (ha:PA X [a] (l8 p fa)) (hs:starEach [a] X.env=[(false,eval a X.env)]):PI X tg (.Call (.Name "range" px) [a] [] pos) (qo p (kF kd fa)):=
 (xu hg hm ha hs).weak fun σ H R ⟨α, ρ, μ, S, Rr, P⟩ => ⟨α, ρ, μ, S, Rr, (aC.bind P).imp fun ds μ1 H1 α1 X1 S1 P1 vs rv => by
  unfold kd at P1;split at P1
  ·rename_i j;obtain⟨v,rfl,r1⟩:=rv.one;rw[ak.mp r1];split at P1
   ·rename_i hj;exact⟨j,rfl,hj.1,hj.2,P1.now S1 _ trivial (tM 0 _)⟩
   ·exact P1.elim
  ·exact P1.elim⟩
theorem xl {a b:Expr}{fa:MA}{px pos:Pos} (hg:Gl X "range") (hm:X.mg "range" = none) (ha:PA X [a,b] (l8 p fa)) (hs:starEach [a,b] X.env=[(false,eval a X.env),(false,eval b X.env)]) (hs2:starEach [b] X.env=[(false,eval b X.env)]):PI X tg (.Call (.Name "range" px) [a,b] [] pos) (qo p (kF wQ fa)):=
 (xt hg hm ha hs hs2).weak fun σ H R ⟨α, ρ, μ, S, Rr, P⟩ => ⟨α, ρ, μ, S, Rr, (aC.bind P).imp fun ds μ1 H1 α1 X1 S1 P1 vs rv => by
  unfold wQ at P1;split at P1
  ·rename_i i j;obtain⟨v,u,rfl,r1,r2⟩:=rv.two;rw[ak.mp r1,ak.mp r2];split at P1
   ·rename_i hj;exact⟨i,j,rfl,hj,P1.now S1 _ trivial (tM i _)⟩
   ·exact P1.elim
  ·exact P1.elim⟩
end
def af.nox{β:Type}(o:af β):af β:=match o with
 |.exc _ _=>.bad
 |o=>o
@[simp] theorem ab {β:Type}{a:β}{μ:au}:(af.ok a μ).nox=.ok a μ:=Nj (Nk _)
abbrev Pa.nx(p:Pa):Pa:=⟨p.K,p.w,fun _ _ _ _=>False⟩
theorem dB{β γ:Type}{p:Pa}{H:Hp}{α:List Addr}{o:af β}{k:β->au->af γ}{R:γ->au->Hp->List Addr->Prop}(h:aC p H α (o.nox.bind k) R):aC p.nx H α o (fun a μ1 H1 α1=>aC p H1 α1 (k a μ1) R):=by
 cases o with
 |ok a μ=>exact fun H' α' e s=>aC.from e h
 |exc x μ=>exact False.elim h
 |bad=>exact h
def eH(cap:List (Option Nat))(ρ:Ro):Ro:=cap.map fun o=>o.bind fun j=>(ρ[j]?).join
theorem cZ.cap{K:W.Frag}{H:Hp}{α:List Addr}{ρ:Ro}{σ:St}(R:cZ K H α ρ σ)(cap:List (Option Nat)):cZ K H α (eH cap ρ) (nE cap σ):=by
 refine⟨by simp[eH,nE],fun i d h=>?_⟩;unfold eH at h;unfold nE;rw[Kh]at h⊢;cases e:cap[i]? with
 |none=>rw[e]at h;cases h
 |some o=>
  rw[e]at h;cases o with
  |none=>simp at h
  |some j=>
   simp at h⊢
   obtain⟨v,h1,h2⟩:=R.at' j d (by
    cases e2:ρ[j]? with
    |none=>rw[e2]at h;simp at h
    |some x=>rw[e2]at h;simp at h;rw[h])
   exact⟨v,by rw[h1];rfl,h2⟩
def pA(n:Nat)(y:D)(μ:au):af Unit:=match μ[n]? with
 |some (.lst ys)=>if ys.length<sizeLine then .ok () (μ.set n (.lst (ys++[y]))) else .bad
 |_=>.bad
open Classical in
def compLoop(src:mP)(n:Nat)(g:MG)(t:MT)(e:ME):List D->Ro->au->af D
 |[],_,μ=>if bB src μ then .ok (.obj n) μ else .bad
 |d::r,ρ,μ=>if bB src μ then (g d ρ μ).nox.bind fun ρ1 μ1=>(t ρ1 μ1).nox.bind fun b μ2=>if b=true then (e ρ1 μ2).nox.bind fun y μ3=>(pA n y μ3).bind fun _ μ4=>compLoop src n g t e r ρ1 μ4 else compLoop src n g t e r ρ1 μ2 else .bad
def cX(fi:MI)(cap:List (Option Nat))(g:MG)(t:MT)(e:ME):ME:=fun ρ μ=>(fi ρ μ).bind fun src μ1=>compLoop src μ1.length g t e src.items (eH cap ρ) (μ1++[.lst []])
def cW:MT:=fun _ μ=>.ok true μ
theorem sV{p:Pa}{n:Nat}{y:D}{μ:au}{H:Hp}{α:List Addr}{R:Unit->au->Hp->List Addr->Prop}{v:V}{acc:Addr}(S:p.S H α μ)(ha:α[n]?=some acc)(rv:p.R H α y v)(P:aC p H α (pA n y μ) R) :
  ∃ys,H acc=some (.lst ys)/\ys.length<sizeLine/\∃μ',p.X H (cG H acc (.lst (ys++[v]))) α α/\p.S (cG H acc (.lst (ys++[v]))) α μ'/\R () μ' (cG H acc (.lst (ys++[v]))) α:=by
 unfold pA at P;split at P
 ·rename_i xs hx;obtain⟨a,ea,us,hH,rr⟩:=S.at hx;rw[ha]at ea;cases ea;split at P
  ·rename_i hl;have q:=rr.snoc rv;exact⟨us,hH,by rw[rr.length];exact hl,_,iP hH,S.put hx ha hH q,P _ _ (iP hH) (S.put hx ha hH q)⟩
  ·exact P.elim
 ·exact P.elim
section
variable{p:Pa}{X:Cx}{tg iter elt:Expr}{ifs:List Expr}{scope:Scope}{Nc:List Str}{cap:List (Option Nat)}{fi:MI}{g:MG}{t:MT}{e:ME}{pos pos':Pos}
theorem qd{σ:St}{H:Hp}{Q:VK}(h:tD p (cX fi cap g t e) σ H Q):yM (qo p fi) cap (l7 p.nx g) (gI p.nx t) (tD p.nx e) σ H Q:=by
 obtain⟨α,ρ,μ,S,R,P⟩:=h;refine⟨α,ρ,μ,S,R,(aC.bind P).imp fun src μ1 H1 α1 X1 S1 P1 J hok hJ acc hacc=>?_⟩;obtain⟨x1,s1,_⟩:=bZ (ds:=[]) (vs:=[]) S1 hacc Reps.nil;have hn:(α1++[acc])[μ1.length]?=some acc:=by rw[<- S1.len];simp
 refine⟨fun i m σ2 H2=>m=src.items.length-i/\i<=src.items.length/\∃α2 ρ2 μ2,p.X H1 H2 α1 α2/\p.S H2 α2 μ2/\cZ p.K H2 α2 ρ2 σ2/\α2[μ1.length]?=some acc/\aC p H2 α2 (compLoop src μ1.length g t e (src.items.drop i) ρ2 μ2) (RV p Q),
  ⟨_,rfl,Lj _,α1++[acc],eH cap ρ,μ1++[.lst []],x1,s1,((R.mono X1).cap cap).mono x1,hn,by simpa using aC.from x1 P1⟩,?_⟩
 rintro i m σ2 H2 ⟨rfl,hi,α2,ρ2,μ2,X2,S2,R2,a2,P2⟩
 by_cases hlt:i<src.items.length
 ·rw [Nl hlt] at P2;unfold compLoop at P2;by_cases ho:bB src μ2
  ·rw [Jo ho] at P2;obtain⟨hgo,hy⟩:=(hJ H2 α2 μ2 X2 S2 ho).1 i _ (MR hlt)
   refine .inr ⟨hgo,fun σ' H'=>i+1<=src.items.length/\∃α2 ρ2 μ2,p.X H1 H' α1 α2/\p.S H' α2 μ2/\cZ p.K H' α2 ρ2 σ'/\α2[μ1.length]?=some acc/\aC p H' α2 (compLoop src μ1.length g t e (src.items.drop (i+1)) ρ2 μ2) (RV p Q),
    fun σ' H' ⟨h1,h2⟩=>⟨_,by omega,rfl,h1,h2⟩,fun x H3 yx=>?_⟩
   obtain⟨X3,S3,R3⟩:=hy x H3 yx;refine⟨α2,ρ2,μ2,_,S3,R2.mono X3,R3,(aC.from (p:=p.nx) X3 (dB P2)).imp fun ρ4 μ4 H4 α4 X4 S4 P4 σ4 R4=>?_⟩;refine⟨α4,ρ4,μ4,S4,R4,(dB P4).imp fun b μ5 H5 α5 X5 S5 P5=>?_⟩;have xx:p.X H1 H5 α1 α5:=((X2.trans X3).trans X4).trans X5;have a5:α5[μ1.length]?=some acc:=X5.pre _ _ (X4.pre _ _ (X3.pre _ _ a2));cases b with
   |false=>
    rw[Jp J4]at P5;refine Gu ?_;exact⟨hlt,α5,ρ4,μ5,xx,S5,R4.mono X5,a5,P5⟩
   |true=>
    rw[Jo rfl]at P5;refine Gs ?_;refine⟨α5,ρ4,μ5,S5,R4.mono X5,(dB P5).imp fun y μ6 H6 α6 X6 S6 P6 v rv=>?_⟩;obtain⟨ys,e1,e2,μ7,x7,s7,q7⟩:=sV (p:=p) S6 (X6.pre _ _ a5) rv (aC.bind P6);exact⟨ys,e1,e2,hlt,α6,ρ4,μ7,(xx.trans X6).trans x7,s7,((R4.mono X5).mono X6).mono x7,X6.pre _ _ a5,q7⟩
  ·rw[Jp ho]at P2;exact P2.elim
 ·have e : i = src.items.length := by omega
  subst e;rw[Nn]at P2;unfold compLoop at P2;by_cases ho:bB src μ2
  ·rw[Jo ho]at P2;exact .inl ⟨(hJ H2 α2 μ2 X2 S2 ho).2,P2 H2 α2 kE.refl S2 _ (aN.mpr ⟨acc,rfl,a2⟩)⟩
  ·rw[Jp ho]at P2;exact P2.elim
theorem Bi{X:Cx}:oN X [] (gI p cW):=fun pins s σ H Q I h=>by
 obtain⟨α,ρ,μ,S,R,P⟩:=h;exact BJ pins s σ H Q I (P.now S)
theorem Bh{X:Cx}{c:Expr}{t:MT}(h:PT X c (gI p t)):oN X [c] (gI p t):=BI h
theorem BB(hc:X.calm=true)(S:bI X.N X.env scope Nc cap)(hi:PI X tg iter (qo p fi))
  (hg:∀cl C s H fp,PG (ij X Nc scope cl C s H fp) tg (l7 p.nx g)) (ht:∀cl C s H fp,oN (ij X Nc scope cl C s H fp) ifs (gI p.nx t)) (he:∀cl C s H fp,PE (ij X Nc scope cl C s H fp) elt (tD p.nx e))
  (hs:∀x,foldedSetIterable iter X.env x=pure x):PE X (.ListComp elt [⟨tg,iter,ifs,0⟩] scope pos) (tD p (cX fi cap g t e)):=
 (BW hc S hi hg ht he hs).weak fun σ H Q h=>qd h
theorem Bk{i:Nat}{x:Str}{pos1:Pos}{pos2:Pos}(hc:X.calm=true)(hN:X.N.Nodup)(hix:X.N[i]?=some x)(hx:X.env.scope.names.lookup x=some .local)(S:bI X.N X.env scope Nc cap)(hi:PI X tg iter (qo p fi))
  (hg:∀cl C s H fp,PG (ij X Nc scope cl C s H fp) tg (l7 p.nx g)) (ht:∀cl C s H fp,oN (ij X Nc scope cl C s H fp) ifs (gI p.nx t)) (he:∀cl C s H fp,PE (ij X Nc scope cl C s H fp) elt (tD p.nx e))
  (hsw:swapsWith (.ListComp elt [⟨tg,iter,ifs,0⟩] scope pos) (some (.Name x pos1)) pos2.line X.env=pure true) (hs:∀x,foldedSetIterable iter X.env x=pure x) :
  PS X (.Assign [.Name x pos1] (.ListComp elt [⟨tg,iter,ifs,0⟩] scope pos) pos2) (iY p (cH (cX fi cap g t e) (ao i))):=
 (BN hc hN hix hx S hi hg ht he hsw hs).weak fun D σ H h => by
  obtain⟨α,ρ,μ,S,R,P⟩:=h;refine qd ⟨α,ρ,μ,S,R,(aC.bindS P).imp fun d μ1 H1 α1 X1 S1 P1 v rv=>?_⟩;exact P1 H1 α1 _ kE.refl S1 ((R.mono X1).set i rv)
end
abbrev MB:=Nat->Ro->au->af Ro
def nD(e:ME):MB:=fun n ρ μ=>(e ρ μ).nox.bind fun y μ1=>(pA n y μ1).bind fun _ μ2=>.ok ρ μ2
open Classical in
def i3(src:mP)(n:Nat)(g:MG)(t:MT)(fb:MB):List D->Ro->au->af Ro
 |[],ρ,μ=>if bB src μ then .ok ρ μ else .bad
 |d::r,ρ,μ=>if bB src μ then (g d ρ μ).nox.bind fun ρ1 μ1=>(t ρ1 μ1).nox.bind fun b μ2=>if b=true then (fb n ρ1 μ2).nox.bind fun ρ2 μ3=>i3 src n g t fb r ρ2 μ3 else i3 src n g t fb r ρ1 μ2 else .bad
def nJ(fi:MI)(g:MG)(t:MT)(fb:MB):MB:=fun n ρ μ=>(fi ρ μ).nox.bind fun src μ1=>i3 src n g t fb src.items ρ μ1
def lK(fi:MI)(cap:List (Option Nat))(g:MG)(t:MT)(fb:MB):ME:=fun ρ μ=>(fi ρ μ).bind fun src μ1=>(i3 src μ1.length g t fb src.items (eH cap ρ) (μ1++[.lst []])).bind fun _ μ2=>.ok (.obj μ1.length) μ2
section
variable{p:Pa}
def wJ(p:Pa)(fb:MB)(acc:Addr):AQ:=fun σ H N=>∃α ρ μ n,p.S H α μ/\cZ p.K H α ρ σ/\α[n]?=some acc/\aC p H α (fb n ρ μ) (fun ρ' _ H' α'=>∀σ',cZ p.K H' α' ρ' σ'->N σ' H')
theorem xS{e:ME}{acc:Addr}{σ:St}{H:Hp}{N:St->Hp->Prop}(h:wJ p (nD e) acc σ H N):yL (tD p.nx e) acc σ H N:=by
 obtain⟨α,ρ,μ,n,S,R,a,P⟩:=h;refine⟨α,ρ,μ,S,R,(dB P).imp fun y μ6 H6 α6 X6 S6 P6 v rv=>?_⟩;obtain⟨ys,e1,e2,μ7,x7,s7,q7⟩:=sV (p:=p) S6 (X6.pre _ _ a) rv (aC.bind P6);exact⟨ys,e1,e2,q7.now s7 σ ((R.mono X6).mono x7)⟩
theorem oi{src:mP}{n:Nat}{g:MG}{t:MT}{fb:MB}{acc:Addr}{J:It}{H1 H0:Hp}{α1 α0:List Addr}{ρ:Ro}{μ1:au}{σ:St}{N:St->Hp->Prop}(X0:p.X H0 H1 α0 α1)(S1:p.S H1 α1 μ1)(R:cZ p.K H1 α1 ρ σ)(hn:α1[n]?=some acc)(hJ:w8 p J src H0 α0)
  (P1:aC p H1 α1 (i3 src n g t fb src.items ρ μ1) (fun ρ' _ H' α'=>∀σ',cZ p.K H' α' ρ' σ'->N σ' H')):HB J (l7 p.nx g) (gI p.nx t) (wJ p.nx fb acc) N σ H1:=by
 refine⟨fun i m σ2 H2=>m=src.items.length-i/\i<=src.items.length/\∃α2 ρ2 μ2,p.X H0 H2 α0 α2/\p.S H2 α2 μ2/\cZ p.K H2 α2 ρ2 σ2/\α2[n]?=some acc/\aC p H2 α2 (i3 src n g t fb (src.items.drop i) ρ2 μ2) (fun ρ' _ H' α'=>∀σ',cZ p.K H' α' ρ' σ'->N σ' H'),
  ⟨_,rfl,Lj _,α1,ρ,μ1,X0,S1,R,hn,by simpa using P1⟩,?_⟩
 rintro i m σ2 H2 ⟨rfl,hi,α2,ρ2,μ2,X2,S2,R2,a2,P2⟩
 by_cases hlt:i<src.items.length
 ·rw [Nl hlt] at P2;unfold i3 at P2;by_cases ho:bB src μ2
  ·rw [Jo ho] at P2;obtain⟨hgo,hy⟩:=(hJ H2 α2 μ2 X2 S2 ho).1 i _ (MR hlt)
   refine .inr ⟨hgo,fun σ' H'=>i+1<=src.items.length/\∃α2 ρ2 μ2,p.X H0 H' α0 α2/\p.S H' α2 μ2/\cZ p.K H' α2 ρ2 σ'/\α2[n]?=some acc/\aC p H' α2 (i3 src n g t fb (src.items.drop (i+1)) ρ2 μ2) (fun ρ' _ H' α'=>∀σ',cZ p.K H' α' ρ' σ'->N σ' H'),
    fun σ' H' ⟨h1,h2⟩=>⟨_,by omega,rfl,h1,h2⟩,fun x H3 yx=>?_⟩
   obtain⟨X3,S3,R3⟩:=hy x H3 yx;refine⟨α2,ρ2,μ2,_,S3,R2.mono X3,R3,(aC.from (p:=p.nx) X3 (dB P2)).imp fun ρ4 μ4 H4 α4 X4 S4 P4 σ4 R4=>?_⟩;refine⟨α4,ρ4,μ4,S4,R4,(dB P4).imp fun b μ5 H5 α5 X5 S5 P5=>?_⟩;have xx:p.X H0 H5 α0 α5:=((X2.trans X3).trans X4).trans X5;have a5:α5[n]?=some acc:=X5.pre _ _ (X4.pre _ _ (X3.pre _ _ a2));cases b with
   |false=>
    rw[Jp J4]at P5;refine Gu ?_;exact⟨hlt,α5,ρ4,μ5,xx,S5,R4.mono X5,a5,P5⟩
   |true=>
    rw[Jo rfl]at P5;refine Gs ?_;refine⟨α5,ρ4,μ5,n,S5,R4.mono X5,a5,(dB P5).imp fun ρ6 μ6 H6 α6 X6 S6 P6 σ' r'=>?_⟩;exact⟨hlt,α6,ρ6,μ6,xx.trans X6,S6,r',X6.pre _ _ a5,P6⟩
  ·rw[Jp ho]at P2;exact P2.elim
 ·have e : i = src.items.length := by omega
  subst e;rw[Nn]at P2;unfold i3 at P2;by_cases ho:bB src μ2
  ·rw[Jo ho]at P2;exact .inl ⟨(hJ H2 α2 μ2 X2 S2 ho).2,P2.now S2 _ R2⟩
  ·rw[Jp ho]at P2;exact P2.elim
theorem vt{fi:MI}{g:MG}{t:MT}{fb:MB}{acc:Addr}{σ:St}{H:Hp}{N:St->Hp->Prop}(h:wJ p.nx (nJ fi g t fb) acc σ H N):za (qo p.nx fi) (l7 p.nx g) (gI p.nx t) (wJ p.nx fb acc) σ H N:=by
 obtain⟨α,ρ,μ,n,S,R,a,P⟩:=h;refine⟨α,ρ,μ,S,R,(dB P).imp fun src μ1 H1 α1 X1 S1 P1 J hok hJ=>?_⟩;exact oi (p:=p.nx) kE.refl S1 (R.mono X1) (X1.pre _ _ a) hJ P1
theorem vx{fi:MI}{cap:List (Option Nat)}{g:MG}{t:MT}{fb:MB}{σ:St}{H:Hp}{Q:VK}(h:tD p (lK fi cap g t fb) σ H Q):nG (fun _=>.lst []) (qo p fi) cap (l7 p.nx g) (gI p.nx t) (fun acc=>wJ p.nx fb acc) σ H Q:=by
 obtain⟨α,ρ,μ,S,R,P⟩:=h;refine⟨α,ρ,μ,S,R,(aC.bind P).imp fun src μ1 H1 α1 X1 S1 P1 J hok hJ acc hacc=>?_⟩;obtain⟨x1,s1,_⟩:=bZ (ds:=[]) (vs:=[]) S1 hacc Reps.nil;have hn:(α1++[acc])[μ1.length]?=some acc:=by rw[<- S1.len];simp
 refine oi (p:=p) x1 s1 (((R.mono X1).cap cap).mono x1) hn hJ ((aC.from x1 (aC.bind P1)).imp fun ρ' μ' H' α' X' S' P' σ' r'=>?_);exact P'.now S' _ (aN.mpr ⟨acc,rfl,X'.pre _ _ hn⟩)
variable{X:Cx}{elt:Expr}{cl0 cl:Comprehension}{rest:List Comprehension}{scope:Scope}{Nc:List Str}{cap:List (Option Nat)}{fi:MI}{g:MG}{t:MT}{fb:MB}{pos:Pos}{e:Expr}{d:Nat}{acc:Addr}
theorem BD{f:ME}{gens:List Comprehension}(hg:gens[d]?=none)(hxe:X.xe=rT)(hel:PE X elt (tD p.nx f)):uz X (.ListComp elt gens scope pos) d acc (wJ p.nx (nD f) acc):=fun pins s σ H N I h=>nT hg hxe hel pins s σ H N I (xS (p:=p.nx) h)
theorem zX(he:kj e=true)(hz:∀g∈clausesOf e,g.is_async=0)(hg:(clausesOf e)[d]?=some cl)(hxe:X.xe=rT)(hc:X.calm=true)(hi:PI X cl.target cl.iter (qo p.nx fi))(hgc:PG X cl.target (l7 p.nx g))(htc:oN X cl.ifs (gI p.nx t))(hb:uz X e (d+1) acc (wJ p.nx fb acc))
  (hs:∀x,foldedSetIterable cl.iter X.env x=pure x):uz X e d acc (wJ p.nx (nJ fi g t fb) acc):=fun pins s σ H N I h=>xv he hz hg hxe hc hi hgc htc hb hs pins s σ H N I (vt h)
theorem zU(hc:X.calm=true)(hz:∀g∈cl0::rest,g.is_async=0)(S:bI X.N X.env scope Nc cap)(hi:PI X cl0.target cl0.iter (qo p fi))
  (hg:∀cl C s H fp,PG (ij X Nc scope cl C s H fp) cl0.target (l7 p.nx g)) (ht:∀cl C s H fp,oN (ij X Nc scope cl C s H fp) cl0.ifs (gI p.nx t)) (hb:∀cl C s H fp acc,uz (ij X Nc scope cl C s H fp) (.ListComp elt (cl0::rest) scope pos) 1 acc (wJ p.nx fb acc))
  (hs:∀x,foldedSetIterable cl0.iter X.env x=pure x):PE X (.ListComp elt (cl0::rest) scope pos) (tD p (lK fi cap g t fb)):=
 (sY hc hz S hi hg ht hb hs).weak fun σ H Q h=>vx h
end
mutual
def D.low(n:Nat):D->Prop
 |.tup xs=>D.lows n xs
 |.frz xs=>D.lows n xs
 |.obj m=>m<n
 |_=>True
def D.lows(n:Nat):List D->Prop
 |[]=>True
 |x::xs=>x.low n/\D.lows n xs
end
def O.low(n:Nat):O->Prop
 |.lst xs=>D.lows n xs
 |_=>True
section
variable{K:W.Frag}{H:Hp}{α α':List Addr}
mutual
theorem aL.low:∀{d:D}{v:V},aL K H α d v->d.low α.length
 |.non,_,_=>trivial
 |.bl _,_,_=>trivial
 |.int _,_,_=>trivial
 |.str _,_,_=>trivial
 |.tup xs,_,h=>by
  obtain⟨a,vs,rfl,h1,h2⟩:=aD.mp h;simp only[D.low];exact Reps.low h2
 |.frz xs,_,h=>by
  obtain⟨a,vs,rfl,h1,h2⟩:=bf.mp h;simp only[D.low];exact Reps.low h2
 |.obj n,_,h=>by
  obtain⟨a,rfl,h1⟩:=aN.mp h;simp only[D.low];exact(JG.mp h1).1
theorem Reps.low:∀{ds:List D}{vs:List V},Reps K H α ds vs->D.lows α.length ds
 |[],_,_=>trivial
 |d::ds,_,h=>by
  simp only[Reps]at h;obtain⟨v,r,rfl,h1,h2⟩:=h;simp only[D.lows];exact⟨aL.low h1,Reps.low h2⟩
end
mutual
theorem aL.cut{n:Nat}(e:∀m,m<n->α'[m]?=α[m]?):∀{d:D}{v:V},aL K H α' d v->d.low n->aL K H α d v
 |.non,_,h,_=>by simp only[aL]at h⊢;exact h
 |.bl _,_,h,_=>by simp only[aL]at h⊢;exact h
 |.int _,_,h,_=>by simp only[aL]at h⊢;exact h
 |.str _,_,h,_=>by simp only[aL]at h⊢;exact h
 |.tup xs,_,h,b=>by
  obtain⟨a,vs,rfl,h1,h2⟩:=aD.mp h;simp only[D.low]at b;exact aD.mpr ⟨a,vs,rfl,h1,Reps.cut e h2 b⟩
 |.frz xs,_,h,b=>by
  obtain⟨a,vs,rfl,h1,h2⟩:=bf.mp h;simp only[D.low]at b;exact bf.mpr ⟨a,vs,rfl,h1,Reps.cut e h2 b⟩
 |.obj m,_,h,b=>by
  obtain⟨a,rfl,h1⟩:=aN.mp h;simp only[D.low]at b;exact aN.mpr ⟨a,rfl,by rw[<- e m b];exact h1⟩
theorem Reps.cut{n:Nat}(e:∀m,m<n->α'[m]?=α[m]?):∀{ds:List D}{vs:List V},Reps K H α' ds vs->D.lows n ds->Reps K H α ds vs
 |[],_,h,_=>by simp only[Reps]at h⊢;exact h
 |d::ds,_,h,b=>by
  simp only[Reps]at h⊢;obtain⟨v,r,rfl,h1,h2⟩:=h;simp only[D.lows]at b;exact⟨v,r,rfl,aL.cut e h1 b.1,Reps.cut e h2 b.2⟩
end
end
def DD(μ μ':au)(d:D):Prop:=d.low μ.length/\μ.length<=μ'.length/\∀(i:Nat) o,i<μ.length->μ'[i]?=some o->μ[i]?=some o\/o.low μ.length
open Classical in
def oK(μ:au)(o:af D):af D:=match o with
 |.ok d μ'=>if DD μ μ' d then .ok d (μ'.take μ.length) else .ok d μ'
 |o=>o
theorem wx{p:Pa}{H:Hp}{α:List Addr}{μ:au}{o:af D}{Q:VK}(S:p.S H α μ)(P:aC p H α (oK μ o) (RV p Q)):aC p H α o (RV p Q):=by
 cases o with
 |exc x μ'=>exact P
 |bad=>exact P
 |ok d μ'=>
  unfold oK at P;dsimp only at P;by_cases hg:DD μ μ' d
  ·rw [Jo hg] at P;obtain⟨g1,g2,g3⟩:=hg;intro H' α' e s v rv
   have al:∀m,m<μ.length->α'[m]?=α[m]?:=fun m hm=>by
    have hm':m<α.length:=by rw[S.len];exact hm
    rw[MR hm'];exact e.pre m _ (MR hm')
   refine P H' α ⟨e.tup,e.frz,fun _ _ z=>z⟩ ⟨by rw[Kd,S.len];omega,S.nd,fun n o a h1 h2=>?_⟩ v (aL.cut al rv g1);have hn:n<μ.length:=by rw[<- S.len];exact(JG.mp h2).1
   rw[List.getElem?_take_of_lt hn]at h1;have q:=s.ob n o a h1 (e.pre n a h2)
   have ob:o.low μ.length:=by
    rcases g3 n o hn h1 with z|z
    ·have q0 := S.ob n o a z h2;cases o with
     |lst xs=>obtain⟨vs,_,r⟩:=q0;have:=r.low;rw[S.len]at this;exact this
     |set ks=>trivial
     |iset ks=>trivial
     |dic=>trivial
     |exc c=>trivial
    ·exact z
   cases o with
   |lst xs=>obtain⟨vs,h3,r⟩:=q;exact⟨vs,h3,Reps.cut al r ob⟩
   |set ks=>exact q
   |iset ks=>exact q
   |dic=>exact q
   |exc c=>exact q
  ·rw[Jp hg]at P;exact P
def SO.out(o:SO):af D:=match o with
 |.ret d μ=>.ok d μ
 |.next _ μ=>.ok .non μ
 |.exc x μ=>.exc x μ
 |_=>.bad
def jc(n N:Nat)(fb:MS):List D->au->af D:=fun ds μ=>if ds.length=n then oK μ (fb (ds.map some++List.replicate (N-n) none) μ).out else .bad
def CW(p:Pa)(n:Nat)(F:List D->au->af D):Sp:=fun vs H Q _=>vs.length=n/\∃α ds μ,p.S H α μ/\p.Rs H α ds vs/\aC p H α (F ds μ) (RV p Q)
structure dW(P:Program)(w:World)(K:W.Frag)(mg:Str->Option Value)(base:Heap)(p:Pa)(k:Nat)(x:Str)(n:Nat)(F:List D->au->af D):Prop where
 len:∀ds μ,ds.length≠n->F ds μ=.bad
 fn:∃f fd ps,mg x=some (.ref f)/\W.keepIn K (.ref f)=true/\i5 K fd ps []/\oS P w K mg base yo k f fd ps (CW p n F)
section
variable{p:Pa}{X:Cx}{k n:Nat}{x:Str}{F:List D->au->af D}{a:Expr}{es:List Expr}{fr:MA}{pos px:Pos}
theorem BC (h:dW X.prog X.w X.K X.mg X.base p k x n F) (hr:gu k X.A) (hg:Gl X x) (ha:PA X (a::es) (l8 p fr)) (hdb:(x == ("__debug__" : Str))=false) (he:starEach (a::es) X.env=(false,eval a X.env)::starEach es X.env) (hpl:(backTo pos (starEach es X.env)).any (·.1)=false) :
  PE X (.Call (.Name x px) (a::es) [] pos) (tD p (aF F fr)):=by
 obtain⟨f,fd,ps,h1,h2,h3,h4⟩:=h.fn;refine(BY (dvs:=[]) (E:=E0) h4 hr hg h1 h2 h3 .nil G9 ha hdb he hpl).weak fun σ H Q ⟨α,ρ,μ,S,R,P⟩=>⟨α,ρ,μ,S,R,(aC.bind P).imp fun ds μ1 H1 α1 X1 S1 P1 vs rv=>?_⟩;show CW p n F (vs++[]) H1 Q E0;rw[J7];refine⟨?_,α1,ds,μ1,S1,rv,P1⟩;by_cases hl:ds.length=n
 ·rw[rv.length];exact hl
 ·rw[h.len ds μ1 hl]at P1;exact P1.elim
end
theorem ox{K:W.Frag}{H:Hp}{α:List Addr}{ds:List D}{vs:List V}(r:Reps K H α ds vs)(m:Nat):cZ K H α (ds.map some++List.replicate m none) (vs.map some++List.replicate m none):=by
 refine⟨by simp[r.length],fun i d h=>?_⟩;by_cases hi:i<ds.length
 ·rw [Kg (by simpa using hi), Kh] at h;cases e:ds[i]? with
  |none=>rw[e]at h;cases h
  |some x=>
   rw[e]at h;cases h;obtain⟨v,hv,rv⟩:=r.get e;refine⟨v,?_,rv⟩;rw[Kg (by simp[r.length,hi]),Kh,hv];rfl
 ·rw[Kf (by simpa using hi),List.getElem?_replicate]at h;split at h <;> cases h
theorem FV{P:Program}{w:World}{K:W.Frag}{mg:Str->Option Value}{base:Heap}{p:Pa}{k n:Nat}{x qual:Str}{st:Stmt}{f:Addr}{fd:FuncData}{N ps:List Str}{fb:MS}
  (F:ig K x qual st f fd) (S:aW N ps (ar st)) (hn:ps.length=n) (hm:mg x=some (.ref f)) (hb:i5 K fd ps [])
  (body : ∀ (cdv : Value) (A : Around) (outer : List Env) (s : Shared) (H : Hp) (E : XK), gu k (A.deeper (envOfC qual (ar st) s.heap.objs.size f cdv)) ->
   jV (qt yo P w K mg base N qual (ar st) f cdv A outer s H E).nox (cz st) (iY p fb)):dW P w K mg base p (k+1) x n (jc n N.length fb):=by
 refine⟨fun ds μ h=>by unfold jc;rw[Jp h],f,fd,ps,hm,F.kp,hb,?_⟩;refine F.ok S (fun vs H Q E h=>h.1.trans hn.symm) fun cdv A outer s H vs Q E hr h=>?_;refine⟨_,body cdv A outer s H E hr,?_⟩;obtain⟨hl,α,ds,μ,S1,R1,P1⟩:=h;unfold jc at P1;have hd:ds.length=n:=by rw[<- R1.length];exact hl
 rw[Jo hd]at P1;have P2:=wx S1 P1;unfold start;rw[hl];refine⟨α,_,μ,S1,ox R1 _,?_⟩;cases e:fb (ds.map some++List.replicate (N.length-n) none) μ with
 |ret d μ'=>rw[e]at P2;exact fun H' α' v x s r=>P2 H' α' x s v r
 |next ρ μ'=>rw[e]at P2;exact fun H' α' σ' x s r=>P2 H' α' x s .non (bV.mpr rfl)
 |exc x μ'=>rw[e]at P2;exact P2
 |brk ρ μ'=>rw[e]at P2;exact P2.elim
 |cnt ρ μ'=>rw[e]at P2;exact P2.elim
 |bad=>rw[e]at P2;exact P2.elim
end L2
namespace L2
open PySem PySem.Spec PyProof.Rows RS
section
variable(K:W.Frag)(H:Hp)
mutual
def lz:PyData->V->Prop
 |.none,v=>v=.non
 |.bool b,v=>v=.bl b
 |.int i,v=>v=.int i
 |.str x,v=>v=.str x
 |.tuple xs,v=>∃a vs,v=.ref a/\fu K H a vs/\RdPs xs vs
 |.list xs,v=>∃a vs,v=.ref a/\eT K H a vs/\RdPs xs vs
 |.dict _,_=>False
def RdPs:List PyData->List V->Prop
 |[],vs=>vs=[]
 |x::xs,vs=>∃v r,vs=v::r/\lz x v/\RdPs xs r
end
end
section
variable{X:Cx}{pins:List (Addr×Obj)}{σ:St}{H:Hp}{s:Shared}
mutual
theorem dz(I:aS X pins σ H s):∀(d:PyData)(x:V)(v:Value),lz X.K H d x->cq x v->∃as,Reads s.heap v d as
 |.none,_,_,h,r=>by simp only[lz]at h;subst h;cases r;exact⟨_,.none⟩
 |.bool b,_,_,h,r=>by simp only[lz]at h;subst h;cases r;exact⟨_,.bool b⟩
 |.int b,_,_,h,r=>by simp only[lz]at h;subst h;obtain⟨t,rfl⟩:=r;exact⟨_,.int b t⟩
 |.str b,_,_,h,r=>by simp only[lz]at h;subst h;obtain⟨t,rfl⟩:=r;exact⟨_,.str b t⟩
 |.tuple xs,_,_,h,r=>by
  simp only[lz]at h;obtain⟨a,vs,rfl,h1,h2⟩:=h;cases r;obtain⟨its,rv,⟨o,e1,e2,n,e3⟩,_⟩:=I.tuple h1;obtain⟨as,q⟩:=readsAll_of I xs vs its h2 rv;exact⟨_,.tuple e1 e2 e3 (by simpa using q)⟩
 |.list xs,_,_,h,r=>by
  simp only[lz]at h;obtain⟨a,vs,rfl,h1,h2⟩:=h;cases r;obtain⟨its,rv,⟨o,n,e1,e2,_,e3⟩,_⟩:=I.list h1;obtain⟨as,q⟩:=readsAll_of I xs vs its h2 rv;exact⟨_,.list e1 e2 e3 (by simpa using q)⟩
 |.dict _,_,_,h,_=>by simp only[lz]at h
theorem readsAll_of(I:aS X pins σ H s):∀(ds:List PyData)(xs:List V)(vs:List Value),RdPs X.K H ds xs->aX xs vs->∃as,ReadsAll s.heap vs ds as
 |[],_,_,h,r=>by simp only[RdPs]at h;subst h;cases r;exact⟨_,.nil⟩
 |d::ds,_,_,h,r=>by
  simp only[RdPs]at h;obtain⟨v,q,rfl,h1,h2⟩:=h;cases r with
  |cons r rr=>
   obtain⟨as,g1⟩:=dz I d _ _ h1 r;obtain⟨bs,g2⟩:=readsAll_of I ds _ _ h2 rr;exact⟨_,.cons g1 g2⟩
end
def eU(d:PyData):Bool:=d.canLay0&&decide (d.depth<=60)
def uC(K:W.Frag)(neg:Bool):R2:=fun x y H Q=>∃a b,lz K H a x/\lz K H b y/\eU a=true/\eU b=true/\Q (.bl (if neg then !PyData.eqv a b else PyData.eqv a b)) H
theorem lQ{a b:PyData}{A:Around}(ha:eU a=true)(hu:A.units+64<cLine):A.units+min a.depth b.depth<cLine:=by
 unfold eU at ha;simp only[KJ,Np]at ha;have:=Nat.min_le_left a.depth b.depth;omega
theorem cb{a:PyData}(ha:eU a=true):a.canLay0=true:=by
 unfold eU at ha;simp only[KJ,Np]at ha;exact ha.1
theorem oq{a:PyData}(ha:eU a=true):a.depth<=60:=by
 unfold eU at ha;simp only[KJ,Np]at ha;exact ha.2
theorem uP(hu:X.A.units+64<cLine):iZ X (compareOp .Eq) (uC X.K false):=by
 intro pins s σ H x y v u Q I rx ry h;obtain⟨a,b,h1,h2,h3,h4,q⟩:=h;obtain⟨as,r1⟩:=dz I a x v h1 rx;obtain⟨bs,r2⟩:=dz I b y u h2 ry;exact SeqAt.compareEq_reads r1 r2 (cb h3) (cb h4) (lQ h3 hu) ⟨.bl _,H,I,rfl,q⟩
theorem EZ(hu:X.A.units+64<cLine):iZ X (compareOp .NotEq) (uC X.K true):=by
 intro pins s σ H x y v u Q I rx ry h;obtain⟨a,b,h1,h2,h3,h4,q⟩:=h;obtain⟨as,r1⟩:=dz I a x v h1 rx;obtain⟨bs,r2⟩:=dz I b y u h2 ry;exact SeqAt.compareNe_reads r1 r2 (cb h3) (cb h4) (lQ h3 hu) ⟨.bl _,H,I,rfl,q⟩
def yy(K:W.Frag)(neg:Bool):R2:=fun x y H Q=>∃a b xs,lz K H a x/\lz K H b y/\(b=.list xs\/b=.tuple xs)/\eU a=true/\eU b=true/\Q (.bl (if neg then !(xs.any fun y=>PyData.eqv y a) else xs.any fun y=>PyData.eqv y a)) H
theorem E3(hu:X.A.units+64<cLine):iZ X (compareOp .In) (yy X.K false):=by
 intro pins s σ H x y v u Q I rx ry h;obtain⟨a,b,xs,h1,h2,hb,h3,h4,q⟩:=h;obtain⟨as,r1⟩:=dz I a x v h1 rx;obtain⟨bs,r2⟩:=dz I b y u h2 ry;have hd:=oq h3;rcases hb with rfl|rfl
 ·refine SeqAt.in_list_reads r2 r1 (by simpa[PyData.canLay0] using cb h4) (cb h3) ?_ ⟨.bl _,H,I,rfl,q⟩;have:=Ks (PyData.depthAll xs) a.depth;omega
 ·refine SeqAt.in_tuple_reads r2 r1 (by simpa[PyData.canLay0] using cb h4) (cb h3) ?_ ⟨.bl _,H,I,rfl,q⟩;have:=Ks (PyData.depthAll xs) a.depth;omega
theorem xB(hu:X.A.units+64<cLine):iZ X (compareOp .NotIn) (yy X.K true):=by
 intro pins s σ H x y v u Q I rx ry h;obtain⟨a,b,xs,h1,h2,hb,h3,h4,q⟩:=h;obtain⟨as,r1⟩:=dz I a x v h1 rx;obtain⟨bs,r2⟩:=dz I b y u h2 ry;have hd:=oq h3;rcases hb with rfl|rfl
 ·refine SeqAt.notIn_list_reads r2 r1 (by simpa[PyData.canLay0] using cb h4) (cb h3) ?_ ⟨.bl _,H,I,rfl,q⟩;have:=Ks (PyData.depthAll xs) a.depth;omega
 ·refine SeqAt.notIn_tuple_reads r2 r1 (by simpa[PyData.canLay0] using cb h4) (cb h3) ?_ ⟨.bl _,H,I,rfl,q⟩;have:=Ks (PyData.depthAll xs) a.depth;omega
end
mutual
def yi(μ:au):D->Option PyData
 |.non=>some .none
 |.bl b=>some (.bool b)
 |.int i=>some (.int i)
 |.str x=>some (.str x)
 |.tup xs=>(toPs μ xs).map .tuple
 |.frz xs=>(toPs μ xs).map .list
 |.obj _=>none
def toPs(μ:au):List D->Option (List PyData)
 |[]=>some []
 |x::xs=>(yi μ x).bind fun a=>(toPs μ xs).map fun r=>a::r
end
def yv(μ:au)(d:D):Option PyData:=match d with
 |.obj n=>match μ[n]? with
  |some (.lst xs)=>(toPs μ xs).map .list
  |_=>none
 |d=>yi μ d
def gy(μ:au):List D->Option (List PyData)
 |[]=>some []
 |x::xs=>(yv μ x).bind fun a=>(gy μ xs).map fun r=>a::r
def mO(μ:au)(d:D):Option PyData:=match d with
 |.obj n=>match μ[n]? with
  |some (.lst xs)=>(gy μ xs).map .list
  |_=>none
 |.tup xs=>(gy μ xs).map .tuple
 |d=>yi μ d
section
variable{K:W.Frag}{w:World}{H:Hp}{α:List Addr}{μ:au}
mutual
theorem fU:∀{d:D}{q:PyData}{v:V},yi μ d=some q->aL K H α d v->lz K H q v
 |.non,_,_,h,r=>by simp only[yi]at h;cases h;simp only[lz];exact bV.mp r
 |.bl b,_,_,h,r=>by simp only[yi]at h;cases h;simp only[lz];exact aU.mp r
 |.int b,_,_,h,r=>by simp only[yi]at h;cases h;simp only[lz];exact ak.mp r
 |.str b,_,_,h,r=>by simp only[yi]at h;cases h;simp only[lz];exact aZ.mp r
 |.tup xs,_,_,h,r=>by
  simp only[yi]at h;cases e:toPs μ xs with
  |none=>rw[e]at h;cases h
  |some ys=>
   rw[e]at h;cases h;obtain⟨a,vs,rfl,h1,h2⟩:=aD.mp r;simp only[lz];exact⟨a,vs,rfl,h1,toPs_ok e h2⟩
 |.frz xs,_,_,h,r=>by
  simp only[yi]at h;cases e:toPs μ xs with
  |none=>rw[e]at h;cases h
  |some ys=>
   rw[e]at h;cases h;obtain⟨a,vs,rfl,h1,h2⟩:=bf.mp r;simp only[lz];exact⟨a,vs,rfl,h1.sq,toPs_ok e h2⟩
 |.obj n,_,_,h,r=>by simp only[yi]at h;cases h
theorem toPs_ok:∀{ds:List D}{qs:List PyData}{vs:List V},toPs μ ds=some qs->Reps K H α ds vs->RdPs K H qs vs
 |[],_,_,h,r=>by simp only[toPs]at h;cases h;simp only[RdPs];simp only[Reps]at r;exact r
 |x::xs,_,_,h,r=>by
  simp only[toPs]at h;cases e1:yi μ x with
  |none=>rw[e1]at h;cases h
  |some a=>
   cases e2:toPs μ xs with
   |none=>rw[e1,e2]at h;cases h
   |some ys=>
    rw[e1,e2]at h;cases h;simp only[Reps]at r;obtain⟨v,vr,rfl,r1,r2⟩:=r;simp only[RdPs];exact⟨v,vr,rfl,fU e1 r1,toPs_ok e2 r2⟩
end
theorem Bf{d:D}{q:PyData}{v:V}(S:gq K w H α μ)(h:yv μ d=some q)(r:aL K H α d v):lz K H q v:=by
 cases d with
 |obj n=>
  unfold yv at h;dsimp only at h;split at h
  ·rename_i xs hx;obtain⟨a,ea,us,hH,rr⟩:=S.at hx;obtain⟨a',rfl,ea'⟩:=aN.mp r;rw[ea]at ea';cases ea';cases e:toPs μ xs with
   |none=>rw[e]at h;cases h
   |some ys=>
    rw[e]at h;cases h;simp only[lz];exact⟨a,us,rfl,eT.of hH,toPs_ok e rr⟩
  ·cases h
 |non=>exact fU h r
 |bl b=>exact fU h r
 |int i=>exact fU h r
 |str x=>exact fU h r
 |tup xs=>exact fU h r
 |frz xs=>exact fU h r
theorem nP(S:gq K w H α μ):∀{ds:List D}{qs:List PyData}{vs:List V},gy μ ds=some qs->Reps K H α ds vs->RdPs K H qs vs
 |[],_,_,h,r=>by simp only[gy]at h;cases h;simp only[RdPs];simp only[Reps]at r;exact r
 |x::xs,_,_,h,r=>by
  simp only[gy]at h;cases e1:yv μ x with
  |none=>rw[e1]at h;cases h
  |some a=>
   cases e2:gy μ xs with
   |none=>rw[e1,e2]at h;cases h
   |some ys=>
    rw[e1,e2]at h;cases h;simp only[Reps]at r;obtain⟨v,vr,rfl,r1,r2⟩:=r;simp only[RdPs];exact⟨v,vr,rfl,Bf S e1 r1,nP S e2 r2⟩
theorem lC{d:D}{q:PyData}{v:V}(S:gq K w H α μ)(h:mO μ d=some q)(r:aL K H α d v):lz K H q v:=by
 cases d with
 |obj n=>
  unfold mO at h;dsimp only at h;split at h
  ·rename_i xs hx;obtain⟨a,ea,us,hH,rr⟩:=S.at hx;obtain⟨a',rfl,ea'⟩:=aN.mp r;rw[ea]at ea';cases ea';cases e:gy μ xs with
   |none=>rw[e]at h;cases h
   |some ys=>
    rw[e]at h;cases h;simp only[lz];exact⟨a,us,rfl,eT.of hH,nP S e rr⟩
  ·cases h
 |tup xs=>
  unfold mO at h;dsimp only at h;cases e:gy μ xs with
  |none=>rw[e]at h;cases h
  |some ys=>
   rw[e]at h;cases h;obtain⟨a,vs,rfl,h1,h2⟩:=aD.mp r;simp only[lz];exact⟨a,vs,rfl,h1,nP S e h2⟩
 |non=>exact fU h r
 |bl b=>exact fU h r
 |int i=>exact fU h r
 |str x=>exact fU h r
 |frz xs=>exact fU h r
end
def jU(neg:Bool)(a b:D)(μ:au):af D:=match mO μ a,mO μ b with
 |some p,some q=>if eU p=true/\eU q=true then .ok (.bl (if neg then !PyData.eqv p q else PyData.eqv p q)) μ else .bad
 |_,_=>.bad
def uQ:PyData->Option (List PyData)
 |.list xs=>some xs
 |.tuple xs=>some xs
 |_=>none
def rR(neg:Bool)(a b:D)(μ:au):af D:=match mO μ a,mO μ b with
 |some p,some q=>match uQ q with
  |some xs=>if eU p=true/\eU q=true then .ok (.bl (if neg then !(xs.any fun y=>PyData.eqv y p) else xs.any fun y=>PyData.eqv y p)) μ else .bad
  |none=>.bad
 |_,_=>.bad
theorem sk{p:Pa}{neg:Bool}:qp p (jU neg) (uC p.K neg):=by
 intro a b v y H α μ Q S ra rb P;unfold jU at P;split at P
 ·rename_i x z hx hz;split at P
  ·rename_i hf;exact⟨x,z,lC S hx ra,lC S hz rb,hf.1,hf.2,P.now S _ (aU.mpr rfl)⟩
  ·exact P.elim
 ·exact P.elim
theorem Dj{p:Pa}{neg:Bool}:qp p (rR neg) (yy p.K neg):=by
 intro a b v y H α μ Q S ra rb P;unfold rR at P;split at P
 ·rename_i x z hx hz;split at P
  ·rename_i xs hxs;split at P
   ·rename_i hf;refine⟨x,z,xs,lC S hx ra,lC S hz rb,?_,hf.1,hf.2,P.now S _ (aU.mpr rfl)⟩;cases z <;> first|(cases hxs;exact .inl rfl)|(cases hxs;exact .inr rfl)|(cases hxs)
   ·exact P.elim
  ·exact P.elim
 ·exact P.elim
end L2
namespace L2
open PySem PySem.Spec PyProof.Rows RS
open PySem.SeqAt
open PySem.AutoSeq1 (wpAny_loadPart')
open PySem.MeetsSeq PySem.MeetsSeq2 PySem.MeetsSeq3
def A2(op:CmpOp)(A:Around)(s:Shared)(y x:Value)(k:Bool):Prop:=∀(prog:Program)(w:World)(E:Value->Shared->Prop)(Q:Value->Shared->Prop),Q (.bool k) s->wpAny (model prog w) A (richCompare op y x) Q E s
def ni(t:Bool):List (Bool×Bool)->Bool
 |[]=>t
 |(e,k)::r=>if e=true then ni t r else k
def mE(op:CmpOp)(A:Around)(s:Shared):List Value->List Value->List (Bool×Bool)->Prop
 |[],_,[]=>True
 |_,[],[]=>True
 |y::ys,x::xs,(e,k)::r=>EqAt A s y x e/\(e=false->A2 op A s y x k)/\(e=true->mE op A s ys xs r)
 |_,_,_=>False
theorem rk(l b:Addr)(items items2:Array Value)(n n2:Nat)(dd dd2:Option Addr)(sl sl2:Array (Option Value))(eks:List (Bool×Bool)) :
  Meets (Builtin.«tuple.__lt__» ⟨[.ref l,.ref b],[]⟩)
   (fun A R s => s.heap.get? l = some { cls := .type "tuple", dict := dd, data := .seq items n, slots := sl } /\ s.heap.get? b = some { cls := .type "tuple", dict := dd2, data := .seq items2 n2, slots := sl2 } /\
    mE .Lt A.in1 s items.toList items2.toList eks/\R (.ok (.ret (.bool (ni (decide (items.size<items2.size)) eks)))) s):=
 .of_wp fun prog w A R s h=>by
  obtain⟨hp,g,d,tk,os⟩:=s;obtain⟨hl,hb,hc,h⟩:=h;have f2:=AutoSeq1.sub_tuple_tuple
  wp_walk using wpAny_loadPart' hl,wpAny_loadPart' hb,L0 _ (fun rest b s'=>b.1=none/\s'=⟨hp,g,d,tk,os⟩/\∃(vs ws:List Value)(eks':List (Bool×Bool)),rest=vs.zip ws /\
   mE .Lt A.in1 ⟨hp,g,d,tk,os⟩ vs ws eks'/\R (.ok (.ret (.bool (ni (decide (items.size<items2.size)) eks')))) ⟨hp,g,d,tk,os⟩) _
  case turn=>
   rintro⟨y,x⟩ rest b s' ⟨hb',rfl,vs,ws,eks',hz,hci,hR⟩
   cases vs with
   |nil=>rw[List.zip_nil_left]at hz;cases hz
   |cons a vs=>
    cases ws with
    |nil=>rw[List.zip_nil_right]at hz;cases hz
    |cons c ws=>
     rw[Nq]at hz;injection hz with hyx hrest
     injection hyx with hy hx
     subst hy hx;cases eks' with
     |nil=>simp only[mE]at hci
     |cons ek eks'=>
      obtain⟨e,k⟩:=ek;simp only[mE]at hci;obtain⟨he,hk,hci⟩:=hci;refine JP (he prog w _ _ ?_);cases e with
      |true=>
       have hR':R (.ok (.ret (.bool (ni (decide (items.size<items2.size)) eks')))) ⟨hp,g,d,tk,os⟩:=hR
       wp_walk
       exact⟨rfl,rfl,_,_,_,hrest,hci rfl,hR'⟩
      |false=>
       have hR':R (.ok (.ret (.bool k))) ⟨hp,g,d,tk,os⟩:=hR;have hri:=hk rfl prog w
       wp_walk using hri
       exact⟨_,rfl,by simpa using hR'⟩
  case fin=>
   rintro⟨b1,b2⟩ s' ⟨hb',rfl,vs,ws,eks',hz,hci,hR⟩
   simp only at hb';subst hb'
   have hv:eks'=[]:=by
    cases vs with
    |nil=>cases eks' with
     |nil=>rfl
     |cons _ _=>simp only[mE]at hci
    |cons a vs=>cases ws with
     |nil=>cases eks' with
      |nil=>rfl
      |cons _ _=>simp only[mE]at hci
     |cons c ws=>rw[Nq]at hz;cases hz
   subst hv;have hR':R (.ok (.ret (.bool (decide (items.size<items2.size))))) ⟨hp,g,d,tk,os⟩:=hR
   wp_walk
   exact⟨_,rfl,by simpa[Builtin.Tuple.tupleCompareSizes] using hR'⟩
  case h=>
   exact⟨rfl,rfl,items.toList,items2.toList,eks,rfl,hc,h⟩
theorem Fp{prog:Program}{w:World}{A:Around}{E:Value->Shared->Prop}{s:Shared}{l b:Addr}{items items2:Array Value}{eks:List (Bool×Bool)}{Q:Value->Shared->Prop}(hl:IsTup s.heap l items)(hb:IsTup s.heap b items2)(hc:mE .Lt A.in1 s items.toList items2.toList eks)
  (hu:A.units<cLine) (h:Q (.bool (ni (decide (items.size<items2.size)) eks)) s):wpAny (model prog w) A (richCompare .Lt (.ref l) (.ref b)) Q E s:=by
 obtain⟨⟨cls,dd,data,sl⟩,ho,hc',n,hd⟩:=id hl;obtain⟨⟨cls2,dd2,data2,sl2⟩,ho2,hc2,n2,hd2⟩:=id hb;simp only at hc' hd hc2 hd2;subst hc' hd hc2 hd2
 exact richCompare_meets_room (op:=.Lt) ⟨_,ho,rfl⟩ ⟨_,ho2,rfl⟩ PySem.F.slot_tuple_lt PySem.F.entry_tuple_lt (PySem.F.args_tuple_lt_2 _ _) (rk l b items items2 n n2 dd dd2 sl sl2 eks)
  ⟨ho,ho2,hc,show Value.bool (ni (decide (items.size<items2.size)) eks)≠Value.notImplemented/\Q (.bool (ni (decide (items.size<items2.size)) eks)) s from⟨(fun x=>nomatch x),h⟩⟩ hu
end L2
namespace L2
open PySem PySem.Spec PyProof.Rows RS
def gL:CmpOp->Int->Int->Bool
 |.Lt,i,j=>decide (i<j)
 |.LtE,i,j=>decide (i<=j)
 |.Gt,i,j=>decide (i>j)
 |.GtE,i,j=>decide (i ≥ j)
 |_,_,_=>false
def A1:CmpOp->Bool
 |.Lt=>true
 |_=>false
mutual
def gp(op:CmpOp):PyData->PyData->Option Bool
 |.int i,.int j=>some (gL op i j)
 |.tuple xs,.tuple ys=>if A1 op=true then cmpPs op xs ys else none
 |_,_=>none
def cmpPs(op:CmpOp):List PyData->List PyData->Option Bool
 |[],ys=>some (gL op 0 ys.length)
 |_::xs,[]=>some (gL op (xs.length+1) 0)
 |x::xs,y::ys=>if PyData.eqv x y=true then cmpPs op xs ys else gp op x y
end
def sm:CmpOp->Bool
 |.Lt | .LtE | .Gt | .GtE=>true
 |_=>false
theorem GU:∀{op:CmpOp}(ho:sm op=true){A:Around}{s:Shared}(a:Int)(t:Tok)(c:Int)(u:Tok),A2 op A s (.int a t) (.int c u) (gL op a c)
 |.Lt,_,A,s,a,t,c,u=>fun prog w E Q h=>(PyProof.Rows.lt_int h:wpAny (model prog w) A (compareOp .Lt (.int a t) (.int c u)) Q E s)
 |.LtE,_,A,s,a,t,c,u=>fun prog w E Q h=>(PyProof.Rows.le_int h:wpAny (model prog w) A (compareOp .LtE (.int a t) (.int c u)) Q E s)
 |.Gt,_,A,s,a,t,c,u=>fun prog w E Q h=>(PyProof.Rows.gt_int h:wpAny (model prog w) A (compareOp .Gt (.int a t) (.int c u)) Q E s)
 |.GtE,_,A,s,a,t,c,u=>fun prog w E Q h=>(PyProof.Rows.ge_int h:wpAny (model prog w) A (compareOp .GtE (.int a t) (.int c u)) Q E s)
theorem vy{op:CmpOp}(i j:Nat):gL op ((i+1:Nat):Int) ((j+1:Nat):Int)=gL op (i:Int) (j:Int):=by
 cases op <;> first|rfl|(unfold gL;simp)
theorem GS:∀{op:CmpOp}(ho:A1 op=true){A:Around}{s:Shared}{l b:Addr}{items items2:Array Value}{eks:List (Bool×Bool)}(hl:IsTup s.heap l items)(hb:IsTup s.heap b items2)(hc:mE op A.in1 s items.toList items2.toList eks)
  (hu:A.units<cLine),A2 op A s (.ref l) (.ref b) (ni (gL op items.size items2.size) eks)
 |.Lt,_,A,s,l,b,items,items2,eks,hl,hb,hc,hu=>fun prog w E Q h=>Fp hl hb hc hu (by
   have e:decide (items.size<items2.size)=gL .Lt items.size items2.size:=by (unfold gL;simp)
   rw[e];exact h)
mutual
theorem sS{op:CmpOp}(ho:sm op=true):∀(da db:PyData)(A:Around)(s:Shared)(a b:Value)(as bs:List Addr)(k:Bool),Reads s.heap a da as->Reads s.heap b db bs->da.canLay0=true->db.canLay0=true ->
  A.units+min da.depth db.depth<cLine->gp op da db=some k->A2 op A s a b k
 |.int i,.int j,A,s,_,_,_,_,k,ra,rb,_,_,hu,hk=>by
  cases ra;cases rb;simp only[gp]at hk;cases hk;exact GU ho _ _ _ _
 |.tuple xs,.tuple ys,A,s,_,_,_,_,k,ra,rb,ha,hb,hu,hk=>by
  simp only[gp]at hk
  have hlt:A1 op=true:=by
   cases z:A1 op with
   |true=>rfl
   |false=>rw[z,Jp J4]at hk;cases hk
  rw[Jo hlt]at hk;cases ra with
  | @tuple l o vs n _ as₁ h1 h2 h3 h4=>
   cases rb with
   | @tuple l' o' vs' n' _ bs₁ k1 k2 k3 k4=>
    have n1:vs.size=xs.length:=by simpa using SeqAt.ReadsAll.length _ _ _ h4
    have n2:vs'.size=ys.length:=by simpa using SeqAt.ReadsAll.length _ _ _ k4
    obtain⟨eks,e1,e2⟩:=rc_readsAll ho xs ys A.in1 s vs.toList vs'.toList _ _ k h4 k4 (by simpa[PyData.canLay0] using ha) (by simpa[PyData.canLay0] using hb) (SeqAt.room_in hu) hk;have:=GS hlt (A:=A) (s:=s) (l:=l) (b:=l') (items:=vs) (items2:=vs') (eks:=eks) ⟨_,h1,h2,_,h3⟩ ⟨_,k1,k2,_,k3⟩ e1 (SeqAt.room_here hu);rw[n1,n2,e2]at this;exact this
 |.none,_,_,_,_,_,_,_,_,_,_,_,_,_,hk=>by simp only[gp]at hk;cases hk
 |.bool _,_,_,_,_,_,_,_,_,_,_,_,_,_,hk=>by simp only[gp]at hk;cases hk
 |.str _,_,_,_,_,_,_,_,_,_,_,_,_,_,hk=>by simp only[gp]at hk;cases hk
 |.list _,_,_,_,_,_,_,_,_,_,_,_,_,_,hk=>by simp only[gp]at hk;cases hk
 |.dict _,_,_,_,_,_,_,_,_,_,_,_,_,_,hk=>by simp only[gp]at hk;cases hk
 |.int _,.none,_,_,_,_,_,_,_,_,_,_,_,_,hk=>by simp only[gp]at hk;cases hk
 |.int _,.bool _,_,_,_,_,_,_,_,_,_,_,_,_,hk=>by simp only[gp]at hk;cases hk
 |.int _,.str _,_,_,_,_,_,_,_,_,_,_,_,_,hk=>by simp only[gp]at hk;cases hk
 |.int _,.list _,_,_,_,_,_,_,_,_,_,_,_,_,hk=>by simp only[gp]at hk;cases hk
 |.int _,.tuple _,_,_,_,_,_,_,_,_,_,_,_,_,hk=>by simp only[gp]at hk;cases hk
 |.int _,.dict _,_,_,_,_,_,_,_,_,_,_,_,_,hk=>by simp only[gp]at hk;cases hk
 |.tuple _,.none,_,_,_,_,_,_,_,_,_,_,_,_,hk=>by simp only[gp]at hk;cases hk
 |.tuple _,.bool _,_,_,_,_,_,_,_,_,_,_,_,_,hk=>by simp only[gp]at hk;cases hk
 |.tuple _,.int _,_,_,_,_,_,_,_,_,_,_,_,_,hk=>by simp only[gp]at hk;cases hk
 |.tuple _,.str _,_,_,_,_,_,_,_,_,_,_,_,_,hk=>by simp only[gp]at hk;cases hk
 |.tuple _,.list _,_,_,_,_,_,_,_,_,_,_,_,_,hk=>by simp only[gp]at hk;cases hk
 |.tuple _,.dict _,_,_,_,_,_,_,_,_,_,_,_,_,hk=>by simp only[gp]at hk;cases hk
theorem rc_readsAll{op:CmpOp}(ho:sm op=true):∀(xs ys:List PyData)(A:Around)(s:Shared)(vs ws:List Value)(as bs:List Addr)(k:Bool),ReadsAll s.heap vs xs as->ReadsAll s.heap ws ys bs->PyData.canLayAll0 xs=true->PyData.canLayAll0 ys=true ->
  A.units+min (PyData.depthAll xs) (PyData.depthAll ys)<cLine->cmpPs op xs ys=some k->∃eks,mE op A s vs ws eks/\ni (gL op (xs.length:Nat) (ys.length:Nat)) eks=k
 |[],ys,A,s,_,_,_,_,k,ra,rb,_,_,_,hk=>by
  cases ra;simp only[cmpPs]at hk;cases hk;exact⟨[],by unfold mE;trivial,rfl⟩
 |x::xs,[],A,s,_,_,_,_,k,ra,rb,_,_,_,hk=>by
  cases rb;simp only[cmpPs]at hk;cases hk;cases ra;refine⟨[],by unfold mE;trivial,?_⟩;simp[ni]
 |x::xs,y::ys,A,s,_,_,_,_,k,ra,rb,ha,hb,hu,hk=>by
  have ha':x.canLay0=true/\PyData.canLayAll0 xs=true:=by simpa[PyData.canLayAll0] using ha
  have hb':y.canLay0=true/\PyData.canLayAll0 ys=true:=by simpa[PyData.canLayAll0] using hb
  cases ra with
  |cons r rs=>
   cases rb with
   |cons r' rs'=>
    have he:=SeqAt.eqAt_reads x y A s _ _ _ _ r r' ha'.1 hb'.1 (SeqAt.room_head hu);simp only[cmpPs]at hk;cases e:PyData.eqv x y with
    |true=>
     rw[Jo e]at hk;rw[e]at he;obtain⟨eks,e1,e2⟩:=rc_readsAll ho xs ys A s _ _ _ _ k rs rs' ha'.2 hb'.2 (SeqAt.room_tail hu) hk;refine⟨(true,false)::eks,⟨he,fun z=>(by cases z),fun _=>e1⟩,?_⟩;show ni (gL op ((xs.length+1:Nat):Int) ((ys.length+1:Nat):Int)) eks=k;rw[vy];exact e2
    |false=>
     rw[Jp (by rw[e];exact J4)]at hk;rw[e]at he;refine⟨[(false,k)],⟨he,fun _=>sS ho x y A s _ _ _ _ k r r' ha'.1 hb'.1 (SeqAt.room_head hu) hk,fun z=>(by cases z)⟩,rfl⟩
end
def yP(K:W.Frag)(op:CmpOp):R2:=fun x y H Q=>∃a b k,lz K H a x/\lz K H b y/\eU a=true/\eU b=true/\gp op a b=some k/\Q (.bl k) H
theorem B7{X:Cx}(hu:X.A.units+64<cLine):∀{op:CmpOp},sm op=true->iZ X (compareOp op) (yP X.K op):=by
 intro op ho pins s σ H x y v u Q I rx ry h;obtain⟨a,b,k,h1,h2,h3,h4,h5,q⟩:=h;obtain⟨as,r1⟩:=dz I a x v h1 rx;obtain⟨bs,r2⟩:=dz I b y u h2 ry;have:=sS ho a b X.A s v u as bs k r1 r2 (cb h3) (cb h4) (lQ h3 hu) h5 X.prog X.w X.xe (EP X pins σ Q) ⟨.bl k,H,I,rfl,q⟩
 cases op <;> first
  |exact absurd ho (by decide)
  |exact this
def kf(op:CmpOp)(a b:D)(μ:au):af D:=match mO μ a,mO μ b with
 |some p,some q=>if eU p=true/\eU q=true then (match gp op p q with|some k=>.ok (.bl k) μ|none=>.bad) else .bad
 |_,_=>.bad
theorem Fk{p:Pa}{op:CmpOp}:qp p (kf op) (yP p.K op):=by
 intro a b v y H α μ Q S ra rb P;unfold kf at P;split at P
 ·rename_i x z hx hz;split at P
  ·rename_i hf;split at P
   ·rename_i k hk;exact⟨x,z,k,lC S hx ra,lC S hz rb,hf.1,hf.2,hk,P.now S _ (aU.mpr rfl)⟩
   ·exact P.elim
  ·exact P.elim
 ·exact P.elim
def dI(g:Int->Int->D)(a b:D)(μ:au):af D:=match a,b with
 |.int i,.int j=>.ok (g i j) μ
 |_,_=>.bad
open Classical in
def CZ(C:Int->Int->Prop)(g:Int->Int->D)(a b:D)(μ:au):af D:=match a,b with
 |.int i,.int j=>if C i j then .ok (g i j) μ else .bad
 |_,_=>.bad
section
variable{p:Pa}
theorem Ik{g:Int->Int->V}{gd:Int->Int->D}(h:∀i j H α,p.R H α (gd i j) (g i j)):qp p (dI gd) (F6 g):=by
 intro a b v y H α μ Q S ra rb P;unfold dI at P;split at P
 ·rename_i i j;exact⟨i,j,ak.mp ra,ak.mp rb,P.now S _ (h i j H α)⟩
 ·exact P.elim
theorem yR{C:Int->Int->Prop}{g:Int->Int->V}{gd:Int->Int->D}(h:∀i j H α,p.R H α (gd i j) (g i j)):qp p (CZ C gd) (rI C g):=by
 intro a b v y H α μ Q S ra rb P;unfold CZ at P;split at P
 ·rename_i i j;split at P
  ·rename_i hc;exact⟨i,j,ak.mp ra,ak.mp rb,hc,P.now S _ (h i j H α)⟩
  ·exact P.elim
 ·exact P.elim
def wY(a:D)(μ:au):af D:=match a with
 |.int i=>.ok (.int (-i)) μ
 |_=>.bad
theorem Fm:IL p wY (rU fun i=>.int (-i)):=by
 intro a v H α μ Q S ra P;unfold wY at P;split at P
 ·rename_i i;exact⟨i,ak.mp ra,P.now S _ (ak.mpr rfl)⟩
 ·exact P.elim
def Di(K:W.Frag):R2:=fun x y H Q=>∃a b xs ys,x=.ref a/\y=.ref b/\fu K H a xs/\fu K H b ys/\xs.length+ys.length<=sizeLine /\
 (xs=[]->Q (.ref b) H)/\(xs≠[]->ys=[]->Q (.ref a) H)/\(xs≠[]->ys≠[]->∀p,H p=none->Q (.ref p) (cG H p (.tup (xs++ys))))
theorem AD{prog:Program}{w:World}{A:Around}{E:Value->Shared->Prop}{s:Shared}{t b:Addr}{ws:List Value}{Q:Value->Shared->Prop}(ht:IsTup s.heap t #[])(hb:IsTup s.heap b ws.toArray)(h0:Q (.ref b) s):wpAny (model prog w) A (binaryOp .Add (.ref t) (.ref b)) Q E s:=by
 obtain⟨⟨cls,dd,data,sl⟩,ho,hc,n,hd⟩:=id ht;obtain⟨⟨cls2,dd2,data2,sl2⟩,ho2,hc2,n2,hd2⟩:=id hb;simp only at hc hd hc2 hd2;subst hc hd hc2 hd2
 exact concat_meets ⟨_,ho,rfl⟩ ⟨_,ho2,rfl⟩ Kl seq_tuple_add Km Ko (Kq _ _)
  (tuple_addW0 t b #[] ws.toArray n n2 dd dd2 sl sl2 (by simp)) ⟨ho,ho2,h0⟩
theorem B9{X:Cx}:iZ X (binaryOp .Add) (Di X.K):=by
 intro pins s σ H x y v u Q I rx ry h;obtain⟨a,b,xs,ys,rfl,rfl,ha,hb,hz,q0,q1,q2⟩:=h;by_cases hx:xs=[]
 ·cases rx;cases ry;obtain⟨its,r1,p1,_⟩:=I.tuple ha;obtain⟨its2,r2,p2,_⟩:=I.tuple hb;subst hx;cases r1;exact AD p1 p2 ⟨.ref b,H,I,rfl,q0 rfl⟩
 ·exact B8 pins s σ H (.ref a) (.ref b) v u Q I rx ry ⟨a,b,xs,ys,rfl,rfl,ha,hb,hx,hz,q1 hx,q2 hx⟩
def yQ(K:W.Frag):R2:=fun x y H Q=>F6 (fun i j=>.int (i+j)) x y H Q\/Di K x y H Q\/Gk x y H Q\/(∃i j,x=.str i/\y=.str j/\i.length+j.length<=sizeLine/\Q (.str (i++j)) H)
theorem Ca{X:Cx}:iZ X (binaryOp .Add) (yQ X.K):=E7.or (B9.or (E6.or vh))
def cw(a b:D)(μ:au):af D:=match a,b with
 |.int i,.int j=>.ok (.int (i+j)) μ
 |.str x,.str y=>if x.length+y.length<=sizeLine then .ok (.str (x++y)) μ else .bad
 |.tup xs,.tup ys=>if xs.length+ys.length<=sizeLine then .ok (.tup (xs++ys)) μ else .bad
 |.obj m,.obj n=>match μ[m]?,μ[n]? with
  |some (.lst xs),some (.lst ys)=>if xs.length+ys.length<=sizeLine then .ok (.obj μ.length) (μ++[.lst (xs++ys)]) else .bad
  |_,_=>.bad
 |_,_=>.bad
theorem cP{H:Hp}{α:List Addr}{μ:au}{n:Nat}{v:V}{xs:List D}(S:p.S H α μ)(r:p.R H α (.obj n) v)(hx:μ[n]?=some (.lst xs)):∃a us,v=.ref a/\α[n]?=some a/\H a=some (.lst us)/\p.Rs H α xs us:=by
 obtain⟨a,ea,us,hH,rr⟩:=S.at hx;obtain⟨a',rfl,ea'⟩:=aN.mp r;rw[ea]at ea';cases ea';exact⟨a,us,rfl,ea,hH,rr⟩
theorem Reps.nil_iff'{K:W.Frag}{H:Hp}{α:List Addr}{xs:List D}{vs:List V}(r:Reps K H α xs vs):vs=[]↔xs=[]:=by
 have:=r.length;constructor
 ·intro h;subst h;simp at this;exact Nr this.symm
 ·intro h;subst h;simp at this;exact this
theorem Fl:qp p cw (yQ p.K):=by
 intro a b v y H α μ Q S ra rb P;unfold cw at P;split at P
 ·rename_i i j;exact .inl ⟨i,j,ak.mp ra,ak.mp rb,P.now S _ (ak.mpr rfl)⟩
 ·rename_i i j;split at P
  ·rename_i hl;exact .inr (.inr (.inr ⟨i,j,aZ.mp ra,aZ.mp rb,hl,P.now S _ (aZ.mpr rfl)⟩))
  ·exact P.elim
 ·rename_i xs ys;split at P
  ·rename_i hl;obtain⟨a,us,rfl,h1,r1⟩:=aD.mp ra;obtain⟨b,ws,rfl,h2,r2⟩:=aD.mp rb;refine .inr (.inl ⟨a,b,us,ws,rfl,rfl,h1,h2,by rw[r1.length,r2.length];exact hl,fun e=>?_,fun _ e=>?_,fun _ _ q hq=>?_⟩)
   ·have ex:=r1.nil_iff'.mp e;subst ex;exact P.now S _ (by simpa using rb)
   ·have ey:=r2.nil_iff'.mp e;subst ey;exact P.now S _ (by simpa using ra)
   ·exact P _ _ (bx hq) (S.tuple hq) _ (aD.mpr ⟨q,_,rfl,fu.of bO,(r1.append r2).mono (bx hq)⟩)
  ·exact P.elim
 ·rename_i m n;split at P
  ·rename_i xs ys hx hy;split at P
   ·rename_i hl;obtain⟨a,us,rfl,a1,h1,r1⟩:=cP S ra hx;obtain⟨b,ws,rfl,b1,h2,r2⟩:=cP S rb hy;refine .inr (.inr (.inl ⟨a,b,us,ws,rfl,rfl,h1,h2,by rw[r1.length,r2.length];exact hl,fun q hq=>?_⟩));obtain⟨x1,x2,x3⟩:=bZ S hq (r1.append r2);exact P _ _ x1 x2 _ x3
   ·exact P.elim
  ·exact P.elim
 ·exact P.elim
def Dd:R2:=fun x y H Q=>rI se (fun i j=>.int (i*j)) x y H Q\/Gd x y H Q
theorem B5{X:Cx}:iZ X (binaryOp .Mult) Dd:=E1.or EX
open Classical in
def uE(a b:D)(μ:au):af D:=match a,b with
 |.int i,.int j=>if se i j then .ok (.int (i*j)) μ else .bad
 |.obj m,.int k=>match μ[m]? with
  |some (.lst xs)=>if -(2^63)<=k/\k<2^63/\xs.length*k.toNat<=sizeLine then .ok (.obj μ.length) (μ++[.lst (List.replicate k.toNat xs).flatten]) else .bad
  |_=>.bad
 |_,_=>.bad
theorem Reps.rep{K:W.Frag}{H:Hp}{α:List Addr}{xs:List D}{vs:List V}(h:Reps K H α xs vs):∀k:Nat,Reps K H α (List.replicate k xs).flatten (List.replicate k vs).flatten
 |0=>by simpa using Reps.nil
 |k+1=>by
  rw[KW,KW,KY,KY];exact h.append (Reps.rep h k)
theorem Fh:qp p uE Dd:=by
 intro a b v y H α μ Q S ra rb P;unfold uE at P;split at P
 ·rename_i i j;split at P
  ·rename_i hc;exact .inl ⟨i,j,ak.mp ra,ak.mp rb,hc,P.now S _ (ak.mpr rfl)⟩
  ·exact P.elim
 ·rename_i m k;split at P
  ·rename_i xs hx;split at P
   ·rename_i hl;obtain⟨a,us,rfl,a1,h1,r1⟩:=cP S ra hx;refine .inr ⟨a,k,us,rfl,ak.mp rb,h1,hl.1,hl.2.1,by rw[r1.length];exact hl.2.2,fun q hq=>?_⟩;obtain⟨x1,x2,x3⟩:=bZ S hq (r1.rep k.toNat);exact P _ _ x1 x2 _ x3
   ·exact P.elim
  ·exact P.elim
 ·exact P.elim
def gJ(a b:D)(μ:au):af D:=match a,b with
 |.tup xs,.int i=>match atI xs i with
  |some d=>.ok d μ
  |none=>.bad
 |.frz xs,.int i=>match atI xs i with
  |some d=>.ok d μ
  |none=>.bad
 |.obj n,.int i=>match μ[n]? with
  |some (.lst xs)=>match atI xs i with
   |some d=>.ok d μ
   |none=>.bad
  |_=>.bad
 |_,_=>.bad
theorem Reps.atI{K:W.Frag}{H:Hp}{α:List Addr}{xs:List D}{vs:List V}{i:Int}{d:D}(r:Reps K H α xs vs)(h:L2.atI xs i=some d):∃v,L2.atI vs i=some v/\aL K H α d v:=by
 unfold L2.atI at h⊢;rw[r.length];cases e:wL xs.length i with
 |none=>rw[e]at h;cases h
 |some j=>rw[e]at h;exact r.get h
theorem Hc:qp p gJ (IJ p.K):=by
 intro a b v y H α μ Q S ra rb P;unfold gJ at P;split at P
 ·rename_i xs i;split at P
  ·rename_i d hd;obtain⟨a,us,rfl,h1,r1⟩:=aD.mp ra;obtain⟨v,hv,rv⟩:=r1.atI hd;exact .inr (.inl ⟨a,us,i,v,rfl,ak.mp rb,h1,hv,P.now S _ rv⟩)
  ·exact P.elim
 ·rename_i xs i;split at P
  ·rename_i d hd;obtain⟨a,us,rfl,h1,r1⟩:=bf.mp ra;obtain⟨v,hv,rv⟩:=r1.atI hd;exact .inl ⟨a,us,i,v,rfl,ak.mp rb,h1.sq,hv,P.now S _ rv⟩
  ·exact P.elim
 ·rename_i n i;split at P
  ·rename_i xs hx;split at P
   ·rename_i d hd;obtain⟨a,us,rfl,a1,h1,r1⟩:=cP S ra hx;obtain⟨v,hv,rv⟩:=r1.atI hd;exact .inl ⟨a,us,i,v,rfl,ak.mp rb,eT.of h1,hv,P.now S _ rv⟩
   ·exact P.elim
  ·exact P.elim
 ·exact P.elim
theorem GR{X:Cx}{a b:Expr}{fa fb:ME}{pos:Pos}(hK:X.K=p.K)(ha:PE X a (tD p fa))(hb:PE X b (tD p fb))(hs:rj b):PE X (.Subscript a b pos) (tD p (aM gJ fa fb)):=
 (G6 FC ha hb hs).weak fun σ H Q ⟨α, ρ, μ, S, R, P⟩ => ⟨α, ρ, μ, S, R, (aC.bind P).imp fun x μ1 H1 α1 X1 S1 P1 v rv => ⟨α1, ρ, μ1, S1, R.mono X1, (aC.bind P1).imp fun y μ2 H2 α2 X2 S2 P2 u ru => by
  rw[hK];exact Hc x y v u H2 α2 μ2 Q S2 (rv.mono X2) ru P2⟩⟩
theorem jT{prog:Program}{w:World}{A:Around}{E:Value->Shared->Prop}{s:Shared}{t sl:Addr}{items:Array Value}{vl vu:Value}{lo hi:Option Int}{Q:Value->Shared->Prop}(ht:IsTup s.heap t items)(hs:s.heap.IsSliceOf sl vl vu .none)(pl:IsPart vl lo)(pu:IsPart vu hi)
  (hw:HT.sIx items.size 0 lo=0/\HT.sIx items.size items.size hi=items.size) (h:Q (.ref t) s):wpAny (model prog w) A (getItem (.ref t) (.ref sl)) Q E s:=by
 obtain⟨os,hos,hcs,hds⟩:=id hs;have hTs:s.TypeIs (.ref sl) "slice" := ⟨os,hos,hcs⟩;unfold getItem
 try with_reducible refine JQ ?_
 first|refine JP (JT ?_)|skip
 refine JP (KB ht.typeIs (by decide) ?_)
 refine JP (KC (name:=Str.ofString "__getitem__") ht.typeIs KD
  (KE KD ht.typeIs KF ?_ (KG _ _)))
 show wpAny _ _ (Builtin.Tuple.tupleItemsOf (.ref t) >>= _) _ _ s;refine JP (tupleItemsOf_ ht ?_);refine JP (KH hTs ?_);rw[Jo (by decide)];refine JP (HT.sliceApplied_gen hs pl pu ?_)
 have hno:(((HT.sIx items.size 0 lo:Nat):Int) == 0&&(1:Int) == 1&&(HT.sIx items.size items.size hi-HT.sIx items.size 0 lo) == items.size)=true:=by
  rw[hw.1,hw.2];simp
 show wpAny _ _ (if (((HT.sIx items.size 0 lo:Nat):Int) == 0&&(1:Int) == 1&&(HT.sIx items.size items.size hi-HT.sIx items.size 0 lo) == items.size)=true then _ else _) _ _ s;rw[Jo hno];refine JP (m:=Builtin.Tuple.tupleIsExact (.ref t)) (JP (KH ht.typeIs (JT ?_)));rw[Jo (by decide)];exact JP (Lh (JT ⟨_,rfl,JT h⟩))
def fN{β:Type}(xs:List β)(lo hi:Option Int):List β:=(xs.drop (HT.sIx xs.length 0 lo)).take (HT.sIx xs.length xs.length hi-HT.sIx xs.length 0 lo)
theorem vw{β:Type}(xs:List β)(lo hi:Option Int)(h:HT.sIx xs.length 0 lo=0/\HT.sIx xs.length xs.length hi=xs.length):fN xs lo hi=xs:=by
 unfold fN;rw[h.1,h.2];simp
def Da(K:W.Frag):V->Option Int->Option Int->Hp->VK->Prop:=fun x lo hi H Q=>∃a xs,x=.ref a/\fu K H a xs /\
 (HT.sIx xs.length 0 lo=0/\HT.sIx xs.length xs.length hi=xs.length)/\Q (.ref a) H
theorem Bt{X:Cx}:AW X (Da X.K):=by
 intro pins s σ H x v vl vu lo hi sl Q I rx hs pl pu h;obtain⟨a,xs,rfl,hx,hw,q⟩:=h;cases rx;obtain⟨its,r,ht,hz⟩:=I.tuple hx;have hlen:its.toArray.size=xs.length:=by rw[J6];exact r.length.symm
 refine⟨"tuple",_,KD.lookup,ht.typeIs,?_⟩;exact jT ht hs pl pu (by rw[hlen];exact hw) ⟨.ref a,H,I,rfl,q⟩
def Gc(K:W.Frag):V->Option Int->Option Int->Hp->VK->Prop:=fun x lo hi H Q=>F9 K x lo hi H Q\/Da K x lo hi H Q\/Ga K x lo hi H Q
theorem Ih{X:Cx}:AW X (Gc X.K):=qv.or (Bt.or Bu)
abbrev MO:=Ro->au->af (Option Int)
def CY:MO:=fun _ μ=>.ok none μ
def HE(d:D)(μ:au):af (Option Int):=match d with
 |.int i=>.ok (some i) μ
 |_=>.bad
def j3(f:ME):MO:=fun ρ μ=>(f ρ μ).bind HE
def CV(p:Pa)(f:MO):TO:=fun σ H Q=>∃α ρ μ,p.S H α μ/\cZ p.K H α ρ σ/\aC p H α (f ρ μ) (fun o _ H' _=>Q o H')
theorem PO.weak{X:Cx}{e:Option Expr}{t t':TO}(h:PO X e t)(k:∀σ H Q,t' σ H Q->t σ H Q):PO X e t':=fun pins s σ H Q I q=>h pins s σ H Q I (k σ H Q q)
theorem Bs{X:Cx}:PO X none (CV p CY):=BQ.weak fun σ H Q ⟨α,ρ,μ,S,R,P⟩=>P.now S
theorem Br{X:Cx}{e:Expr}{f:ME}(h:PE X e (tD p f)):PO X (some e) (CV p (j3 f)):=(BP h).weak fun σ H Q ⟨α,ρ,μ,S,R,P⟩=>⟨α,ρ,μ,S,R,(aC.bind P).imp fun d μ1 H1 α1 X1 S1 P1 v rv=>by
 unfold HE at P1;split at P1
 ·rename_i i;exact⟨i,ak.mp rv,P1.now S1⟩
 ·exact P1.elim⟩
def yl(a:D)(lo hi:Option Int)(μ:au):af D:=match a with
 |.tup xs=>.ok (.tup (fN xs lo hi)) μ
 |.frz xs=>.ok (.obj μ.length) (μ++[.lst (fN xs lo hi)])
 |.obj n=>match μ[n]? with
  |some (.lst xs)=>.ok (.obj μ.length) (μ++[.lst (fN xs lo hi)])
  |_=>.bad
 |_=>.bad
def AR(fa:ME)(fl fh:MO):ME:=fun ρ μ=>(fa ρ μ).bind fun a μ1=>(fl ρ μ1).bind fun lo μ2=>(fh ρ μ2).bind fun hi μ3=>yl a lo hi μ3
theorem Reps.cut'{K:W.Frag}{H:Hp}{α:List Addr}{xs:List D}{vs:List V}(r:Reps K H α xs vs)(lo hi:Option Int):Reps K H α (fN xs lo hi) (r8 vs lo hi):=by
 unfold fN r8;rw[r.length];exact(r.drop _).take _
theorem GP{a:D}{v:V}{lo hi:Option Int}{H:Hp}{α:List Addr}{μ:au}{Q:VK}(S:p.S H α μ)(ra:p.R H α a v)(P:aC p H α (yl a lo hi μ) (RV p Q)):Gc p.K v lo hi H Q:=by
 unfold yl at P;split at P
 ·rename_i xs;obtain⟨a,us,rfl,h1,r1⟩:=aD.mp ra;by_cases hw:HT.sIx us.length 0 lo=0/\HT.sIx us.length us.length hi=us.length
  ·refine .inr (.inl ⟨a,us,rfl,h1,hw,?_⟩);rw[r1.length]at hw;rw[vw xs lo hi hw]at P;exact P.now S _ ra
  ·exact .inl ⟨a,us,rfl,h1,hw,fun q hq=>P _ _ (bx hq) (S.tuple hq) _ (aD.mpr ⟨q,_,rfl,fu.of bO,(r1.cut' lo hi).mono (bx hq)⟩)⟩
 ·rename_i xs;obtain⟨a,us,rfl,h1,r1⟩:=bf.mp ra;refine .inr (.inr ⟨a,us,rfl,h1.sq,fun q hq=>?_⟩);obtain⟨x1,x2,x3⟩:=bZ S hq (r1.cut' lo hi);exact P _ _ x1 x2 _ x3
 ·rename_i n;split at P
  ·rename_i xs hx;obtain⟨a,us,rfl,a1,h1,r1⟩:=cP S ra hx;refine .inr (.inr ⟨a,us,rfl,eT.of h1,fun q hq=>?_⟩);obtain⟨x1,x2,x3⟩:=bZ S hq (r1.cut' lo hi);exact P _ _ x1 x2 _ x3
  ·exact P.elim
 ·exact P.elim
theorem zS{X:Cx}{e:Expr}{lo hi:Option Expr}{fa:ME}{fl fh:MO}{pos p2:Pos}(hK:X.K=p.K)(he:PE X e (tD p fa))(hl:PO X lo (CV p fl))(hu:PO X hi (CV p fh)):PE X (.Subscript e (.Slice lo hi none p2) pos) (tD p (AR fa fl fh)):=
 (Ab Ih he hl hu).weak fun σ H Q ⟨α, ρ, μ, S, R, P⟩ => ⟨α, ρ, μ, S, R, (aC.bind P).imp fun a μ1 H1 α1 X1 S1 P1 v rv => ⟨α1, ρ, μ1, S1, R.mono X1, (aC.bind P1).imp fun l μ2 H2 α2 X2 S2 P2 => ⟨α2, ρ, μ2, S2, (R.mono X1).mono X2, (aC.bind P2).imp fun h μ3 H3 α3 X3 S3 P3 => by
  rw[hK];exact GP S3 ((rv.mono X2).mono X3) P3⟩⟩⟩
theorem ju{β γ:Type}{f:β->Option γ}{g:β->γ}:∀{l:List β},(∀m∈l,f m=some (g m))->l.filterMap f=l.map g
 |[],_=>rfl
 |x::r,h=>by rw[Jz,h x JA,KN,ju fun m hm=>h m (JB _ hm)]
theorem sX(xs:Array Value):((List.range xs.size).filterMap fun(m:Nat)=>xs[(((xs.size:Int)-1)+(m:Int)*(-1)).toNat]?).toArray=xs.toList.reverse.toArray:=by
 congr 1;apply Mv;intro i
 have hf:∀m∈List.range xs.size,xs[(((xs.size:Int)-1)+(m:Int)*(-1)).toNat]?=some (xs.toList.reverse.getD m .none):=by
  intro m hm;have hm':m<xs.size:=by simpa using hm
  have e:(((xs.size:Int)-1)+(m:Int)*(-1)).toNat=xs.size-1-m:=by omega
  rw[e,Mu,List.getElem?_reverse (by simpa using hm')];have h2:xs.size-1-m<xs.size:=by omega
  rw[LX h2];simp[JM,h2]
 rw[ju hf];by_cases hi:i<xs.size
 ·rw[Kh,Mw hi];simp only[Option.map_some];rw[Mu,MR (by simpa using hi)];rfl
 ·rw[Mx (by simpa using hi),Mx (by simpa using hi)]
theorem lV{prog:Program}{w:World}{A:Around}{E:Value->Shared->Prop}{s:Shared}{sl:Addr}{n:Nat}{t:Tok}{Q:Int×Int×Nat->Shared->Prop}(hs:s.heap.IsSliceOf sl .none .none (.int (-1) t))
  (h:Q ((n:Int)-1,-1,n) s):wpAny (model prog w) A (Builtin.Slice.sliceApplied (.ref sl) (pure (n:Int))) Q E s:=by
 obtain⟨os,hos,hcs,hds⟩:=id hs;unfold Builtin.Slice.sliceApplied Builtin.Slice.sliceFields;refine JP (JP (Kx hos hds (x:=.none) rfl (JP (Kx hos hds (x:=.none) rfl (JP (Kx hos hds (x:=.int (-1) t) rfl (JT ?_)))))));refine JP (slicePart_int ?_);show wpAny _ _ (if ((-1:Int) == 0)=true then _ else _) _ _ s;rw[Jp (by decide)];refine JP (Kv (JP (Kv (JP (JT ?_)))));show wpAny _ _ (match Builtin.Slice.sliceAdjust none none (-1) (n:Int) with|(lo,hi)=>pure (lo,(-1:Int),Builtin.Slice.slicePlaces lo hi (-1))) _ _ s;have e:Builtin.Slice.sliceAdjust none none (-1) (n:Int)=((n:Int)-1,-1):=by unfold Builtin.Slice.sliceAdjust;simp
 rw[e];show wpAny _ _ (pure ((n:Int)-1,(-1:Int),Builtin.Slice.slicePlaces ((n:Int)-1) (-1) (-1))) _ _ s
 have e2:Builtin.Slice.slicePlaces ((n:Int)-1) (-1) (-1)=n:=by
  unfold Builtin.Slice.slicePlaces;rw[Jp (by decide)];split <;> simp <;> omega
 rw[e2];exact JT h
theorem lu{prog:Program}{w:World}{A:Around}{E:Value->Shared->Prop}{s:Shared}{t sl:Addr}{tk:Tok}{items:Array Value}{Q:Value->Shared->Prop}(ht:IsTup s.heap t items)(hs:s.heap.IsSliceOf sl .none .none (.int (-1) tk))
  (h:Q (.ref s.heap.objs.size) {s with heap:=s.heap.push {cls:=.type "tuple",data:=.seq items.toList.reverse.toArray}}) (hsz:items.size<=sizeLine):wpAny (model prog w) A (getItem (.ref t) (.ref sl)) Q E s:=by
 have htake:sizeOk (.seq items.toList.reverse.toArray):=by
  show items.toList.reverse.toArray.size<=sizeLine;simpa using hsz
 obtain⟨os,hos,hcs,hds⟩:=id hs;have hTs:s.TypeIs (.ref sl) "slice" := ⟨os,hos,hcs⟩;unfold getItem
 try with_reducible refine JQ ?_
 first|refine JP (JT ?_)|skip
 refine JP (KB ht.typeIs (by decide) ?_)
 refine JP (KC (name:=Str.ofString "__getitem__") ht.typeIs KD
  (KE KD ht.typeIs KF ?_ (KG _ _)))
 show wpAny _ _ (Builtin.Tuple.tupleItemsOf (.ref t) >>= _) _ _ s;refine JP (tupleItemsOf_ ht ?_);refine JP (KH hTs ?_);rw[Jo (by decide)];refine JP (lV hs ?_);show wpAny _ _ (if (((items.size:Int)-1) == 0&&(-1:Int) == 1&&items.size == items.size)=true then _ else _) _ _ s;rw[Jp (by simp),sX]
 first
  |exact JP (m:=Builtin.Tuple.tupleExact _) (KL (JT ⟨_,rfl,JT h⟩) htake)
  |exact JP (m:=Builtin.Tuple.tupleExact _) (KL (JP (JT (JT ⟨_,rfl,JT h⟩))) htake)
  |exact JP (JP (m:=Builtin.Tuple.tupleExact _) (KL (JT (JT ⟨_,rfl,JT h⟩)) htake))
  |exact JP (JP (m:=Builtin.Tuple.tupleExact _) (KL (JT ⟨_,rfl,JT h⟩) htake))
end
inductive ym(K:W.Frag)(H:Hp):V->String->Prop where
 |non:ym K H .non "NoneType"
 |bl (x:Bool):ym K H (.bl x) "bool"
 |int (i:Int):ym K H (.int i) "int"
 |str (x:Str):ym K H (.str x) "str"
 |lst {a:Addr}{xs:List V} (e:eT K H a xs):ym K H (.ref a) "list"
 |tup {a:Addr}{xs:List V} (e:fu K H a xs):ym K H (.ref a) "tuple"
 |dic {a:Addr}{kvs:List (oO×V)} (e:H a=some (.dK kvs)):ym K H (.ref a) "dict"
def jd (tn T:String):Bool:=tn == T || (tn == "bool" && T == "int")
def qF:List String:=["NoneType", "bool", "int", "str", "list", "tuple", "dict"]
theorem Fu {K:W.Frag}:∀tn∈qF,∀T∈["int", "bool", "tuple", "list", "str", "dict"],W.kitOne K (.type tn) (.type T)=some (jd tn T):=by
 intro tn h1 T h2;simp only[qF,JC,Ml,Mm]at h1 h2;rcases h1 with rfl|rfl|rfl|rfl|rfl|rfl|rfl <;> rcases h2 with rfl|rfl|rfl|rfl|rfl|rfl <;> rfl
theorem ym.mem{K:W.Frag}{H:Hp}{x:V}{tn:String}(h:ym K H x tn):tn∈qF:=by
 cases h <;> decide
section
variable{X:Cx}
theorem FD{pins:List (Addr×Obj)}{σ:St}{H:Hp}{s:Shared}{A:Around}{E:Value->Shared->Prop}{Q:Value->Shared->Prop}{c:Value}{b:Bool}{x:V}{u:Value}{tn:String}(I:aS X pins σ H s)(rx:cq x u)(ty:ym X.K H x tn)(e:W.kitOne X.K (.type tn) c=some b)(h:∀tk,Q (.bool b) {s with toks:=tk}) :
  wpAny (model X.prog X.w) A (call (.builtin "isinstance") [u,c]) Q E s:=by
 cases ty with
 |non=>cases (show u=Value.none from rx);exact W.kia_one W.kitx_none I.kIn True.intro e (fun z=>nomatch z) h
 |bl y=>cases (show u=Value.bool y from rx);exact W.kia_one W.kitx_bool I.kIn True.intro e (fun z=>nomatch z) h
 |int i=>obtain⟨t,q⟩:=(show ∃t,u=Value.int i t from rx);cases q;exact W.kia_one W.kitx_int I.kIn True.intro e (fun z=>nomatch z) h
 |str y=>obtain⟨t,q⟩:=(show ∃t,u=Value.str y t from rx);cases q;exact W.kia_one W.kitx_str I.kIn True.intro e (fun z=>nomatch z) h
 | @lst a xs ea=>
  cases (show u=Value.ref a from rx);obtain⟨its,_,⟨o,n,h1,h2,_⟩,_⟩:=I.list ea;exact W.kia_one W.kitx_list I.kIn ⟨o,h1,h2⟩ e (fun z=>nomatch z) h
 | @tup a xs ea=>
  cases (show u=Value.ref a from rx);obtain⟨its,_,⟨o,h1,h2,_⟩,_⟩:=I.tuple ea;exact W.kia_one W.kitx_tuple I.kIn ⟨o,h1,h2⟩ e (fun z=>nomatch z) h
 | @dic a kvs ea=>
  cases (show u=Value.ref a from rx);obtain⟨_,_,vs,_,p⟩:=(show dq X.prog X.w H s.heap a (.dK kvs) from I.hok a _ ea);obtain⟨o,es,ep,h1,h2,_⟩:=p;exact W.kia_one W.kitx_dict I.kIn ⟨o,h1,h2.1⟩ e (fun z=>nomatch z) h
def Gh(K:W.Frag):List V->Hp->VK->Prop:=fun xs H Q=>∃x T tn b,xs=[x,.ty T]/\ym K H x tn/\W.kitOne K (.type tn) (.type T)=some b/\Q (.bl b) H
theorem AG:bY X (.builtin "isinstance") (Gh X.K):=by
 intro pins s σ H xs us Q I r h;obtain⟨x,T,tn,b,rfl,ty,e,q⟩:=h;obtain⟨u,u2,rfl,ru,ru2⟩:=yJ r;cases ru2;exact FD I ru ty e fun tk=>⟨.bl b,H,I.tok _,rfl,q⟩
end
def AL(μ:au):D->Option String
 |.non=>some "NoneType"
 |.bl _=>some "bool"
 |.int _=>some "int"
 |.str _=>some "str"
 |.tup _=>some "tuple"
 |.frz _=>some "list"
 |.obj n=>match μ[n]? with
  |some (.lst _)=>some "list"
  |some .dic=>some "dict"
  |_=>none
theorem DV{p:Pa}{H:Hp}{α:List Addr}{μ:au}{d:D}{v:V}{tn:String}(S:p.S H α μ)(r:p.R H α d v)(h:AL μ d=some tn):ym p.K H v tn:=by
 cases d with
 |non=>cases h;rw[bV.mp r];exact .non
 |bl b=>cases h;rw[aU.mp r];exact .bl b
 |int b=>cases h;rw[ak.mp r];exact .int b
 |str b=>cases h;rw[aZ.mp r];exact .str b
 |tup xs=>cases h;obtain⟨a,vs,rfl,h1,_⟩:=aD.mp r;exact .tup h1
 |frz xs=>cases h;obtain⟨a,vs,rfl,h1,_⟩:=bf.mp r;exact .lst h1.sq
 |obj n=>
  unfold AL at h;dsimp only at h;split at h
  ·rename_i xs hx;cases h;obtain⟨a,us,rfl,a1,h1,_⟩:=cP S r hx;exact .lst (eT.of h1)
  ·rename_i hx;cases h;obtain⟨a,ea,q⟩:=S.at hx;obtain⟨a',rfl,ea'⟩:=aN.mp r;rw[ea]at ea';cases ea';exact .dic q
  ·cases h
def gf(T:String)(d:D)(μ:au):af D:=match AL μ d with
 |some tn=>.ok (.bl (jd tn T)) μ
 |none=>.bad
theorem Em {p:Pa}{X:Cx}{a:Expr}{fa:ME}{T:String}{xT:Str}{px pt pos:Pos} (hK:X.K=p.K) (hT:T∈["int", "bool", "tuple", "list", "str", "dict"]) (hg:Gl X "isinstance") (hm:X.mg "isinstance" = none) (hgT:Gl X xT) (hmT:X.mg xT=none) (hbT:bootBuiltins xT=some (.type T)) (ha:PE X a (tD p fa))
  (hnT:xT ≠ "__name__") (hdT:(xT == ("__debug__" : Str))=false) (hs1:starEach [a,.Name xT pt] X.env=(false,eval a X.env)::starEach [.Name xT pt] X.env) :
  PE X (.Call (.Name "isinstance" px) [a,.Name xT pt] [] pos) (tD p (rS (gf T) fa)):=by
 have hb:PE X (.Name xT pt) (tC (.ty T)):=BZ hgT hmT hbT rfl hnT hdT;refine(sZ AG hg hm boot_isinstance (kN ha (kN hb qx rfl) hs1) (by decide) (by decide) hs1 rfl).weak fun σ H Q ⟨α,ρ,μ,S,R,P⟩=>⟨α,ρ,μ,S,R,(aC.bind P).imp fun d μ1 H1 α1 X1 S1 P1 v rv=>?_⟩;show Gh X.K [v,.ty T] H1 Q;unfold gf at P1;split at P1
 ·rename_i tn htn;have ty:=DV S1 rv htn;rw[hK];exact⟨v,T,tn,_,rfl,ty,Fu tn ty.mem T hT,P1.now S1 _ (aU.mpr rfl)⟩
 ·exact P1.elim
def jj:List D->Option (List Bool)
 |[]=>some []
 |.bl b::r=>(jj r).map (b::·)
 |_::_=>none
theorem kv:∀{ds:List D}{bs:List Bool},jj ds=some bs->ds=bs.map D.bl
 |[],bs,h=>by cases h;rfl
 |.bl b::r,bs,h=>by
  unfold jj at h;cases e:jj r with
  |none=>rw[e]at h;cases h
  |some cs=>rw[e]at h;cases h;rw[kv e];rfl
 |.non::r,bs,h=>by cases h
 |.int _::r,bs,h=>by cases h
 |.str _::r,bs,h=>by cases h
 |.tup _::r,bs,h=>by cases h
 |.frz _::r,bs,h=>by cases h
 |.obj _::r,bs,h=>by cases h
theorem qg(bs:List Bool):jj (bs.map D.bl)=some bs:=by
 induction bs with
 |nil=>rfl
 |cons b r ih=>simp only[KN,jj,ih];rfl
theorem Reps.bools{K:W.Frag}{H:Hp}{α:List Addr}:∀{bs:List Bool}{vs:List V},Reps K H α (bs.map D.bl) vs->vs=bs.map V.bl
 |[],vs,h=>by simp only[KM,Reps]at h;exact h
 |n::ns,vs,h=>by
  simp only[KN,Reps]at h;obtain⟨v,r,rfl,h1,h2⟩:=h;rw[aU.mp h1,Reps.bools h2];rfl
theorem n8{bs:List Bool}{us:List Value}(h:aX (bs.map V.bl) us):us=bs.map Value.bool:=by
 induction bs generalizing us with
 |nil=>cases h;rfl
 |cons b r ih=>
  cases h with
  |cons h1 h2=>cases h1;rw[ih h2];rfl
theorem yh{bs:List Bool}:(List.range bs.length).all (fun i=>bs.getD i false)=bs.all id:=by
 induction bs with
 |nil=>rfl
 |cons b r ih=>
  rw[La,Ll,Nt,Nu,Nt];congr 1
theorem yg{bs:List Bool}:(List.range bs.length).any (fun i=>bs.getD i false)=bs.any id:=by
 induction bs with
 |nil=>rfl
 |cons b r ih=>
  rw[La,Ll,List.any_cons,Nv,List.any_cons];congr 1
section
variable{X:Cx}
def Gn(K:W.Frag):List V->Hp->VK->Prop:=fun xs H Q=>∃(a:Addr)(bs:List Bool),xs=[.ref a]/\eT K H a (bs.map V.bl)/\Q (.bl (bs.all id)) H
def Gm(K:W.Frag):List V->Hp->VK->Prop:=fun xs H Q=>∃(a:Addr)(bs:List Bool),xs=[.ref a]/\eT K H a (bs.map V.bl)/\Q (.bl (bs.any id)) H
theorem aS.fresh_it{pins:List (Addr×Obj)}{σ:St}{H:Hp}{s:Shared}(I:aS X pins σ H s){o:Obj}{h':Heap}{tk:Nat}(hk:∀b ob,b ∉ [s.heap.objs.size]->(s.heap.push o).get? b=some ob->h'.get? b=some ob):aS X pins σ H {s with heap:=h',toks:=tk}:=
 I.kept fun b ob e=>hk b ob (fun hm=>by
  have:b=s.heap.objs.size:=by simpa using hm
  subst this
  exact absurd (Jr e) (Jt _)) (JW _ e)
theorem ye (hc:X.calm=true):bY X (.builtin "all") (Gn X.K):=by
 intro pins s σ H xs us Q I r h;obtain⟨a,bs,rfl,ha,q⟩:=h;obtain⟨u,rfl,ru⟩:=dk r;cases ru;obtain⟨its,rv,pl,hz⟩:=I.list ha;have hi:its=bs.map Value.bool:=n8 rv
 have hne:a≠s.heap.objs.size:=by
  obtain⟨o,n,e,_⟩:=pl;exact Ju (Jr e)
 refine call_all_walk (Mi pl.isList ?_);refine⟨s.heap.objs.size,[s.heap.objs.size,a],[s.heap.objs.size],_,_,_,fun i=>bs.getD i false,rfl,Mn (A:=X.A.in1) (show X.A.in1.handled=none from I.ok.hd hc) _ a hne its.toArray,⟨⟨_,JX _ rfl,rfl,rfl⟩,pl.isList.at fun o e=>JW _ e⟩,?_,?_⟩
 ·intro i v s' Q' E' hP hQ;subst hi;have hv:(bs.map Value.bool)[i]?=some v:=by simpa using hP
  rw[Kh]at hv;cases e:bs[i]? with
  |none=>rw[e]at hv;cases hv
  |some b=>
   rw[e]at hv;cases hv;have:bs.getD i false=b:=by rw[Mu,e];rfl
   dsimp only at hQ;rw[this]at hQ;exact JL hQ
 ·intro h' tk hk;have e2:its.toArray.size=bs.length:=by subst hi;simp
  rw[e2,yh];exact⟨.bl _,H,I.fresh_it hk,rfl,q⟩
theorem yd (hc:X.calm=true):bY X (.builtin "any") (Gm X.K):=by
 intro pins s σ H xs us Q I r h;obtain⟨a,bs,rfl,ha,q⟩:=h;obtain⟨u,rfl,ru⟩:=dk r;cases ru;obtain⟨its,rv,pl,hz⟩:=I.list ha;have hi:its=bs.map Value.bool:=n8 rv
 have hne:a≠s.heap.objs.size:=by
  obtain⟨o,n,e,_⟩:=pl;exact Ju (Jr e)
 refine call_any_walk (Mi pl.isList ?_);refine⟨s.heap.objs.size,[s.heap.objs.size,a],[s.heap.objs.size],_,_,_,fun i=>bs.getD i false,rfl,Mn (A:=X.A.in1) (show X.A.in1.handled=none from I.ok.hd hc) _ a hne its.toArray,⟨⟨_,JX _ rfl,rfl,rfl⟩,pl.isList.at fun o e=>JW _ e⟩,?_,?_⟩
 ·intro i v s' Q' E' hP hQ;subst hi;have hv:(bs.map Value.bool)[i]?=some v:=by simpa using hP
  rw[Kh]at hv;cases e:bs[i]? with
  |none=>rw[e]at hv;cases hv
  |some b=>
   rw[e]at hv;cases hv;have:bs.getD i false=b:=by rw[Mu,e];rfl
   dsimp only at hQ;rw[this]at hQ;exact JL hQ
 ·intro h' tk hk;have e2:its.toArray.size=bs.length:=by subst hi;simp
  rw[e2,yg];exact⟨.bl _,H,I.fresh_it hk,rfl,q⟩
end
def mC(ds:List D)(μ:au):af D:=match ds with
 |[.obj n]=>match μ[n]? with
  |some (.lst xs)=>match jj xs with
   |some bs=>.ok (.bl (bs.all id)) μ
   |none=>.bad
  |_=>.bad
 |_=>.bad
def uG(ds:List D)(μ:au):af D:=match ds with
 |[.obj n]=>match μ[n]? with
  |some (.lst xs)=>match jj xs with
   |some bs=>.ok (.bl (bs.any id)) μ
   |none=>.bad
  |_=>.bad
 |_=>.bad
theorem Ff{p:Pa}:rQ p mC (Gn p.K):=by
 intro ds vs H α μ Q S r P;unfold mC at P;split at P
 ·rename_i n;split at P
  ·rename_i xs hx;split at P
   ·rename_i bs hb;obtain⟨v,rfl,r1⟩:=r.one;obtain⟨a,us,rfl,a1,h1,rr⟩:=cP S r1 hx;rw[kv hb]at rr;exact⟨a,bs,rfl,by rw[<- rr.bools];exact eT.of h1,P.now S _ (aU.mpr rfl)⟩
   ·exact P.elim
  ·exact P.elim
 ·exact P.elim
theorem Fe{p:Pa}:rQ p uG (Gm p.K):=by
 intro ds vs H α μ Q S r P;unfold uG at P;split at P
 ·rename_i n;split at P
  ·rename_i xs hx;split at P
   ·rename_i bs hb;obtain⟨v,rfl,r1⟩:=r.one;obtain⟨a,us,rfl,a1,h1,rr⟩:=cP S r1 hx;rw[kv hb]at rr;exact⟨a,bs,rfl,by rw[<- rr.bools];exact eT.of h1,P.now S _ (aU.mpr rfl)⟩
   ·exact P.elim
  ·exact P.elim
 ·exact P.elim
def sy(ds:List D)(μ:au):af D:=match ds with
 |[.tup xs]=>.ok (.int xs.length) μ
 |[.frz xs]=>.ok (.int xs.length) μ
 |[.str x]=>if x.length<=sizeLine then .ok (.int x.length) μ else .bad
 |[.obj n]=>match μ[n]? with
  |some (.lst xs)=>.ok (.int xs.length) μ
  |_=>.bad
 |_=>.bad
theorem wj{p:Pa}:rQ p sy (fun xs H Q=>∃x n,xs=[x]/\DM p.K x H n/\Q (.int n) H):=by
 intro ds vs H α μ Q S r P;unfold sy at P;split at P
 ·rename_i xs;obtain⟨v,rfl,r1⟩:=r.one;obtain⟨a,us,rfl,h1,rr⟩:=aD.mp r1;exact⟨_,xs.length,rfl,.inr ⟨us,h1,rr.length.symm⟩,P.now S _ (ak.mpr rfl)⟩
 ·rename_i xs;obtain⟨v,rfl,r1⟩:=r.one;obtain⟨a,us,rfl,h1,rr⟩:=bf.mp r1;exact⟨_,xs.length,rfl,.inl ⟨us,h1.sq,rr.length.symm⟩,P.now S _ (ak.mpr rfl)⟩
 ·rename_i x;obtain⟨v,rfl,r1⟩:=r.one;split at P
  ·rename_i hl;exact⟨v,x.length,rfl,by rw[aZ.mp r1];exact⟨hl,rfl⟩,P.now S _ (ak.mpr rfl)⟩
  ·exact P.elim
 ·rename_i n;split at P
  ·rename_i xs hx;obtain⟨v,rfl,r1⟩:=r.one;obtain⟨a,us,rfl,a1,h1,rr⟩:=cP S r1 hx;exact⟨_,xs.length,rfl,.inl ⟨us,eT.of h1,rr.length.symm⟩,P.now S _ (ak.mpr rfl)⟩
  ·exact P.elim
 ·exact P.elim
def iN(ds:List D)(μ:au):af D:=match ds with
 |[.tup xs]=>.ok (.tup xs) μ
 |[.frz xs]=>.ok (.tup xs) μ
 |[.obj n]=>match μ[n]? with
  |some (.lst xs)=>.ok (.tup xs) μ
  |_=>.bad
 |_=>.bad
theorem Af{p:Pa}:rQ p iN (fun xs H Q=>∃q ys,xs=[.ref q]/\((eT p.K H q ys/\∀l,H l=none->Q (.ref l) (cG H l (.tup ys)))\/(fu p.K H q ys/\Q (.ref q) H))):=by
 intro ds vs H α μ Q S r P;unfold iN at P;split at P
 ·rename_i xs;obtain⟨v,rfl,r1⟩:=r.one;obtain⟨a,us,rfl,h1,rr⟩:=aD.mp r1;exact⟨a,us,rfl,.inr ⟨h1,P.now S _ r1⟩⟩
 ·rename_i xs;obtain⟨v,rfl,r1⟩:=r.one;obtain⟨a,us,rfl,h1,rr⟩:=bf.mp r1;exact⟨a,us,rfl,.inl ⟨h1.sq,fun q hq=>P _ _ (bx hq) (S.tuple hq) _ (aD.mpr ⟨q,us,rfl,fu.of bO,rr.mono (bx hq)⟩)⟩⟩
 ·rename_i n;split at P
  ·rename_i xs hx;obtain⟨v,rfl,r1⟩:=r.one;obtain⟨a,us,rfl,a1,h1,rr⟩:=cP S r1 hx;exact⟨a,us,rfl,.inl ⟨eT.of h1,fun q hq=>P _ _ (bx hq) (S.tuple hq) _ (aD.mpr ⟨q,us,rfl,fu.of bO,rr.mono (bx hq)⟩)⟩⟩
  ·exact P.elim
 ·exact P.elim
def i4(ds:List D)(μ:au):af D:=match ds with
 |[.tup xs]=>.ok (.obj μ.length) (μ++[.lst xs])
 |[.frz xs]=>.ok (.obj μ.length) (μ++[.lst xs])
 |[.obj n]=>match μ[n]? with
  |some (.lst xs)=>.ok (.obj μ.length) (μ++[.lst xs])
  |_=>.bad
 |_=>.bad
theorem Cd{p:Pa}:rQ p i4 (fun xs H Q=>∃q ys,xs=[.ref q]/\(eT p.K H q ys\/fu p.K H q ys)/\∀l,H l=none->Q (.ref l) (cG H l (.lst ys))):=by
 intro ds vs H α μ Q S r P;unfold i4 at P;split at P
 ·rename_i xs;obtain⟨v,rfl,r1⟩:=r.one;obtain⟨a,us,rfl,h1,rr⟩:=aD.mp r1;refine⟨a,us,rfl,.inr h1,fun q hq=>?_⟩;obtain⟨x1,x2,x3⟩:=bZ S hq rr;exact P _ _ x1 x2 _ x3
 ·rename_i xs;obtain⟨v,rfl,r1⟩:=r.one;obtain⟨a,us,rfl,h1,rr⟩:=bf.mp r1;refine⟨a,us,rfl,.inl h1.sq,fun q hq=>?_⟩;obtain⟨x1,x2,x3⟩:=bZ S hq rr;exact P _ _ x1 x2 _ x3
 ·rename_i n;split at P
  ·rename_i xs hx;obtain⟨v,rfl,r1⟩:=r.one;obtain⟨a,us,rfl,a1,h1,rr⟩:=cP S r1 hx;refine⟨a,us,rfl,.inl (eT.of h1),fun q hq=>?_⟩;obtain⟨x1,x2,x3⟩:=bZ S hq rr;exact P _ _ x1 x2 _ x3
  ·exact P.elim
 ·exact P.elim
def sA(ds:List D)(μ:au):af D:=match ds with
 |[.int i]=>.ok (.int i) μ
 |[.bl k]=>.ok (.int (if k then 1 else 0)) μ
 |_=>.bad
theorem Fd{p:Pa}:rQ p sA (fun xs H Q=>(∃i,xs=[.int i]/\Q (.int i) H)\/∃k,xs=[.bl k]/\Q (.int (if k then 1 else 0)) H):=by
 intro ds vs H α μ Q S r P;unfold sA at P;split at P
 ·rename_i i;obtain⟨v,rfl,r1⟩:=r.one;exact .inl ⟨i,by rw[ak.mp r1],P.now S _ (ak.mpr rfl)⟩
 ·rename_i i;obtain⟨v,rfl,r1⟩:=r.one;exact .inr ⟨i,by rw[aU.mp r1],P.now S _ (ak.mpr rfl)⟩
 ·exact P.elim
def yY(ds:List D)(μ:au):af D:=match ds with
 |[.int i,.int j]=>.ok (.int (if j>i then j else i)) μ
 |_=>.bad
def yX(ds:List D)(μ:au):af D:=match ds with
 |[.int i,.int j]=>.ok (.int (if j<i then j else i)) μ
 |_=>.bad
theorem Cc{p:Pa}:rQ p yY (fun xs H Q=>∃i j,xs=[.int i,.int j]/\Q (.int (if j>i then j else i)) H):=by
 intro ds vs H α μ Q S r P;unfold yY at P;split at P
 ·rename_i i j;obtain⟨v,u,rfl,r1,r2⟩:=r.two;exact⟨i,j,by rw[ak.mp r1,ak.mp r2],P.now S _ (ak.mpr rfl)⟩
 ·exact P.elim
theorem Cb{p:Pa}:rQ p yX (fun xs H Q=>∃i j,xs=[.int i,.int j]/\Q (.int (if j<i then j else i)) H):=by
 intro ds vs H α μ Q S r P;unfold yX at P;split at P
 ·rename_i i j;obtain⟨v,u,rfl,r1,r2⟩:=r.two;exact⟨i,j,by rw[ak.mp r1,ak.mp r2],P.now S _ (ak.mpr rfl)⟩
 ·exact P.elim
end L2
namespace L2
open PySem PySem.Spec PyProof.Rows RS
section
variable{prog:Program}{w:World}{A:Around}{E:Value->Shared->Prop}{s:Shared}
theorem mh {T:String} (hT:T = "list" \/ T = "tuple") {l:Addr}{vs:List Value}{Q:List Value->Shared->Prop}{o:Obj}{n:Nat} (ho:s.heap.get? l=some o) (hc:o.cls=.type T) (hd:o.data=.seq vs.toArray n)
  (h:Q vs {s with heap:=(s.heap.push (seqObj "list" #[] 0)).update s.heap.objs.size (Obj.mapSeq (·++vs.toArray))}) (hsz:vs.length<=sizeLine) :
  wpAny (model prog w) A (collect (.ref l)) Q E s:=by
 unfold collect;refine JP (Mj (Ma entry_proto_collect' ?_));show wpAny _ _ (do again (.builtin "list.__iadd__" ⟨[<- newList [],.ref l],[]⟩)) _ _ s;refine JP (MH (JT ⟨Mh _ (by decide +kernel),Ma entry_list_iadd' ?_⟩));show wpAny _ _ (Builtin.List.listExtendWith (.ref s.heap.objs.size) (.ref l) (.ref s.heap.objs.size)) _ _ {s with heap:=s.heap.push (seqObj "list" #[] 0)};unfold Builtin.List.listExtendWith;have ho':(s.heap.push (seqObj "list" #[] 0)).get? l=some o:=JW _ ho;refine JP (KH (T:=T) ⟨o,ho',hc⟩ ?_);have h1:(Value.type "list" == Value.type "list")=true:=by rfl
 have h2:(Value.type "tuple" == Value.type "tuple")=true:=by rfl
 rw[Jo (by rcases hT with rfl|rfl <;> simp[h1,h2])];refine JP (Mz ho' hd ?_);refine JP (Mz (xs:=#[]) (n:=0) (JX _ rfl) rfl ?_);rw[Jp (by simp)];refine JP (MC (xs:=#[]) (n:=0) (JX _ rfl) rfl ?_ (Lj _) (by show (#[]++vs.toArray).size<=sizeLine+1;simp only[Array.size_append,J6,Lp];omega));refine JT ?_
 show wpAny (model prog w) A (do
   let o <- load s.heap.objs.size
   match o.data with
   |.seq xs _=>pure xs.toList
   |_=>unsupported "internal:collect") Q E {s with heap:=(s.heap.push (seqObj "list" #[] 0)).update s.heap.objs.size (Obj.mapSeq (·++vs.toArray))}
 refine JP (JU (MD (JX _ rfl) _) ?_);show wpAny _ _ (pure ((#[]:Array Value)++vs.toArray).toList) Q E _;rw[show ((#[]:Array Value)++vs.toArray).toList=vs by simp];exact JT h
theorem rm {T:String} (hT:T = "list" \/ T = "tuple") {l:Addr}{vs:List Value}{ns:List Int}{Q:Value->Shared->Prop}{o:Obj}{n:Nat} (ho:s.heap.get? l=some o) (hc:o.cls=.type T) (hd:o.data=.seq vs.toArray n) (hI:IntsAre vs ns) (h64:vs.length<64)
  (h:∀(out:Array Value)(ns':List Int),IntsAre out.toList ns'->ns'.Perm ns->ns'.Pairwise (·<=·)->Q (.ref (s.heap.objs.size+1)) {s with heap:=sortedAll s.heap vs out}) :
  wpAny (model prog w) A (call (.builtin "sorted") [.ref l]) Q E s:=by
 have hsz0:vs.length<=sizeLine:=Jx (Jy h64) (by decide);refine MY MZ Na Nd (Nf _) ?_;unfold Builtin.«sorted»;refine JP (m:=checkCount "sorted" 1 1 _) (JT ?_);refine JP (mh hT ho hc hd ?_ hsz0);refine JP (MH ?_ hsz0)
 have hsz:((s.heap.push (seqObj "list" #[] 0)).update s.heap.objs.size (Obj.mapSeq (·++vs.toArray))).objs.size=s.heap.objs.size+1:=by
  rw[ML,MK]
 have hoL:(((s.heap.push (seqObj "list" #[] 0)).update s.heap.objs.size (Obj.mapSeq (·++vs.toArray))).push (seqObj "list" vs.toArray 0)).get? (s.heap.objs.size+1)=some (seqObj "list" vs.toArray 0):=by
  rw[<- hsz];exact JX _ rfl
 show wpAny _ _ _ _ _ {s with heap:=((s.heap.push (seqObj "list" #[] 0)).update s.heap.objs.size (Obj.mapSeq (·++vs.toArray))).push (seqObj "list" vs.toArray 0)};rw[hsz];refine JP (JQ (KE Ng ⟨_,hoL,rfl⟩ Nh (list_sort_tree hoL hI h64 fun out ns' a1 a2 a3=>⟨_,rfl,?_⟩) (Ni _)));exact JT ⟨_,rfl,h out ns' a1 a2 a3⟩
end
theorem oT{h:Heap}{vs:List Value}{out:Array Value}{b:Addr}{u:Obj}(e:h.get? b=some u):(sortedAll h vs out).get? b=some u:=by
 have hb:=Jr e;have n1:b≠h.objs.size:=Ju hb;have n2:b≠h.objs.size+1:=Ju (Lc hb);unfold sortedAll sortedHeap;rw[MM _ _ _ _ n2];refine JW _ (JW _ ?_);rw[MM _ _ _ _ n2];refine JW _ ?_;rw[MM _ _ _ _ n1];exact JW _ e
theorem oU {h:Heap}{vs:List Value}{out:Array Value}:∃n,(sortedAll h vs out).get? (h.objs.size+1)=some (seqObj "list" out n):=by
 unfold sortedAll sortedHeap
 have hsz:((h.push (seqObj "list" #[] 0)).update h.objs.size (Obj.mapSeq (·++vs.toArray))).objs.size=h.objs.size+1:=by
  rw[ML,MK]
 have hoL:(((h.push (seqObj "list" #[] 0)).update h.objs.size (Obj.mapSeq (·++vs.toArray))).push (seqObj "list" vs.toArray 0)).get? (h.objs.size+1)=some (seqObj "list" vs.toArray 0):=by
  rw[<- hsz];exact JX _ rfl
 have g1:=MD hoL (fun _=>#[]);have g2:=JW (seqObj "list" #[] 0) (JW (seqObj "tuple" vs.toArray 0) g1);exact⟨_,MD g2 (fun _=>out)⟩
theorem k5{us:List Value}{ns:List Int}(h:IntsAre us ns):aX (ns.map V.int) us:=by
 induction h with
 |nil=>exact .nil
 |cons n t _ ih=>exact .cons ⟨t,rfl⟩ ih
section
variable{X:Cx}
def uO(K:W.Frag):List V->Hp->VK->Prop:=fun xs H Q=>∃(a:Addr)(ns:List Int),xs=[.ref a]/\(eT K H a (ns.map V.int)\/fu K H a (ns.map V.int))/\ns.length<64 /\
 ∀ns':List Int,ns'.Perm ns->ns'.Pairwise (·<=·)->∀l,H l=none->Q (.ref l) (cG H l (.lst (ns'.map V.int)))
theorem vE:bY X (.builtin "sorted") (uO X.K):=by
 intro pins s σ H xs us Q I r h;obtain⟨a,ns,rfl,ha,hl,q⟩:=h;obtain⟨u,rfl,ru⟩:=dk r;cases ru
 have core:∀(T:String),T = "list" \/ T = "tuple" -> ∀(its:List Value) (o:Obj) (n:Nat),s.heap.get? a=some o->o.cls=.type T->o.data=.seq its.toArray n->aX (ns.map V.int) its->wpAny (model X.prog X.w) X.A (call (.builtin "sorted") [.ref a]) (EP X pins σ Q) X.xe s:=by
  intro T hT its o n e1 e2 e3 rv;have hI:IntsAre its ns:=eO rv;refine rm hT e1 e2 e3 hI (by rw[hI.length];exact hl) fun out ns' h1 h2 h3=>?_;refine⟨.ref (s.heap.objs.size+1),cG H (s.heap.objs.size+1) (.lst (ns'.map V.int)),I.laid (t':=s.toks) (fun b ob e=>oT e) (Nat.le_succ _) ?_,rfl,q ns' h2 h3 _ (I.hok.fresh (Nat.le_succ _))⟩;obtain⟨m,e⟩:=oU (h:=s.heap) (vs:=its) (out:=out);refine⟨?_,out.toList,m,k5 h1,by simpa using e⟩;rw[Kk,h2.length_eq];exact Jx (Jy hl) (by decide)
 rcases ha with ha|ha
 ·obtain⟨its,rv,⟨o,n,e1,e2,_,e3⟩,hz⟩:=I.list ha;exact core "list" (.inl rfl) its o n e1 e2 e3 rv
 ·obtain⟨its,rv,⟨o,e1,e2,n,e3⟩,hz⟩:=I.tuple ha;exact core "tuple" (.inr rfl) its o n e1 e2 e3 rv
theorem vN{pins:List (Addr×Obj)}{σ:St}{H:Hp}{s:Shared}{r:Addr}{k:List Int}(I:aS X pins σ H s)(h:fu X.K H r (k.map V.int)):Tk X.prog X.w s.heap k r:=by
 obtain⟨its,rv,⟨o,e1,e2,n,e3⟩,_⟩:=I.tuple h;refine⟨o,its.toArray,n,e1,e2,e3,?_⟩
 have core:∀(k:List Int)(its:List Value),aX (k.map V.int) its->PySem.ItemsAre (intKind X.prog X.w) k its:=by
  intro k
  induction k with
  |nil=>intro its h;cases h;exact .nil
  |cons i r ih=>
   intro its h;cases h with
   |cons h1 h2=>
    obtain⟨t,rfl⟩:=h1;exact .cons (by simp[intKind,Value.isInt]) (ih _ h2)
 simpa using core k its rv
def f6(qs:List KP):List V:=qs.map fun p=>V.ref p.2
theorem jI:∀{qs:List KP}{its:List Value},aX (f6 qs) its->its=qs.map fun p=>Value.ref p.2
 |[],its,h=>by cases h;rfl
 |q::qs,its,h=>by
  cases h with
  |cons h1 h2=>cases h1;rw[jI h2];rfl
theorem jm:∀(qs:List KP),aX (f6 qs) (aw qs)
 |[]=>.nil
 |q::qs=>.cons rfl (jm qs)
def yN(K:W.Frag)(w:World):List V->Hp->VK->Prop:=fun xs H Q=>∃(a:Addr)(qs:List KP),xs=[.ref a]/\(eT K H a (f6 qs)\/fu K H a (f6 qs))/\(∀p∈qs,p.1∈prs/\fu K H p.2 (p.1.map V.int)) /\
 ∀l,H l=none->Q (.ref l) (cG H l (.ext fun h=>d5 w h l (eN qs)))
theorem xZ (hc:X.calm=true) (hu:X.A.units+64<cLine):bY X (.type "set") (yN X.K X.w):=by
 intro pins s σ H xs us Q I r h;obtain⟨a,qs,rfl,ha,hq,q⟩:=h;obtain⟨u,rfl,ru⟩:=dk r;cases ru
 have fin:∀(h':Heap)(tk:Nat),d5 X.w h' s.heap.objs.size (eN qs)->(∀b o,b<s.heap.objs.size->s.heap.get? b=some o->h'.get? b=some o)->EP X pins σ Q (.ref s.heap.objs.size) {s with heap:=h',toks:=tk}:=by
  intro h' tk hS hk;refine⟨.ref s.heap.objs.size,cG H s.heap.objs.size (.ext fun h=>d5 X.w h s.heap.objs.size (eN qs)),I.laid (t':=tk) (fun b ob e=>hk b ob (Jr e) e) (JY _) ?_,rfl,q _ (I.hok.fresh (JY _))⟩;refine⟨hS,?_,fun h1 h2 g k=>g.keeps k⟩;obtain⟨o,es,ep,t,Z,S0,_⟩:=hS;exact⟨o,S0.ho⟩
 rcases ha with ha|ha
 ·obtain⟨its,rv,pl,hz⟩:=I.list ha;exact uc (I.ok.hd hc) pl.isList (by simpa using jI rv) (fun p hp=>(hq p hp).1) (fun p hp=>vN I (hq p hp).2) (by omega) fin
 ·obtain⟨its,rv,pl,hz⟩:=I.tuple ha;exact rp (I.ok.hd hc) pl (by simpa using jI rv) (fun p hp=>(hq p hp).1) (fun p hp=>vN I (hq p hp).2) (by omega) fin
def uN(K:W.Frag)(w:World):List V->Hp->VK->Prop:=fun xs H Q=>∃(a:Addr)(ps:List KP),xs=[.ref a]/\H a=some (.ext fun h=>d5 w h a ps)/\(∀p∈ps,fu K H p.2 (p.1.map V.int)) /\
 ∀out:List KP,out.Perm ps->gA out->∀l,H l=none->Q (.ref l) (cG H l (.lst (f6 out)))
theorem vD (hc:X.calm=true):bY X (.builtin "sorted") (uN X.K X.w):=by
 intro pins s σ H xs us Q I r h;obtain⟨a,ps,rfl,ha,hT,q⟩:=h;obtain⟨u,rfl,ru⟩:=dk r;cases ru;obtain⟨hS,_⟩:=(show dq X.prog X.w H s.heap a (.ext fun h=>d5 X.w h a ps) from I.hok a _ ha);refine vb (I.ok.hd hc) hS (fun p hp=>vN I (hT p hp)) fun out hp hr h' D hD hk hn=>?_;refine⟨.ref D,cG H D (.lst (f6 out)),I.laid (t':=s.toks) (fun b ob e=>hk b ob e) hD ?_,rfl,q out hp hr _ (I.hok.fresh hD)⟩;obtain⟨n,e⟩:=hn;refine⟨?_,aw out,n,jm out,e⟩
 have hl:out.length<=15:=by
  rw[hp.length_eq];obtain⟨o,es,ep,t,Z,S0,hk,hn⟩:=hS;exact jD hk hn
 unfold f6;rw[Kk];exact Jx hl (by decide)
end
end L2
namespace L2
open PySem PySem.Spec PyProof.Rows RS
def gk(qs:List KI):List KI:=qs.foldl (fun ps p=>r9 ps p.1 p.2) []
theorem rN(qs:List KI)(p:KI):gk (qs++[p])=r9 (gk qs) p.1 p.2:=by unfold gk;rw[List.foldl_append];rfl
def bD(ns:List Int):List Int:=ns.foldl (fun acc k=>if k∈acc then acc else acc++[k]) []
theorem lb:∀(qs ps:List KI),(qs.foldl (fun ps p=>r9 ps p.1 p.2) ps).map (·.1)=(qs.map (·.1)).foldl (fun acc k=>if k∈acc then acc else acc++[k]) (ps.map (·.1))
 |[],ps=>rfl
 |q::qs,ps=>by
  rw[K1,lb qs,KN,K1];congr 1;unfold r9;split
  ·rfl
  ·rw[LJ];rfl
theorem ur(qs:List KI):(gk qs).map (·.1)=bD (qs.map (·.1)):=lb qs []
theorem k7 {w:World}{h:Heap}{a:Addr} (e:h.get? a=some {cls:=.type "set",dict:=none,data:=.set #[] 0 (.fresh 0 0 (kJ w))}):bE w h a []:=
 ⟨_,_,_,_,[],⟨e,⟨rfl,rfl,rfl⟩,rfl,⟨rfl,rfl,List.Pairwise.nil,fun z hz=>by simp at hz,rfl,fun z hz=>by simp at hz⟩,rfl,rfl,.inl ⟨rfl,by decide⟩,List.Perm.nil⟩,fun p hp=>by simp at hp,LR⟩
def lB(p:KI):Value:=Value.int p.1 p.2
section
variable{prog:Program}{w:World}{A:Around}{E:Value->Shared->Prop}{s:Shared}
theorem ql{qs:List KI}{S:Addr}{u:Nat}(hk:∀p∈qs,p.1∈ins):yG prog w u S (qs.map lB) (fun i h=>bE w h S (gk (qs.take i))):=by
 refine⟨fun i h h' hk' j1=>j1.keeps fun o e=>hk' S o (JY _) e,fun A i v s E Q hA hv j1 hQ=>?_⟩;rw[Kh]at hv;cases e:qs[i]? with
 |none=>rw[e]at hv;cases hv
 |some p=>
  rw[e]at hv;cases hv;have hpm:p∈qs:=Ki e;unfold setAdd lB;refine JQ ?_;refine JP (wpAny_pyHash_int ?_);refine CU (s:={s with toks:=s.toks+1}) j1 (hk p hpm) fun b h' hsb hS2=>?_;have etk:qs.take (i+1)=qs.take i++[p]:=by rw[Mp,e];rfl
  refine hQ b h' _ (Nat.le_add_right _ _) hsb (by rw[etk,rN];exact hS2)
theorem p4:∀(qs:List KI),IntsAre (qs.map lB) (qs.map (·.1))
 |[]=>.nil
 |p::qs=>.cons p.1 p.2 (p4 qs)
theorem tO{vs:List Value}{ns:List Int}(h:IntsAre vs ns):∃qs:List KI,vs=qs.map lB/\qs.map (·.1)=ns:=by
 induction h with
 |nil=>exact⟨[],rfl,rfl⟩
 |cons n t _ ih=>
  obtain⟨qs,e1,e2⟩:=ih;exact⟨(n,t)::qs,by rw[e1];rfl,by rw[<- e2];rfl⟩
theorem t9{a:Addr}{ps:List KI}{Q:Value->Shared->Prop}(hh:A.handled=none)(S:bE w s.heap a ps)
  (h:∀(out:List Value) (ns':List Int),IntsAre out ns'->ns'.Perm (ps.map (·.1))->ns'.Pairwise (·<=·)->∀h' D,s.heap.objs.size<=D->(∀b u,s.heap.get? b=some u->h'.get? b=some u)->(∃n,h'.get? D=some (seqObj "list" out.toArray n))->Q (.ref D) {s with heap:=h'}) :
  wpAny (model prog w) A (call (.builtin "sorted") [.ref a]) Q E s:=by
 obtain⟨o,es,ep,t,Z,S,hk,hn⟩:=S;have h6:=iu hk hn;refine MY MZ Na Nd (Nf _) ?_;unfold Builtin.«sorted»;refine JP (m:=checkCount "sorted" 1 1 _) (JT ?_);refine JP (mi (by simpa using hh) S (by rw[S.len,Kk];omega) fun qs hqs h1 k1 hsz=>?_);obtain⟨rs,q1,q2⟩:=iV hqs ps rfl;have q3:qs.map (·.2)=rs.map lB:=by rw[q2,Lm];rfl
 rw[q3];have hvl:(rs.map lB).length<=6:=by rw[Kk,q1.length_eq];exact h6
 refine JP (MH ?_ (Jx hvl (by decide)));have hoL:(h1.push (seqObj "list" (rs.map lB).toArray 0)).get? h1.objs.size=some (seqObj "list" (rs.map lB).toArray 0):=JX _ rfl;have hnn:∀b u,h1.get? b=some u->b≠h1.objs.size:=fun b u q=>Ju (Jr q);refine JP (JQ (KE Ng (s:={s with heap:=h1.push (seqObj "list" (rs.map lB).toArray 0)}) ⟨_,hoL,rfl⟩ Nh ?body (Ni _)))
 case body=>
  refine list_sort_tree (s:={s with heap:=h1.push (seqObj "list" (rs.map lB).toArray 0)}) hoL (p4 rs) (by omega) fun out ns' a1 a2 a3=>⟨_,rfl,?_⟩;refine JT ⟨_,rfl,h out.toList ns' a1 (a2.trans (q1.map _)) a3 _ h1.objs.size hsz (fun b u q=>?_) ?_⟩
  ·have hb:=hnn b u (k1 b u q);unfold sortedHeap;rw[MM _ _ _ _ hb];refine JW _ (JW _ ?_);rw[MM _ _ _ _ hb];exact JW _ (k1 b u q)
  ·unfold sortedHeap;have g1:=MD hoL (fun _=>#[]);have g2:=JW (seqObj "list" #[] 0) (JW (seqObj "tuple" (rs.map lB).toArray 0) g1);exact⟨_,MD g2 (fun _=>out)⟩
end
section
variable{X:Cx}
def yO(K:W.Frag)(w:World):List V->Hp->VK->Prop:=fun xs H Q=>∃(a:Addr)(ns:List Int),xs=[.ref a]/\(eT K H a (ns.map V.int)\/fu K H a (ns.map V.int))/\(∀n∈ns,n∈ins) /\
 ∀l,H l=none->∀ps:List KI,ps.map (·.1)=bD ns->(∀p∈ps,p.1∈ins)->(ps.map (·.1)).Nodup->Q (.ref l) (cG H l (.ext fun h=>bE w h l ps))
theorem x4 (hc:X.calm=true) (hu:X.A.units+64<cLine):bY X (.type "set") (yO X.K X.w):=by
 intro pins s σ H xs us Q I r h;obtain⟨a,ns,rfl,ha,hq,q⟩:=h;obtain⟨u,rfl,ru⟩:=dk r;cases ru
 have fin:∀(qs:List KI),qs.map (·.1)=ns->∀(h':Heap)(tk:Nat),bE X.w h' s.heap.objs.size (gk qs)->(∀b o,b<s.heap.objs.size->s.heap.get? b=some o->h'.get? b=some o)->EP X pins σ Q (.ref s.heap.objs.size) {s with heap:=h',toks:=tk}:=by
  intro qs eq h' tk hS hk;obtain⟨o,es,ep,t,Z,S0,k1,k2⟩:=id hS;refine⟨.ref s.heap.objs.size,cG H s.heap.objs.size (.ext fun h=>bE X.w h s.heap.objs.size (gk qs)),I.laid (t':=tk) (fun b ob e=>hk b ob (Jr e) e) (JY _) ?_,rfl,q _ (I.hok.fresh (JY _)) _ (by rw[ur,eq]) k1 k2⟩;exact⟨hS,⟨o,S0.ho⟩,fun h1 h2 g k=>g.keeps k⟩
 rcases ha with ha|ha
 ·obtain ⟨its, rv, pl, hz⟩ := I.list ha;obtain⟨qs,e1,e2⟩:=tO (eO rv);subst e1;have hsz:(qs.map lB).toArray.size=qs.length:=by rw[J6,Kk]
  refine k6 (I.ok.hd hc) pl.isList (J:=fun i h=>bE X.w h s.heap.objs.size (gk (qs.take i))) ?_ (fun h' k e=>k7 e) fun h' tk j1=>fin qs e2 h' tk ?_
  ·exact ql fun p hp=>hq _ (by rw[<- e2];exact LF hp)
  ·rw[hsz,Mq]at j1;exact j1
 ·obtain ⟨its, rv, pl, hz⟩ := I.tuple ha;obtain⟨qs,e1,e2⟩:=tO (eO rv);subst e1;have hsz:(qs.map lB).toArray.size=qs.length:=by rw[J6,Kk]
  refine j5 (I.ok.hd hc) pl (J:=fun i h=>bE X.w h s.heap.objs.size (gk (qs.take i))) ?_ (fun h' k e=>k7 e) fun h' tk j1=>fin qs e2 h' tk ?_
  ·exact ql fun p hp=>hq _ (by rw[<- e2];exact LF hp)
  ·rw[hsz,Mq]at j1;exact j1
def uM(w:World):List V->Hp->VK->Prop:=fun xs H Q=>∃(a:Addr)(ps:List KI),xs=[.ref a]/\H a=some (.ext fun h=>bE w h a ps) /\
 ∀ns':List Int,ns'.Perm (ps.map (·.1))->ns'.Pairwise (·<=·)->∀l,H l=none->Q (.ref l) (cG H l (.lst (ns'.map V.int)))
theorem vC (hc:X.calm=true):bY X (.builtin "sorted") (uM X.w):=by
 intro pins s σ H xs us Q I r h;obtain⟨a,ps,rfl,ha,q⟩:=h;obtain⟨u,rfl,ru⟩:=dk r;cases ru;obtain⟨hS,_⟩:=(show dq X.prog X.w H s.heap a (.ext fun h=>bE X.w h a ps) from I.hok a _ ha);obtain⟨o,es,ep,t,Z,S0,k1,k2⟩:=id hS;have h6:=iu k1 k2;refine t9 (I.ok.hd hc) hS fun out ns' a1 a2 a3 h' D hD hk hn=>?_;refine⟨.ref D,cG H D (.lst (ns'.map V.int)),I.laid (t':=s.toks) (fun b ob e=>hk b ob e) hD ?_,rfl,q ns' a2 a3 _ (I.hok.fresh hD)⟩;obtain⟨n,e⟩:=hn;refine⟨?_,out,n,k5 a1,e⟩;rw[Kk,a2.length_eq,Kk];exact Jx h6 (by decide)
def Dg(w:World):List V->Hp->VK->Prop:=fun xs H Q=>∃(a:Addr)(ps:List KI),xs=[.ref a]/\H a=some (.ext fun h=>bE w h a ps)/\Q (.int ps.length) H
theorem ya:bY X (.builtin "len") (Dg X.w):=by
 intro pins s σ H xs us Q I r h;obtain⟨a,ps,rfl,ha,q⟩:=h;obtain⟨u,rfl,ru⟩:=dk r;cases ru;obtain⟨hS,_⟩:=(show dq X.prog X.w H s.heap a (.ext fun h=>bE X.w h a ps) from I.hok a _ ha);obtain⟨o,es,ep,t,Z,S0,k1,k2⟩:=id hS;have h6:=iu k1 k2;have hsz:es.size=ps.length:=by rw[S0.tab.size.2,S0.len,Kk]
 refine PySem.call_len_set S0.ho S0.ex S0.hd S0.fits (by rw[hsz];omega) ⟨.int ps.length,H,?_,⟨_,by rw[hsz]⟩,q⟩;exact I.tok _
def Dh(w:World):List V->Hp->VK->Prop:=fun xs H Q=>∃(a:Addr)(ps:List KP),xs=[.ref a]/\H a=some (.ext fun h=>d5 w h a ps)/\Q (.int ps.length) H
theorem yb:bY X (.builtin "len") (Dh X.w):=by
 intro pins s σ H xs us Q I r h;obtain⟨a,ps,rfl,ha,q⟩:=h;obtain⟨u,rfl,ru⟩:=dk r;cases ru;obtain⟨hS,_⟩:=(show dq X.prog X.w H s.heap a (.ext fun h=>d5 X.w h a ps) from I.hok a _ ha);obtain⟨o,es,ep,t,Z,S0,k1,k2⟩:=id hS;have h6:=jD k1 k2;have hsz:es.size=ps.length:=by rw[S0.tab.size.2,S0.len,Kk]
 refine PySem.call_len_set S0.ho S0.ex S0.hd S0.fits (by rw[hsz];omega) ⟨.int ps.length,H,?_,⟨_,by rw[hsz]⟩,q⟩;exact I.tok _
end
end L2
namespace L2
open PySem PySem.Spec PyProof.Rows RS
def bg(k:List Int):D:=.tup (k.map D.int)
def wR:D->Option (List Int)
 |.tup [.int a,.int b]=>if 0<=a/\a<b/\b<6 then some [a,b] else none
 |_=>none
def nA:List D->Option (List (List Int))
 |[]=>some []
 |d::r=>match wR d,nA r with
  |some k,some ks=>some (k::ks)
  |_,_=>none
theorem Cw{d:D}{k:List Int}(h:wR d=some k):d=bg k/\k∈prs:=by
 unfold wR at h;split at h
 ·split at h
  ·rename_i hc;cases h;exact⟨rfl,qO hc.1 hc.2.1 hc.2.2⟩
  ·cases h
 ·cases h
theorem xI{a b:Int}(h:0<=a/\a<b/\b<6):wR (.tup [.int a,.int b])=some [a,b]:=by
 simp only[wR,Jo h]
theorem tI:∀{ds:List D}{ks:List (List Int)},nA ds=some ks->ds=ks.map bg/\∀k∈ks,k∈prs
 |[],ks,h=>by cases h;exact⟨rfl,fun k hk=>by simp at hk⟩
 |d::r,ks,h=>by
  unfold nA at h;split at h
  ·rename_i k ks' h1 h2;cases h;obtain⟨e1,e2⟩:=Cw h1;obtain⟨f1,f2⟩:=tI h2;refine⟨by rw[e1,f1];rfl,fun k' hk=>?_⟩;rcases JC.mp hk with z|z
   ·rw[z];exact e2
   ·exact f2 k' z
  ·cases h
theorem tJ:∀{ks:List (List Int)},(∀k∈ks,k∈prs)->nA (ks.map bg)=some ks
 |[],_=>rfl
 |k::ks,h=>by
  obtain⟨a,b,rfl,h1,h2,h3⟩:=eQ (h k JA);simp only[KN,nA,tJ fun k' hk=>h k' (JB _ hk)];have:wR (bg [a,b])=some [a,b]:=xI ⟨h1,h2,h3⟩;rw[this]
def yC(ks:List (List Int))(k:List Int):List (List Int):=if k∈ks then ks else ks++[k]
def h9(ks:List (List Int)):List (List Int):=ks.foldl yC []
def fw(ks:List (List Int)):List (List Int):=prs.filter fun k=>decide (k∈ks)
theorem ou:∀(qs ps:List KP),(qs.foldl (fun ps p=>kG ps p.1 p.2) ps).map (·.1)=(qs.map (·.1)).foldl yC (ps.map (·.1))
 |[],ps=>rfl
 |q::qs,ps=>by
  rw[K1,KN,K1,ou qs];congr 1;unfold kG yC;split <;> simp
theorem xV(qs:List KP):(eN qs).map (·.1)=h9 (qs.map (·.1)):=ou qs []
theorem xU{ks:List (List Int)}{k:List Int}:k∈h9 ks↔k∈ks:=by
 have core:∀(ks acc:List (List Int)),k∈ks.foldl yC acc↔k∈acc\/k∈ks:=by
  intro ks
  induction ks with
  |nil=>intro acc;simp
  |cons x r ih=>
   intro acc;rw[K1,ih];unfold yC;split
   ·rename_i hx;constructor
    ·rintro (h | h)
     ·exact .inl h
     ·exact .inr (JB _ h)
    ·rintro (h | h)
     ·exact .inl h
     ·rcases JC.mp h with z | z
      ·exact .inl (by rw[z];exact hx)
      ·exact .inr z
   ·simp[or_assoc]
 unfold h9;rw[core];simp
theorem kq:prs.Pairwise fun a b=>oJ a<oJ b:=by decide +kernel
theorem Ax{l m:List (List Int)}(hl:l.Pairwise fun a b=>oJ a<oJ b)(hm:m.Pairwise fun a b=>oJ a<oJ b)(h:∀k,k∈l↔k∈m):l=m:=by
 have nl:l.Nodup:=hl.imp fun h e=>by subst e;omega
 have nm:m.Nodup:=hm.imp fun h e=>by subst e;omega
 have hp:l.Perm m:=(LW nl nm).mpr h;refine hp.eq_of_pairwise (le:=fun a b=>oJ a<oJ b) (fun a b _ _ h1 h2=>by omega) hl hm
theorem zK{out:List KP}{ps:List KP}(hk:∀p∈ps,p.1∈prs)(hp:out.Perm ps)(hr:gA out):out.map (·.1)=fw (ps.map (·.1)):=by
 refine Ax ?_ (kq.filter _) fun k=>?_
 ·unfold gA at hr;rw[My];exact hr
 ·have h1 : k ∈ out.map (·.1) ↔ k ∈ ps.map (·.1) := (hp.map _).mem_iff;rw[h1];unfold fw;rw[Jv,Np];constructor
  ·intro h;refine⟨?_,h⟩;obtain⟨p,hp',rfl⟩:=Lz.mp h;exact hk p hp'
  ·exact fun h=>h.2
theorem ub(ks:List (List Int)):fw (h9 ks)=fw ks:=by
 unfold fw;apply Nw;intro k _;simp only[xU]
theorem Reps.keys{K:W.Frag}{H:Hp}{α:List Addr}:∀{ks:List (List Int)}{vs:List V},Reps K H α (ks.map bg) vs->∃qs:List KP,qs.map (·.1)=ks/\vs=f6 qs/\∀p∈qs,fu K H p.2 (p.1.map V.int)
 |[],vs,h=>by simp only[KM,Reps]at h;exact⟨[],rfl,h,fun p hp=>by simp at hp⟩
 |k::ks,vs,h=>by
  simp only[KN,Reps]at h;obtain⟨v,r,rfl,h1,h2⟩:=h;obtain⟨a,us,rfl,h3,h4⟩:=aD.mp h1;obtain⟨qs,e1,e2,e3⟩:=Reps.keys h2;refine⟨(k,a)::qs,by rw[KN,e1],by rw[e2];rfl,fun p hp=>?_⟩;rcases JC.mp hp with z|z
  ·subst z;rw[<- h4.ints];exact h3
  ·exact e3 p z
theorem jo{K:W.Frag}{H:Hp}{α:List Addr}:∀{qs:List KP},(∀p∈qs,fu K H p.2 (p.1.map V.int))->Reps K H α ((qs.map (·.1)).map bg) (f6 qs)
 |[],_=>Reps.nil
 |q::qs,h=>by
  refine Reps.cons (aD.mpr ⟨q.2,_,rfl,h q JA,g4 _⟩) (jo fun p hp=>h p (JB _ hp))
def gN:List D->Option (List Int)
 |[]=>some []
 |.int i::r=>(gN r).map (i::·)
 |_::_=>none
theorem eR:∀{ds:List D}{ns:List Int},gN ds=some ns->ds=ns.map D.int
 |[],bs,h=>by cases h;rfl
 |.int b::r,bs,h=>by
  unfold gN at h;cases e:gN r with
  |none=>rw[e]at h;cases h
  |some cs=>rw[e]at h;cases h;rw[eR e];rfl
 |.non::r,bs,h=>by cases h
 |.bl _::r,bs,h=>by cases h
 |.str _::r,bs,h=>by cases h
 |.tup _::r,bs,h=>by cases h
 |.frz _::r,bs,h=>by cases h
 |.obj _::r,bs,h=>by cases h
theorem vv{ns:List Int}(h:∀n∈ns,n∈ins):(bD ns).length<=6:=by
 have core:∀(l acc:List Int),(∀n∈l,n∈ins)->(∀n∈acc,n∈ins)->acc.Nodup->(l.foldl (fun acc k=>if k∈acc then acc else acc++[k]) acc).length<=6:=by
  intro l
  induction l with
  |nil=>
   intro acc _ h2 h3;have:=gB h3 (l2:=ins) h2;exact this
  |cons x l ih=>
   intro acc h1 h2 h3;rw[K1];have hx:=h1 x JA;split
   ·exact ih acc (fun n hn=>h1 n (JB _ hn)) h2 h3
   ·rename_i hxa;refine ih (acc++[x]) (fun n hn=>h1 n (JB _ hn)) (fun n hn=>?_) ?_
    ·rcases JE.mp hn with z | z
     ·exact h2 n z
     ·rw[Lk.mp z];exact hx
    ·refine L5.mpr ⟨h3,by simp,fun u hu v hv e=>?_⟩;rw[Lk.mp hv]at e;exact hxa (e ▸ hu)
 exact core ns [] h (fun n hn=>by simp at hn) LR
def yz(xs:List D):Option (List Int):=match gN xs with
 |some ns=>if ns.all (fun n=>decide (0<=n/\n<6))=true then some ns else none
 |none=>none
theorem CA{xs:List D}{ns:List Int}(h:yz xs=some ns):xs=ns.map D.int/\∀n∈ns,n∈ins:=by
 unfold yz at h;split at h
 ·rename_i ms hm;split at h
  ·rename_i ha;cases h;refine⟨eR hm,fun n hn=>Cz.mpr ?_⟩;simpa using LY.mp ha n hn
  ·cases h
 ·cases h
def pq(xs:List D)(μ:au):af D:=match nA xs with
 |some ks=>.ok (.obj μ.length) (μ++[.set (h9 ks)])
 |none=>match yz xs with
  |some ns=>.ok (.obj μ.length) (μ++[.iset (bD ns)])
  |none=>.bad
def mB(ds:List D)(μ:au):af D:=match ds with
 |[.tup xs]=>pq xs μ
 |[.obj n]=>match μ[n]? with
  |some (.lst xs)=>pq xs μ
  |_=>.bad
 |_=>.bad
section
variable{p:Pa}
theorem Cf{H:Hp}{α:List Addr}{μ:au}{ks:List (List Int)}{vs:List V}{Q:VK}(S:p.S H α μ)(hk:∀k∈ks,k∈prs)(r:p.Rs H α (ks.map bg) vs)(P:aC p H α (.ok (.obj μ.length) (μ++[.set (h9 ks)])) (RV p Q)) :
  ∃qs:List KP,vs=f6 qs/\(∀q∈qs,q.1∈prs/\fu p.K H q.2 (q.1.map V.int))/\∀l,H l=none->Q (.ref l) (cG H l (.ext fun h=>d5 p.w h l (eN qs))):=by
 obtain⟨qs,e1,e2,e3⟩:=r.keys;refine⟨qs,e2,fun q hq=>⟨hk _ (by rw[<- e1];exact LF hq),e3 q hq⟩,fun l hl=>?_⟩;have x1:p.X H (cG H l (.ext fun h=>d5 p.w h l (eN qs))) α (α++[l]):=(bx hl).trans (jl [l]);refine P _ _ x1 (S.more hl ⟨eN qs,by rw[xV,e1],bO,fun q hq=>?_,rM,fun q hq=>?_⟩) _ (aN.mpr ⟨l,rfl,by rw[<- S.len];simp⟩)
 ·exact hk _ (by rw[<- e1];exact LF (ky hq))
 ·exact x1.tup _ _ (e3 q (ky hq))
theorem Ai{H:Hp}{α:List Addr}{μ:au}{ns:List Int}{Q:VK}(S:p.S H α μ)(hk:∀n∈ns,n∈ins)(P:aC p H α (.ok (.obj μ.length) (μ++[.iset (bD ns)])) (RV p Q)) :
  ∀l,H l=none->∀ps:List KI,ps.map (·.1)=bD ns->(∀p∈ps,p.1∈ins)->(ps.map (·.1)).Nodup->Q (.ref l) (cG H l (.ext fun h=>bE p.w h l ps)):=fun l hl ps e _ _=>by
 have x1:p.X H (cG H l (.ext fun h=>bE p.w h l ps)) α (α++[l]):=(bx hl).trans (jl [l]);exact P _ _ x1 (S.more hl ⟨ps,e,bO,vv hk⟩) _ (aN.mpr ⟨l,rfl,by rw[<- S.len];simp⟩)
theorem zd{H:Hp}{α:List Addr}{μ:au}{xs:List D}{us:List V}{a:Addr}{Q:VK}(S:p.S H α μ)(h1:eT p.K H a us\/fu p.K H a us)(rr:p.Rs H α xs us)(P:aC p H α (pq xs μ) (RV p Q)):yN p.K p.w [.ref a] H Q\/yO p.K p.w [.ref a] H Q:=by
 unfold pq at P;split at P
 ·rename_i ks hks;obtain⟨f1,f2⟩:=tI hks;rw[f1]at rr;obtain⟨qs,e1,e2,e3⟩:=Cf S f2 rr P;exact .inl ⟨a,qs,rfl,by rw[<- e1];exact h1,e2,e3⟩
 ·split at P
  ·rename_i ns hns;obtain⟨f1,f2⟩:=CA hns;rw[f1]at rr;exact .inr ⟨a,ns,rfl,by rw[<- rr.ints];exact h1,f2,Ai S f2 P⟩
  ·exact P.elim
theorem E8:rQ p mB (fun xs H Q=>yN p.K p.w xs H Q\/yO p.K p.w xs H Q):=by
 intro ds vs H α μ Q S r P;unfold mB at P;split at P
 ·rename_i xs;obtain⟨v,rfl,r1⟩:=r.one;obtain⟨a,us,rfl,h1,rr⟩:=aD.mp r1;exact zd S (.inr h1) rr P
 ·rename_i n;split at P
  ·rename_i xs hx;obtain⟨v,rfl,r1⟩:=r.one;obtain⟨a,us,rfl,a1,h1,rr⟩:=cP S r1 hx;exact zd S (.inl (eT.of h1)) rr P
  ·exact P.elim
 ·exact P.elim
def nz(ns:List Int):List Int:=ns.mergeSort fun a b=>decide (a<=b)
theorem zL{ns ns':List Int}(hp:ns'.Perm ns)(hs:ns'.Pairwise (·<=·)):ns'=nz ns:=by
 have h1:(nz ns).Perm ns:=List.mergeSort_perm ns _
 have h2:(nz ns).Pairwise (·<=·):=by
  have:=List.pairwise_mergeSort (le:=fun(a b:Int)=>decide (a<=b)) (fun a b c h1 h2=>by simp at *;omega) (fun a b=>by simp;omega) ns;exact this.imp fun h=>by simpa using h
 exact(hp.trans h1.symm).eq_of_pairwise (fun a b _ _ h1 h2=>Nx h1 h2) hs h2
def jH(ds:List D)(μ:au):af D:=match ds with
 |[.tup xs]=>match gN xs with
  |some ns=>if ns.length<64 then .ok (.obj μ.length) (μ++[.lst ((nz ns).map D.int)]) else .bad
  |none=>.bad
 |[.obj n]=>match μ[n]? with
  |some (.lst xs)=>match gN xs with
   |some ns=>if ns.length<64 then .ok (.obj μ.length) (μ++[.lst ((nz ns).map D.int)]) else .bad
   |none=>.bad
  |some (.set ks)=>.ok (.obj μ.length) (μ++[.lst ((fw ks).map bg)])
  |some (.iset ks)=>.ok (.obj μ.length) (μ++[.lst ((nz ks).map D.int)])
  |_=>.bad
 |_=>.bad
theorem lO:rQ p jH (fun xs H Q=>(uO p.K xs H Q\/uN p.K p.w xs H Q)\/uM p.w xs H Q):=by
 intro ds vs H α μ Q S r P
 have fin:∀{ns:List Int},aC p H α (.ok (.obj μ.length) (μ++[.lst ((nz ns).map D.int)])) (RV p Q)->∀ns':List Int,ns'.Perm ns->ns'.Pairwise (·<=·)->∀l,H l=none->Q (.ref l) (cG H l (.lst (ns'.map V.int))):=by
  intro ns P ns' h1 h2 l hl;rw[<- zL h1 h2]at P;obtain⟨x1,x2,x3⟩:=bZ S hl (g4 ns');exact P _ _ x1 x2 _ x3
 unfold jH at P;split at P
 ·rename_i xs;split at P
  ·rename_i ns hns;split at P
   ·rename_i hl;obtain⟨v,rfl,r1⟩:=r.one;obtain⟨a,us,rfl,h1,rr⟩:=aD.mp r1;rw[eR hns]at rr;exact .inl (.inl ⟨a,ns,rfl,.inr (by rw[<- rr.ints];exact h1),hl,fin P⟩)
   ·exact P.elim
  ·exact P.elim
 ·rename_i n;split at P
  ·rename_i xs hx;split at P
   ·rename_i ns hns;split at P
    ·rename_i hl;obtain⟨v,rfl,r1⟩:=r.one;obtain⟨a,us,rfl,a1,h1,rr⟩:=cP S r1 hx;rw[eR hns]at rr;exact .inl (.inl ⟨a,ns,rfl,.inl (by rw[<- rr.ints];exact eT.of h1),hl,fin P⟩)
    ·exact P.elim
   ·exact P.elim
  ·rename_i ks hx;obtain⟨v,rfl,r1⟩:=r.one;obtain⟨a,ea,ps,e1,e2,e3,e4,e5⟩:=S.at hx;obtain⟨a',rfl,ea'⟩:=aN.mp r1;rw[ea]at ea';cases ea';refine .inl (.inr ⟨a,ps,rfl,e2,e5,fun out hp hr l hl=>?_⟩);have rr:p.Rs H α ((out.map (·.1)).map bg) (f6 out):=jo fun q hq=>e5 q (hp.mem_iff.mp hq);rw[zK e3 hp hr,e1]at rr;obtain⟨x1,x2,x3⟩:=bZ S hl rr;exact P _ _ x1 x2 _ x3
  ·rename_i ks hx;obtain⟨v,rfl,r1⟩:=r.one;obtain⟨a,ea,ps,e1,e2,e3⟩:=S.at hx;obtain⟨a',rfl,ea'⟩:=aN.mp r1;rw[ea]at ea';cases ea';exact .inr ⟨a,ps,rfl,e2,by rw[e1];exact fin P⟩
  ·exact P.elim
 ·exact P.elim
def ke(ds:List D)(μ:au):af D:=match ds with
 |[.obj n]=>match μ[n]? with
  |some (.iset ks)=>.ok (.int ks.length) μ
  |some (.set ks)=>.ok (.int ks.length) μ
  |_=>sy [.obj n] μ
 |_=>sy ds μ
theorem Fc:rQ p ke (fun xs H Q=>((∃x n,xs=[x]/\DM p.K x H n/\Q (.int n) H)\/Dg p.w xs H Q)\/Dh p.w xs H Q):=by
 intro ds vs H α μ Q S r P;unfold ke at P;split at P
 ·rename_i n;split at P
  ·rename_i ks hx;obtain⟨v,rfl,r1⟩:=r.one;obtain⟨a,ea,ps,e1,e2,e3⟩:=S.at hx;obtain⟨a',rfl,ea'⟩:=aN.mp r1;rw[ea]at ea';cases ea';refine .inl (.inr ⟨a,ps,rfl,e2,P.now S _ (ak.mpr ?_)⟩);rw[<- e1,Kk]
  ·rename_i ks hx;obtain⟨v,rfl,r1⟩:=r.one;obtain⟨a,ea,ps,e1,e2,e3⟩:=S.at hx;obtain⟨a',rfl,ea'⟩:=aN.mp r1;rw[ea]at ea';cases ea';refine .inr ⟨a,ps,rfl,e2,P.now S _ (ak.mpr ?_)⟩;rw[<- e1,Kk]
  ·exact .inl (.inl (wj _ vs H α μ Q S r P))
 ·exact .inl (.inl (wj _ vs H α μ Q S r P))
end
section
variable{X:Cx}
def De(K:W.Frag):List V->Hp->VK->Prop:=fun xs H Q=>∃(a:Addr)(ns:List Int),xs=[.ref a]/\(eT K H a (ns.map V.int)\/fu K H a (ns.map V.int))/\ns≠[]/\∀m∈ns,(∀j∈ns,m<=j)->Q (.int m) H
def Df(K:W.Frag):List V->Hp->VK->Prop:=fun xs H Q=>∃(a:Addr)(ns:List Int),xs=[.ref a]/\(eT K H a (ns.map V.int)\/fu K H a (ns.map V.int))/\ns≠[]/\∀m∈ns,(∀j∈ns,j<=m)->Q (.int m) H
theorem jE{its:List Value}{ns:List Int}(h:IntsAre its ns){i:Nat}{v:Value}(e:its.toArray[i]?=some v):∃t,v=.int (ns.getD i 0) t/\i<ns.length:=by
 have e':its[i]?=some v:=by simpa using e
 obtain⟨n,t,rfl,hn⟩:=h.at i v e';have hi:=(JG.mp hn).1;exact⟨t,by rw[Mu,hn];rfl,hi⟩
theorem tQ{ns:List Int}{i:Nat}(h:i<ns.length):ns.getD i 0∈ns:=by
 rw[Mu,MR h];exact MQ h
theorem tF{ns:List Int}{j:Int}(h:j∈ns):∃i,i<ns.length/\ns.getD i 0=j:=by
 obtain⟨i,hi,e⟩:=List.getElem_of_mem h;exact⟨i,hi,by rw[Mu,MR hi];exact e⟩
theorem x6 (hc:X.calm=true):bY X (.builtin "min") (De X.K):=by
 intro pins s σ H xs us Q I r h;obtain⟨a,ns,rfl,ha,hne,q⟩:=h;obtain⟨u,rfl,ru⟩:=dk r;cases ru;have hpos:0<ns.length:=Ny.mpr hne
 have core:∀(its:List Value)(o:Obj),IntsAre its ns->∀v s',its.toArray[argBest (fun i j=>decide (ns.getD i 0<ns.getD j 0)) (its.toArray.size-1)]?=some v->Moved [s.heap.objs.size] (fun a b=>b=a) {s with heap:=s.heap.push o} s'->EP X pins σ Q v s':=by
  intro its o hI v s' hv hm;obtain⟨t,rfl,hi⟩:=jE hI hv;have hsz:its.toArray.size-1=ns.length-1:=by rw[J6,hI.length]
  rw[hsz]at hi⊢;obtain⟨b1,b2⟩:=argBest_lt (fun i=>ns.getD i 0) (ns.length-1);obtain⟨hh,g,d,tk,os⟩:=s';have e1:g=s.gens:=hm.gens;have e2:d=s.drawn:=hm.drawn;have e3:os=s.os:=hm.os;subst e1 e2 e3;refine⟨.int _,H,I.fresh_it (o:=o) (h':=hh) (tk:=tk) fun b ob hb e=>hm.heap b ob hb e,⟨t,rfl⟩,q _ (tQ hi) fun j hj=>?_⟩;obtain⟨i,hi',rfl⟩:=tF hj;exact b2 i (by omega)
 have cmp:∀(its:List Value),IntsAre its ns->CmpOf X.prog X.w X.A.in1 .Lt (fun i v=>its.toArray[i]?=some v) (fun i j=>decide (ns.getD i 0<ns.getD j 0)):=by
  intro its hI i j vi vj s' Q' E' h1 h2 hQ;obtain⟨t1,rfl,_⟩:=jE hI h1;obtain⟨t2,rfl,_⟩:=jE hI h2;exact(PyProof.Rows.lt_int hQ:wpAny _ _ (compareOp .Lt _ _) _ _ _)
 rcases ha with ha|ha
 ·obtain ⟨its, rv, pl, hz⟩ := I.list ha;have hI:IntsAre its ns:=eO rv
  have hne:a≠s.heap.objs.size:=by
   obtain⟨o,n,e,_⟩:=pl;exact Ju (Jr e)
  refine call_min_walkS (Mi pl.isList ?_);refine⟨s.heap.objs.size,[s.heap.objs.size,a],[s.heap.objs.size],_,_,_,_,_,rfl,(Mn (A:=X.A.in1) (show X.A.in1.handled=none from I.ok.hd hc) _ a hne its.toArray).toS,⟨⟨_,JX _ rfl,rfl,rfl⟩,pl.isList.at fun o e=>JW _ e⟩,fun b hb=>?_,by simp[hI.length,hpos],cmp its hI,fun v s' hv hm=>core its _ hI v s' hv hm⟩;obtain⟨o,n,e,_⟩:=pl;have:=Jr e;simp only[JC,Ml,Mm]at hb;show b<(s.heap.push _).objs.size;rw[MK];rcases hb with rfl|rfl
  ·exact Lb _
  ·exact Lc this
 ·obtain ⟨its, rv, pl, hz⟩ := I.tuple ha;have hI:IntsAre its ns:=eO rv
  have hne:a≠s.heap.objs.size:=by
   obtain⟨o,e,_⟩:=pl;exact Ju (Jr e)
  refine call_min_walkS (Mo (show s.heap.IsTuple a its.toArray from pl) ?_);refine⟨s.heap.objs.size,[s.heap.objs.size,a],[s.heap.objs.size],_,_,_,_,_,rfl,(Walks.tuple (A:=X.A.in1) (show X.A.in1.handled=none from I.ok.hd hc) _ a hne its.toArray).toS,⟨⟨_,JX _ rfl,rfl,rfl⟩,(show s.heap.IsTuple a its.toArray from pl).at fun o e=>JW _ e⟩,fun b hb=>?_,by simp[hI.length,hpos],cmp its hI,fun v s' hv hm=>core its _ hI v s' hv hm⟩;obtain⟨o,e,_⟩:=pl;have:=Jr e;simp only[JC,Ml,Mm]at hb;show b<(s.heap.push _).objs.size;rw[MK];rcases hb with rfl|rfl
  ·exact Lb _
  ·exact Lc this
theorem x9 (hc:X.calm=true):bY X (.builtin "max") (Df X.K):=by
 intro pins s σ H xs us Q I r h;obtain⟨a,ns,rfl,ha,hne,q⟩:=h;obtain⟨u,rfl,ru⟩:=dk r;cases ru;have hpos:0<ns.length:=Ny.mpr hne
 have core:∀(its:List Value)(o:Obj),IntsAre its ns->∀v s',its.toArray[argBest (fun i j=>decide (ns.getD i 0>ns.getD j 0)) (its.toArray.size-1)]?=some v->Moved [s.heap.objs.size] (fun a b=>b=a) {s with heap:=s.heap.push o} s'->EP X pins σ Q v s':=by
  intro its o hI v s' hv hm;obtain⟨t,rfl,hi⟩:=jE hI hv;have hsz:its.toArray.size-1=ns.length-1:=by rw[J6,hI.length]
  rw[hsz]at hi⊢;obtain⟨b1,b2⟩:=argBest_gt (fun i=>ns.getD i 0) (ns.length-1);obtain⟨hh,g,d,tk,os⟩:=s';have e1:g=s.gens:=hm.gens;have e2:d=s.drawn:=hm.drawn;have e3:os=s.os:=hm.os;subst e1 e2 e3;refine⟨.int _,H,I.fresh_it (o:=o) (h':=hh) (tk:=tk) fun b ob hb e=>hm.heap b ob hb e,⟨t,rfl⟩,q _ (tQ hi) fun j hj=>?_⟩;obtain⟨i,hi',rfl⟩:=tF hj;exact b2 i (by omega)
 have cmp:∀(its:List Value),IntsAre its ns->CmpOf X.prog X.w X.A.in1 .Gt (fun i v=>its.toArray[i]?=some v) (fun i j=>decide (ns.getD i 0>ns.getD j 0)):=by
  intro its hI i j vi vj s' Q' E' h1 h2 hQ;obtain⟨t1,rfl,_⟩:=jE hI h1;obtain⟨t2,rfl,_⟩:=jE hI h2;exact(PyProof.Rows.gt_int hQ:wpAny _ _ (compareOp .Gt _ _) _ _ _)
 rcases ha with ha|ha
 ·obtain ⟨its, rv, pl, hz⟩ := I.list ha;have hI:IntsAre its ns:=eO rv
  have hne:a≠s.heap.objs.size:=by
   obtain⟨o,n,e,_⟩:=pl;exact Ju (Jr e)
  refine call_max_walkS (Mi pl.isList ?_);refine⟨s.heap.objs.size,[s.heap.objs.size,a],[s.heap.objs.size],_,_,_,_,_,rfl,(Mn (A:=X.A.in1) (show X.A.in1.handled=none from I.ok.hd hc) _ a hne its.toArray).toS,⟨⟨_,JX _ rfl,rfl,rfl⟩,pl.isList.at fun o e=>JW _ e⟩,fun b hb=>?_,by simp[hI.length,hpos],cmp its hI,fun v s' hv hm=>core its _ hI v s' hv hm⟩;obtain⟨o,n,e,_⟩:=pl;have:=Jr e;simp only[JC,Ml,Mm]at hb;show b<(s.heap.push _).objs.size;rw[MK];rcases hb with rfl|rfl
  ·exact Lb _
  ·exact Lc this
 ·obtain ⟨its, rv, pl, hz⟩ := I.tuple ha;have hI:IntsAre its ns:=eO rv
  have hne:a≠s.heap.objs.size:=by
   obtain⟨o,e,_⟩:=pl;exact Ju (Jr e)
  refine call_max_walkS (Mo (show s.heap.IsTuple a its.toArray from pl) ?_);refine⟨s.heap.objs.size,[s.heap.objs.size,a],[s.heap.objs.size],_,_,_,_,_,rfl,(Walks.tuple (A:=X.A.in1) (show X.A.in1.handled=none from I.ok.hd hc) _ a hne its.toArray).toS,⟨⟨_,JX _ rfl,rfl,rfl⟩,(show s.heap.IsTuple a its.toArray from pl).at fun o e=>JW _ e⟩,fun b hb=>?_,by simp[hI.length,hpos],cmp its hI,fun v s' hv hm=>core its _ hI v s' hv hm⟩;obtain⟨o,e,_⟩:=pl;have:=Jr e;simp only[JC,Ml,Mm]at hb;show b<(s.heap.push _).objs.size;rw[MK];rcases hb with rfl|rfl
  ·exact Lb _
  ·exact Lc this
end
def Gq:List Int->Int
 |[]=>0
 |x::r=>r.foldl min x
def Gr:List Int->Int
 |[]=>0
 |x::r=>r.foldl max x
theorem xQ(r:List Int):∀x:Int,(r.foldl min x=x\/r.foldl min x∈r)/\r.foldl min x<=x/\∀j∈r,r.foldl min x<=j:=by
 induction r with
 |nil=>intro x;exact⟨.inl rfl,Int.le_refl _,fun j hj=>by simp at hj⟩
 |cons y r ih=>
  intro x;obtain⟨h1,h2,h3⟩:=ih (min x y);rw[K1];have m1:min x y<=x:=Int.min_le_left _ _;have m2:min x y<=y:=Int.min_le_right _ _;refine⟨?_,by omega,fun j hj=>?_⟩
  ·rcases h1 with h | h
   ·rcases (by omega : min x y = x \/ min x y = y) with e | e
    ·exact .inl (by omega)
    ·exact .inr (by rw[h,e];exact JA)
   ·exact .inr (JB _ h)
  ·rcases JC.mp hj with e | e
   ·rw[e];omega
   ·exact h3 j e
theorem xR(r:List Int):∀x:Int,(r.foldl max x=x\/r.foldl max x∈r)/\x<=r.foldl max x/\∀j∈r,j<=r.foldl max x:=by
 induction r with
 |nil=>intro x;exact⟨.inl rfl,Int.le_refl _,fun j hj=>by simp at hj⟩
 |cons y r ih=>
  intro x;obtain⟨h1,h2,h3⟩:=ih (max x y);rw[K1];have m1:x<=max x y:=Int.le_max_left _ _;have m2:y<=max x y:=Int.le_max_right _ _;refine⟨?_,by omega,fun j hj=>?_⟩
  ·rcases h1 with h | h
   ·rcases (by omega : max x y = x \/ max x y = y) with e | e
    ·exact .inl (by omega)
    ·exact .inr (by rw[h,e];exact JA)
   ·exact .inr (JB _ h)
  ·rcases JC.mp hj with e | e
   ·rw[e];omega
   ·exact h3 j e
theorem Ck{ns:List Int}{m:Int}(h:m∈ns)(hm:∀j∈ns,m<=j):m=Gq ns:=by
 cases ns with
 |nil=>simp at h
 |cons x r=>
  obtain⟨h1,h2,h3⟩:=xQ r x
  have a1:m<=r.foldl min x:=by
   rcases h1 with e|e
   ·rw[e];exact hm x JA
   ·exact hm _ (JB _ e)
  have a2:r.foldl min x<=m:=by
   rcases JC.mp h with e|e
   ·rw[e];exact h2
   ·exact h3 m e
  exact Nx a1 a2
theorem Cm{ns:List Int}{m:Int}(h:m∈ns)(hm:∀j∈ns,j<=m):m=Gr ns:=by
 cases ns with
 |nil=>simp at h
 |cons x r=>
  obtain⟨h1,h2,h3⟩:=xR r x
  have a1:r.foldl max x<=m:=by
   rcases h1 with e|e
   ·rw[e];exact hm x JA
   ·exact hm _ (JB _ e)
  have a2:m<=r.foldl max x:=by
   rcases JC.mp h with e|e
   ·rw[e];exact h2
   ·exact h3 m e
  exact Nx a2 a1
def AY(d:D)(μ:au):Option (List Int):=match d with
 |.tup xs=>gN xs
 |.frz xs=>gN xs
 |.obj n=>match μ[n]? with
  |some (.lst xs)=>gN xs
  |_=>none
 |_=>none
theorem wb{p:Pa}{H:Hp}{α:List Addr}{μ:au}{d:D}{v:V}{ns:List Int}(S:p.S H α μ)(r:p.R H α d v)(h:AY d μ=some ns):∃a,v=.ref a/\(eT p.K H a (ns.map V.int)\/fu p.K H a (ns.map V.int)):=by
 unfold AY at h;split at h
 ·obtain⟨a,us,rfl,h1,rr⟩:=aD.mp r;rw[eR h]at rr;exact⟨a,rfl,.inr (by rw[<- rr.ints];exact h1)⟩
 ·obtain⟨a,us,rfl,h1,rr⟩:=bf.mp r;rw[eR h]at rr;exact⟨a,rfl,.inl (by rw[<- rr.ints];exact h1.sq)⟩
 ·split at h
  ·rename_i xs hx;obtain⟨a,us,rfl,a1,h1,rr⟩:=cP S r hx;rw[eR h]at rr;exact⟨a,rfl,.inl (by rw[<- rr.ints];exact eT.of h1)⟩
  ·cases h
 ·cases h
def uF(ds:List D)(μ:au):af D:=match ds with
 |[d]=>match AY d μ with
  |some (n::ns)=>.ok (.int (Gq (n::ns))) μ
  |_=>.bad
 |ds=>yX ds μ
def qr(ds:List D)(μ:au):af D:=match ds with
 |[d]=>match AY d μ with
  |some (n::ns)=>.ok (.int (Gr (n::ns))) μ
  |_=>.bad
 |ds=>yY ds μ
theorem E9{p:Pa}:rQ p uF (fun xs H Q=>De p.K xs H Q\/∃i j,xs=[.int i,.int j]/\Q (.int (if j<i then j else i)) H):=by
 intro ds vs H α μ Q S r P;unfold uF at P;split at P
 ·rename_i d;split at P
  ·rename_i n ns hns;obtain⟨v,rfl,r1⟩:=r.one;obtain⟨a,rfl,h1⟩:=wb S r1 hns;refine .inl ⟨a,n::ns,rfl,h1,by simp,fun m hm hj=>?_⟩;rw[Ck hm hj];exact P.now S _ (ak.mpr rfl)
  ·exact P.elim
 ·exact .inr (Cb ds vs H α μ Q S r P)
theorem Fb{p:Pa}:rQ p qr (fun xs H Q=>Df p.K xs H Q\/∃i j,xs=[.int i,.int j]/\Q (.int (if j>i then j else i)) H):=by
 intro ds vs H α μ Q S r P;unfold qr at P;split at P
 ·rename_i d;split at P
  ·rename_i n ns hns;obtain⟨v,rfl,r1⟩:=r.one;obtain⟨a,rfl,h1⟩:=wb S r1 hns;refine .inl ⟨a,n::ns,rfl,h1,by simp,fun m hm hj=>?_⟩;rw[Cm hm hj];exact P.now S _ (ak.mpr rfl)
  ·exact P.elim
 ·exact .inr (Cc ds vs H α μ Q S r P)
theorem ko:∀{xs:List V}{us:List Value},xs.length=us.length->(∀(i:Nat) x u,xs[i]?=some x->us[i]?=some u->cq x u)->aX xs us
 |[],[],_,_=>.nil
 |[],_::_,h,_=>by simp at h
 |_::_,[],h,_=>by simp at h
 |x::xs,u::us,h,k=>.cons (k 0 x u rfl rfl) (ko (by simpa using h) fun i x' u' h1 h2=>k (i+1) x' u' (by simpa using h1) (by simpa using h2))
section
variable{X:Cx}
def GC(ta:TA):TE:=fun σ H Q=>ta σ H fun vs H1=>∃j:Int,vs=[.int j]/\∀r,H1 r=none->Q (.ref r) (cG H1 r (.rng 0 j))
theorem pT {a:Expr}{ta:TA}{p pos:Pos} (hg:Gl X "range") (hm:X.mg "range" = none) (ha:PA X [a] ta) (hs:starEach [a] X.env=[(false,eval a X.env)]):PE X (.Call (.Name "range" p) [a] [] pos) (GC ta):=by
 intro pins s σ H Q I h;refine Call_ (lG I hg hm boot_range (JZ (d3 (ha pos pins s σ H _ I h) fun us s1 ⟨vs,H1,I1,r1,q1⟩=>?_) hs rfl));obtain⟨j,e,q⟩:=q1;subst e;cases r1 with
 |cons r rr=>
  cases rr;obtain⟨t,rfl⟩:=r;refine call_range_1 ?_;refine⟨.ref s1.heap.objs.size,cG H1 s1.heap.objs.size (.rng 0 j),I1.laid (fun b ob e=>JW _ e) (JY _) ⟨_,_,_,JX _ rfl⟩,rfl,q _ (I1.hok.fresh (JY _))⟩
def Ey:List V->Hp->VK->Prop:=fun xs H Q=>∃(r:Addr)(j:Int),xs=[.ref r]/\H r=some (.rng 0 j)/\-(2^62)<=j/\j<=2^20/\∀l,H l=none->Q (.ref l) (cG H l (.lst ((List.range j.toNat).map fun(i:Nat)=>V.int (i:Int))))
theorem vG (hc:X.calm=true):bY X (.type "list") Ey:=by
 intro pins s σ H xs us Q I r h;obtain⟨r0,j,rfl,ha,j1,j2,q⟩:=h;obtain⟨u,rfl,ru⟩:=dk r;cases ru;obtain⟨t,u,v,hr⟩:=(show dq X.prog X.w H s.heap r0 (.rng 0 j) from I.hok r0 _ ha);have hn:Builtin.Range.rangeSize 0 j 1=((j.toNat:Nat):Int):=by rw[rangeSize_one];split <;> omega
 refine call_list_range (n:=j.toNat) (I.ok.hd hc) hr (small_one (by omega) (by omega) (by omega) (by omega)) hn (by omega) fun h' tk acc' c' hk hl hit=>?_
 have hv:aX ((List.range j.toNat).map fun(i:Nat)=>V.int (i:Int)) acc'.toList:=by
  obtain⟨e1,e2⟩:=hit;refine ko (by simp[e1]) fun i x u h1 h2=>?_;rw[Kh]at h1
  have hi:i<j.toNat:=by
   have:=(JG.mp h2).1;simp[e1]at this;omega
  rw[Mw hi]at h1;cases h1;obtain⟨t,rfl⟩:=e2 i u (by simpa using h2);exact⟨t,by simp⟩
 refine⟨.ref s.heap.objs.size,cG H s.heap.objs.size (.lst ((List.range j.toNat).map fun(i:Nat)=>V.int (i:Int))),I.laid (fun b ob e=>hk b ob e) (JY _) ⟨?_,acc'.toList,c',hv,by simpa using hl⟩,rfl,q _ (I.hok.fresh (JY _))⟩;have:(sizeLine:Nat)=16777216:=J5;simp only[Kk,Lo];omega
end
def nM(o1 o2:D->D->au->af D)(fa fb fc:ME):ME:=fun ρ μ=>(fa ρ μ).bind fun a μ1=>(fb ρ μ1).bind fun b μ2=>(o1 a b μ2).bind fun z μ3=>(AO z μ3).bind fun k μ4=>
 if k=true then (fc ρ μ4).bind fun c μ5=>o2 b c μ5 else .ok (.bl false) μ4
section
variable{X:Cx}{p:Pa}{a b c d:Expr}{ta tb tc td:TE}{fa fb fc fd:ME}{pos:Pos}{op op' op'':CmpOp}{r r' r'':R2}{o1 o2 o3:D->D->au->af D}
theorem vA(hd1:qp p o1 r)(hd2:qp p o2 r'){σ:St}{H:Hp}{Q:VK}(h:tD p (nM o1 o2 fa fb fc) σ H Q):zb r r' (tD p fa) (tD p fb) (tD p fc) σ H Q:=by
 obtain⟨α,ρ,μ,S,R,P⟩:=h;refine⟨α,ρ,μ,S,R,(aC.bind P).imp fun x μ1 H1 α1 X1 S1 P1 v rv=>⟨α1,ρ,μ1,S1,R.mono X1,(aC.bind P1).imp fun y μ2 H2 α2 X2 S2 P2 u ru=>?_⟩⟩;refine hd1 x y v u H2 α2 μ2 _ S2 (rv.mono X2) ru ((aC.bind P2).imp fun z μ3 H3 α3 X3 S3 P3 w rw'=>?_);obtain⟨k,_,e,q⟩:=qE (aC.bind P3) rw' S3;refine⟨k,e,?_⟩;cases k with
 |true=>
  rw[Jo rfl]at q⊢;exact⟨α3,ρ,μ3,S3,((R.mono X1).mono X2).mono X3,(aC.bind q).imp fun c μ5 H5 α5 X5 S5 P5 t rt=>hd2 y c u t H5 α5 μ5 Q S5 ((ru.mono X3).mono X5) rt P5⟩
 |false=>rw[Jp J4]at q⊢;exact q.now S3 _ (aU.mpr rfl)
theorem zV(ho:iZ X (compareOp op) r)(ho':iZ X (compareOp op') r')(hd1:qp p o1 r)(hd2:qp p o2 r')(ha:PE X a (tD p fa))(hb:PE X b (tD p fb))(hc:PE X c (tD p fc))
  (hm:lastMarks [op,op'] [b,c]=false):PE X (.Compare a [op,op'] [b,c] pos) (tD p (nM o1 o2 fa fb fc)):=(Ac ho ho' ha hb hc hm).weak fun σ H Q h=>vA hd1 hd2 h
def yu(d:D)(μ:au):af Bool:=match d with
 |.non=>.ok false μ
 |.bl b=>.ok b μ
 |.int i=>.ok (i != 0) μ
 |.str x=>if x.length<=sizeLine then .ok ((x.length:Int) != 0) μ else .bad
 |.tup xs=>.ok (!xs.isEmpty) μ
 |.frz xs=>.ok (!xs.isEmpty) μ
 |.obj n=>match μ[n]? with
  |some (.lst xs)=>.ok (!xs.isEmpty) μ
  |_=>.bad
def kg(f:ME):MT:=fun ρ μ=>(f ρ μ).bind yu
theorem Reps.isEmpty{K:W.Frag}{H:Hp}{α:List Addr}{xs:List D}{vs:List V}(r:Reps K H α xs vs):vs.isEmpty=xs.isEmpty:=by
 have:=r.length;cases xs with
 |nil=>have h:vs=[]:=Nr (by simpa using this);rw[h];rfl
 |cons x r=>cases vs with
  |nil=>simp at this
  |cons _ _=>rfl
theorem Be{d:D}{μ:au}{H:Hp}{α:List Addr}{v:V}{R:Bool->au->Hp->List Addr->Prop}(S:p.S H α μ)(r:p.R H α d v)(P:aC p H α (yu d μ) R):∃k,DK p.K v H k/\R k μ H α:=by
 unfold yu at P;split at P
 ·rw[bV.mp r];exact⟨false,rfl,P.now S⟩
 ·rename_i b;rw[aU.mp r];exact⟨b,rfl,P.now S⟩
 ·rename_i i;rw[ak.mp r];exact⟨_,rfl,P.now S⟩
 ·rename_i x;split at P
  ·rename_i hl;rw[aZ.mp r];exact⟨_,⟨hl,rfl⟩,P.now S⟩
  ·exact P.elim
 ·obtain⟨a,vs,rfl,h1,h2⟩:=aD.mp r;exact⟨_,.inr (.inl ⟨vs,h1,by rw[h2.isEmpty]⟩),P.now S⟩
 ·obtain⟨a,vs,rfl,h1,h2⟩:=bf.mp r;exact⟨_,.inl ⟨vs,h1.sq,by rw[h2.isEmpty]⟩,P.now S⟩
 ·split at P
  ·rename_i xs hx;obtain⟨a,us,rfl,a1,h1,rr⟩:=cP S r hx;exact⟨_,.inl ⟨us,eT.of h1,by rw[rr.isEmpty]⟩,P.now S⟩
  ·exact P.elim
theorem zD{e:Expr}{f:ME}(hK:X.K=p.K)(h:PE X e (tD p f))(he:∀whole,isTrue e X.env whole=(do let v <- whole;standAt e.pos;holding [v] (truthy v))):PT X e (gI p (kg f)):=
 (z5 h he).weak fun σ H Q ⟨α, ρ, μ, S, R, P⟩ => ⟨α, ρ, μ, S, R, (aC.bind P).imp fun d μ1 H1 α1 X1 S1 P1 v rv => by
  rw[hK];exact Be S1 rv P1⟩
def lJ(ds:List D)(μ:au):af D:=match ds with
 |[.int j]=>if -(2^62)<=j/\j<=2^20 then .ok (.obj μ.length) (μ++[.lst (cJ 0 j.toNat)]) else .bad
 |_=>.bad
theorem sR{K:W.Frag}{H:Hp}{α:List Addr}(n:Nat):Reps K H α (cJ 0 n) ((List.range n).map fun(i:Nat)=>V.int (i:Int)):=by
 have:cJ 0 n=((List.range n).map fun(i:Nat)=>((i:Nat):Int)).map D.int:=by
  unfold cJ;rw[Lm];apply Ln;intro i _;simp
 rw[this];have h2:((List.range n).map fun(i:Nat)=>V.int (i:Int))=((List.range n).map fun(i:Nat)=>((i:Nat):Int)).map V.int:=by rw[Lm];rfl
 rw[h2];exact g4 _
theorem zT {fr:MA}{pl pr pos p1:Pos} (hc:X.calm=true) (hg:Gl X "range") (hm:X.mg "range" = none) (hgl:Gl X "list") (hml:X.mg "list" = none) (ha:PA X [a] (l8 p fr)) (hs:starEach [a] X.env=[(false,eval a X.env)]) :
  PE X (.Call (.Name "list" pl) [.Call (.Name "range" pr) [a] [] p1] [] pos) (tD p (aF lJ fr)):=by
 refine(lN (T:="list") (vG hc) hgl hml boot_list (kN (pT hg hm ha hs) qx rfl) (by decide) (by decide) rfl rfl).weak fun σ H Q ⟨α,ρ,μ,S,R,P⟩=>⟨α,ρ,μ,S,R,(aC.bind P).imp fun ds μ1 H1 α1 X1 S1 P1 vs rv=>?_⟩;unfold lJ at P1;split at P1
 ·rename_i j;obtain⟨v,rfl,r1⟩:=rv.one;split at P1
  ·rename_i hj;refine⟨j,by rw[ak.mp r1],fun r0 hr=>?_⟩;refine⟨r0,j,rfl,bO,hj.1,hj.2,fun l hl=>?_⟩;have S2:p.S (cG H1 r0 (.rng 0 j)) α1 μ1:=S1.same (bx hr) fun a ha=>bK fun z=>ha (by rw[z];exact hr);obtain⟨x1,x2,x3⟩:=bZ S2 hl (sR j.toNat);exact P1 _ _ ((bx hr).trans x1) x2 _ x3
  ·exact P1.elim
 ·exact P1.elim
def GI:TE:=fun _ H Q=>∀q,H q=none->Q (.ref q) (cG H q (.dK []))
theorem BV:PE X (.Dict [] [] pos) GI:=fun pins s σ H Q I h=>by
 have hb:sysModules<s.heap.objs.size:=Nat.lt_trans (by decide) (I.mod.glob.keeps I.bk).lt;refine wpAny_Dict_empty ⟨.ref s.heap.objs.size,_,I.laid (a:=s.heap.objs.size) (o:=.dK []) (t':=s.toks) (fun _ _ q=>JW _ q) (JY _) ?_,rfl,h _ (I.hok.fresh (JY _))⟩;exact⟨Lj _,Jm.mpr (JD (Ju hb)),[],.nil,Heap.DictOf.new s.heap⟩
def yB:ME:=fun _ μ=>.ok (.obj μ.length) (μ++[.dic])
theorem En:PE X (.Dict [] [] pos) (tD p yB):=BV.weak fun σ H Q ⟨α,ρ,μ,S,R,P⟩ q hq=>by
 have x1:p.X H (cG H q (.dK [])) α (α++[q]):=(bx hq).trans (jl [q]);exact P _ _ x1 (S.more hq bO) _ (aN.mpr ⟨q,rfl,by rw[<- S.len];simp⟩)
def HR(p:Pa)(f:D->List D->au->af D)(r:V->List V->Hp->VK->Prop):Prop:=∀d ds v vs H α μ Q,p.S H α μ->p.R H α d v->p.Rs H α ds vs->aC p H α (f d ds μ) (RV p Q)->r v vs H Q
def Dz(d:D)(μ:au):Bool:=match d with
 |.obj n=>match μ[n]? with
  |some (.lst _)=>true
  |_=>false
 |_=>false
def AN(f:D->List D->au->af D)(fo:ME)(fr:MA):ME:=fun ρ μ=>(fo ρ μ).bind fun o μ1=>if Dz o μ1=true then (fr ρ μ1).bind fun ds μ2=>f o ds μ2 else .bad
theorem FF {d:D}{μ:au}{H:Hp}{α:List Addr}{v:V} (S:p.S H α μ) (r:p.R H α d v) (h:Dz d μ=true):HM p.K "list" v H:=by
 unfold Dz at h;split at h
 ·split at h
  ·rename_i xs hx;obtain⟨a,us,rfl,a1,h1,rr⟩:=cP S r hx;exact .inl ⟨rfl,us,eT.of h1⟩
  ·cases h
 ·cases h
theorem C7 {o e:Expr}{es:List Expr}{fo:ME}{fr:MA}{name:Str}{apos cpos:Pos}{id:String}{rr:V->List V->Hp->VK->Prop}{f:D->List D->au->af D} (hK:X.K=p.K) (slot:Slot "list" name id) (hty:typeOf (.builtin id)=pure (.type "method_descriptor")) (hm:IM X id rr) (hf:HR p f rr)
  (ho:PE X o (tD p fo)) (ha:PA X (e::es) (l8 p fr)) (hbase:attributeBase o name X.env (eval o X.env)=eval o X.env)
  (hfew : ((backTo cpos (starEach (e :: es) X.env)).all (fun x => !x.1) && (backToKw cpos (keywordEach [] X.env)).all (fun x => x.1.isSome)
   && decide ((e::es).length+([]:List Keyword).length+(if ([]:List Keyword).isEmpty then 0 else 1)<30))=true)
  (hline:(apos.endLine == cpos.line)=true) (hs:starEach (e::es) X.env=(false,eval e X.env)::starEach es X.env) (hplain:(backTo cpos (starEach es X.env)).any (·.1)=false) :
  PE X (.Call (.Attribute o name apos) (e::es) [] cpos) (tD p (AN f fo fr)):=
 (G7 PySem.F.plainAttrs_list slot hty hm ho ha hbase hfew hline hs hplain).weak fun σ H Q ⟨α, ρ, μ, S, R, P⟩ => ⟨α, ρ, μ, S, R, (aC.bind P).imp fun d μ1 H1 α1 X1 S1 P1 v rv => by
  by_cases hl:Dz d μ1=true
  ·rw[Jo hl]at P1;rw[hK];exact⟨FF S1 rv hl,α1,ρ,μ1,S1,R.mono X1,(aC.bind P1).imp fun ds μ2 H2 α2 X2 S2 P2 vs rs=>hf d ds v vs H2 α2 μ2 Q S2 (rv.mono X2) rs P2⟩
  ·rw[Jp hl]at P1;exact P1.elim⟩
def eB(d:D)(ds:List D)(μ:au):af D:=match d,ds with
 |.obj n,[y]=>match μ[n]? with
  |some (.lst xs)=>if xs.length<sizeLine then .ok .non (μ.set n (.lst (xs++[y]))) else .bad
  |_=>.bad
 |_,_=>.bad
theorem Cj:HR p eB we:=by
 intro d ds v vs H α μ Q S rd rs P;unfold eB at P;split at P
 ·rename_i n y;split at P
  ·rename_i xs hx;split at P
   ·rename_i hb;obtain⟨a,us,rfl,a1,h1,rr⟩:=cP S rd hx;obtain⟨w,rfl,rw'⟩:=rs.one;have q:=rr.snoc rw';exact⟨a,us,w,rfl,rfl,h1,by rw[rr.length];exact hb,P _ _ (iP h1) (S.put hx a1 h1 q) _ (bV.mpr rfl)⟩
   ·exact P.elim
  ·exact P.elim
 ·exact P.elim
end
abbrev dU(K:W.Frag)(w:World):Pa:=⟨K,w,fun _ _ _ _=>False⟩
abbrev nq:D->D->au->af D:=dI fun i j=>.int (i-j)
noncomputable abbrev sC:D->D->au->af D:=CZ A5 fun i j=>.int (i / j)
noncomputable abbrev rZ:D->D->au->af D:=CZ (fun _ j=>0<j) fun i j=>.int (i%j)
noncomputable abbrev wX:D->D->au->af D:=CZ yF fun i j=>.int (i^j.toNat)
def qC(N:List Str)(sc scope:Scope)(Nc:List Str)(cap:List (Option Nat)):Bool:=
 (scope.kind == .function)&&scope.names.all (fun y=>scope.names.lookup y.1 == some y.2) &&
 scope.names.all (fun y=>y.2 != .free || sc.names.lookup y.1 == some .cell || sc.names.lookup y.1 == some .free)&&fy N {scope:=sc,globals:=0,builtins:=0,locals:=0,cells:=[],qual:="",func:=none,code:=.none,frame:=none} scope Nc cap
theorem lT{N:List Str}{e1 e2:Env}{scope:Scope}:∀{Nc:List Str}{cap:List (Option Nat)},fy N e1 scope Nc cap=fy N e2 scope Nc cap
 |[],[]=>rfl
 |_::_,[]=>rfl
 |[],_::_=>rfl
 |_::Nc,none::cap=>by unfold fy;exact lT
 |x::Nc,some j::cap=>by unfold fy;rw[lT (Nc:=Nc) (cap:=cap) (e1:=e1) (e2:=e2)]
theorem qe{X:Cx}{N:List Str}{sc scope:Scope}{Nc:List Str}{cap:List (Option Nat)}(hN:X.N=N)(hk:∀x,(sc.names.lookup x=some .cell\/sc.names.lookup x=some .free)->X.env.kindOf x=some .cell\/X.env.kindOf x=some .free)(h:qC N sc scope Nc cap=true):bI X.N X.env scope Nc cap:=by
 unfold qC at h;simp only[KJ]at h;obtain⟨⟨⟨h1,h3⟩,h4⟩,h5⟩:=h;refine⟨eq_of_beq h1,fun y hy=>?_,fun y hy hf=>?_,?_⟩
 ·exact eq_of_beq (LY.mp h3 y hy)
 ·have := LY.mp h4 y hy;simp only[Bool.or_eq_true,hf]at this;refine hk _ ?_;rcases this with (z|z)|z
  ·exact absurd z (by decide)
  ·exact .inl (eq_of_beq z)
  ·exact .inr (eq_of_beq z)
 ·rw[hN,lT];exact h5
theorem bS{X:Cx}{N:List Str}{sc scope:Scope}{Nc:List Str}{cap:List (Option Nat)}(hN:X.N=N)(hs:X.env.scope=sc)(h:qC N sc scope Nc cap=true):bI X.N X.env scope Nc cap:=
 qe hN (fun x hx=>by subst hs;exact hx) h
theorem wG{X:Cx}{env:Env}{N:List Str}{sc scope:Scope}{Nc:List Str}{cap:List (Option Nat)}(hN:X.N=N)(hs:X.env.scope=relabel sc env)(h:qC N sc scope Nc cap=true):bI X.N X.env scope Nc cap:=
 qe hN (fun x hx=>by
  have e:X.env.kindOf x=(sc.names.lookup x).map fun k=>if (k == NameKind.free&&env.scope.kind == .function&&env.kindOf x == some .cell) then NameKind.cell else k:=by
   have:X.env.kindOf x=(relabel sc env).names.lookup x:=by rw[<- hs];rfl
   rw[this];exact gF
  rw[e];rcases hx with z|z
  ·rw[z];exact .inl rfl
  ·rw [z];show some (if _ then _ else _)=_\/some (if _ then _ else _)=_;split
   ·exact .inl rfl
   ·exact .inr rfl) h
structure Bx(P:Prop):Prop where
 h:P
section
variable{X:Cx}{p:Pa}{a b c d e:Expr}{es:List Expr}{fa fb fc fd f:ME}{fr:MA}{pos:Pos}{ft gt:MT}
theorem aK (i:Nat) {x:Str} (hN:X.N[i]?=some x:=by rfl) (hv:HQ X.env.scope x:=by first|exact Or.inl rfl|exact Or.inr (Or.inl rfl)|exact Or.inr (Or.inr rfl)) (hd:(x == ("__debug__" : Str))=false:=by decide) (hcd:(x == ("__classdict__" : Str))=false:=by decide):Bx (PE X (.Name x pos) (tD p (aj i))):=⟨Ei (EK hN hv hd hcd)⟩
theorem dc{i j}:Bx (PE X (.Constant (.int i) j pos) (tD p (cC (.int i)))):=⟨AZ ET fun _ _=>ak.mpr rfl⟩
theorem vJ{i j}:Bx (PE X (.Constant (.bool i) j pos) (tD p (cC (.bl i)))):=⟨AZ G8 fun _ _=>aU.mpr rfl⟩
theorem HL{j}:Bx (PE X (.Constant .none j pos) (tD p (cC .non))):=⟨AZ ER fun _ _=>bV.mpr rfl⟩
theorem IH{x j}:Bx (PE X (.Constant (.str x) j pos) (tD p (cC (.str x)))):=⟨AZ EM fun _ _=>aZ.mpr rfl⟩
theorem dR(ha:Bx (PE X a (tD p fa)))(hb:Bx (PE X b (tD p fb)))(hK:X.K=p.K:=by rfl):Bx (PE X (.BinOp a .Add b pos) (tD p (aM cw fa fb))):=⟨lD (r:=yQ p.K) (hK ▸ Ca) Fl ha.h hb.h⟩
theorem nv(ha:Bx (PE X a (tD p fa)))(hb:Bx (PE X b (tD p fb))):Bx (PE X (.BinOp a .Sub b pos) (tD p (aM nq fa fb))):=⟨lD EW (Ik fun _ _ _ _=>ak.mpr rfl) ha.h hb.h⟩
theorem C6(ha:Bx (PE X a (tD p fa)))(hb:Bx (PE X b (tD p fb))):Bx (PE X (.BinOp a .Mult b pos) (tD p (aM uE fa fb))):=⟨lD B5 Fh ha.h hb.h⟩
theorem y6(ha:Bx (PE X a (tD p fa)))(hb:Bx (PE X b (tD p fb))):Bx (PE X (.BinOp a .FloorDiv b pos) (tD p (aM sC fa fb))):=⟨lD B6 (yR fun _ _ _ _=>ak.mpr rfl) ha.h hb.h⟩
theorem sf(ha:Bx (PE X a (tD p fa)))(hb:Bx (PE X b (tD p fb))):Bx (PE X (.BinOp a .Mod b pos) (tD p (aM rZ fa fb))):=⟨lD E2 (yR fun _ _ _ _=>ak.mpr rfl) ha.h hb.h⟩
theorem C4(ha:Bx (PE X a (tD p fa)))(hb:Bx (PE X b (tD p fb))):Bx (PE X (.BinOp a .Pow b pos) (tD p (aM wX fa fb))):=⟨lD EY (yR fun _ _ _ _=>ak.mpr rfl) ha.h hb.h⟩
theorem C5(ha:Bx (PE X a (tD p fa))):Bx (PE X (.UnaryOp .USub a pos) (tD p (rS wY fa))):=⟨GQ DT Fm ha.h⟩
structure mF(X:Cx)(p:Pa)(op:CmpOp)(o:D->D->au->af D):Prop where
 ex:∃r,iZ X (compareOp op) r/\qp p o r
theorem wV(hu:X.A.units+64<cLine)(hK:X.K=p.K:=by rfl):mF X p .Eq (jU false):=⟨uC p.K false,hK ▸ uP hu,sk⟩
theorem wU(hu:X.A.units+64<cLine)(hK:X.K=p.K:=by rfl):mF X p .NotEq (jU true):=⟨uC p.K true,hK ▸ EZ hu,sk⟩
theorem DC(hu:X.A.units+64<cLine)(hK:X.K=p.K:=by rfl):mF X p .In (rR false):=⟨yy p.K false,hK ▸ E3 hu,Dj⟩
theorem Dn(hu:X.A.units+64<cLine)(hK:X.K=p.K:=by rfl):mF X p .NotIn (rR true):=⟨yy p.K true,hK ▸ xB hu,Dj⟩
theorem jg{op:CmpOp}(hu:X.A.units+64<cLine)(ho:sm op=true:=by rfl)(hK:X.K=p.K:=by rfl):mF X p op (kf op):=⟨yP p.K op,hK ▸ B7 hu ho,Fk⟩
variable{op op' op'':CmpOp}{o o' o'':D->D->au->af D}
theorem vL(k:mF X p op o)(ha:Bx (PE X a (tD p fa)))(hb:Bx (PE X b (tD p fb)))(hm:behindInMarks op b=false:=by rfl):Bx (PE X (.Compare a [op] [b] pos) (tD p (aM o fa fb))):=Bx.mk (let ⟨_,h1,h2⟩:=k.ex;Eo h1 h2 ha.h hb.h hm)
theorem de(k:mF X p op o)(ha:Bx (PE X a (tD p fa)))(hb:Bx (PE X b (tD p fb)))(hm:behindInMarks op b=false:=by rfl):Bx (PT X (.Compare a [op] [b] pos) (gI p (lx (aM o fa fb)))):=Bx.mk (let ⟨_,h1,h2⟩:=k.ex;D5 h1 h2 ha.h hb.h hm)
theorem Gy(k:mF X p op o)(k':mF X p op' o')(ha:Bx (PE X a (tD p fa)))(hb:Bx (PE X b (tD p fb)))(hc:Bx (PE X c (tD p fc)))(hm:lastMarks [op,op'] [b,c]=false:=by rfl):Bx (PE X (.Compare a [op,op'] [b,c] pos) (tD p (nM o o' fa fb fc))):=Bx.mk (let ⟨_,h1,h2⟩:=k.ex;let ⟨_,h3,h4⟩:=k'.ex;zV h1 h3 h2 h4 ha.h hb.h hc.h hm)
theorem yj(h:Bx (PE X e (tD p f)))(he:∀whole,isTrue e X.env whole=(do let v <- whole;standAt e.pos;holding [v] (truthy v)):=by intro _;rfl)(hK:X.K=p.K:=by rfl):Bx (PT X e (gI p (kg f))):=⟨zD hK h.h he⟩
theorem yK{rest:List Expr}(ha:Bx (PT X a (gI p ft)))(hb:Bx (PW X (.BoolOp .And (b::rest) pos) (gI p gt))):Bx (PW X (.BoolOp .And (a::b::rest) pos) (gI p (pH ft gt))):=⟨D1 ha.h hb.h⟩
theorem uA{rest:List Expr}(ha:Bx (PT X a (gI p ft)))(hb:Bx (PW X (.BoolOp .Or (b::rest) pos) (gI p gt))):Bx (PW X (.BoolOp .Or (a::b::rest) pos) (gI p (oR ft gt))):=⟨GM ha.h hb.h⟩
theorem uJ(ha:Bx (PT X a (gI p ft))):Bx (PW X (.BoolOp .And [a] pos) (gI p ft)):=⟨BH ha.h⟩
theorem si(ha:Bx (PT X a (gI p ft))):Bx (PW X (.BoolOp .Or [a] pos) (gI p ft)):=⟨Ez ha.h⟩
theorem pk{op}(ha:Bx (PE X a (tD p fa))):Bx (PE X (.BoolOp op [a] pos) (tD p fa)):=⟨EN ha.h⟩
def zh:Expr->Bool
 |.Starred _ _=>false
 |_=>true
theorem xf{a:Expr}{es:List Expr}{env:Env}(h:zh a=true):starEach (a::es) env=(false,eval a env)::starEach es env:=by
 cases a <;> first|rfl|cases h
theorem aQ(ha:Bx (PE X a (tD p fa)))(hr:Bx (PA X es (l8 p fr)))(hs:zh a=true:=by rfl):Bx (PA X (a::es) (l8 p (ah fa fr))):=⟨BE ha.h hr.h (xf hs)⟩
theorem bp  : Bx (PA X [] (l8 p aH)):=⟨Er⟩
theorem aT {k n:Nat}{x:Str}{F:List D->au->af D}{px:Pos} (h:dW X.prog X.w X.K X.mg X.base p k x n F) (hr:gu k X.A) (ha:Bx (PA X (a::es) (l8 p fr))) (hg:Gl X x:=by rfl) (hdb:(x == ("__debug__" : Str))=false:=by decide) (he:starEach (a::es) X.env=(false,eval a X.env)::starEach es X.env:=by rfl) (hpl:(backTo pos (starEach es X.env)).any (·.1)=false:=by rfl):Bx (PE X (.Call (.Name x px) (a::es) [] pos) (tD p (aF F fr))):=⟨BC h hr hg ha.h hdb he hpl⟩
structure mG(X:Cx)(p:Pa)(x:Str)(F:List D->au->af D):Prop where
 ex:∃(u:Value) (r:List V->Hp->VK->Prop),((∃id,u=.builtin id)\/∃T,u=.type T)/\bootBuiltins x=some u/\bY X u r/\rQ p F r/\x ≠ "__name__" /\ (x == ("__debug__" : Str))=false
theorem bA{x:Str}{F:List D->au->af D}{px:Pos}(k:mG X p x F)(hm:X.mg x=none)(ha:Bx (PA X (a::es) (l8 p fr)))(hg:Gl X x:=by rfl)(he:starEach (a::es) X.env=(false,eval a X.env)::starEach es X.env:=by rfl)(hpl:(backTo pos (starEach es X.env)).any (·.1)=false:=by rfl):Bx (PE X (.Call (.Name x px) (a::es) [] pos) (tD p (aF F fr))):=Bx.mk (by
 obtain⟨u,r,hu,h1,h2,h3,h4,h5⟩:=k.ex;rcases hu with⟨id,rfl⟩|⟨T,rfl⟩
 ·exact zW h2 h3 hg hm h1 ha.h h4 h5 he hpl
 ·exact xn h2 h3 hg hm h1 ha.h h4 h5 he hpl)
theorem l9 (hK:X.K=p.K:=by rfl) (hw:X.w=p.w:=by rfl):mG X p "len" ke:=⟨_,_,.inl ⟨_,rfl⟩,PySem.boot_len,(AF.or ya).or yb,by rw[hK,hw];exact Fc,by decide,by decide⟩
theorem nF (hc:X.calm=true:=by rfl) (hK:X.K=p.K:=by rfl):mG X p "all" mC:=⟨_,_,.inl ⟨_,rfl⟩,by decide +kernel,ye hc,hK ▸ Ff,by decide,by decide⟩
theorem Hs (hc:X.calm=true:=by rfl) (hK:X.K=p.K:=by rfl):mG X p "any" uG:=⟨_,_,.inl ⟨_,rfl⟩,by decide +kernel,yd hc,hK ▸ Fe,by decide,by decide⟩
theorem m5 (hK:X.K=p.K:=by rfl):mG X p "tuple" iN:=⟨_,_,.inr ⟨_,rfl⟩,by decide +kernel,ph,hK ▸ Af,by decide,by decide⟩
theorem qD (hK:X.K=p.K:=by rfl):mG X p "list" i4:=⟨_,_,.inr ⟨_,rfl⟩,by decide +kernel,rL,hK ▸ Cd,by decide,by decide⟩
theorem Hr:mG X p "int" sA:=⟨_,_,.inr ⟨_,rfl⟩,by decide +kernel,yc,Fd,by decide,by decide⟩
theorem Dw (hc:X.calm=true:=by rfl) (hK:X.K=p.K:=by rfl):mG X p "min" uF:=⟨_,_,.inl ⟨_,rfl⟩,by decide +kernel,(x6 hc).or (x5 hc),hK ▸ E9,by decide,by decide⟩
theorem y0 (hc:X.calm=true:=by rfl) (hK:X.K=p.K:=by rfl):mG X p "max" qr:=⟨_,_,.inl ⟨_,rfl⟩,by decide +kernel,(x9 hc).or (x8 hc),hK ▸ Fb,by decide,by decide⟩
theorem yZ (hu:X.A.units+64<cLine) (hc:X.calm=true:=by rfl) (hK:X.K=p.K:=by rfl) (hw:X.w=p.w:=by rfl):mG X p "set" mB:=⟨_,_,.inr ⟨_,rfl⟩,by decide +kernel,(xZ hc hu).or (x4 hc hu),by rw[hK,hw];exact E8,by decide,by decide⟩
theorem jY {T:String}{xT:Str}{px pt:Pos} (hT:T∈["int", "bool", "tuple", "list", "str", "dict"]) (hbT:bootBuiltins xT=some (.type T)) (hnT:xT ≠ "__name__") (hdT:(xT == ("__debug__" : Str))=false) (hm:X.mg "isinstance" = none) (hmT:X.mg xT=none) (ha:Bx (PE X a (tD p fa))) (hg:Gl X "isinstance" := by rfl) (hgT:Gl X xT:=by rfl) (hs1:starEach [a,.Name xT pt] X.env=(false,eval a X.env)::starEach [.Name xT pt] X.env:=by rfl) (hK:X.K=p.K:=by rfl):Bx (PE X (.Call (.Name "isinstance" px) [a,.Name xT pt] [] pos) (tD p (rS (gf T) fa))):=⟨Em hK hT hg hm hgT hmT hbT ha.h hnT hdT hs1⟩
theorem zx:bootBuiltins "int" = some (.type "int"):=by decide +kernel
theorem qY:bootBuiltins "bool" = some (.type "bool"):=by decide +kernel
theorem k0:bootBuiltins "tuple" = some (.type "tuple"):=by decide +kernel
theorem CT:bootBuiltins "list" = some (.type "list"):=by decide +kernel
theorem DS {pl pr p1:Pos} (hm:X.mg "range" = none) (hml:X.mg "list" = none) (ha:Bx (PA X [a] (l8 p fr))) (hc:X.calm=true:=by rfl) (hg:Gl X "range" := by rfl) (hgl:Gl X "list" := by rfl) (hs:starEach [a] X.env=[(false,eval a X.env)]:=by rfl):Bx (PE X (.Call (.Name "list" pl) [.Call (.Name "range" pr) [a] [] p1] [] pos) (tD p (aF lJ fr))):=⟨zT hc hg hm hgl hml ha.h hs⟩
theorem eF(ha:Bx (PE X a (tD p fa)))(hb:Bx (PE X b (tD p fb)))(hs:rj b:=by exact fun _ _=>rfl)(hK:X.K=p.K:=by rfl):Bx (PE X (.Subscript a b pos) (tD p (aM gJ fa fb))):=⟨GR hK ha.h hb.h hs⟩
theorem wN{lo hi:Option Expr}{fl fh:MO}{p2:Pos}(he:Bx (PE X e (tD p fa)))(hl:Bx (PO X lo (CV p fl)))(hu:Bx (PO X hi (CV p fh)))(hK:X.K=p.K:=by rfl):Bx (PE X (.Subscript e (.Slice lo hi none p2) pos) (tD p (AR fa fl fh))):=⟨zS hK he.h hl.h hu.h⟩
theorem yI {fo:ME}{ob:Expr}{apos:Pos} (ho:Bx (PE X ob (tD p fo))) (ha:Bx (PA X [e] (l8 p fr))) (hbase:attributeBase ob "append" X.env (eval ob X.env)=eval ob X.env:=by rfl) (hfew:((backTo pos (starEach [e] X.env)).all (fun x=>!x.1)&&(backToKw pos (keywordEach [] X.env)).all (fun x=>x.1.isSome)
   && decide ([e].length+([]:List Keyword).length+(if ([]:List Keyword).isEmpty then 0 else 1)<30))=true:=by rfl) (hline:(apos.endLine == pos.line)=true:=by rfl) (hs:starEach [e] X.env=(false,eval e X.env)::starEach [] X.env:=by rfl) (hpl:(backTo pos (starEach [] X.env)).any (·.1)=false:=by rfl) (hK:X.K=p.K:=by rfl):Bx (PE X (.Call (.Attribute ob "append" apos) [e] [] pos) (tD p (AN eB fo fr))):=⟨C7 hK PySem.F.slot_list_append PySem.F.type_list_append pX Cj ho.h ha.h hbase hfew hline hs hpl⟩
variable{tg iter elt:Expr}{fi:MI}{g:MG}{u:DB}
theorem ng(hl:Bx (PE X e (tD p f)))(hK:X.K=p.K:=by rfl):Bx (PI X tg e (qo p (fA f))):=⟨Ef hK hl.h⟩
theorem rY {px:Pos} (hm:X.mg "range" = none) (ha:Bx (PA X [a] (l8 p fr))) (hg:Gl X "range" := by rfl) (hs:starEach [a] X.env=[(false,eval a X.env)]:=by rfl):Bx (PI X tg (.Call (.Name "range" px) [a] [] pos) (qo p (kF kd fr))):=⟨xm hg hm ha.h hs⟩
theorem Im {px:Pos} (hm:X.mg "range" = none) (ha:Bx (PA X [a,b] (l8 p fr))) (hg:Gl X "range" := by rfl) (hs:starEach [a,b] X.env=[(false,eval a X.env),(false,eval b X.env)]:=by rfl) (hs2:starEach [b] X.env=[(false,eval b X.env)]:=by rfl):Bx (PI X tg (.Call (.Name "range" px) [a,b] [] pos) (qo p (kF wQ fr))):=⟨xl hg hm ha.h hs hs2⟩
theorem jC(i:Nat){x:Str}(hN:X.N.Nodup)(hi:X.N[i]?=some x:=by rfl)(hx:C0 X.env.scope x:=by first|exact Or.inl rfl|exact Or.inr rfl)(hf:X.fn x=true\/X.env.scope.names.lookup x=some .local:=by first|exact .inl rfl|exact .inr rfl):Bx (PG X (.Name x pos) (l7 p (ao i))):=⟨Bw hN hi hx hf⟩
theorem Dr  : Bx (uy X [] (rX p pE)):=⟨Bv⟩
theorem qA(h1:Bx (PG X e (l7 p g)))(h2:Bx (uy X es (rX p u)))(hs:(assignEach (e::es) X.env).map (·.2)=assign e X.env::(assignEach es X.env).map (·.2):=by rfl):Bx (uy X (e::es) (rX p (hW g u))):=⟨zN h1.h h2.h hs⟩
theorem Dp{k n:Nat}(h:Bx (uy X es (rX p u)))(hc:X.calm=true:=by rfl)(hn:(assignEach es X.env).length=n:=by rfl)(hst:(assignEach es X.env).findIdx? (·.1)=none:=by rfl)(hK:X.K=p.K:=by rfl):Bx (PG X (.Tuple es k pos) (l7 p (pD n u))):=⟨Eg hK hc h.h hn hst⟩
theorem Dq{fo fi:ME}(ho:Bx (PE X a (tD p fo)))(hi:Bx (PE X b (tD p fi)))(ha:∀v,assign (.Subscript a b pos) X.env v=(do
   let ov <- holding [v] (eval a X.env)
   let iv <- holding [v,ov] (eval b X.env)
   standAt pos
   holding [v,ov,iv] (setItem ov iv v)
   release [v,ov,iv] []):=by intro _;rfl):Bx (PG X (.Subscript a b pos) (l7 p (sr fo fi))):=⟨Eh ho.h hi.h ha⟩
variable{ifs:List Expr}{scope:Scope}{Nc:List Str}{cap:List (Option Nat)}{tt:MT}{te:ME}
theorem c0(S:bI X.N X.env scope Nc cap)(hi:Bx (PI X tg iter (qo p fi)))(hg:∀cl C s H fp,Bx (PG (ij X Nc scope cl C s H fp) tg (l7 p.nx g)))(ht:∀cl C s H fp,Bx (oN (ij X Nc scope cl C s H fp) ifs (gI p.nx tt)))(he:∀cl C s H fp,Bx (PE (ij X Nc scope cl C s H fp) elt (tD p.nx te)))(hc:X.calm=true:=by rfl)(hs:∀x,foldedSetIterable iter X.env x=pure x:=by intro _;rfl):Bx (PE X (.ListComp elt [⟨tg,iter,ifs,0⟩] scope pos) (tD p (cX fi cap g tt te))):=⟨BB hc S hi.h (fun cl C s H fp=>(hg cl C s H fp).h) (fun cl C s H fp=>(ht cl C s H fp).h) (fun cl C s H fp=>(he cl C s H fp).h) hs⟩
def rf(gs:List Comprehension):Bool:=gs.all fun g=>g.is_async == 0
theorem vU{gs:List Comprehension}(h:rf gs=true):∀g∈gs,g.is_async=0:=fun g hg=>eq_of_beq (LY.mp h g hg)
variable{mb:MB}{cl0:Comprehension}{rest:List Comprehension}{d:Nat}{acc:Addr}
theorem Iz{gens:List Comprehension}(hg:gens[d]?=none)(hel:Bx (PE X elt (tD p.nx te)))(hxe:X.xe=rT:=by rfl):Bx (uz X (.ListComp elt gens scope pos) d acc (wJ p.nx (nD te) acc)):=⟨BD hg hxe hel.h⟩
theorem Iy{gens:List Comprehension}(hg:gens[d]?=some ⟨tg,iter,ifs,0⟩)(hi:Bx (PI X tg iter (qo p.nx fi)))(hgc:Bx (PG X tg (l7 p.nx g)))(htc:Bx (oN X ifs (gI p.nx tt)))(hb:Bx (uz X (.ListComp elt gens scope pos) (d+1) acc (wJ p.nx mb acc)))
  (hz:rf gens=true:=by rfl) (hxe:X.xe=rT:=by rfl) (hc:X.calm=true:=by rfl) (hs:∀x,foldedSetIterable iter X.env x=pure x:=by intro _;rfl):Bx (uz X (.ListComp elt gens scope pos) d acc (wJ p.nx (nJ fi g tt mb) acc)):=
 ⟨zX (e:=.ListComp elt gens scope pos) (cl:=⟨tg,iter,ifs,0⟩) rfl (vU hz) hg hxe hc hi.h hgc.h htc.h hb.h hs⟩
theorem Bb(S:bI X.N X.env scope Nc cap)(hi:Bx (PI X tg iter (qo p fi)))(hg:∀cl C s H fp,Bx (PG (ij X Nc scope cl C s H fp) tg (l7 p.nx g)))(ht:∀cl C s H fp,Bx (oN (ij X Nc scope cl C s H fp) ifs (gI p.nx tt)))(hb:∀cl C s H fp acc,Bx (uz (ij X Nc scope cl C s H fp) (.ListComp elt (⟨tg,iter,ifs,0⟩::rest) scope pos) 1 acc (wJ p.nx mb acc)))(hz:rf (⟨tg,iter,ifs,0⟩::rest)=true:=by rfl)(hc:X.calm=true:=by rfl)(hs:∀x,foldedSetIterable iter X.env x=pure x:=by intro _;rfl):Bx (PE X (.ListComp elt (⟨tg,iter,ifs,0⟩::rest) scope pos) (tD p (lK fi cap g tt mb))):=
 ⟨zU (cl0:=⟨tg,iter,ifs,0⟩) hc (vU hz) S hi.h (fun cl C s H fp=>(hg cl C s H fp).h) (fun cl C s H fp=>(ht cl C s H fp).h) (fun cl C s H fp acc=>(hb cl C s H fp acc).h) hs⟩
variable{fs gs:MS}{st:Stmt}{sts A B body:List Stmt}
theorem bU(i:Nat){x:Str}{pos':Pos}(hN:X.N.Nodup)(he:Bx (PE X e (tD p f)))(hi:X.N[i]?=some x:=by rfl)(hx:C0 X.env.scope x:=by first|exact Or.inl rfl|exact Or.inr rfl)(hs:swapsWith e (some (.Name x pos')) pos.line X.env=pure false:=by rfl)(hf:X.fn x=true\/X.env.scope.names.lookup x=some .local:=by first|exact .inl rfl|exact .inr rfl):Bx (PS X (.Assign [.Name x pos'] e pos) (iY p (cH f (ao i)))):=⟨D6 hN hi hx he.h hs hf⟩
theorem Es(i:Nat){x:Str}{pos1 pos2:Pos}(hN:X.N.Nodup)(S:bI X.N X.env scope Nc cap)(hi:Bx (PI X tg iter (qo p fi)))(hg:∀cl C s H fp,Bx (PG (ij X Nc scope cl C s H fp) tg (l7 p.nx g)))(ht:∀cl C s H fp,Bx (oN (ij X Nc scope cl C s H fp) ifs (gI p.nx tt)))(he:∀cl C s H fp,Bx (PE (ij X Nc scope cl C s H fp) elt (tD p.nx te)))(hix:X.N[i]?=some x:=by rfl)(hx:X.env.scope.names.lookup x=some .local:=by rfl)(hc:X.calm=true:=by rfl)(hsw:swapsWith (.ListComp elt [⟨tg,iter,ifs,0⟩] scope pos) (some (.Name x pos1)) pos2.line X.env=pure true:=by rfl)(hs:∀x,foldedSetIterable iter X.env x=pure x:=by intro _;rfl):Bx (PS X (.Assign [.Name x pos1] (.ListComp elt [⟨tg,iter,ifs,0⟩] scope pos) pos2) (iY p (cH (cX fi cap g tt te) (ao i)))):=⟨Bk hc hN hix hx S hi.h (fun cl C s H fp=>(hg cl C s H fp).h) (fun cl C s H fp=>(ht cl C s H fp).h) (fun cl C s H fp=>(he cl C s H fp).h) hsw hs⟩
theorem C8(he:Bx (PE X e (tD p f)))(hg:Bx (PG X tg (l7 p g)))(hs:swapsWithSole [tg] e pos.line X.env=pure false:=by rfl)(hw:swappedStores [tg] e X.env=pure none:=by rfl)(h1:(assignEach [tg] X.env).map (·.2)=[assign tg X.env]:=by rfl):Bx (PS X (.Assign [tg] e pos) (iY p (cH f g))):=⟨Eb he.h hg.h hs hw h1⟩
theorem lE(he:Bx (PE X e (tD p f)))(hs:swapsWith e none pos.line X.env=pure false:=by rfl):Bx (PS X (.Expr e pos) (iY p (kI f))):=⟨Bl he.h hs⟩
theorem jZ(hp:PassesOwn (model X.prog X.w) X.A X.env X.xe)(hi:Bx (PI X tg iter (qo p fi)))(hg:Bx (PG X tg (l7 p g)))(hb:Bx (jV X body (iY p fs)))(hc:X.calm=true:=by rfl)(hs:∀x,foldedSetIterable iter X.env x=pure x:=by intro _;rfl):Bx (PS X (.For tg iter body [] pos) (iY p (lA fi g fs))):=⟨Ea hp hc hi.h hg.h hb.h hs⟩
end
section
variable{X:Cx}{p:Pa}{a b c e:Expr}{es rest:List Expr}{fa fb f:ME}{fr:MA}{ft gt:MT}{pos:Pos}{fs gs:MS}{st:Stmt}{sts A B:List Stmt}
theorem C2(ha:Bx (PE X a (tD p fa))):Bx (PE X (.UnaryOp .Not a pos) (tD p (sD fa))):=⟨Ek ha.h⟩
theorem nu(ha:Bx (PE X a (tD p fa)))(hb:Bx (PE X (.BoolOp .And (b::rest) pos) (tD p fb))):Bx (PE X (.BoolOp .And (a::b::rest) pos) (tD p (j4 fa fb))):=⟨Ep ha.h hb.h⟩
theorem fv{k:Nat}(h:Bx (PA X es (l8 p fr))):Bx (PE X (.Tuple es k pos) (tD p (hV fr))):=⟨Ej h.h⟩
theorem gM(h:Bx (PA X es (l8 p fr))):Bx (PE X (.List es pos) (tD p (jf fr))):=⟨El h.h⟩
theorem C3:Bx (PE X (.Dict [] [] pos) (tD p yB)):=⟨En⟩
theorem kL:Bx (PO X none (CV p CY)):=⟨Bs⟩
theorem iO(h:Bx (PE X e (tD p f))):Bx (PO X (some e) (CV p (j3 f))):=⟨Br h.h⟩
theorem jW(ha:Bx (PT X a (gI p ft))):Bx (PT X (.UnaryOp .Not a pos) (gI p (iq ft))):=⟨D3 ha.h⟩
theorem rW(h:Bx (PW X e (gI p ft))):Bx (PT X e (gI p ft)):=⟨h.h.pt⟩
theorem jX:Bx (oN X [] (gI p cW)):=⟨Bi⟩
theorem i0(h:Bx (PT X c (gI p ft))):Bx (oN X [c] (gI p ft)):=⟨Bh h.h⟩
theorem gv:Bx (jV X [] (iY p fx)):=⟨D9⟩
theorem aO(h1:Bx (PS X st (iY p fs)))(h2:Bx (jV X sts (iY p gs))):Bx (jV X (st::sts) (iY p (bG fs gs))):=⟨Bm h1.h h2.h⟩
theorem bc(h1:Bx (PS X st (iY p fs))):Bx (jV X [st] (iY p fs)):=⟨D8 h1.h⟩
theorem bw(h:Bx (PE X e (tD p f))):Bx (PS X (.Return (some e) pos) (iY p (cI f))):=⟨D7 h.h⟩
theorem kc(hc:Bx (PT X c (gI p ft)))(ha:Bx (jV X A (iY p fs)))(hb:Bx (jV X B (iY p gs))):Bx (PS X (.If c A B pos) (iY p (rP ft fs gs))):=⟨GN hc.h ha.h hb.h⟩
end
theorem cU{P:Program}{w:World}{K:W.Frag}{mg:Str->Option Value}{base:Heap}{p:Pa}{k n:Nat}{x qual:Str}{st:Stmt}{f:Addr}{fd:FuncData}{N ps:List Str}{fb:MS}
  (F:ig K x qual st f fd) (S:aW N ps (ar st)) (hn:ps.length=n) (hm:mg x=some (.ref f)) (hb:i5 K fd ps [])
  (body : ∀ (cdv : Value) (A : Around) (outer : List Env) (s : Shared) (H : Hp) (E : XK), gu k (A.deeper (envOfC qual (ar st) s.heap.objs.size f cdv)) ->
   Bx (jV (qt yo P w K mg base N qual (ar st) f cdv A outer s H E).nox (cz st) (iY p fb))):dW P w K mg base p (k+1) x n (jc n N.length fb):=
 FV F S hn hm hb fun cdv A outer s H E hr=>(body cdv A outer s H E hr).h
end L2
namespace L2
open PySem RS
section
variable{ρ:Ro}{μ:au}{fa fb fc fd f:ME}{fr:MA}{ft gt:MT}{op o1 o2 o3:D->D->au->af D}{fs gs:MS}{g:MG}
@[simp] theorem ag {d:D}{r:Ro}:aj 0 (some d::r) μ=.ok d μ:=Nj (Nk _)
@[simp] theorem ai {i:Nat}{x:Option D}{r:Ro}:aj (i+1) (x::r) μ=aj i r μ:=Nj (Nk _)
@[simp] theorem br {d:D}:cC d ρ μ=.ok d μ:=Nj (Nk _)
@[simp] theorem aI:aM op fa fb ρ μ=(fa ρ μ).bind fun a μ1=>(fb ρ μ1).bind fun b μ2=>op a b μ2:=Nj (Nk _)
@[simp] theorem nC {o:D->au->af D}:rS o fa ρ μ=(fa ρ μ).bind fun a μ1=>o a μ1:=Nj (Nk _)
@[simp] theorem av:aH ρ μ=.ok [] μ:=Nj (Nk _)
@[simp] theorem aq:ah fa fr ρ μ=(fa ρ μ).bind fun a μ1=>(fr ρ μ1).bind fun r μ2=>.ok (a::r) μ2:=Nj (Nk _)
@[simp] theorem az {F:List D->au->af D}:aF F fr ρ μ=(fr ρ μ).bind F:=Nj (Nk _)
@[simp] theorem dX:hV fr ρ μ=(fr ρ μ).bind fun ds μ=>if ds.length<=sizeLine then .ok (.tup ds) μ else .bad:=Nj (Nk _)
@[simp] theorem fB:jf fr ρ μ=(fr ρ μ).bind fun ds μ=>if ds.length<=sizeLine then .ok (.obj μ.length) (μ++[.lst ds]) else .bad:=Nj (Nk _)
@[simp] theorem bt {b:Bool}:AO (.bl b) μ=.ok b μ:=Nj (Nk _)
@[simp] theorem cV:lx f ρ μ=(f ρ μ).bind AO:=Nj (Nk _)
@[simp] theorem m3:pH ft gt ρ μ=(ft ρ μ).bind fun b μ1=>if b=true then gt ρ μ1 else .ok false μ1:=Nj (Nk _)
@[simp] theorem nK:oR ft gt ρ μ=(ft ρ μ).bind fun b μ1=>if b=true then .ok true μ1 else gt ρ μ1:=Nj (Nk _)
@[simp] theorem gR:iq ft ρ μ=(ft ρ μ).bind fun b μ1=>.ok (!b) μ1:=Nj (Nk _)
@[simp] theorem wD:j4 fa fb ρ μ=(fa ρ μ).bind fun a μ1=>(AO a μ1).bind fun b μ2=>if b=true then fb ρ μ2 else .ok (.bl false) μ2:=Nj (Nk _)
@[simp] theorem HJ:sD f ρ μ=(f ρ μ).bind fun a μ1=>(AO a μ1).bind fun b μ2=>.ok (.bl (!b)) μ2:=Nj (Nk _)
@[simp] theorem Hw:nM o1 o2 fa fb fc ρ μ=(fa ρ μ).bind fun a μ1=>(fb ρ μ1).bind fun b μ2=>(o1 a b μ2).bind fun z μ3=>(AO z μ3).bind fun k μ4=>
 if k=true then (fc ρ μ4).bind fun c μ5=>o2 b c μ5 else .ok (.bl false) μ4:=Nj (Nk _)
@[simp] theorem hX:kg f ρ μ=(f ρ μ).bind yu:=Nj (Nk _)
@[simp] theorem d8 {b:Bool}:yu (.bl b) μ=.ok b μ:=Nj (Nk _)
@[simp] theorem yW {fl fh:MO}:AR fa fl fh ρ μ=(fa ρ μ).bind fun a μ1=>(fl ρ μ1).bind fun lo μ2=>(fh ρ μ2).bind fun hi μ3=>yl a lo hi μ3:=Nj (Nk _)
@[simp] theorem zr:CY ρ μ=.ok none μ:=Nj (Nk _)
@[simp] theorem nZ:j3 f ρ μ=(f ρ μ).bind HE:=Nj (Nk _)
@[simp] theorem uT {i:Int}:HE (.int i) μ=.ok (some i) μ:=Nj (Nk _)
@[simp] theorem zu:yB ρ μ=.ok (.obj μ.length) (μ++[.dic]):=Nj (Nk _)
@[simp] theorem pF {F:D->List D->au->af D}{fo:ME}:AN F fo fr ρ μ=(fo ρ μ).bind fun o μ1=>if Dz o μ1=true then (fr ρ μ1).bind fun ds μ2=>F o ds μ2 else .bad:=Nj (Nk _)
@[simp] theorem bo:cI f ρ μ=(f ρ μ).bindS fun d μ'=>.ret d μ':=Nj (Nk _)
@[simp] theorem cy:fx ρ μ=.next ρ μ:=Nj (Nk _)
@[simp] theorem aJ:bG fs gs ρ μ=(fs ρ μ).bind gs:=Nj (Nk _)
@[simp] theorem cQ:rP ft fs gs ρ μ=(ft ρ μ).bindS fun b μ1=>if b=true then fs ρ μ1 else gs ρ μ1:=Nj (Nk _)
@[simp] theorem aY:cH f g ρ μ=(f ρ μ).bindS fun d μ1=>(g d ρ μ1).bindS fun ρ' μ2=>.next ρ' μ2:=Nj (Nk _)
@[simp] theorem jG:kI f ρ μ=(f ρ μ).bindS fun _ μ1=>.next ρ μ1:=Nj (Nk _)
@[simp] theorem aB {g:MS}:(SO.next ρ μ).bind g=g ρ μ:=Nj (Nk _)
@[simp] theorem iK {d:D}{g:MS}:(SO.ret d μ).bind g=.ret d μ:=Nj (Nk _)
@[simp] theorem qR {g:MS}:(SO.next ρ μ).loop g=g ρ μ:=Nj (Nk _)
@[simp] theorem Fq {d:D}{g:MS}:(SO.ret d μ).loop g=.ret d μ:=Nj (Nk _)
@[simp] theorem aV {d:D}:(SO.ret d μ).out=.ok d μ:=Nj (Nk _)
@[simp] theorem bh {i:Nat}{d:D}:ao i d ρ μ=.ok (ρ.set i (some d)) μ:=Nj (Nk _)
@[simp] theorem wC {fo fi:ME}{d:D}:sr fo fi d ρ μ=(fo ρ μ).bind fun o μ1=>(fi ρ μ1).bind fun i μ2=>(wO o i d μ2).bind fun _ μ3=>.ok ρ μ3:=Nj (Nk _)
@[simp] theorem hZ {fi:MI}:lA fi g fs ρ μ=(fi ρ μ).bindS fun src μ1=>cY src g fs src.items ρ μ1:=Nj (Nk _)
@[simp] theorem bF:fA f ρ μ=(f ρ μ).bind uB:=Nj (Nk _)
@[simp] theorem gh {F:List D->au->af mP}:kF F fr ρ μ=(fr ρ μ).bind F:=Nj (Nk _)
@[simp] theorem kP {xs:List D}:uB (.tup xs) μ=.ok (.fix xs) μ:=Nj (Nk _)
@[simp] theorem bR {fi:MI}{cap:List (Option Nat)}:cX fi cap g ft f ρ μ=(fi ρ μ).bind fun src μ1=>compLoop src μ1.length g ft f src.items (eH cap ρ) (μ1++[.lst []]):=Nj (Nk _)
@[simp] theorem bj {xs:List D}:(mP.fix xs).items=xs:=Nj (Nk _)
@[simp] theorem cu {n:Nat}{xs:List D}:(mP.own n xs).items=xs:=Nj (Nk _)
@[simp] theorem CS:eH [] ρ=[]:=Nj (Nk _)
@[simp] theorem AE {r:List (Option Nat)}:eH (none::r) ρ=none::eH r ρ:=Nj (Nk _)
@[simp] theorem Hx {r:List (Option Nat)}{j:Nat}:eH (some j::r) ρ=(ρ[j]?).join::eH r ρ:=Nj (Nk _)
theorem h7{N:Nat}{a:D}:jc 1 N fs [a] μ=oK μ (fs (some a::List.replicate (N-1) none) μ).out:=Jo rfl
theorem eK{N:Nat}{a b:D}:jc 2 N fs [a,b] μ=oK μ (fs (some a::some b::List.replicate (N-2) none) μ).out:=Jo rfl
theorem uS{N:Nat}{a b c:D}:jc 3 N fs [a,b,c] μ=oK μ (fs (some a::some b::some c::List.replicate (N-3) none) μ).out:=Jo rfl
@[simp] theorem eX {op:CmpOp}{i j:Int}:kf op (.int i) (.int j) μ=.ok (.bl (gL op i j)) μ:=Nj (Nk _)
@[simp] theorem gS {i j:Int}:cw (.int i) (.int j) μ=.ok (.int (i+j)) μ:=Nj (Nk _)
@[simp] theorem Dt {gg:Int->Int->D}{i j:Int}:dI gg (.int i) (.int j) μ=.ok (gg i j) μ:=Nj (Nk _)
@[simp] theorem lI {C:Int->Int->Prop}{gg:Int->Int->D}{i j:Int} (h:C i j):CZ C gg (.int i) (.int j) μ=.ok (gg i j) μ:=by unfold CZ;simp[h]
@[simp] theorem HK {i j:Int} (h:se i j):uE (.int i) (.int j) μ=.ok (.int (i*j)) μ:=by unfold uE;simp[h]
@[simp] theorem zt {i:Int}:wY (.int i) μ=.ok (.int (-i)) μ:=Nj (Nk _)
@[simp] theorem h8 {neg:Bool}{i j:Int}:jU neg (.int i) (.int j) μ=.ok (.bl (if neg then !(i == j) else i == j)) μ:=Nj (Nk _)
@[simp] theorem mZ {xs:List D}:ke [.tup xs] μ=.ok (.int xs.length) μ:=Nj (Nk _)
@[simp] theorem wB {xs:List D}:ke [.frz xs] μ=.ok (.int xs.length) μ:=Nj (Nk _)
theorem wA{n:Nat}{xs:List D}(h:μ[n]?=some (.lst xs)):ke [.obj n] μ=.ok (.int xs.length) μ:=by unfold ke sy;simp[h]
theorem mY{n:Nat}{xs:List D}(h:μ[n]?=some (.lst xs)):iN [.obj n] μ=.ok (.tup xs) μ:=by unfold iN;simp[h]
theorem iQ{n:Nat}{bs:List Bool}(h:μ[n]?=some (.lst (bs.map D.bl))):mC [.obj n] μ=.ok (.bl (bs.all id)) μ:=by unfold mC;simp[h,qg]
theorem CH{n:Nat}{bs:List Bool}(h:μ[n]?=some (.lst (bs.map D.bl))):uG [.obj n] μ=.ok (.bl (bs.any id)) μ:=by unfold uG;simp[h,qg]
theorem qB{xs:List D}{i:Int}{d:D}(h:atI xs i=some d):gJ (.tup xs) (.int i) μ=.ok d μ:=by unfold gJ;simp[h]
theorem FP{xs:List D}{i:Int}{d:D}(h:atI xs i=some d):gJ (.frz xs) (.int i) μ=.ok d μ:=by unfold gJ;simp[h]
theorem iM{n:Nat}{xs:List D}{i:Int}{d:D}(hm:μ[n]?=some (.lst xs))(h:atI xs i=some d):gJ (.obj n) (.int i) μ=.ok d μ:=by unfold gJ;simp[hm,h]
theorem wz{n j:Nat}{xs:List D}{i:Int}{d:D}(hm:μ[n]?=some (.lst xs))(h:wL xs.length i=some j):wO (.obj n) (.int i) d μ=.ok () (μ.set n (.lst (xs.set j d))):=by unfold wO;simp[hm,h]
theorem d9{n:Nat}{xs:List D}(hm:μ[n]?=some (.lst xs)):uB (.obj n) μ=.ok (.own n xs) μ:=by unfold uB;simp[hm]
theorem gQ{j:Int}(h0:0<=j)(h:j<1000):kd [.int j] μ=.ok (.fix (cJ 0 j.toNat)) μ:=by
 unfold kd;dsimp only;rw[Jo];omega
theorem CG{i j:Int}(h0:0<=i)(h1:i<1000)(h2:-1000<=j)(h:j<1000):wQ [.int i,.int j] μ=.ok (.fix (cJ i (j-i).toNat)) μ:=by
 unfold wQ;dsimp only;rw[Jo];omega
theorem vR{α:Type}{x:α}{r:List α}:atI (x::r) 0=some x:=by unfold atI wL;simp
theorem y4{α:Type}{x y:α}{r:List α}:atI (x::y::r) 1=some y:=kR (j:=1) rfl
theorem Dx{α:Type}{x y z:α}{r:List α}:atI (x::y::z::r) 2=some z:=kR (j:=2) rfl
@[simp] theorem cK {x:D}{r:List D}:gJ (.tup (x::r)) (.int 0) μ=.ok x μ:=qB vR
@[simp] theorem jF {x y:D}{r:List D}:gJ (.tup (x::y::r)) (.int 1) μ=.ok y μ:=qB y4
theorem F0{α:Type}{xs:List α}{i:Int}{x:α}(h0:0<=i)(h:xs[i.toNat]?=some x):atI xs i=some x:=by
 have:=kR h
 rwa [show ((i.toNat:Nat):Int)=i by omega]at this
theorem zk{n:Nat}{i:Int}(h0:0<=i)(h:i<n):wL n i=some i.toNat:=by unfold wL;simp[h0,h]
end
section
variable{μ g:au}{d:D}
@[simp] theorem Co {n:Nat}{i:Int}:(D.int i).low n=True:=by simp[D.low]
@[simp] theorem IF {n:Nat}{i:Bool}:(D.bl i).low n=True:=by simp[D.low]
@[simp] theorem HI {n:Nat}{xs:List D}:(D.tup xs).low n=D.lows n xs:=by simp[D.low]
@[simp] theorem mT {n m:Nat}:(D.obj m).low n=(m<n):=by simp[D.low]
@[simp] theorem Hv {n:Nat}:D.lows n []=True:=by simp[D.lows]
@[simp] theorem F5 {n:Nat}{x:D}{xs:List D}:D.lows n (x::xs)=(x.low n/\D.lows n xs):=by simp[D.lows]
theorem nU{n:Nat}:∀{xs:List D},D.lows n xs↔∀x∈xs,x.low n
 |[]=>by simp
 |x::xs=>by simp[nU (xs:=xs)]
theorem eW(hd:d.low μ.length):oK μ (.ok d (μ++g))=.ok d μ:=by
 unfold oK;dsimp only;rw[Jo]
 ·simp
 ·refine⟨hd,by simp,fun i o hi h=>.inl ?_⟩;rw[Kg hi]at h;exact h
theorem dr(hd:d.low μ.length):oK μ (.ok d μ)=.ok d μ:=by
 have:=eW (μ:=μ) (g:=[]) hd;simpa using this
theorem zl{i:Nat}{o:O}(hd:d.low μ.length)(ho:o.low μ.length):oK μ (.ok d (μ.set i o++g))=.ok d (μ.set i o):=by
 unfold oK;dsimp only;rw[Jo]
 ·congr 1;rw[Nz (by simp)];exact Lx (by simp)
 ·refine ⟨hd, by simp, fun j o' hj h => ?_⟩;rw[Kg (by simpa using hj)]at h;by_cases hij:i=j
  ·subst hij;rw[JI hj]at h;cases h;exact .inr ho
  ·rw[JJ hij]at h;exact .inl h
theorem wy{i:Nat}{o:O}(hd:d.low μ.length)(ho:o.low μ.length):oK μ (.ok d (μ.set i o))=.ok d (μ.set i o):=by
 have:=zl (μ:=μ) (g:=[]) (i:=i) hd ho;simpa using this
theorem vP{μ':au}(h:¬ d.low μ.length):oK μ (.ok d μ')=.ok d μ':=by
 unfold oK;dsimp only;rw[Jp fun z=>h z.1]
theorem zm{μ':au}:oK μ (.ok d μ')=.ok d μ'\/(oK μ (.ok d μ')=.ok d (μ'.take μ.length)/\d.low μ.length):=by
 unfold oK;dsimp only;by_cases h:DD μ μ' d
 ·rw[Jo h];exact .inr ⟨rfl,h.1⟩
 ·rw[Jp h];exact .inl rfl
end
theorem nQ{μ1 g:au}{a b:O}:(μ1++a::g).set μ1.length b=μ1++b::g:=by
 rw[List.set_append_right _ _ (JY _),LS];rfl
theorem aA{μ1 g:au}{a:O}:(μ1++a::g)[μ1.length]?=some a:=by
 rw[Kf (JY _),LS];rfl
theorem iA{μ1 g:au}{ys:List D}{y:D}(h:ys.length<sizeLine):pA μ1.length y (μ1++.lst ys::g)=.ok () (μ1++.lst (ys++[y])::g):=by
 unfold pA;rw[aA];dsimp only;rw[Jo h,nQ]
theorem jN{src:mP}{g:MG}{t:MT}{e:ME}{μ1:au}{q:D->Bool}{h:D->D}(R:Ro->Prop)(ho:∀a,bB src (μ1++[.lst a])) :
  ∀{xs acc:List D}{ρ:Ro},R ρ->acc.length+xs.length<=sizeLine->(∀x∈xs,∀a ρ,R ρ->∃ρ1,R ρ1/\g x ρ (μ1++[.lst a])=.ok ρ1 (μ1++[.lst a])/\t ρ1 (μ1++[.lst a])=.ok (q x) (μ1++[.lst a])/\(q x=true->e ρ1 (μ1++[.lst a])=.ok (h x) (μ1++[.lst a]))) ->
   compLoop src μ1.length g t e xs ρ (μ1++[.lst acc])=.ok (.obj μ1.length) (μ1++[.lst (acc++(xs.filter q).map h)])
 |[],acc,ρ,hr,hl,he=>by
  unfold compLoop;rw[Jo (ho acc)];simp
 |x::xs,acc,ρ,hr,hl,he=>by
  obtain⟨ρ1,r1,e1,e2,e3⟩:=he x JA acc ρ hr;unfold compLoop;rw[Jo (ho acc),e1];simp only[ab,aa];rw[e2];simp only[ab,aa];have he':=fun y hy=>he y (JB _ hy);simp only[La]at hl;cases hq:q x with
  |false=>
   rw[Jp J4,jN R ho r1 (by omega) he',NA,hq];rfl
  |true=>
   rw[Jo rfl,e3 hq];simp only[ab,aa];rw[iA (by omega)];simp only[aa];rw[jN R ho r1 (by simp;omega) he',NA,hq];simp
theorem iy{src:mP}{g:MG}{t:MT}{e:ME}{n:Nat}(J:List D->List D->Ro->au->au->Prop)
  (fin:∀ys ρ μ1 s,J [] ys ρ μ1 s->μ1.length=n/\bB src (μ1++.lst ys::s))
  (step : ∀ x r ys ρ μ1 s, J (x :: r) ys ρ μ1 s -> μ1.length = n /\ bB src (μ1 ++ .lst ys :: s) /\ ∃ ρ1 μa sa b μb sb, g x ρ (μ1 ++ .lst ys :: s) = .ok ρ1 (μa ++ .lst ys :: sa) /\ t ρ1 (μa ++ .lst ys :: sa) = .ok b (μb ++ .lst ys :: sb) /\
   (b=true->∃y μc sc,e ρ1 (μb++.lst ys::sb)=.ok y (μc++.lst ys::sc)/\ys.length<sizeLine/\μc.length=n/\J r (ys++[y]) ρ1 μc sc)/\(b=false->J r ys ρ1 μb sb)) :
  ∀{xs ys:List D}{ρ:Ro}{μ1 s:au},J xs ys ρ μ1 s->∃ys' ρ' μ1' s',J [] ys' ρ' μ1' s'/\compLoop src n g t e xs ρ (μ1++.lst ys::s)=.ok (.obj n) (μ1'++.lst ys'::s')
 |[],ys,ρ,μ1,s,hJ=>by
  refine⟨ys,ρ,μ1,s,hJ,?_⟩;unfold compLoop;rw[Jo (fin ys ρ μ1 s hJ).2]
 |x::xs,ys,ρ,μ1,s,hJ=>by
  obtain⟨hn,ho,ρ1,μa,sa,b,μb,sb,e1,e2,e3,e4⟩:=step x xs ys ρ μ1 s hJ;unfold compLoop;rw[Jo ho,e1];simp only[ab,aa];rw[e2];simp only[ab,aa];cases b with
  |false=>
   rw[Jp J4];exact iy J fin step (e4 rfl)
  |true=>
   obtain⟨y,μc,sc,f1,f2,f3,f4⟩:=e3 rfl;rw[Jo rfl,f1];simp only[ab,aa];subst f3;rw[iA f2];simp only[aa];exact iy J fin step f4
theorem qU{src:mP}{g:MG}{fb:MS}(J:List D->Ro->au->Prop)(fin:∀ρ μ,J [] ρ μ->bB src μ)
  (step:∀x r ρ μ,J (x::r) ρ μ->bB src μ/\∃ρ1 μ1 ρ2 μ2,g x ρ μ=.ok ρ1 μ1/\fb ρ1 μ1=.next ρ2 μ2/\J r ρ2 μ2) :
  ∀{xs:List D}{ρ:Ro}{μ:au},J xs ρ μ->∃ρ' μ',J [] ρ' μ'/\cY src g fb xs ρ μ=.next ρ' μ'
 |[],ρ,μ,h=>⟨ρ,μ,h,by unfold cY;rw[Jo (fin ρ μ h)]⟩
 |x::xs,ρ,μ,h=>by
  obtain⟨ho,ρ1,μ1,ρ2,μ2,e1,e2,h2⟩:=step x xs ρ μ h;obtain⟨ρ',μ',h3,e3⟩:=qU J fin step h2;refine⟨ρ',μ',h3,?_⟩;unfold cY;rw[Jo ho,e1];simp only[ae];rw[e2];exact e3
end L2
namespace L2
open PySem PySem.Spec PyProof.Rows RS
theorem Hn{P:Program}{w:World}{K:W.Frag}{mg:Str->Option Value}{base:Heap}{p:Pa}{k n:Nat}{x qual:Str}{st:Stmt}{f:Addr}{fd:FuncData}{N ps:List Str}{fb:MS}
  (F:ig K x qual st f fd) (S:aW N ps (ar st)) (hn:ps.length=n)
  (body : ∀ (cdv : Value) (A : Around) (outer : List Env) (s : Shared) (H : Hp) (E : XK), gu k (A.deeper (envOfC qual (ar st) s.heap.objs.size f cdv)) ->
   Bx (jV (qt yo P w K mg base N qual (ar st) f cdv A outer s H E).nox (cz st) (iY p fb))):oS P w K mg base yo (k+1) f fd ps (CW p n (jc n N.length fb)):=by
 refine F.ok S (fun vs H Q E h=>h.1.trans hn.symm) fun cdv A outer s H vs Q E hr h=>?_;refine⟨_,(body cdv A outer s H E hr).h,?_⟩;obtain⟨hl,α,ds,μ,S1,R1,P1⟩:=h;unfold jc at P1;have hd:ds.length=n:=by rw[<- R1.length];exact hl
 rw[Jo hd]at P1;have P2:=wx S1 P1;unfold start;rw[hl];refine⟨α,_,μ,S1,ox R1 _,?_⟩;cases e:fb (ds.map some++List.replicate (N.length-n) none) μ with
 |ret d μ'=>rw[e]at P2;exact fun H' α' v x s r=>P2 H' α' x s v r
 |next ρ μ'=>rw[e]at P2;exact fun H' α' σ' x s r=>P2 H' α' x s .non (bV.mpr rfl)
 |exc x μ'=>rw[e]at P2;exact P2
 |brk ρ μ'=>rw[e]at P2;exact P2.elim
 |cnt ρ μ'=>rw[e]at P2;exact P2.elim
 |bad=>rw[e]at P2;exact P2.elim
theorem pQ{K:W.Frag}{H:Hp}{α:List Addr}:∀ns:List Int,Reps K H α (ns.map D.int) (ns.map V.int)
 |[]=>by simp only[KM,Reps]
 |n::ns=>by
  simp only[KN,Reps];exact⟨_,_,rfl,ak.mpr rfl,pQ ns⟩
theorem Am{K:W.Frag}{w:World}{F:List D->au->af D}{H:Hp}{a:Addr}{ns:List Int}{E:XK}(hF:∃μ',F [.frz (ns.map D.int)] []=.ok (.bl true) μ')(hO:A3 H)(hS:eT K H a (ns.map V.int)) :
  CW (dU K w) 1 F [.ref a] H (fun v _=>v=.bl true) E:=by
 obtain⟨μ',e⟩:=hF
 have fz:C1 K H a (ns.map V.int):=by
  rcases hS with (h|h)|h
  ·rcases hO a with z | ⟨o, xs, z⟩
   ·rw[h]at z;cases z
   ·rw[h]at z;cases z
  ·exact .inl h
  ·exact .inr h
 refine⟨rfl,[],[.frz (ns.map D.int)],[],⟨rfl,LR,fun n o a h=>by simp at h⟩,?_,?_⟩
 ·simp only[Reps];exact⟨_,_,rfl,bf.mpr ⟨a,_,rfl,fz,pQ ns⟩,rfl⟩
 ·rw[e];exact fun H' α' x s v r=>aU.mp r
end L2
namespace L2
open PySem PySem.Spec PyProof.Rows RS
section
variable{X:Cx}{p:Pa}
def qy:D->Bool
 |.tup _=>true
 |.frz _=>true
 |.obj _=>true
 |_=>false
theorem vp{K:W.Frag}{H:Hp}{α:List Addr}{d:D}{v:V}(h:qy d=true)(r:aL K H α d v):∃a,v=.ref a:=by
 cases d with
 |tup xs=>obtain⟨a,us,rfl,_⟩:=aD.mp r;exact⟨a,rfl⟩
 |frz xs=>obtain⟨a,us,rfl,_⟩:=bf.mp r;exact⟨a,rfl⟩
 |obj n=>obtain⟨a,rfl,_⟩:=aN.mp r;exact⟨a,rfl⟩
 |_=>cases h
def eA(d:D)(ds:List D)(μ:au):af D:=match d,ds with
 |.obj m,[.obj n]=>match μ[m]?,μ[n]? with
  |some (.lst xs),some (.lst ys)=>if xs.length+ys.length<=sizeLine then .ok .non (μ.set m (.lst (xs++ys))) else .bad
  |_,_=>.bad
 |_,_=>.bad
theorem Ci:HR p eA wd:=by
 intro d ds v vs H α μ Q S rd rs P;unfold eA at P;split at P
 ·rename_i m n;split at P
  ·rename_i xs ys hx hy;split at P
   ·rename_i hb;obtain⟨a,us,rfl,a1,h1,rr⟩:=cP S rd hx;obtain⟨w,rfl,rw'⟩:=rs.one;obtain⟨a',us',rfl,a1',h1',rr'⟩:=cP S rw' hy;have q:=rr.append rr';exact⟨a,a',us,us',rfl,rfl,h1,h1',by rw[rr.length,rr'.length];exact hb,P _ _ (iP h1) (S.put hx a1 h1 q) _ (bV.mpr rfl)⟩
   ·exact P.elim
  ·exact P.elim
 ·exact P.elim
def wZ(neg:Bool)(a b:D)(μ:au):af D:=match a,b with
 |.str x,.str y=>.ok (.bl (if neg then !decide (x=y) else decide (x=y))) μ
 |_,_=>.bad
theorem Bj{x y:Str}:decide (V.str x=V.str y)=decide (x=y):=by
 by_cases e:x=y
 ·subst e;simp
 ·rw[Jl e,Jl];intro z;cases z;exact e rfl
theorem Fg:qp p (wZ true) HP:=by
 intro a b v y H α μ Q S ra rb P;unfold wZ at P;split at P
 ·rename_i x z;obtain rfl:=aZ.mp ra;obtain rfl:=aZ.mp rb;exact⟨rfl,by rw[Bj];exact P.now S _ (aU.mpr rfl)⟩
 ·exact P.elim
theorem Hf:mF X p .NotEq (wZ true):=⟨HP,Hb,Fg⟩
end
end L2
namespace L2
open PySem PySem.W PyProof.Rows RS
section
variable{prog:Program}{w:World}{A:Around}{E:Value->Shared->Prop}
end
section
variable{X:Cx}
end
theorem IU{α:Type}{P:List α->Prop}(h:∀a,P [a]):∀us:List α,us.length=1->P us
 |[a],_=>h a
theorem IT{α:Type}{P:List α->Prop}(h:∀a b,P [a,b]):∀us:List α,us.length=2->P us
 |[a,b],_=>h a b
theorem IS{α:Type}{P:List α->Prop}(h:∀a b c,P [a,b,c]):∀us:List α,us.length=3->P us
 |[a,b,c],_=>h a b c
theorem ig.b1{K:W.Frag}{x qual:Str}{st:Stmt}{f:Addr}{fd:FuncData}{ps:List Str}(F:ig K x qual st f fd)(hl:ps.length=1)(h:∀(kV doc pm:Value)(an:Option Addr)(cdv ct a:Value),bindArgs (W.fnOf x qual (dJ st) (cz st) (ar st) .none kV doc pm an cdv ct) ⟨[a],[]⟩=pure (ps.zip [a])):i5 K fd ps []:=
 F.binds fun kV doc pm an cdv ct us e=>IU (P:=fun us=>bindArgs (W.fnOf x qual (dJ st) (cz st) (ar st) .none kV doc pm an cdv ct) ⟨us,[]⟩=pure (ps.zip us)) (fun a=>h kV doc pm an cdv ct a) us (e.trans hl)
theorem ig.b2{K:W.Frag}{x qual:Str}{st:Stmt}{f:Addr}{fd:FuncData}{ps:List Str}(F:ig K x qual st f fd)(hl:ps.length=2)(h:∀(kV doc pm:Value)(an:Option Addr)(cdv ct a b:Value),bindArgs (W.fnOf x qual (dJ st) (cz st) (ar st) .none kV doc pm an cdv ct) ⟨[a,b],[]⟩=pure (ps.zip [a,b])):i5 K fd ps []:=
 F.binds fun kV doc pm an cdv ct us e=>IT (P:=fun us=>bindArgs (W.fnOf x qual (dJ st) (cz st) (ar st) .none kV doc pm an cdv ct) ⟨us,[]⟩=pure (ps.zip us)) (fun a b=>h kV doc pm an cdv ct a b) us (e.trans hl)
theorem ig.b3{K:W.Frag}{x qual:Str}{st:Stmt}{f:Addr}{fd:FuncData}{ps:List Str}(F:ig K x qual st f fd)(hl:ps.length=3)(h:∀(kV doc pm:Value)(an:Option Addr)(cdv ct a b c:Value),bindArgs (W.fnOf x qual (dJ st) (cz st) (ar st) .none kV doc pm an cdv ct) ⟨[a,b,c],[]⟩=pure (ps.zip [a,b,c])):i5 K fd ps []:=
 F.binds fun kV doc pm an cdv ct us e=>IS (P:=fun us=>bindArgs (W.fnOf x qual (dJ st) (cz st) (ar st) .none kV doc pm an cdv ct) ⟨us,[]⟩=pure (ps.zip us)) (fun a b c=>h kV doc pm an cdv ct a b c) us (e.trans hl)
end L2
namespace L2
open PySem PySem.Spec PyProof.Rows RS
section
variable{X:Cx}{d:Nat}{acc:Addr}
variable{e:Expr}{cl0:Comprehension}{rest:List Comprehension}{scope:Scope}{Nc:List Str}{cap:List (Option Nat)}{wi:TI}{g:TG}{tt:TT}{tb:Addr->AQ}{elt:Expr}{pos:Pos}
end
section
variable{K:W.Frag}{w:World}{H:Hp}{α:List Addr}{μ:au}
end
section
variable{p:Pa}
variable{X:Cx}{elt tg iter:Expr}{ifs:List Expr}{rest:List Comprehension}{scope:Scope}{Nc:List Str}{cap:List (Option Nat)}{fi:MI}{g:MG}{tt:MT}{te:ME}{mb:MB}{pos:Pos}{d:Nat}{acc:Addr}
end
theorem xr(its:List Value):slicePick its.toArray none none (some (-1))=its.reverse.toArray:=by
 unfold slicePick
 have hb:sliceBounds none none (some (-1)) its.toArray.size=((its.toArray.size:Int)-1,-1,-1):=by
  simp[sliceBounds]
 rw[hb];dsimp only
 have hr:sliceRange ((its.toArray.size:Int)-1) (-1) (-1)=(List.range its.toArray.size).map fun m:Nat=>(((its.toArray.size:Int)-1)+(m:Int)*(-1)).toNat:=by
  unfold sliceRange
  have hc:(if (-1:Int)>0 then if (its.toArray.size:Int)-1 < -1 then (-1-((its.toArray.size:Int)-1)+-1-1) / -1 else 0 else if (its.toArray.size:Int)-1 > -1 then ((its.toArray.size:Int)-1 - -1 - -1-1) / - -1 else 0)=(its.toArray.size:Int):=by
   rw[Jp (by decide)];split
   ·rw[show-(-1:Int)=1 from rfl,Int.ediv_one];omega
   ·omega
  simp only[hc,Kr];apply Ln;intro m _;congr 1;omega
 rw[hr,Ky];exact sX its.toArray
def GD(K:W.Frag)(te ts:TE):TE:=fun σ H Q=>te σ H fun x H1=>ts σ H1 fun y H2=>y=.int (-1)/\∃a xs,x=.ref a /\
 ((fu K H2 a xs/\∀p,H2 p=none->Q (.ref p) (cG H2 p (.tup xs.reverse)))\/(eT K H2 a xs/\∀p,H2 p=none->Q (.ref p) (cG H2 p (.lst xs.reverse))))
theorem BU{X:Cx}{e st:Expr}{te ts:TE}{pos p2:Pos}(he:PE X e te)(hs:PE X st ts):PE X (.Subscript e (.Slice none none (some st) p2) pos) (GD X.K te ts):=by
 intro pins s σ H Q I h;refine Subscript_ (d3 (he pins s σ H _ I h) fun v s1 ⟨x,H1,I1,r1,q1⟩=>?_);refine wpAny_Slice ?_;rw[evalPart_none];refine JT (JT ?_);rw[evalPart_some];refine d3 (hs pins s1 σ H1 _ I1 q1) fun vs s3 ⟨y,H3,I3,r3,q3⟩=>?_;obtain⟨rfl,a,xs,rfl,hq⟩:=q3;obtain⟨tk,rfl⟩:=r3;cases r1;have I4:aS X pins σ H3 {s3 with heap:=s3.heap.push {cls:=.type "slice",data:=.fields #[.none,.none,.int (-1) tk]}}:=I3.kept (t':=s3.toks) fun b ob q=>JW _ q;show wpAny (model X.prog X.w) X.A (subscriptTail e (.Slice none none (some st) p2) (.ref a) (.ref s3.heap.objs.size)) (EP X pins σ Q) X.xe {s3 with heap:=s3.heap.push {cls:=.type "slice",data:=.fields #[.none,.none,.int (-1) tk]}};have hsl:=KO s3.heap .none .none (.int (-1) tk);rcases hq with⟨hx,q⟩|⟨hx,q⟩
 ·obtain⟨its,r,ht,hz⟩:=I4.tuple hx;refine tail_any (ops:=[.ref a,.ref s3.heap.objs.size]) ht.typeIs KD.lookup ?_ (by with_unfolding_all rfl);refine lu ht (KO ..) ?_ (by rw[J6,<- r.length];exact hz);generalize {s3 with heap:=s3.heap.push {cls:=.type "slice",data:=.fields #[.none,.none,.int (-1) tk]}}=s5 at I4 ht;refine⟨.ref s5.heap.objs.size,_,I4.laid (t':=s5.toks) (o:=.tup xs.reverse) (fun b ob q=>JW _ q) (JY _) ?_,rfl,q _ (I4.hok.fresh (JY _))⟩;exact⟨by rw[NB];exact hz,its.reverse,r.reverse,KQ _ _⟩
 ·obtain⟨its,r,ht,hz⟩:=I4.list hx;refine tail_any (ops:=[.ref a,.ref s3.heap.objs.size]) ht.isList.typeIs KR.lookup ?_ (by with_unfolding_all rfl);refine wpAny_getItem_list_slice ht.isList (KO ..) .none .none (.int (-1) tk) (by simp) ?_ (by rw[J6,<- r.length];exact hz);rw[xr];generalize {s3 with heap:=s3.heap.push {cls:=.type "slice",data:=.fields #[.none,.none,.int (-1) tk]}}=s5 at I4 ht;refine⟨.ref s5.heap.objs.size,_,I4.laid (t':=s5.toks) (o:=.lst xs.reverse) (fun b ob q=>JW _ q) (JY _) ?_,rfl,q _ (I4.hok.fresh (JY _))⟩;exact⟨by rw[NB];exact hz,its.reverse,0,r.reverse,JX _ rfl⟩
def sx(a b:D)(μ:au):af D:=match a,b with
 |.tup xs,.int i=>if i=-1 then .ok (.tup xs.reverse) μ else .bad
 |.obj n,.int i=>match μ[n]? with
  |some (.lst xs)=>if i=-1 then .ok (.obj μ.length) (μ++[.lst xs.reverse]) else .bad
  |_=>.bad
 |_,_=>.bad
theorem DR{p:Pa}{X:Cx}{e st:Expr}{fa fs:ME}{pos p2:Pos}(he:Bx (PE X e (tD p fa)))(hs:Bx (PE X st (tD p fs)))(hK:X.K=p.K:=by rfl):Bx (PE X (.Subscript e (.Slice none none (some st) p2) pos) (tD p (aM sx fa fs))):=
 ⟨(BU he.h hs.h).weak fun σ H Q ⟨α, ρ, μ, S, R, P⟩ => ⟨α, ρ, μ, S, R, (aC.bind P).imp fun x μ1 H1 α1 X1 S1 P1 v rv => ⟨α1, ρ, μ1, S1, R.mono X1, (aC.bind P1).imp fun y μ2 H2 α2 X2 S2 P2 u ru => by
   rw[hK];unfold sx at P2;split at P2
   ·rename_i xs i;split at P2
    ·rename_i hi;subst hi;obtain⟨a,us,rfl,h1,r1⟩:=aD.mp (rv.mono X2);exact⟨ak.mp ru,a,us,rfl,.inl ⟨h1,fun q hq=>P2 _ _ (bx hq) (S2.tuple hq) _ (aD.mpr ⟨q,_,rfl,fu.of bO,r1.reverse.mono (bx hq)⟩)⟩⟩
    ·exact P2.elim
   ·rename_i n i;split at P2
    ·rename_i xs hx;split at P2
     ·rename_i hi;subst hi;obtain⟨a,rfl,h1⟩:=aN.mp (rv.mono X2);obtain⟨a',ea,vs,hH,rr⟩:=S2.at hx;have eaa:a=a':=Jq (h1.symm.trans ea);subst eaa;refine⟨ak.mp ru,a,vs,rfl,.inr ⟨.inl (.inl hH),fun q hq=>?_⟩⟩;obtain⟨x1,s1,r1⟩:=bZ S2 hq rr.reverse;exact P2 _ _ x1 s1 _ r1
     ·exact P2.elim
    ·exact P2.elim
   ·exact P2.elim⟩⟩⟩
section
variable{p:Pa}{X:Cx}{e:Expr}{fr:MA}{pos:Pos}
theorem yH {fo:ME}{ob:Expr}{apos:Pos} (ho:Bx (PE X ob (tD p fo))) (ha:Bx (PA X [e] (l8 p fr))) (hbase:attributeBase ob "extend" X.env (eval ob X.env)=eval ob X.env:=by rfl) (hfew:((backTo pos (starEach [e] X.env)).all (fun x=>!x.1)&&(backToKw pos (keywordEach [] X.env)).all (fun x=>x.1.isSome)
   && decide ([e].length+([]:List Keyword).length+(if ([]:List Keyword).isEmpty then 0 else 1)<30))=true:=by rfl) (hline:(apos.endLine == pos.line)=true:=by rfl) (hs:starEach [e] X.env=(false,eval e X.env)::starEach [] X.env:=by rfl) (hpl:(backTo pos (starEach [] X.env)).any (·.1)=false:=by rfl) (hK:X.K=p.K:=by rfl):Bx (PE X (.Call (.Attribute ob "extend" apos) [e] [] pos) (tD p (AN eA fo fr))):=⟨C7 hK PySem.F.slot_list_extend PySem.F.type_list_extend xE Ci ho.h ha.h hbase hfew hline hs hpl⟩
end
end L2
namespace L2
open PySem PySem.Spec PyProof.Rows RS
section
variable{X:Cx}{E:XK}{k n:Nat}{x:Str}{F:List D->au->af D}{a:Expr}{es:List Expr}{fr:MA}{pos px:Pos}
end
section
variable{P:Program}{w:World}{K:W.Frag}{mg:Str->Option Value}{base:Heap}{N:List Str}{qual:Str}{scope:Scope}{f:Addr}{cdv:Value}{A:Around}{outer:List Env}{s0:Shared}{H0:Hp}{E:XK}
end
end L2
namespace L2
open PySem PySem.Spec PyProof.Rows RS
section
variable{X:Cx}
end
section
variable{p:Pa}
end
section
variable{X:Cx}{p:Pa}{a e ob:Expr}{fa fo:ME}{fr:MA}{pos px pt apos:Pos}{xT:Str}{subs known:List Str}
end
structure Jh(P:Program)(w:World)(K:W.Frag)(mg:Str->Option Value)(base:Heap)(p:Pa)(k:Nat)(x:Str)(n:Nat)(F:List D->au->af D):Prop where
 len:∀ds μ,ds.length≠n->F ds μ=.bad
 fn:∃f fd ps,mg x=some (.ref f)/\W.keepIn K (.ref f)=true/\i5 K fd ps []/\Hu P w K mg base yo k f fd ps (CW p n F)
end L2
namespace L2
open PySem PySem.Spec PyProof.Rows RS
section
variable{X:Cx}{k n:Nat}{x:Str}{F:List D->au->af D}{a b c d:Expr}{es:List Expr}{fr:MA}{pos px:Pos}
variable{p:Pa}{ta tb tc td:TE}{fa fb fc fd:ME}{op op' op'':CmpOp}{r r' r'':R2}{o1 o2 o3:D->D->au->af D}
end
section
variable{X:Cx}
end
section
variable{p:Pa}
end
section
variable{X:Cx}{p:Pa}{e ob:Expr}{fo:ME}{fr:MA}{pos apos:Pos}
end
end L2
namespace L2
open PySem PySem.Spec PyProof.Rows RS
section
variable{X:Cx}{p:Pa}{a b:Expr}{fa fb:ME}{pos:Pos}
end
section
variable(K:W.Frag)(H:Hp)
mutual
def oM:PyData->V->Prop
 |.none,v=>v=.non
 |.bool b,v=>v=.bl b
 |.int i,v=>v=.int i
 |.str x,v=>v=.str x
 |.tuple xs,v=>∃a vs,v=.ref a/\fu K H a vs/\RdGs xs vs
 |.list xs,v=>∃a vs,v=.ref a/\eT K H a vs/\RdGs xs vs
 |.dict kvs,v=>kvs=[]/\∃a,v=.ref a/\H a=some (.dK [])
def RdGs:List PyData->List V->Prop
 |[],vs=>vs=[]
 |x::xs,vs=>∃v r,vs=v::r/\oM x v/\RdGs xs r
end
end
mutual
def AM:PyData->Bool
 |.list _=>false
 |.tuple xs=>noLs xs
 |_=>true
def noLs:List PyData->Bool
 |[]=>true
 |x::xs=>AM x&&noLs xs
end
section
variable{X:Cx}{pins:List (Addr×Obj)}{σ:St}{H:Hp}{s:Shared}
theorem Fo{a:Addr}(h:(a == sysModules)=false):a≠sysModules:=by simpa using h
mutual
theorem pR(I:aS X pins σ H s):∀(d:PyData)(x:V)(v:Value),oM X.K H d x->cq x v->∃as,Reads s.heap v d as/\(AM d=true->sysModules∉as)
 |.none,_,_,h,r=>by simp only[oM]at h;subst h;cases r;exact⟨_,.none,fun _ z=>by cases z⟩
 |.bool b,_,_,h,r=>by simp only[oM]at h;subst h;cases r;exact⟨_,.bool b,fun _ z=>by cases z⟩
 |.int b,_,_,h,r=>by simp only[oM]at h;subst h;obtain⟨t,rfl⟩:=r;exact⟨_,.int b t,fun _ z=>by cases z⟩
 |.str b,_,_,h,r=>by simp only[oM]at h;subst h;obtain⟨t,rfl⟩:=r;exact⟨_,.str b t,fun _ z=>by cases z⟩
 |.tuple xs,_,_,h,r=>by
  simp only[oM]at h;obtain⟨a,vs,rfl,h1,h2⟩:=h;cases r;obtain⟨its,rv,⟨o,e1,e2,n,e3⟩,_⟩:=I.tuple h1;obtain⟨as,q,hn⟩:=readsAllG_of I xs vs its h2 rv;exact⟨_,.tuple e1 e2 e3 (by simpa using q),fun z=>hn (by simpa only[AM] using z)⟩
 |.list xs,_,_,h,r=>by
  simp only[oM]at h;obtain⟨a,vs,rfl,h1,h2⟩:=h;cases r;obtain⟨its,rv,⟨o,n,e1,e2,_,e3⟩,_⟩:=I.list h1;obtain⟨as,q,_⟩:=readsAllG_of I xs vs its h2 rv;exact⟨_,.list e1 e2 e3 (by simpa using q),fun z=>by simp only[AM]at z;cases z⟩
 |.dict kvs,_,_,h,r=>by
  simp only[oM]at h;obtain⟨rfl,a,rfl,h1⟩:=h;cases r;obtain⟨_,hS,vs,rv,o,es,n,e1,e2,e3,_,e4,_⟩:([]:List (oO×V)).length<=sizeLine/\(a == sysModules)=false/\∃vs,KV ([]:List (oO×V)) vs/\s.heap.DictOf (mS X.prog X.w) a vs:=I.hok a _ h1;cases rv
  have hes:es.toList=[]:=by
   generalize es.toList=l at e4;cases e4;rfl
  refine⟨[a]++[],Reads.dict (as:=[]) (bs:=[]) e1 e2.1 e3 ?_ ?_,fun _ z=>?_⟩
  ·rw[hes];exact .nil
  ·rw[hes];exact .nil
  ·simp at z;exact Fo hS z.symm
theorem readsAllG_of(I:aS X pins σ H s):∀(ds:List PyData)(xs:List V)(vs:List Value),RdGs X.K H ds xs->aX xs vs->∃as,ReadsAll s.heap vs ds as/\(noLs ds=true->sysModules∉as)
 |[],_,_,h,r=>by simp only[RdGs]at h;subst h;cases r;exact⟨_,.nil,fun _ z=>by cases z⟩
 |d::ds,_,_,h,r=>by
  simp only[RdGs]at h;obtain⟨v,q,rfl,h1,h2⟩:=h;cases r with
  |cons r rr=>
   obtain⟨as,g1,n1⟩:=pR I d _ _ h1 r;obtain⟨bs,g2,n2⟩:=readsAllG_of I ds _ _ h2 rr;refine⟨_,.cons g1 g2,fun z=>?_⟩;simp only[noLs,KJ]at z;intro y;rcases JE.mp y with y|y
   ·exact n1 z.1 y
   ·exact n2 z.2 y
end
end
def zg(K:W.Frag):List V->Hp->VK->Prop:=fun xs H Q=>(∃a d,xs=[.ref a]/\oM K H d (.ref a)/\d.showable=true/\(d.hasDict=true->AM d=true)/\d.depth<=60/\d.shown.length<=sizeLine/\Q (.str d.shown) H) \/
 (xs=[.non]/\Q (.str "None") H)\/(∃a:Int,xs=[.int a]/\a.natAbs.log2<1920/\Q (.str (toString a)) H)\/(∃b:Bool,xs=[.bl b]/\Q (.str (if b then "True" else "False")) H)\/∃x:Str,xs=[.str x]/\(reprText x).length<=sizeLine/\Q (.str (reprText x)) H
theorem vF {X:Cx} (hu:X.A.units+64<cLine) (hg:X.A.guards=some []):bY X (.builtin "repr") (zg X.K):=by
 intro pins s σ H xs us Q I r h;rcases h with⟨a,d,rfl,h1,hs,hd,hdp,hz,q⟩|⟨rfl,q⟩|⟨a,rfl,ha,q⟩|⟨b,rfl,q⟩|⟨x,rfl,hx,q⟩
 ·obtain⟨u,rfl,ru⟩:=dk r;cases ru;obtain⟨as,r1,hn⟩:=pR I d (.ref a) (.ref a) h1 rfl;exact PySem.repr_of_reads' (h₀:=s.heap) r1 hs (fun z=>hn (hd z)) hg (by omega) (fun _ _ e=>e) (fun h' u tk hk=>⟨.str _,H,I.kept hk,⟨u,rfl⟩,q⟩) hz
 ·obtain⟨u,rfl,ru⟩:=dk r;cases ru;exact PySem.P.repr_of_none ⟨.str _,H,I.kept (fun _ _ e=>e),⟨_,rfl⟩,q⟩
 ·obtain⟨u,rfl,t,rfl⟩:=dk r;exact PySem.P.repr_of_int ha ⟨.str _,H,I.kept (fun _ _ e=>e),⟨_,rfl⟩,q⟩
 ·obtain⟨u,rfl,ru⟩:=dk r;cases ru;refine PySem.P.repr_of_bool ⟨.str _,H,I.kept (fun _ _ e=>e),⟨_,rfl⟩,?_⟩;cases b <;> exact q
 ·obtain⟨u,rfl,t,rfl⟩:=dk r;exact PySem.P.repr_of_str ⟨.str _,H,I.kept (fun _ _ e=>e),⟨_,rfl⟩,q⟩ hx
def sv:D->Option PyData
 |.non=>some .none
 |.bl b=>some (.bool b)
 |.int i=>some (.int i)
 |.str x=>some (.str x)
 |_=>none
def ik(f:D->Option PyData):List D->Option (List PyData)
 |[]=>some []
 |x::xs=>(f x).bind fun a=>(ik f xs).map fun r=>a::r
def ly(μ:au):Nat->D->Option PyData
 |0,d=>sv d
 |n+1,d=>match d with
  |.tup xs=>(ik (ly μ n) xs).map .tuple
  |.frz xs=>(ik (ly μ n) xs).map .list
  |.obj k=>match μ[k]? with
   |some (.lst xs)=>(ik (ly μ n) xs).map .list
   |some .dic=>some (.dict [])
   |_=>none
  |d=>sv d
section
variable{K:W.Frag}{w:World}{H:Hp}{α:List Addr}{μ:au}
theorem tS{d:D}{q:PyData}{v:V}(h:sv d=some q)(r:aL K H α d v):oM K H q v:=by
 cases d with
 |non=>cases h;simp only[oM];exact bV.mp r
 |bl b=>cases h;simp only[oM];exact aU.mp r
 |int b=>cases h;simp only[oM];exact ak.mp r
 |str b=>cases h;simp only[oM];exact aZ.mp r
 |tup _=>cases h
 |frz _=>cases h
 |obj _=>cases h
theorem qP{f:D->Option PyData}(hf:∀d q v,f d=some q->aL K H α d v->oM K H q v):∀{ds:List D}{qs:List PyData}{vs:List V},ik f ds=some qs->Reps K H α ds vs->RdGs K H qs vs:=by
 intro ds
 induction ds with
 |nil=>intro qs vs h r;cases h;simp only[Reps]at r;simp only[RdGs];exact r
 |cons d ds ih=>
  intro qs vs h r;simp only[ik]at h;cases e1:f d with
  |none=>rw[e1]at h;cases h
  |some a=>
   rw[e1]at h;cases e2:ik f ds with
   |none=>rw[e2]at h;cases h
   |some t=>
    rw[e2]at h;cases h;simp only[Reps]at r;obtain⟨v,r',rfl,h1,h2⟩:=r;simp only[RdGs];exact⟨v,r',rfl,hf d a v e1 h1,ih e2 h2⟩
theorem D0(S:gq K w H α μ):∀(n:Nat)(d:D)(q:PyData)(v:V),ly μ n d=some q->aL K H α d v->oM K H q v:=by
 intro n
 induction n with
 |zero=>intro d q v h r;exact tS h r
 |succ n ih=>
  intro d q v h r;unfold ly at h;split at h
  ·rename_i xs;cases e:ik (ly μ n) xs with
   |none=>rw[e]at h;cases h
   |some qs=>
    rw[e]at h;cases h;obtain⟨a,us,rfl,h1,h2⟩:=aD.mp r;simp only[oM];exact⟨a,us,rfl,h1,qP ih e h2⟩
  ·rename_i xs;cases e:ik (ly μ n) xs with
   |none=>rw[e]at h;cases h
   |some qs=>
    rw[e]at h;cases h;obtain⟨a,us,rfl,h1,h2⟩:=bf.mp r;simp only[oM];exact⟨a,us,rfl,h1.sq,qP ih e h2⟩
  ·rename_i k;split at h
   ·rename_i xs hx;cases e:ik (ly μ n) xs with
    |none=>rw[e]at h;cases h
    |some qs=>
     rw[e]at h;cases h;obtain⟨a,ea,us,h1,h2⟩:=S.at hx;obtain⟨a',rfl,ea'⟩:=aN.mp r;rw[ea]at ea';cases ea';simp only[oM];exact⟨a,us,rfl,.inl (.inl h1),qP ih e h2⟩
   ·rename_i hx;cases h;obtain⟨a,ea,h1⟩:=S.at hx;obtain⟨a',rfl,ea'⟩:=aN.mp r;rw[ea]at ea';cases ea';simp only[oM];exact⟨trivial,a,rfl,h1⟩
   ·cases h
  ·exact tS h r
end
def mR(q:PyData):Bool:=q.showable&&(!q.hasDict || AM q)&&decide (q.depth<=60)&&decide (q.shown.length<=sizeLine)
def fX(ds:List D)(μ:au):af D:=match ds with
 |[.non]=>.ok (.str "None") μ
 |[.int a]=>if a.natAbs.log2<1920 then .ok (.str (toString a)) μ else .bad
 |[.bl b]=>.ok (.str (if b then "True" else "False")) μ
 |[.str x]=>if (reprText x).length<=sizeLine then .ok (.str (reprText x)) μ else .bad
 |[d]=>match ly μ 5 d with
  |some q=>if qy d=true/\mR q=true then .ok (.str q.shown) μ else .bad
  |none=>.bad
 |_=>.bad
theorem Ag{p:Pa}:rQ p fX (zg p.K):=by
 intro ds vs H α μ Q S r P;unfold fX at P;split at P
 ·obtain⟨v,rfl,r1⟩:=r.one;rw[bV.mp r1];exact .inr (.inl ⟨rfl,P.now S _ (aZ.mpr rfl)⟩)
 ·obtain ⟨v, rfl, r1⟩ := r.one;rw[ak.mp r1];split at P
  ·rename_i ha;exact .inr (.inr (.inl ⟨_,rfl,ha,P.now S _ (aZ.mpr rfl)⟩))
  ·exact P.elim
 ·obtain⟨v,rfl,r1⟩:=r.one;rw[aU.mp r1];exact .inr (.inr (.inr (.inl ⟨_,rfl,P.now S _ (aZ.mpr rfl)⟩)))
 ·obtain ⟨v, rfl, r1⟩ := r.one;rw[aZ.mp r1];split at P
  ·rename_i ha;exact .inr (.inr (.inr (.inr ⟨_,rfl,ha,P.now S _ (aZ.mpr rfl)⟩)))
  ·exact P.elim
 ·rename_i d _ _ _ _;split at P
  ·rename_i q hq;split at P
   ·rename_i hf;obtain⟨v,rfl,r1⟩:=r.one;obtain⟨a,rfl⟩:=vp hf.1 r1;have h2:=hf.2;unfold mR at h2;simp only[KJ,Np]at h2;refine .inl ⟨a,q,rfl,D0 S 5 d q _ hq r1,h2.1.1.1,fun z=>?_,h2.1.2,h2.2,P.now S _ (aZ.mpr rfl)⟩;have h3:=h2.1.1.2;rw[z]at h3;simpa using h3
   ·exact P.elim
  ·exact P.elim
 ·exact P.elim
theorem wI {X:Cx}{p:Pa}{k:Nat} (hr:gu k X.A) (hK:X.K=p.K:=by rfl):mG X p "repr" fX:=⟨_,_,.inl ⟨_,rfl⟩,by decide +kernel,vF hr.units hr.gd,hK ▸ Ag,by decide,by decide⟩
end L2
namespace L2
open PySem PySem.Spec PyProof.Rows RS
section
variable{X:Cx}{p:Pa}{es:List Expr}{Fs:List (List D->au->af D)}{fs:List Addr}
end
section
variable{X:Cx}{p:Pa}{es:List Expr}{Fs:List (List D->au->af D)}{i:Nat}{x:Str}{a:Expr}{as:List Expr}{fr:MA}{pos ps pl pn:Pos}
end
section
variable{X:Cx}{E:XK}{k n:Nat}{x:Str}{F:List D->au->af D}
end
end L2
namespace L2
open PySem PySem.W PyProof.Rows RS
section
variable{prog:Program}{w:World}{A:Around}{E:Value->Shared->Prop}
end
section
variable{X:Cx}
end
end L2
namespace RS
open PySem PySem.W PyProof.Rows
def iJ:Nat->List Int->Int
 |0,_=>0
 |_+1,[]=>0
 |n+1,x::r=>(x+1)*7^n+iJ n r
def je(k:List Int):Int:=iJ 6 k
def AV(k:List Int):Prop:=∀x∈k,0<=x/\x<6
def Sm(k:List Int):Prop:=k≠[]/\k.length<=6/\AV k
theorem nL:∀(n:Nat)(k:List Int),AV k->0<=iJ n k/\iJ n k<7^n
 |0,_,_=>by simp[iJ]
 |n+1,[],_=>by
  have:(0:Int)<7^(n+1):=NC (by decide);simp only[iJ];omega
 |n+1,x::r,h=>by
  have ih:=nL n r fun y hy=>h y (JB _ hy);have hx:=h x JA;have p0:(0:Int)<7^n:=NC (by decide);have a:0<=(x+1)*7^n:=Int.mul_nonneg (by omega) (by omega);have b:(x+1)*7^n<=6*7^n:=ND (by omega) (by omega);simp only[iJ];rw[Int.pow_succ];omega
def oQ:List Int->List Int->Bool
 |[],[]=>false
 |[],_::_=>true
 |_::_,[]=>false
 |x::r,y::r'=>if x=y then oQ r r' else decide (x<y)
theorem kZ{n:Nat}{x y:Int}{r r':List Int}(hx:AV (x::r))(hy:AV (y::r'))(h:x<y):iJ (n+1) (x::r)<iJ (n+1) (y::r'):=by
 have a:=nL n r fun z hz=>hx z (JB _ hz);have b:=nL n r' fun z hz=>hy z (JB _ hz);have p0:(0:Int)<7^n:=NC (by decide);have c:(x+1+1)*7^n<=(y+1)*7^n:=ND (by omega) (by omega);rw[Int.add_mul (x+1) 1,Int.one_mul]at c;simp only[iJ];omega
theorem mU:∀{n:Nat}{k k':List Int},AV k->AV k'->k.length<=n->k'.length<=n->decide (iJ n k<iJ n k')=oQ k k'
 |n,[],[],_,_,_,_=>by cases n <;> simp[iJ,oQ]
 |0,_::_,_,_,_,h,_=>by simp at h
 |0,[],_::_,_,_,_,h=>by simp at h
 |n+1,[],y::r',_,hy,_,_=>by
  have b:=nL n r' fun z hz=>hy z (JB _ hz);have p0:(0:Int)<7^n:=NC (by decide);have:=hy y JA;have:0<(y+1)*7^n:=Int.mul_pos (by omega) p0;exact K5 (by simp only[iJ];omega)
 |n+1,x::r,[],hx,_,_,_=>by
  have b:=nL (n+1) (x::r) hx;exact Jl (by simp only[iJ]at b⊢;omega)
 |n+1,x::r,y::r',hx,hy,h1,h2=>by
  simp only[La]at h1 h2;unfold oQ;by_cases e:x=y
  ·subst e;rw[Jo rfl,<- mU (n:=n) (fun z hz=>hx z (JB _ hz)) (fun z hz=>hy z (JB _ hz)) (by omega) (by omega)];rw[Mt];simp only[iJ];constructor <;> intro h <;> omega
  ·rw [Jp e];by_cases l:x<y
   ·rw[K5 l,K5 (kZ hx hy l)]
   ·have:=kZ (n:=n) hy hx (show y<x by omega);rw[Jl l,Jl (by omega)]
theorem tW:∀{n:Nat}{k k':List Int},AV k->AV k'->k.length<=n->k'.length<=n->iJ n k=iJ n k'->k=k'
 |_,[],[],_,_,_,_,_=>rfl
 |n,[],y::r',hx,hy,h1,h2,e=>by
  have:=mU (n:=n) hx hy h1 h2;rw[e]at this;simp[oQ]at this
 |n,x::r,[],hx,hy,h1,h2,e=>by
  have:=mU (n:=n) hy hx h2 h1;rw[e]at this;simp[oQ]at this
 |0,_::_,_::_,_,_,h,_,_=>by simp at h
 |n+1,x::r,y::r',hx,hy,h1,h2,e=>by
  have xy:x=y:=by
   by_cases l:x<y
   ·have:=kZ (n:=n) hx hy l;omega
   ·by_cases l' : y < x
    ·have:=kZ (n:=n) hy hx l';omega
    ·omega
  subst xy;simp only[La]at h1 h2;simp only[iJ]at e;rw[tW (n:=n) (fun z hz=>hx z (JB _ hz)) (fun z hz=>hy z (JB _ hz)) (by omega) (by omega) (by omega)]
theorem tV{k k':List Int}(h:Sm k)(h':Sm k')(e:je k=je k'):k=k':=tW h.2.2 h'.2.2 h.2.1 h'.2.1 e
def gU(ps:List KP):Prop:=ps.Pairwise fun p q=>je p.1<je q.1
section
variable{prog:Program}{w:World}{A:Around}{E:Value->Shared->Prop}{s:Shared}
theorem oj:∀{k:List Int}{vs:List Value},ItemsAre (intKind prog w) k vs->IntsAre vs k
 |_,_,.nil=>.nil
 |a::k,v::vs,.cons h1 t=>by
  obtain⟨x1,e1⟩:=Jk (k:=a) h1;subst e1;exact .cons a x1 (oj t)
theorem qG {h:Heap}{k:List Int}{r:Addr} (t:Tk prog w h k r):∃o n vs,h.get? r=some o/\o.cls=.type "tuple" /\ o.data=.seq vs n/\IntsAre vs.toList k:=by
 obtain⟨o,items,n,ho,hc,hd,hi⟩:=t;exact⟨o,n,items,ho,hc,hd,oj hi⟩
theorem tK{Q:Bool->Shared->Prop}{fin:Bool}:∀{k k':List Int}{vs us:List Value}{i:Nat},IntsAre vs k->IntsAre us k'->fin=decide (k.length<k'.length)->Q (oQ k k') s->KatLex prog w A true fin Q (vs.zip us) i s
 |_,_,_,_,i,.nil,.nil,hf,q=>by
  subst hf;exact kat_nil q
 |_,_,_,_,i,.nil,.cons y t hu,hf,q=>by
  subst hf;rw[List.zip_nil_left];exact kat_nil (by simpa[oQ] using q)
 |_,_,_,_,i,.cons x t hv,.nil,hf,q=>by
  subst hf;rw[List.zip_nil_right];exact kat_nil (by simpa[oQ] using q)
 |_,_,_,_,i,.cons x t hv,.cons y t' hu,hf,q=>by
  rw[Nq];refine kat_cons (Jn ?_);unfold oQ at q;by_cases e:x=y
  ·rw[show (x == y)=true by simpa using e];rw[Jo e]at q;refine kat_yes (tK hv hu ?_ q);rw[hf];simp
  ·rw [show (x == y) = false by simpa using e];rw[Jp e]at q;refine kat_no ?_;cases i with
   |zero=>
    show wpAny _ A (keyLt' oneType' _ _) Q _ s;exact kat_lt_int q
   |succ i=>
    show wpAny _ A (oneLt' false _ _) Q _ s;exact kat_one _ _ (lt_int q)
theorem DY{x y:Addr}{k k':List Int}{Q:Bool->Shared->Prop}(hx:Tk prog w s.heap k x)(hy:Tk prog w s.heap k' y)(hk:Sm k)(hk':Sm k')(h:Q (decide (je k<je k')) s) :
  wpAny (model prog w) A (keyLt' (tuples' true) (.ref x) (.ref y)) Q E s:=by
 obtain⟨o,n,vs,ho,_,hd,hv⟩:=qG hx;obtain⟨o',n',us,ho',_,hd',hu⟩:=qG hy;refine kat_lt ho hd ho' hd' (tK hv hu ?_ ?_)
 ·have a:=hv.length;have b:=hu.length;simp only[JM]at a b;rw[a,b]
 ·unfold je at h;rw[mU hk.2.2 hk'.2.2 hk.2.1 hk'.2.1]at h;exact h
theorem sG{h:Heap}:∀{ps:List KP},(∀p∈ps,Sm p.1)->(∀p∈ps,Tk prog w h p.1 p.2)->∃fs,KatTups h (aw ps) fs/\fs.length=ps.length/\∀v∈fs,∃i t,v=Value.int i t
 |[],_,_=>⟨[],KatTups.nil,rfl,fun v hv=>by simp at hv⟩
 |p::ps,hk,ht=>by
  obtain⟨fs,h1,h2,h3⟩:=sG (ps:=ps) (fun q hq=>hk q (JB _ hq)) (fun q hq=>ht q (JB _ hq));obtain⟨o,n,vs,ho,hc,hd,hi⟩:=qG (ht p JA);have ne:=(hk p JA).1
  obtain⟨x,t,e0⟩:∃x t,vs[0]?=some (Value.int x t):=by
   cases e:p.1 with
   |nil=>exact absurd e ne
   |cons a r=>
    rw[e]at hi;generalize hl:vs.toList=l at hi;cases hi with
    |cons _ t _=>exact⟨a,t,by rw[<- Ly,hl];rfl⟩
  refine⟨.int x t::fs,KatTups.cons ho hc hd e0 h1,by rw[La,La,h2],fun v hv=>?_⟩;rcases JC.mp hv with q|q
  ·exact⟨x,t,q⟩
  ·exact h3 v q
theorem B4{ps:List KP}(hk:∀p∈ps,Sm p.1)(hn:(ps.map (·.1)).Nodup){p:Array Nat}(g:dS ps.length p)(ha:yr (fun i=>je (ps.getD i ([],0)).1) p ps.length) :
  ∃out:List KP,(p.toList.map fun i=>(aw ps).getD i Value.none)=aw out/\out.Perm ps/\gU out:=by
 refine⟨p.toList.map fun i=>ps.getD i ([],0),?_,?_,?_⟩
 ·unfold aw;rw[Lm];refine Ln fun i hi=>?_;have hi':i<ps.length:=Jw.mp (g.perm.mem_iff.mp hi);simp[Mu,hi']
 ·refine (g.perm.map _).trans ?_
  have:(List.range ps.length).map (fun i=>ps.getD i ([],0))=ps:=by
   apply Mv;intro i;rw[Kh];by_cases hi:i<ps.length
   ·rw[Mw hi];simp[hi]
   ·rw[Mx (by simpa using hi),Mx (by omega)];rfl
  rw[this]
 ·unfold gU;rw[My];refine Ls.mpr fun i j hi hj hij=>?_;have hi':i<p.size:=by simpa using hi
  have hj':j<p.size:=by simpa using hj
  have:=ha i j hij (by rw[<- g.size];exact hj');unfold at' at this;simpa[Array.getD,hi',hj'] using this
theorem xj {a:Addr}{ps:List KP}{n:Nat}{P:PySem.Fin->Shared->Prop} (ho:s.heap.get? a=some (seqObj "list" (aw ps).toArray n)) (hk:∀p∈ps,Sm p.1) (hn:(ps.map (·.1)).Nodup) (hlen:ps.length<64) (hT:∀p∈ps,Tk prog w s.heap p.1 p.2)
  (h:∀out:List KP,out.Perm ps->gU out->P (.done (.ret .none)) {s with heap:=sortedHeap s.heap a (aw ps) (aw out).toArray}) :
  wpAny (model prog w) A (Builtin.«list.sort» ⟨[.ref a],[]⟩) P E s:=by
 have hvl:(aw ps).length=ps.length:=by unfold aw;rw[Kk]
 rw[list_sort_plain];have hal:a<s.heap.objs.size:=Jr ho;refine JP (Mz ho rfl ?_);refine JP (MC ho rfl ?_ (by rw[J6,hvl];exact Jx (Jy hlen) (by decide)) (Lj _));obtain⟨e1,ho1⟩:∃e1,(s.heap.update a (Obj.mapSeq fun _=>#[])).get? a=some (seqObj "list" #[] e1):=⟨_,MD ho (fun _=>#[])⟩;refine JP (MF ho1 rfl ?_);refine JP (wpAny_newTuple ?_);refine JP (MH ?_);refine JQ ?_
 have ho6:(((s.heap.update a (Obj.mapSeq fun _=>#[])).push (seqObj "tuple" (aw ps).toArray 0)).push (seqObj "list" #[] 0)).get? a=some (seqObj "list" #[] e1):=by
  rw[MJ _ _ _ (by rw[MK,ML];exact Ju (Lc hal)),MJ _ _ _ (by rw[ML];exact Ju hal)];exact ho1
 show wpAny (model prog w) A _ P E {s with heap:=((s.heap.update a (Obj.mapSeq fun _=>#[])).push (seqObj "tuple" (aw ps).toArray 0)).push (seqObj "list" #[] 0)};dsimp only
 have hna:∀p∈ps,p.2≠a:=fun p hp e=>by
  obtain⟨o,items,m,ho',hc',_⟩:=hT p hp;rw[e,ho]at ho';have:=Jq ho';subst this;exact absurd (show Value.type "list" = Value.type "tuple" from hc') (by decide)
 generalize hS:({s with heap:=((s.heap.update a (Obj.mapSeq fun _=>#[])).push (seqObj "tuple" (aw ps).toArray 0)).push (seqObj "list" #[] 0)}:Shared)=s1;have eh1:s1.heap=((s.heap.update a (Obj.mapSeq fun _=>#[])).push (seqObj "tuple" (aw ps).toArray 0)).push (seqObj "list" #[] 0):=by rw[<- hS]
 have hT1:∀p∈ps,Tk prog w s1.heap p.1 p.2:=fun p hp=>by
  obtain⟨o,items,m,ho',rest⟩:=hT p hp;refine⟨o,items,m,?_,rest⟩;rw[eh1];refine JW _ (JW _ ?_);rw[MM _ _ _ _ (hna p hp)];exact ho'
 rw[<- eh1]at ho6
 have hfin:∀out:List KP,out.Perm ps->gU out->P (.done (.ret .none)) {s1 with heap:=s1.heap.update a (Obj.mapSeq fun _=>(aw out).toArray)}:=fun out h1 h2=>by
  have q:=h out h1 h2;rw[<- hS];exact q
 have hszv:(aw ps).toArray.size=ps.length:=by rw[J6,hvl]
 by_cases h2:(aw ps).toArray.size<2
 ·rw [Jo h2, Jo h2];refine JP (JT ?_);rw[StateT.run_pure];refine JP (JT ?_);dsimp only;refine JP (MF ho6 rfl ?_)
  have eo:(arrOf (SortSt.mk' general' ((aw ps).toArray.zip (aw ps).toArray) #[] 7 none)).map (·.2)=(aw ps).toArray:=by
   show (((aw ps).toArray.zip (aw ps).toArray)).map (·.2)=_;apply Ms.mp;rw[LV,Array.toList_zip];exact List.map_snd_zip (JY _)
  rw[eo];refine JP (MC ho6 rfl ?_ (Lj _) (by show (aw ps).toArray.size<=_;rw[hszv];exact Jx (Jy hlen) (by decide)));simp only[MN,K9,Kt];refine JT (hfin ps (MP _) ?_);rw[hszv]at h2
  match ps,h2 with
  |[],_=>exact List.Pairwise.nil
  |[_],_=>exact List.pairwise_singleton _ _
  |_::_::_,h=>rw[La,La]at h;omega
 ·rw [Jp h2, Jp h2];rw[hszv]at h2;obtain⟨fs,k1,k2,k3⟩:=sG hk hT1;refine JP (kat_kind (T:=Value.type "int") k1 (by omega) (fun v hv=>?_) (by rfl) ?_)
  ·obtain⟨i,t,e⟩:=k3 v hv;rw[e];exact .now
  ·have et : (Value.type "int" != Value.type "tuple") = true := by decide
   rw[et]
   refine JP (JK (kat_run (ks:=aw ps) (vs:=aw ps) (Q:=fun st' s'=>s'=s1/\failedOf st'=none/\∃out:List KP,out.Perm ps/\gU out/\(arrOf st').map (·.2)=(aw out).toArray)
    (G:=fun p s'=>s'=s1/\∃out:List KP,(p.toList.map fun i=>(aw ps).getD i Value.none)=aw out/\out.Perm ps/\gU out) rfl (by rw[hvl];omega) (by rw[hvl];omega) ?_ ?_) ?_ fun _ _ e=>e)
   ·rintro p st' s' hp har hf ⟨e, out, o1, o2, o3⟩
    exact⟨e,hf,out,o2,o3,by rw[kat_snds rfl har,o1]⟩
   ·rw [hvl];refine v3 (key:=fun i=>je (ps.getD i ([],0)).1) (fun i j hi hj e=>?_) (fun i j hi hj C hC=>?_) (by omega) _ (fun p g ha=>⟨rfl,B4 hk hn g ha⟩)
    ·have hi' : ps.getD i ([], 0) = ps[i] := by simp [Mu, hi]
     have hj':ps.getD j ([],0)=ps[j]:=by simp[Mu,hj]
     simp only[hi',hj']at e;have e2:=tV (hk _ (MQ hi)) (hk _ (MQ hj)) e;have hil:i<(ps.map (·.1)).length:=by rw[Kk];exact hi
     have hjl:j<(ps.map (·.1)).length:=by rw[Kk];exact hj
     exact(JH (h₀:=hil) (h₁:=hjl) hn).mp (by simpa using e2)
    ·unfold kas_ask;have gi:(aw ps).getD i Value.none=.ref ps[i].2:=by unfold aw;simp[Mu,hi]
     have gj:(aw ps).getD j Value.none=.ref ps[j].2:=by unfold aw;simp[Mu,hj]
     have hi':ps.getD i ([],0)=ps[i]:=by simp[Mu,hi]
     have hj':ps.getD j ([],0)=ps[j]:=by simp[Mu,hj]
     rw[gi,gj];simp only[hi',hj']at hC;exact DY (hT1 _ (MQ hi)) (hT1 _ (MQ hj)) (hk _ (MQ hi)) (hk _ (MQ hj)) hC
   ·rintro ⟨⟨⟩, st'⟩ s' ⟨rfl, hf, out, o1, o2, o3⟩
    dsimp only;refine JP (MF ho6 rfl ?_);rw[o3];refine JP (MC ho6 rfl ?_ (Lj _) (by show (aw out).toArray.size<=_;rw[J6];unfold aw;rw[Kk,o1.length_eq];exact Jx (Jy hlen) (by decide)));rw[hf];simp only[MN,K9,Kt];exact JT (hfin out o1 o2)
theorem vc{x:Value}{ps:List KP}{Q:Value->Shared->Prop}(hk:∀p∈ps,Sm p.1)(hn:(ps.map (·.1)).Nodup)(h64:ps.length<64)(hT:∀p∈ps,Tk prog w s.heap p.1 p.2)
  (hcol:∀Q':List Value->Shared->Prop,(∀qs:List KP,qs.Perm ps->∀h',(∀b u,s.heap.get? b=some u->h'.get? b=some u)->s.heap.objs.size<=h'.objs.size->Q' (aw qs) {s with heap:=h'})->wpAny (model prog w) A.in1 (collect x) Q' E s)
  (h:∀out:List KP,out.Perm ps->gU out->∀h' D,s.heap.objs.size<=D->(∀b u,s.heap.get? b=some u->h'.get? b=some u)->(∃n,h'.get? D=some (seqObj "list" (aw out).toArray n))->Q (.ref D) {s with heap:=h'}) :
  wpAny (model prog w) A (call (.builtin "sorted") [x]) Q E s:=by
 refine MY MZ Na Nd (Nf _) ?_;unfold Builtin.«sorted»;refine JP (m:=checkCount "sorted" 1 1 _) (JT ?_);refine JP (hcol _ fun qs hqs h1 k1 hsz=>?_);have hkq:∀p∈qs,Sm p.1:=fun p hp=>hk p (hqs.mem_iff.mp hp);have hnq:(qs.map (·.1)).Nodup:=(hqs.map _).nodup_iff.mpr hn;have hlen:qs.length<64:=by rw[hqs.length_eq];exact h64
 have hvl:(aw qs).length<=63:=by unfold aw;rw[Kk];exact LA hlen
 refine JP (MH ?_ (Jx hvl (by decide)));have hoL:(h1.push (seqObj "list" (aw qs).toArray 0)).get? h1.objs.size=some (seqObj "list" (aw qs).toArray 0):=JX _ rfl;have hnn:∀b u,h1.get? b=some u->b≠h1.objs.size:=fun b u q=>Ju (Jr q);refine JP (JQ (KE Ng (s:={s with heap:=h1.push (seqObj "list" (aw qs).toArray 0)}) ⟨_,hoL,rfl⟩ Nh ?body (Ni _)))
 case body=>
  refine xj (s:={s with heap:=h1.push (seqObj "list" (aw qs).toArray 0)}) hoL hkq hnq hlen (fun p hp=>?_) fun out h2 h3=>?_
  ·obtain⟨o,its,n,ho,rest⟩:=hT p (hqs.mem_iff.mp hp);exact⟨o,its,n,JW _ (k1 _ _ ho),rest⟩
  ·refine ⟨_, rfl, JT ⟨_, rfl, h out (h2.trans hqs) h3 _ h1.objs.size hsz (fun b u q => ?_) ?_⟩⟩
   ·have hb:=hnn b u (k1 b u q);unfold sortedHeap;rw[MM _ _ _ _ hb];refine JW _ (JW _ ?_);rw[MM _ _ _ _ hb];exact JW _ (k1 b u q)
   ·unfold sortedHeap;have g1:=MD hoL (fun _=>#[]);have g2:=JW (seqObj "list" #[] 0) (JW (seqObj "tuple" (aw qs).toArray 0) g1);exact⟨_,MD g2 (fun _=>(aw out).toArray)⟩
end
end RS
namespace L2
open PySem PySem.Spec PyProof.Rows RS
section
variable{X:Cx}
def zf(K:W.Frag):List V->Hp->VK->Prop:=fun xs H Q=>∃(a:Addr)(ps:List KP),xs=[.ref a]/\eT K H a (f6 ps)/\(∀p∈ps,Sm p.1/\fu K H p.2 (p.1.map V.int))/\(ps.map (·.1)).Nodup/\ps.length<64 /\
 ∀out:List KP,out.Perm ps->gU out->∀l,H l=none->Q (.ref l) (cG H l (.lst (f6 out)))
theorem vB:bY X (.builtin "sorted") (zf X.K):=by
 intro pins s σ H xs us Q I r h;obtain⟨a,ps,rfl,ha,hT,hn,h64,q⟩:=h;obtain⟨u,rfl,ru⟩:=dk r;cases ru;obtain⟨its,rv,⟨o,n,e1,e2,_,e3⟩,hz⟩:=I.list ha;have ev:its=aw ps:=jI rv;subst ev;have hl:(aw ps).length<=sizeLine:=by unfold aw;rw[Kk];exact Jx (Jy h64) (by decide)
 refine vc (fun p hp=>(hT p hp).1) hn h64 (fun p hp=>vN I (hT p hp).2) (fun Q' hq=>mh (.inl rfl) e1 e2 e3 (hq ps (MP _) _ (fun b u e=>?_) ?_) hl) fun out hp hr h' D hD hk hnn=>?_
 ·rw[MM _ _ _ _ (Ju (Jr e))];exact JW _ e
 ·rw[ML,MK];exact Nat.le_succ _
 ·refine⟨.ref D,cG H D (.lst (f6 out)),I.laid (t':=s.toks) (fun b ob e=>hk b ob e) hD ?_,rfl,q out hp hr _ (I.hok.fresh hD)⟩;obtain⟨n,e⟩:=hnn;refine⟨?_,aw out,n,jm out,e⟩;unfold f6;rw[Kk,hp.length_eq];exact Jx (Jy h64) (by decide)
end
def HC(ns:List Int):Bool:=!ns.isEmpty&&(decide (ns.length<=6)&&ns.all fun x=>decide (0<=x)&&decide (x<6))
theorem v8{ns:List Int}:HC ns=true↔Sm ns:=by
 unfold HC Sm AV;rw[KJ,KJ,Np,LY];constructor
 ·rintro ⟨h1, h2, h3⟩
  refine⟨fun e=>by subst e;simp at h1,h2,fun x hx=>by simpa using h3 x hx⟩
 ·rintro ⟨h1, h2, h3⟩
  refine⟨?_,h2,fun x hx=>by simpa using h3 x hx⟩;cases ns with
  |nil=>exact absurd rfl h1
  |cons=>rfl
def sg:D->Option (List Int)
 |.tup xs=>match gN xs with
  |some ns=>if HC ns=true then some ns else none
  |none=>none
 |_=>none
def ny:List D->Option (List (List Int))
 |[]=>some []
 |x::xs=>match sg x with
  |some k=>match ny xs with
   |some ks=>some (k::ks)
   |none=>none
  |none=>none
theorem zA{x:D}{k:List Int}(h:sg x=some k):x=bg k/\Sm k:=by
 unfold sg at h;split at h
 ·split at h
  ·rename_i xs ns e;split at h
   ·rename_i hs;cases h;exact⟨by rw[eR e];rfl,v8.mp hs⟩
   ·cases h
  ·cases h
 ·cases h
theorem sH:∀{xs:List D}{ks:List (List Int)},ny xs=some ks->xs=ks.map bg/\∀k∈ks,Sm k
 |[],ks,h=>by cases h;exact⟨rfl,by simp⟩
 |x::xs,ks,h=>by
  unfold ny at h;cases e1:sg x with
  |none=>rw[e1]at h;cases h
  |some k=>
   rw[e1]at h;cases e2:ny xs with
   |none=>rw[e2]at h;cases h
   |some r=>
    rw[e2]at h;cases h;obtain⟨a,b⟩:=zA e1;obtain⟨c,d⟩:=sH e2;exact⟨by rw[a,c];rfl,fun z hz=>(JC.mp hz).elim (fun y=>by rw[y];exact b) (d z)⟩
def kH(ks:List (List Int)):List (List Int):=ks.mergeSort fun a b=>decide (je a<=je b)
theorem c6{ks:List (List Int)}:(kH ks).Perm ks:=List.mergeSort_perm ks _
theorem sO{ks:List (List Int)}:(kH ks).Pairwise fun a b=>je a<=je b:=by
 have:=List.pairwise_mergeSort (le:=fun(a b:List Int)=>decide (je a<=je b)) (fun a b c h1 h2=>by simp at *;omega) (fun a b=>by simp;omega) ks;exact this.imp fun h=>by simpa using h
theorem sN{ks ks':List (List Int)}(hs:∀k∈ks,Sm k)(hp:ks'.Perm ks)(hr:ks'.Pairwise fun a b=>je a<=je b):ks'=kH ks:=
 (hp.trans c6.symm).eq_of_pairwise (fun a b ha hb h1 h2=>tV (hs a (hp.mem_iff.mp ha)) (hs b (c6.mem_iff.mp hb)) (Nx h1 h2)) hr sO
def cR(ds:List D)(μ:au):af D:=match ds with
 |[.obj n]=>match μ[n]? with
  |some (.lst xs)=>match ny xs with
   |some ks=>if ks.Nodup/\ks.length<64 then .ok (.obj μ.length) (μ++[.lst ((kH ks).map bg)]) else .bad
   |none=>jH [.obj n] μ
  |_=>jH [.obj n] μ
 |ds=>jH ds μ
theorem vk{p:Pa}:rQ p cR (fun xs H Q=>zf p.K xs H Q\/((uO p.K xs H Q\/uN p.K p.w xs H Q)\/uM p.w xs H Q)):=by
 intro ds vs H α μ Q S r P;unfold cR at P;split at P
 ·rename_i n;split at P
  ·rename_i xs hx;split at P
   ·rename_i ks hks;split at P
    ·rename_i hc;obtain⟨f1,f2⟩:=sH hks;obtain⟨v,rfl,r1⟩:=r.one;obtain⟨a,us,rfl,a1,h1,rr⟩:=cP S r1 hx;rw[f1]at rr;obtain⟨qs,e1,e2,e3⟩:=rr.keys;subst e2;refine .inl ⟨a,qs,rfl,eT.of h1,fun q hq=>⟨f2 _ (by rw[<- e1];exact LF hq),e3 q hq⟩,by rw[e1];exact hc.1,by rw[<- Kk (f:=(·.1)),e1];exact hc.2,fun out hp hr l hl=>?_⟩;have ro:p.Rs H α ((out.map (·.1)).map bg) (f6 out):=jo fun q hq=>e3 q (hp.mem_iff.mp hq);have hk:(out.map (·.1)).Perm ks:=by rw[<- e1];exact hp.map _
     rw[sN f2 hk (My.mpr (hr.imp fun h=>Int.le_of_lt h))]at ro;obtain⟨x1,x2,x3⟩:=bZ S hl ro;exact P _ _ x1 x2 _ x3
    ·exact P.elim
   ·exact .inr (lO _ _ _ _ _ _ S r P)
  ·exact .inr (lO _ _ _ _ _ _ S r P)
 ·exact .inr (lO _ _ _ _ _ _ S r P)
theorem lU {X:Cx}{p:Pa} (hc:X.calm=true:=by rfl) (hK:X.K=p.K:=by rfl) (hw:X.w=p.w:=by rfl):mG X p "sorted" cR:=⟨_,_,.inl ⟨_,rfl⟩,by decide +kernel,vB.or ((vE.or (vD hc)).or (vC hc)),by rw[hK,hw];exact vk,by decide,by decide⟩
end L2
namespace L2
open PySem PySem.Spec PyProof.Rows RS
open AutoSeq1 (wpAny_loadPart')
section
variable{prog:Program}{w:World}{A:Around}{E:Value->Shared->Prop}{s:Shared}
theorem pf{Q:List Value->Shared->Prop}{r:Addr}{a b c:Int}{t u v:Tok}{n:Nat}(hh:A.handled=none)(hr:IsRange s.heap r a b c t u v)(hsmall:Builtin.Range.small a b c=true)
  (hn:Builtin.Range.rangeSize a b c=n) (hlen:n<=2^24)
  (hQ:∀(h':Heap)(tk:Nat)(acc:Array Value),(∀b o',s.heap.get? b=some o'->h'.get? b=some o')->ItemsOf (fun i v=>∃t,v=.int (a+i*c) t) acc n->Q acc.toList {s with heap:=h',toks:=tk}) :
  wpAny (model prog w) A (collect (.ref r)) Q E s:=by
 unfold collect;refine JP (Mj (Ma PySem.F.entry_proto_collect ?_));rw[Mb PySem.F.plain_proto_collect _];show wpAny _ A.in1 (newList [] >>= fun l=>again (.builtin "list.__iadd__" ⟨[l,.ref r],[]⟩)) _ _ s;refine JP (KL ?_);refine JT ⟨Md PySem.F.plain_list_iadd _,Ma PySem.F.entry_list_iadd ?_⟩;rw[Mb PySem.F.plain_list_iadd _];show wpAny _ A.in1 (Builtin.List.listExtendWith (.ref s.heap.objs.size) (.ref r) (.ref s.heap.objs.size)) _ _ _;have hS:(s.heap.push {cls:=.type "list",data:=.seq ([]:List Value).toArray}).get? s.heap.objs.size=some {cls:=.type "list",data:=.seq #[] 0}:=JX _ rfl
 refine JK (wpAny_extend_range (A:=A) (s:={s with heap:=s.heap.push {cls:=.type "list",data:=.seq ([]:List Value).toArray}})
  (R:=fun r s'=>r=.ok (.ret (.ref s.heap.objs.size))/\∃h' tk acc c',s'={s with heap:=h',toks:=tk}/\(∀b o',s.heap.get? b=some o'->h'.get? b=some o')/\h'.get? s.heap.objs.size=some {cls:=.type "list",dict:=none,data:=.seq acc c',slots:=#[]}/\ItemsOf (fun i v=>∃t,v=.int (a+i*c) t) acc n)
  hh (JW _ hr) hsmall hn hlen s.heap.objs.size (.ref s.heap.objs.size) 0 hS (fun h' tk acc' c' hk hS' hacc=>⟨rfl,h',tk,acc',c',rfl,fun b o e=>hk b o (Ju (Jr e)) (JW _ e),hS',hacc⟩)) (fun fin s' h=>?_) (fun e s' h=>?_)
 ·have fin':∀s',(∃h' tk acc c',s'={s with heap:=h',toks:=tk}/\(∀b o',s.heap.get? b=some o'->h'.get? b=some o')/\h'.get? s.heap.objs.size=some {cls:=.type "list",dict:=none,data:=.seq acc c',slots:=#[]}/\ItemsOf (fun i v=>∃t,v=.int (a+i*c) t) acc n)->wpAny (model prog w) A (match Value.ref s.heap.objs.size with
   |Value.ref a=>do
    match (<- load a).data with
     |Data.seq xs _=>pure xs.toList
     |_=>unsupported "internal:collect"
   |_=>unsupported "internal:collect") Q E s':=by
   rintro s' ⟨h',tk,acc,c',rfl,hk,hS',hacc⟩
   show wpAny _ A (load s.heap.objs.size >>= _) _ _ _;refine JP (JU hS' ?_);exact JT (hQ h' tk acc hk hacc)
  cases fin with
  |done f=>
   obtain⟨e,h⟩:=h;cases e;exact fin' _ h
  |again c'=>exact⟨h.1,J8 h.2 fun r s'' hr=>by obtain⟨rfl,h⟩:=hr;exact fin' _ h⟩
 ·exact absurd h.1 (by simp)
theorem oh:plainId "tuple.__new__" = true:=by decide +kernel
theorem l5{Q₁:Value->Shared->Prop}{r:Addr}{a b c:Int}{t u v:Tok}{n:Nat}(hh:A.handled=none)(hr:IsRange s.heap r a b c t u v)(hsmall:Builtin.Range.small a b c=true)
  (hn:Builtin.Range.rangeSize a b c=n) (hlen:n<=2^20)
  (h:∀(h':Heap) (tk:Nat) (acc:Array Value),(∀b o',s.heap.get? b=some o'->h'.get? b=some o')->ItemsOf (fun i v=>∃t,v=.int (a+i*c) t) acc n->Q₁ (.ref h'.objs.size) {s with heap:=h'.push {cls:=.type "tuple",data:=.seq acc},toks:=tk}) :
  codeAny (model prog w) A (.call (.builtin "tuple.__new__") ⟨[.type "tuple",.ref r],[]⟩) (wants Q₁ E) s:=by
 refine Lf ?_;show wpAny _ A.in1 (do checkBuiltinCall "tuple.__new__" ⟨[.type "tuple",.ref r],[]⟩;again (.builtin "tuple.__new__" ⟨[.type "tuple",.ref r],[]⟩)) _ _ s;refine JP (Li (PySem.F.newCall_tuple_1 _) (JT ⟨Md oh _,Ma PySem.F.entry_tuple_new ?_⟩));rw[Mb oh _];have hsub:=sub_tuple_self;have hinit:=init_tuple_lookup;have hmh:=madeHere_tuple;have hTI:s.TypeIs (.ref r) "range" := ⟨_,hr,rfl⟩
 wp_walk using KH hTI,pf (n:=n) (show A.in1.handled=none from hh) hr hsmall hn (by omega)
 intro h' tk acc hm hacc;show wpAny _ _ (Builtin.Tuple.tupleExact acc.toList.toArray >>= fun v=>ret v) _ _ _;unfold Builtin.Tuple.tupleExact;have hsz:n<=sizeLine:=by rw[J5];omega
 refine JP (KL ?_ (by show acc.toList.toArray.size<=sizeLine;simp only[Array.toArray_toList];rw[hacc.1];exact hsz));refine JT ?_;have e:acc.toList.toArray=acc:=by simp
 rw[e];exact h h' tk acc hm hacc
theorem l6{Q:Value->Shared->Prop}{r:Addr}{a b c:Int}{t u v:Tok}{n:Nat}(hh:A.handled=none)(hr:IsRange s.heap r a b c t u v)(hsmall:Builtin.Range.small a b c=true)
  (hn:Builtin.Range.rangeSize a b c=n) (hlen:n<=2^20)
  (hQ:∀(h':Heap) (tk:Nat) (acc:Array Value),(∀b o',s.heap.get? b=some o'->h'.get? b=some o')->ItemsOf (fun i v=>∃t,v=.int (a+i*c) t) acc n->Q (.ref h'.objs.size) {s with heap:=h'.push {cls:=.type "tuple",data:=.seq acc},toks:=tk}) :
  wpAny (model prog w) A (call (.type "tuple") [.ref r]) Q E s:=by
 refine callType_codes (Q₁:=fun obj s₁=>s₁.TypeIs obj "tuple" /\ Q obj s₁) NF (PySem.F.typeCall_tuple_1 _) PySem.F.entry_object_init
  (l5 (A:=A.in1) hh hr hsmall hn hlen fun h' tk acc hm hacc=>⟨⟨_,JX _ rfl,rfl⟩,hQ h' tk acc hm hacc⟩) fun obj s₁ h₁=>?_
 exact⟨h₁.1,PySem.F.args_object_init_2 obj _,object_init_meets NF.init.lookup NF.made (by decide) prog w A.in1 _ s₁ ⟨h₁.1,rfl,h₁.2⟩⟩
end
end L2
namespace L2
open PySem PySem.Spec PyProof.Rows RS
section
variable{X:Cx}{p:Pa}{a:Expr}{fr:MA}
def GV:List V->Hp->VK->Prop:=fun xs H Q=>∃(r:Addr)(j:Int),xs=[.ref r]/\H r=some (.rng 0 j)/\-(2^62)<=j/\j<=2^20/\∀l,H l=none->Q (.ref l) (cG H l (.tup ((List.range j.toNat).map fun(i:Nat)=>V.int (i:Int))))
theorem xY (hc:X.calm=true):bY X (.type "tuple") GV:=by
 intro pins s σ H xs us Q I r h;obtain⟨r0,j,rfl,ha,j1,j2,q⟩:=h;obtain⟨u,rfl,ru⟩:=dk r;cases ru;obtain⟨t,u,v,hr⟩:=(show dq X.prog X.w H s.heap r0 (.rng 0 j) from I.hok r0 _ ha);have hn:Builtin.Range.rangeSize 0 j 1=((j.toNat:Nat):Int):=by rw[rangeSize_one];split <;> omega
 refine l6 (n:=j.toNat) (I.ok.hd hc) hr (small_one (by omega) (by omega) (by omega) (by omega)) hn (by omega) fun h' tk acc' hk hit=>?_
 have hv:aX ((List.range j.toNat).map fun(i:Nat)=>V.int (i:Int)) acc'.toList:=by
  obtain⟨e1,e2⟩:=hit;refine ko (by simp[e1]) fun i x u h1 h2=>?_;rw[Kh]at h1
  have hi:i<j.toNat:=by
   have:=(JG.mp h2).1;simp[e1]at this;omega
  rw[Mw hi]at h1;cases h1;obtain⟨t,rfl⟩:=e2 i u (by simpa using h2);exact⟨t,by simp⟩
 have hz:((List.range j.toNat).map fun(i:Nat)=>V.int (i:Int)).length<=sizeLine:=by
  have:(sizeLine:Nat)=16777216:=J5;simp only[Kk,Lo];omega
 have I1:aS X pins σ H {s with heap:=h',toks:=tk}:=I.kept (t':=tk) hk
 have I2:aS X pins σ (cG H h'.objs.size (.tup ((List.range j.toNat).map fun(i:Nat)=>V.int (i:Int)))) {s with heap:=h'.push {cls:=.type "tuple",data:=.seq acc'.toList.toArray},toks:=tk}:=
  I1.laid (t':=tk) (fun b o e=>JW _ e) (JY _) (show dq X.prog X.w _ _ _ (.tup _) from⟨hz,acc'.toList,hv,KQ _ _⟩)
 rw[Array.toArray_toList]at I2;exact⟨.ref h'.objs.size,_,I2,rfl,q _ (I1.hok.fresh (JY _))⟩
def pG(ds:List D)(μ:au):af D:=match ds with
 |[.int j]=>if -(2^62)<=j/\j<=2^20 then .ok (.tup (cJ 0 j.toNat)) μ else .bad
 |_=>.bad
theorem uo:bootBuiltins "tuple" = some (.type "tuple"):=by decide +kernel
theorem BA {pl pr pos p1:Pos} (hc:X.calm=true) (hg:Gl X "range") (hm:X.mg "range" = none) (hgl:Gl X "tuple") (hml:X.mg "tuple" = none) (ha:PA X [a] (l8 p fr)) (hs:starEach [a] X.env=[(false,eval a X.env)]) :
  PE X (.Call (.Name "tuple" pl) [.Call (.Name "range" pr) [a] [] p1] [] pos) (tD p (aF pG fr)):=by
 refine(lN (T:="tuple") (xY hc) hgl hml uo (kN (pT hg hm ha hs) qx rfl) (by decide) (by decide) rfl rfl).weak fun σ H Q ⟨α,ρ,μ,S,R,P⟩=>⟨α,ρ,μ,S,R,(aC.bind P).imp fun ds μ1 H1 α1 X1 S1 P1 vs rv=>?_⟩;unfold pG at P1;split at P1
 ·rename_i j;obtain⟨v,rfl,r1⟩:=rv.one;split at P1
  ·rename_i hj;refine⟨j,by rw[ak.mp r1],fun r0 hr=>?_⟩;refine⟨r0,j,rfl,bO,hj.1,hj.2,fun l hl=>?_⟩;have S2:p.S (cG H1 r0 (.rng 0 j)) α1 μ1:=S1.same (bx hr) fun a ha=>bK fun z=>ha (by rw[z];exact hr);exact P1 _ _ ((bx hr).trans (bx hl)) (S2.tuple hl) _ (aD.mpr ⟨l,_,rfl,fu.of bO,sR j.toNat⟩)
  ·exact P1.elim
 ·exact P1.elim
theorem DQ {pl pr p1 pos:Pos} (hm:X.mg "range" = none) (hml:X.mg "tuple" = none) (ha:Bx (PA X [a] (l8 p fr))) (hc:X.calm=true:=by rfl) (hg:Gl X "range" := by rfl) (hgl:Gl X "tuple" := by rfl) (hs:starEach [a] X.env=[(false,eval a X.env)]:=by rfl):Bx (PE X (.Call (.Name "tuple" pl) [.Call (.Name "range" pr) [a] [] p1] [] pos) (tD p (aF pG fr))):=⟨BA hc hg hm hgl hml ha.h hs⟩
end
end L2
namespace RS
open PySem PySem.W PyProof.Rows
section
variable{prog:Program}{w:World}{A:Around}{E:Value->Shared->Prop}{s:Shared}
theorem rK:entryFor table "set.__eq__" = some Builtin.«frozenset.__eq__»:=
 entryFor_alias (id':="frozenset.__eq__") (by kernel_rfl) rfl (by decide +kernel) (by kernel_rfl)
theorem kz:isSubtype (.type "set") (.type "frozenset")=pure false:=by rw[Me];kernel_rfl
theorem jJ {a:Addr}{ps:List (Int×Value)}{o es ep t Z} (S:bJ w s.heap a ps o es ep t Z):s.TypeIs (.ref a) "set" := ⟨o,S.ho,S.ex.1⟩
theorem pP{a:Addr}{k:Int}{tk:Tok}{ps0:List (Int×Value)}{o es ep t Z}(S:bJ w s.heap a ps0 o es ep t Z){Q:ScanMet->Shared->Prop} :
  ∀(l:List (Int×Value))(n:Nat),(∀e∈l,∃p:KI,e=ip p/\p.1∈ins)->k∈ins->((∃e∈l,e.1=hashInt k)->∀i,Q (.found i) s)->((∀e∈l,e.1≠hashInt k)->Q .absent s)->wpAny (model prog w) A (setScanFrom a (.int k tk) (hashInt k) false l n) Q E s
 |[],n,_,_,h1,h2=>by
  unfold setScanFrom;exact JT (h2 fun e he=>by simp at he)
 |e::l,n,hl,hk,h1,h2=>by
  obtain⟨p,rfl,hp⟩:=hl e JA;show wpAny _ _ (setScanFrom a _ _ false ((hashInt p.1,Value.int p.1 p.2)::l) n) _ _ _;unfold setScanFrom;by_cases he:hashInt p.1=hashInt k
  ·rw[Jo (by simpa using he)];have ek:=jM hp hk he;refine JP (m:=setEpoch a) (MV S.ho S.hd S.fits ?_);refine JP (Jn ?_);rw[ek];simp only[K8,JV,K9,Kt];refine JP (m:=setEpoch a) (MV S.ho S.hd S.fits ?_);simp only[MN,K9,Kt,Ku];exact JT (h1 ⟨_,JA,he⟩ _)
  ·rw [Jp (by simpa using he)];refine pP S l (n+1) (fun x hx=>hl x (JB _ hx)) hk (fun⟨x,hx,ex⟩=>h1 ⟨x,JB _ hx,ex⟩) fun hx=>h2 fun x hxm=>?_;rcases JC.mp hxm with z|z
   ·rw[z];exact he
   ·exact hx x z
theorem kQ{a:Addr}{ps:List KI}{o es ep t Z}(S:bJ w s.heap a (ps.map ip) o es ep t Z):∀e∈es.toList,∃p∈ps,e=ip p:=fun e he=>by
 rw[S.tab.ents]at he;obtain⟨p,hp,q⟩:=Lz.mp (S.perm.mem_iff.mp he);exact⟨p,hp,q.symm⟩
theorem CK{a:Addr}{ps:List KI}{o es ep t Z}(S:bJ w s.heap a (ps.map ip) o es ep t Z):∀p∈ps,ip p∈es.toList:=fun p hp=>by
 rw[S.tab.ents];exact S.perm.mem_iff.mpr (LF hp)
theorem fC{a:Addr}{ps:List KI}{o es ep t Z}(S:bJ w s.heap a (ps.map ip) o es ep t Z):es.size=ps.length:=by rw[S.tab.size.2,S.len,Kk]
theorem Av{a:Addr}{k:Int}{tk:Tok}{ps:List KI}{o es ep t Z}{Q:Option Nat->Shared->Prop}(S:bJ w s.heap a (ps.map ip) o es ep t Z)(hk0:∀p∈ps,p.1∈ins)(hn0:(ps.map (·.1)).Nodup)(hk:k∈ins)
  (h1:k∈ps.map (·.1)->∀i,Q (some i) s) (h2:k∉ps.map (·.1)->Q none s):wpAny (model prog w) A (setFind a (.int k tk) (hashInt k)) Q E s:=by
 have hlen6:=iu hk0 hn0;have hesz0:=fC S;show wpAny (model prog w) A (setFindIn a (.int k tk) (hashInt k) (99999+1)) Q E s;unfold setFindIn;refine JP (L1 S.ho S.hd S.fits ?_);dsimp only
 have hsc:byScan (Value.int k tk) es=true:=by
  unfold byScan;have h1:decide (es.size<scanBound)=true:=K5 (by rw[hesz0];unfold scanBound;omega)
  have h2:es.all (fun x=>x.2.scannable)=true:=by
   rw[<- Array.all_toList,LY];intro e he;obtain⟨p,_,rfl⟩:=kQ S e he;rfl
  rw[h1,h2];rfl
 rw[hsc];simp only[Ku];refine JP (Lh ?_);refine JP ?_;show wpAny _ _ (setScanFrom a (.int k tk) (hashInt k) false es.toList 0) _ _ _;refine pP S es.toList 0 (fun e he=>by obtain⟨p,hp,e'⟩:=kQ S e he;exact⟨p,e',hk0 p hp⟩) hk (fun hex i=>?_) fun hno=>?_
 ·obtain⟨e,he,q⟩:=hex;obtain⟨p,hp,rfl⟩:=kQ S e he;have ek:p.1=k:=jM (hk0 p hp) hk q;exact JT (h1 (by rw[<- ek];exact LF hp) i)
 ·exact JT (h2 fun hx=>by
   obtain⟨p,hp,e⟩:=Lz.mp hx
   exact hno _ (CK S p hp) (by rw[<- e];rfl))
theorem me{M:Model}{α β:Type}{f:α->β->Sem (ForInStep β)}{st:β}{Q:β->Shared->Prop}:∀{l:List α},(∀e∈l,∀Q:ForInStep β->Shared->Prop,Q (.yield st) s->wpAny M A (f e st) Q E s)->Q st s->wpAny M A (forIn l st f) Q E s
 |[],_,h=>by rw[List.forIn_nil];exact JT h
 |e::l,hf,h=>by
  rw[K7];refine JP (hf e JA _ ?_);dsimp only;exact me (fun x hx=>hf x (JB _ hx)) h
theorem xp{k:Int}{tk:Tok}{Q:Bool->Shared->Prop}(h:Q true s):wpAny (model prog w) A (Builtin.Frozenset.quietEq (.int k tk)) Q E s:=by
 unfold Builtin.Frozenset.quietEq;exact JT h
theorem xa{a b:Addr}{ps qs:List KI}{o es ep t Z o' es' ep' t' Z'}{Q:List (Int×Value)->Shared->Prop}(S:bJ w s.heap a (ps.map ip) o es ep t Z)(S':bJ w s.heap b (qs.map ip) o' es' ep' t' Z')
  (h:Q es.toList s):wpAny (model prog w) A (Builtin.Frozenset.walkUnseen a b) Q E s:=by
 unfold Builtin.Frozenset.walkUnseen;refine JP (MU S.ho S.hd S.fits ?_);refine JP (MU S'.ho S'.hd S'.fits ?_);refine JP (me (fun e he Q' hq=>?_) ?_)
 ·obtain⟨p,rfl⟩:∃p:KI,e=ip p:=by
   rcases JE.mp he with z|z
   ·obtain⟨p,_,e⟩:=kQ S e z;exact⟨p,e⟩
   ·obtain⟨p,_,e⟩:=kQ S' e z;exact⟨p,e⟩
  refine JP (xp (k:=p.1) (tk:=p.2) ?_);simp only[LZ,K9,Kt];exact JT hq
 ·exact JT h
theorem sJ{a b:Addr}{id:String}{ep:Nat}{ps0:List (Int×Value)}{qs:List KI}{o es t Z o' es' ep' t' Z'}{Q:Option Bool×Unit->Shared->Prop}(S:bJ w s.heap a ps0 o es ep t Z)(S':bJ w s.heap b (qs.map ip) o' es' ep' t' Z')(hk':∀p∈qs,p.1∈ins)(hn':(qs.map (·.1)).Nodup) :
  ∀ks:List KI,(∀p∈ks,p.1∈ins)->Q (if (ks.all fun p=>decide (p.1∈qs.map (·.1)))=true then (none,()) else (some false,())) s ->
  wpAny (model prog w) A (forIn (ks.map ip) ((none,()):Option Bool×Unit) fun x __s=>
      match x with
      |(h,x)=>do
       let __do_lift <- holding [x] (setFind b x h)
       if __do_lift.isNone=true then pure (ForInStep.done (some false,()))
        else do
         Builtin.Frozenset.unchanged id a ep
         pure (ForInStep.yield (none,()))) Q E s
 |[],_,h=>by rw[KM,List.forIn_nil];exact JT h
 |p::ks,hk,h=>by
  rw[KN,K7];refine JP ?_;show wpAny (model prog w) A (holding [Value.int p.1 p.2] (setFind b (Value.int p.1 p.2) (hashInt p.1)) >>= _) _ _ _;rw[Nt]at h;refine JP (JQ (Av S' hk' hn' (hk p JA) (fun hin i=>?_) fun hno=>?_))
  ·rw[K5 hin,NG]at h;simp only[Option.isNone_some,K9,Kt];refine JP (m:=Builtin.Frozenset.unchanged id a ep) (JP (m:=setEpoch a) (MV S.ho S.hd S.fits ?_));simp only[MN,K9,Kt];refine JT (JT ?_);exact sJ S S' hk' hn' ks (fun x hx=>hk x (JB _ hx)) h
  ·rw[Jl hno,JV,Jp J4]at h;simp only[Option.isNone_none,Ku];exact JT (JT h)
theorem xc{id:String}{a b:Addr}{ps qs:List KI}{o es ep t Z o' es' ep' t' Z'}{Q:Bool->Shared->Prop}(S:bJ w s.heap a (ps.map ip) o es ep t Z)(S':bJ w s.heap b (qs.map ip) o' es' ep' t' Z')
  (hk:∀p∈ps,p.1∈ins) (hk':∀p∈qs,p.1∈ins) (hn':(qs.map (·.1)).Nodup) (hl:ps.length=qs.length)
  (h:Q (ps.all fun p=>decide (p.1∈qs.map (·.1))) s):wpAny (model prog w) A (Builtin.Frozenset.subsetOf id a b) Q E s:=by
 unfold Builtin.Frozenset.subsetOf;refine JP (m:=Builtin.Frozenset.sizeOf a) (JP (MU S.ho S.hd S.fits (JT ?_)));refine JP (m:=Builtin.Frozenset.sizeOf b) (JP (MU S'.ho S'.hd S'.fits (JT ?_)));rw[Jp (by rw[fC S,fC S'];omega)];refine JP (m:=setEpoch a) (MV S.ho S.hd S.fits ?_);refine JP (xa S S' ?_);have hp:es.toList.Perm (ps.map ip):=by rw[S.tab.ents];exact S.perm
 obtain⟨ks,q1,q2⟩:=iV hp ps rfl;rw[q2];refine JP (sJ S S' hk' hn' ks (fun p hp=>hk p (q1.mem_iff.mp hp)) ?_)
 have e:(ks.all fun p=>decide (p.1∈qs.map (·.1)))=ps.all fun p=>decide (p.1∈qs.map (·.1)):=by
  apply J3.mpr;rw[LY,LY];exact⟨fun z p hp=>z p (q1.mem_iff.mpr hp),fun z p hp=>z p (q1.mem_iff.mp hp)⟩
 rw[e];cases hc:(ps.all fun p=>decide (p.1∈qs.map (·.1))) with
 |true=>rw[hc]at h;exact JT h
 |false=>rw[hc]at h;exact JT h
theorem CJ{a b:Addr}{ps qs:List KI}{Q:PySem.Fin->Shared->Prop}(Sa:bE w s.heap a ps)(Sb:bE w s.heap b qs)
  (h:Q (.done (.ret (.bool (decide (ps.length=qs.length)&&ps.all fun p=>decide (p.1∈qs.map (·.1)))))) s) :
  wpAny (model prog w) A (Builtin.«frozenset.__eq__» ⟨[.ref a,.ref b],[]⟩) Q E s:=by
 obtain⟨o,es,ep,t,Z,S,hk,hn⟩:=Sa;obtain⟨o',es',ep',t',Z',S',hk',hn'⟩:=Sb;show wpAny (model prog w) A (Builtin.Frozenset.slot1 "__eq__" ⟨[.ref a,.ref b],[]⟩ >>= _) Q E s;refine JP (m:=Builtin.Frozenset.slot1 "__eq__" ⟨[.ref a,.ref b],[]⟩) (Li (a:=(.ref a,.ref b)) rfl ?_);dsimp only;refine JP (m:=Builtin.Frozenset.isAnySet (.ref b)) ?_;unfold Builtin.Frozenset.isAnySet;show wpAny (model prog w) A (isInstance (.ref b) (.type "set") >>= _) _ _ _;refine JP (MX (jJ S') sub_set_self ?_);refine JT ?_;simp only[LZ,K9,Kt];refine JP (m:=Builtin.Frozenset.addrOf (.ref a)) (JT ?_);refine JP (m:=Builtin.Frozenset.addrOf (.ref b)) (JT ?_);refine JP (m:=Builtin.Frozenset.sizeOf a) (JP (MU S.ho S.hd S.fits (JT ?_)));refine JP (m:=Builtin.Frozenset.sizeOf b) (JP (MU S'.ho S'.hd S'.fits (JT ?_)));by_cases hl:ps.length=qs.length
 ·rw[Jp (by rw[fC S,fC S',hl];simp)];rw[K5 hl,NG]at h;refine JP (JP ?_);show wpAny (model prog w) A (isInstance (.ref a) (.type "frozenset") >>= _) _ _ _;refine JP (MX (jJ S) kz ?_);refine JT ?_;rw[Jp J4];exact xc S S' hk hk' hn' hl (JT h)
 ·rw[Jo (by rw[fC S,fC S'];simpa using hl)];rw[Jl hl,JV]at h;exact JP (JT (JT h))
theorem CI{a b:Addr}{ps qs:List KI}{Q:Value->Shared->Prop}(Sa:bE w s.heap a ps)(Sb:bE w s.heap b qs)(hu:A.units<cLine)
  (h:Q (.bool (decide (ps.length=qs.length)&&ps.all fun p=>decide (p.1∈qs.map (·.1)))) s):wpAny (model prog w) A (richCompare .Eq (.ref a) (.ref b)) Q E s:=by
 have ha:s.TypeIs (.ref a) "set" := by obtain⟨o,es,ep,t,Z,S,_⟩:=id Sa;exact jJ S
 have hb:s.TypeIs (.ref b) "set" := by obtain⟨o,es,ep,t,Z,S,_⟩:=id Sb;exact jJ S
 refine wpAny_richCompare_same_room ha hb PySem.F.slot_set_eq (KE PySem.F.slot_set_eq ha rK ?_ (PySem.F.args_set_eq_2 _ _)) hu;exact CJ Sa Sb ⟨_,rfl,by simp,h⟩
end
end RS
namespace L2
open PySem PySem.Spec PyProof.Rows RS
section
variable{X:Cx}
def Gi(w:World):R2:=fun x y H Q=>∃a b ps qs,x=.ref a/\y=.ref b/\H a=some (.ext fun h=>bE w h a ps)/\H b=some (.ext fun h=>bE w h b qs)/\Q (.bl (decide (ps.length=qs.length)&&ps.all fun p=>decide (p.1∈qs.map (·.1)))) H
theorem E4(hu:X.A.units+64<cLine):iZ X (compareOp .Eq) (Gi X.w):=by
 intro pins s σ H x y u v Q I rx ry h;obtain⟨a,b,ps,qs,rfl,rfl,ha,hb,q⟩:=h;cases rx;cases ry;obtain⟨Sa,_⟩:=(show dq X.prog X.w H s.heap a (.ext fun h=>bE X.w h a ps) from I.hok a _ ha);obtain⟨Sb,_⟩:=(show dq X.prog X.w H s.heap b (.ext fun h=>bE X.w h b qs) from I.hok b _ hb);exact CI Sa Sb (by omega) ⟨.bl _,H,I,rfl,q⟩
end
def w6(x y:D)(μ:au):af D:=match x,y with
 |.obj m,.obj n=>match μ[m]?,μ[n]? with
  |some (.iset ks),some (.iset ls)=>.ok (.bl (decide (ks.length=ls.length)&&ks.all fun k=>decide (k∈ls))) μ
  |_,_=>jU false x y μ
 |_,_=>jU false x y μ
theorem Fi{p:Pa}:qp p w6 (fun x y H Q=>Gi p.w x y H Q\/uC p.K false x y H Q):=by
 intro a b v y H α μ Q S ra rb P;unfold w6 at P;split at P
 ·rename_i m n;split at P
  ·rename_i ks ls hm hn;obtain⟨a1,ea,ps,e1,e2,e3⟩:=S.at hm;obtain⟨b1,eb,qs,f1,f2,f3⟩:=S.at hn;obtain⟨a',rfl,ea'⟩:=aN.mp ra;obtain⟨b',rfl,eb'⟩:=aN.mp rb;rw[ea]at ea';cases ea';rw[eb]at eb';cases eb';refine .inl ⟨a1,b1,ps,qs,rfl,rfl,e2,f2,?_⟩
   have:(decide (ps.length=qs.length)&&ps.all fun p=>decide (p.1∈qs.map (·.1)))=(decide (ks.length=ls.length)&&ks.all fun k=>decide (k∈ls)):=by
    rw[<- e1,<- f1,Kk,Kk,Nu];rfl
   rw[this];exact P.now S _ (aU.mpr rfl)
  ·exact .inr (sk _ _ _ _ _ _ _ _ S ra rb P)
 ·exact .inr (sk _ _ _ _ _ _ _ _ S ra rb P)
theorem Hg{X:Cx}{p:Pa}(hu:X.A.units+64<cLine)(hK:X.K=p.K:=by rfl)(hw:X.w=p.w:=by rfl):mF X p .Eq w6:=⟨_,fun pins s σ H x y u v Q I rx ry h=>h.elim (fun z=>E4 hu pins s σ H x y u v Q I rx ry (hw ▸ z)) fun z=>uP hu pins s σ H x y u v Q I rx ry (hK ▸ z),Fi⟩
end L2
namespace L2
open PySem PySem.Spec PyProof.Rows RS
def Gj(K:W.Frag):R2:=fun x y H Q=>∃a b xs,x=.ref a/\y=.ref b/\fu K H a xs/\fu K H b []/\Q (.bl xs.isEmpty) H
theorem E5{X:Cx}(hu:X.A.units+64<cLine):iZ X (compareOp .Eq) (Gj X.K):=by
 intro pins s σ H x y u v Q I rx ry h;obtain⟨a,b,xs,rfl,rfl,ha,hb,q⟩:=h;cases rx;cases ry;obtain⟨its,rv,pl,_⟩:=I.tuple ha;obtain⟨its',rv',pl',_⟩:=I.tuple hb;cases rv'
 have hs:(its.toArray.size == ([]:List Value).toArray.size)=xs.isEmpty:=by
  have:=rv.length;cases xs with
  |nil=>cases rv;rfl
  |cons x r=>cases rv with
   |cons _ _=>rfl
 refine SeqAt.RcAt.tuples (e:=fun _=>true) pl pl' (by omega) (fun j h1 h2=>absurd h2 (Nat.not_lt_zero _)) X.prog X.w X.xe _ ?_;rw[hs,show (List.range (min its.toArray.size ([]:List Value).toArray.size)).all (fun _=>true)=true from by simp,NG];exact⟨.bl _,H,I,rfl,q⟩
def yA(x y:D)(μ:au):af D:=match x,y with
 |.tup xs,.tup []=>.ok (.bl xs.isEmpty) μ
 |x,y=>jU false x y μ
theorem Fj{p:Pa}:qp p yA (fun x y H Q=>Gj p.K x y H Q\/uC p.K false x y H Q):=by
 intro a b v y H α μ Q S ra rb P;unfold yA at P;split at P
 ·rename_i xs;obtain⟨a,us,rfl,h1,rr⟩:=aD.mp ra;obtain⟨b,ws,rfl,h2,rr'⟩:=aD.mp rb;have:ws=[]:=by simpa only[Reps] using rr'
  subst this;refine .inl ⟨a,b,us,rfl,rfl,h1,h2,?_⟩;rw[rr.isEmpty];exact P.now S _ (aU.mpr rfl)
 ·exact .inr (sk _ _ _ _ _ _ _ _ S ra rb P)
theorem Hh{X:Cx}{p:Pa}(hu:X.A.units+64<cLine)(hK:X.K=p.K:=by rfl):mF X p .Eq yA:=⟨_,fun pins s σ H x y u v Q I rx ry h=>h.elim (fun z=>E5 hu pins s σ H x y u v Q I rx ry (hK ▸ z)) fun z=>uP hu pins s σ H x y u v Q I rx ry (hK ▸ z),Fj⟩
end L2
namespace Lw
open PySem L2
section
variable{P:Program}{w:World}{K:W.Frag}{mg:Str->Option Value}{base:Heap}
structure Nm(mg:Str->Option Value):Prop where
 all:mg "all" = none
 any:mg "any" = none
 bool:mg "bool" = none
 int:mg "int" = none
 isinstance:mg "isinstance" = none
 len:mg "len" = none
 list:mg "list" = none
 max:mg "max" = none
 min:mg "min" = none
 range:mg "range" = none
 repr:mg "repr" = none
 set:mg "set" = none
 sorted:mg "sorted" = none
 tuple:mg "tuple" = none
theorem ud:aW ["thing"] ["thing"] (ar gX):=⟨rfl,rfl,rfl,by decide +kernel,rfl,by decide +kernel,by decide +kernel⟩
def oz:MS:=cI (j4 (rS (gf "int") (aj 0)) (sD (rS (gf "bool") (aj 0))))
def gD:List D->au->af D:=jc 1 1 oz
theorem lW:aW ["thing", "least", "most"] ["thing", "least", "most"] (ar dM):=⟨rfl,rfl,rfl,by decide +kernel,rfl,by decide +kernel,by decide +kernel⟩
def i9:MS:=cI (j4 (aF gD (ah (aj 0) (aH))) (nM (kf .LtE) (kf .LtE) (aj 1) (aj 0) (aj 2)))
def dh:List D->au->af D:=jc 3 3 i9
theorem ue:aW ["many", "thing"] ["many", "thing"] (ar gY):=⟨rfl,rfl,rfl,by decide +kernel,rfl,by decide +kernel,by decide +kernel⟩
def oA:MS:=cI (aF dh (ah (aj 1) (ah (cC (.int 0)) (ah (aM nq (aj 0) (cC (.int 1))) (aH)))))
def gE:List D->au->af D:=jc 2 2 oA
theorem rB:aW ["many", "thing"] ["many", "thing"] (ar ff):=⟨rfl,rfl,rfl,by decide +kernel,rfl,by decide +kernel,by decide +kernel⟩
theorem oH:(["place", "many"]:List Str).Nodup:=by decide +kernel
def j7:ME:=aF gE (ah (aj 1) (ah (aj 0) (aH)))
def mv:MS:=cI (j4 (rS (gf "tuple") (aj 1)) (aF mC (ah (cX (fA (aj 1)) [none,some 0] (ao 0) (cW) (j7)) (aH))))
def fT:List D->au->af D:=jc 2 2 mv
theorem rA:aW ["things"] ["things"] (ar fe):=⟨rfl,rfl,rfl,by decide +kernel,rfl,by decide +kernel,by decide +kernel⟩
theorem oG:(["at", "things"]:List Str).Nodup:=by decide +kernel
def fM:ME:=aM (kf .Lt) (aM gJ (aj 1) (aM nq (aj 0) (cC (.int 1)))) (aM gJ (aj 1) (aj 0))
def mr:MS:=cI (aF mC (ah (cX (kF wQ (ah (cC (.int 1)) (ah (aF ke (ah (aj 0) (aH))) (aH)))) [none,some 0] (ao 0) (cW) (fM)) (aH)))
def fS:List D->au->af D:=jc 1 1 mr
theorem jQ:aW ["many", "thing"] ["many", "thing"] (ar cL):=⟨rfl,rfl,rfl,by decide +kernel,rfl,by decide +kernel,by decide +kernel⟩
def gH:MS:=cI (j4 (aF fT (ah (aj 0) (ah (aj 1) (aH)))) (j4 (aM (kf .Gt) (aF ke (ah (aj 1) (aH))) (cC (.int 0))) (aF fS (ah (aj 1) (aH)))))
def cn:List D->au->af D:=jc 2 2 gH
theorem ve:aW ["web", "one", "other"] ["web", "one", "other"] (ar iR):=⟨rfl,rfl,rfl,by decide +kernel,rfl,by decide +kernel,by decide +kernel⟩
def qm:MS:=cI (aM (rR false) (hV (ah (aF uF (ah (aj 1) (ah (aj 2) (aH)))) (ah (aF qr (ah (aj 1) (ah (aj 2) (aH)))) (aH)))) (aM gJ (aj 0) (cC (.int 1))))
def fD:List D->au->af D:=jc 3 3 qm
theorem rq:aW ["web", "thing"] ["web", "thing"] (ar eZ):=⟨rfl,rfl,rfl,by decide +kernel,rfl,by decide +kernel,by decide +kernel⟩
theorem jt:(["a", "b", "web", "thing"]:List Str).Nodup:=by decide +kernel
def ic:ME:=aF fD (ah (aj 2) (ah (aj 0) (ah (aj 1) (aH))))
def ia:MT:=lx (aM (kf .Lt) (aj 0) (aj 1))
def fL:MB:=nJ (fA (aj 3)) (ao 1) (ia) (nD (ic))
def mq:MS:=bG (rP (iq (kg (aF cn (ah (aM gJ (aj 0) (cC (.int 0))) (ah (aj 1) (aH)))))) (cI (cC (.bl false))) (fx))
 (cI (aF mC (ah (lK (fA (aj 1)) [none,none,some 0,some 1] (ao 0) (cW) (fL)) (aH))))
def fR:List D->au->af D:=jc 2 2 mq
theorem rC:aW ["web", "knot", "place"] ["web", "knot", "place"] (ar fg):=⟨rfl,rfl,rfl,by decide +kernel,rfl,by decide +kernel,by decide +kernel⟩
theorem oI:(["other", "web", "place"]:List Str).Nodup:=by decide +kernel
def ie:ME:=aF fD (ah (aj 1) (ah (aj 0) (ah (aj 2) (aH))))
def mw:MS:=cI (aF mC (ah (cX (fA (aj 1)) [none,some 0,some 2] (ao 0) (cW) (ie)) (aH)))
def dC:List D->au->af D:=jc 3 3 mw
theorem gZ:aW ["web", "knots", "place"] ["web"] (ar fQ):=⟨rfl,rfl,rfl,by decide +kernel,rfl,by decide +kernel,by decide +kernel⟩
theorem pb:(["knot", "place", "web"]:List Str).Nodup:=by decide +kernel
def iX:ME:=aM cw (aj 0) (hV (ah (aj 1) (aH)))
def iW:MT:=kg (aF dC (ah (aj 2) (ah (aj 0) (ah (aj 1) (aH)))))
def fj:MS:=cH (aM cw (aM cw (aj 1) (jf (ah (hV (ah (aj 2) (aH))) (aH)))) (cX (fA (aj 1)) [none,some 2,some 0] (ao 0) (iW) (iX))) (ao 1)
def oy:MS:=bG (cH (jf (aH)) (ao 1))
 (bG (lA (kF kd (ah (aM gJ (aj 0) (cC (.int 0))) (aH))) (ao 2) fj)
 (cI (aj 1)))
def eP:List D->au->af D:=jc 1 3 oy
theorem jr:aW ["web", "places"] ["web"] (ar dD):=⟨rfl,rfl,rfl,by decide +kernel,rfl,by decide +kernel,by decide +kernel⟩
theorem l4:(["knot", "web", "places"]:List Str).Nodup:=by decide +kernel
theorem l0:(["place", "web", "knot"]:List Str).Nodup:=by decide +kernel
def fY:ME:=aF dC (ah (aj 1) (ah (aj 2) (ah (aj 0) (aH))))
def i8:ME:=aj 0
def eE:MT:=iq (kg (aF uG (ah (cX (fA (aj 2)) [none,some 1,some 0] (ao 0) (cW) (fY)) (aH))))
def j8:MS:=bG (cH (aF lJ (ah (aM gJ (aj 0) (cC (.int 0))) (aH))) (ao 1))
 (cI (aF cR (ah (cX (fA (aF eP (ah (aj 0) (aH)))) [none,some 0,some 1] (ao 0) (eE) (i8)) (aH))))
def d6:List D->au->af D:=jc 1 2 j8
theorem oW:aW ["web"] ["web"] (ar fJ):=⟨rfl,rfl,rfl,by decide +kernel,rfl,by decide +kernel,by decide +kernel⟩
def lh:MS:=cI (aF ke (ah (aF eP (ah (aj 0) (aH))) (aH)))
def fk:List D->au->af D:=jc 1 1 lh
theorem mI:aW ["_law_script", "_law_k"] ["_law_script", "_law_k"] (ar eC):=⟨rfl,rfl,rfl,by decide +kernel,rfl,by decide +kernel,by decide +kernel⟩
def gG:MS:=bG (rP (lx (aM (kf .Lt) (aj 1) (aF ke (ah (aj 0) (aH))))) (cI (aM gJ (aj 0) (aj 1))) (fx))
 (cI (cC (.int 0)))
def dG:List D->au->af D:=jc 2 2 gG
theorem k8:aW ["_law_seed"] ["_law_seed"] (ar gm):=⟨rfl,rfl,rfl,by decide +kernel,rfl,by decide +kernel,by decide +kernel⟩
def mx:MS:=bG (cH (aM rZ (aM cw (aj 0) (cC (.int 7919))) (cC (.int 2147483647))) (ao 0))
 (cI (aM rZ (aM cw (aM cw (aM uE (aj 0) (aj 0)) (aM uE (cC (.int 48271)) (aj 0))) (cC (.int 12345))) (cC (.int 2147483629))))
def eS:List D->au->af D:=jc 1 1 mx
theorem js:aW ["_law_cell", "_law_left"] ["_law_cell"] (ar fm):=⟨rfl,rfl,rfl,by decide +kernel,rfl,by decide +kernel,by decide +kernel⟩
def ka:MS:=bG (cH (aF qr (ah (aj 0) (ah (aM nq (cC (.int 0)) (aj 0)) (aH)))) (ao 1))
 (cI (jf (ah (aj 1) (ah (aF sA (ah (aM (kf .GtE) (aj 1) (aM wX (cC (.int 10)) (cC (.int 18)))) (aH))) (ah (aM rZ (aj 1) (cC (.int 1000003))) (aH))))))
def d7:List D->au->af D:=jc 1 2 ka
theorem k9:aW ["_law_pen", "_law_many", "_law_found"] ["_law_pen", "_law_many"] (ar gn):=⟨rfl,rfl,rfl,by decide +kernel,rfl,by decide +kernel,by decide +kernel⟩
def jq:MS:=bG (rP (lx (aM (jU false) (aM gJ (aj 0) (cC (.int 1))) (cC (.int 1)))) (bG (cH (aM rZ (aM gJ (aj 0) (cC (.int 0))) (aj 1)) (ao 2))
 (bG (cH (aM sC (aM gJ (aj 0) (cC (.int 0))) (aj 1)) (sr (aj 0) (cC (.int 0))))
 (cI (aj 2)))) (fx))
 (bG (cH (aF eS (ah (aM cw (aF eS (ah (aM gJ (aj 0) (cC (.int 2))) (aH))) (cC (.int 7))) (aH))) (sr (aj 0) (cC (.int 2))))
 (cI (aM rZ (aM sC (aM gJ (aj 0) (cC (.int 2))) (cC (.int 64))) (aj 1))))
def aG:List D->au->af D:=jc 2 3 jq
theorem oX:aW ["_law_found"] ["_law_found"] (ar fK):=⟨rfl,rfl,rfl,by decide +kernel,rfl,by decide +kernel,by decide +kernel⟩
def rO:MS:=cI (j4 (rS (gf "int") (aj 0)) (sD (rS (gf "bool") (aj 0))))
def bT:List D->au->af D:=jc 1 1 rO
theorem oB:aW ["_law_many", "_law_ties"] ["_law_many", "_law_ties"] (ar dE):=⟨rfl,rfl,rfl,by decide +kernel,rfl,by decide +kernel,by decide +kernel⟩
theorem iD:(["_law_a", "_law_b"]:List Str).Nodup:=by decide +kernel
def fZ:ME:=hV (ah (aF uF (ah (aj 0) (ah (aj 1) (aH)))) (ah (aF qr (ah (aj 0) (ah (aj 1) (aH)))) (aH)))
def j9:MS:=cI (hV (ah (aj 0) (ah (aF iN (ah (aF cR (ah (aF mB (ah (cX (fA (aj 1)) [none,none] (pD 2 (hW (ao 0) (hW (ao 1) (pE)))) (cW) (fZ)) (aH))) (aH))) (aH))) (aH))))
def bq:List D->au->af D:=jc 2 2 j9
theorem cE:aW ["_law_pen", "_law_most", "_law_many", "_law_share", "_law_ties", "_law_one"] ["_law_pen", "_law_most"] (ar cD):=⟨rfl,rfl,rfl,by decide +kernel,rfl,by decide +kernel,by decide +kernel⟩
theorem jS:(["_law_other", "_law_one", "_law_pen", "_law_share"]:List Str).Nodup:=by decide +kernel
def c9:ME:=hV (ah (aj 0) (ah (aj 1) (aH)))
def c8:MT:=lx (aM (jU false) (aF aG (ah (aj 2) (ah (aj 3) (aH)))) (cC (.int 0)))
def cm:MS:=kI (AN eA (aj 4) (ah (cX (kF kd (ah (aj 5) (aH))) [none,some 5,some 0,some 3] (ao 0) (c8) (c9)) (aH)))
def iH:MS:=bG (cH (aM cw (cC (.int 1)) (aF aG (ah (aj 0) (ah (aj 1) (aH))))) (ao 2))
 (bG (cH (aM cw (cC (.int 2)) (aF aG (ah (aj 0) (ah (cC (.int 3)) (aH))))) (ao 3))
 (bG (cH (jf (aH)) (ao 4))
 (bG (lA (kF kd (ah (aj 2) (aH))) (ao 5) cm)
 (cI (aF bq (ah (aj 2) (ah (aj 4) (aH))))))))
def bX:List D->au->af D:=jc 2 6 iH
theorem mH:aW ["_law_web", "_law_place"] ["_law_web", "_law_place"] (ar df):=⟨rfl,rfl,rfl,by decide +kernel,rfl,by decide +kernel,by decide +kernel⟩
theorem g8:(["_law_a", "_law_b", "_law_place"]:List Str).Nodup:=by decide +kernel
def fI:ME:=aM nq (aM cw (aj 0) (aj 1)) (aj 2)
def fF:MT:=lx (aM (rR false) (aj 2) (hV (ah (aj 0) (ah (aj 1) (aH)))))
def jv:MS:=cI (cX (fA (aM gJ (aj 0) (cC (.int 1)))) [none,none,some 1] (pD 2 (hW (ao 0) (hW (ao 1) (pE)))) (fF) (fI))
def dF:List D->au->af D:=jc 2 2 jv
theorem cT:aW ["_law_web", "_law_ties", "_law_place", "_law_near", "_law_one"] ["_law_web"] (ar cS):=⟨rfl,rfl,rfl,by decide +kernel,rfl,by decide +kernel,by decide +kernel⟩
theorem kD:(["_law_other", "_law_one"]:List Str).Nodup:=by decide +kernel
def dy:ME:=hV (ah (aj 1) (ah (aj 0) (aH)))
def dt:MT:=lx (aM (kf .Lt) (aj 1) (aj 0))
def dw:MS:=kI (AN eA (aj 1) (ah (cX (fA (aj 3)) [none,some 4] (ao 0) (dt) (dy)) (aH)))
def dv:MS:=bG (cH (aF dF (ah (aj 0) (ah (aj 2) (aH)))) (ao 3))
 (lA (fA (aj 3)) (ao 4) dw)
def ja:MS:=bG (cH (aF i4 (ah (aM gJ (aj 0) (cC (.int 1))) (aH))) (ao 1))
 (bG (lA (kF kd (ah (aM gJ (aj 0) (cC (.int 0))) (aH))) (ao 2) dv)
 (cI (aF bq (ah (aM gJ (aj 0) (cC (.int 0))) (ah (aj 1) (aH))))))
def di:List D->au->af D:=jc 1 5 ja
theorem bC:aW ["_law_pen", "_law_most", "_law_web", "_law_way", "_law_one", "_law_pair", "_law_some"] ["_law_pen", "_law_most"] (ar dg):=⟨rfl,rfl,rfl,by decide +kernel,rfl,by decide +kernel,by decide +kernel⟩
theorem lr:(["_law_tie", "_law_pair"]:List Str).Nodup:=by decide +kernel
def dQ:ME:=aj 0
def dO:MT:=lx (aM (jU true) (aj 0) (aj 1))
def fq:MS:=bG (cH (aF bX (ah (aj 0) (ah (aj 1) (aH)))) (ao 2))
 (bG (cH (aF aG (ah (aj 0) (ah (cC (.int 4)) (aH)))) (ao 3))
 (bG (rP (lx (aM (jU false) (aj 3) (cC (.int 0)))) (cI (aj 2)) (fx))
 (bG (cH (aF di (ah (aj 2) (aH))) (ao 2))
 (bG (rP (pH (lx (aM (jU false) (aj 3) (cC (.int 3)))) (lx (aM (kf .Gt) (aM gJ (aj 2) (cC (.int 0))) (cC (.int 1))))) (bG (cH (aF aG (ah (aj 0) (ah (aM nq (aM gJ (aj 2) (cC (.int 0))) (cC (.int 1))) (aH)))) (ao 4))
 (bG (cH (hV (ah (aj 4) (ah (aM cw (aM cw (aj 4) (cC (.int 1))) (aF aG (ah (aj 0) (ah (aM nq (aM nq (aM gJ (aj 2) (cC (.int 0))) (cC (.int 1))) (aj 4)) (aH))))) (aH)))) (ao 5))
 (bG (cH (cX (fA (aM gJ (aj 2) (cC (.int 1)))) [none,some 5] (ao 0) (dO) (dQ)) (ao 6))
 (bG (rP (lx (aM (rR true) (aj 5) (aM gJ (aj 2) (cC (.int 1))))) (kI (AN eB (aj 6) (ah (aj 5) (aH)))) (fx))
 (cH (aF bq (ah (aM gJ (aj 2) (cC (.int 0))) (ah (aj 6) (aH)))) (ao 2)))))) (fx))
 (cI (aj 2))))))
def cg:List D->au->af D:=jc 2 7 fq
theorem kA:aW ["_law_found", "_law_due"] ["_law_found", "_law_due"] (ar cj):=⟨rfl,rfl,rfl,by decide +kernel,rfl,by decide +kernel,by decide +kernel⟩
theorem jy:(["_law_one"]:List Str).Nodup:=by decide +kernel
theorem jx:(["_law_number"]:List Str).Nodup:=by decide +kernel
def cN:ME:=aF bT (ah (aj 0) (aH))
def dZ:ME:=j4 (rS (gf "tuple") (aj 0)) (aF mC (ah (cX (fA (aj 0)) [none] (ao 0) (cW) (cN)) (aH)))
def g9:MS:=bG (rP (oR (iq (kg (rS (gf "tuple") (aj 0)))) (lx (aM (jU true) (aj 0) (aj 1)))) (cI (cC (.bl false))) (fx))
 (cI (aF mC (ah (cX (fA (aj 0)) [none] (ao 0) (cW) (dZ)) (aH))))
def bM:List D->au->af D:=jc 2 2 g9
theorem iC:aW ["_law_pen", "_law_many", "_law_odd"] ["_law_pen", "_law_many"] (ar dN):=⟨rfl,rfl,rfl,by decide +kernel,rfl,by decide +kernel,by decide +kernel⟩
def jb:MS:=bG (cH (jf (ah (aj 1) (ah (aM cw (aM cw (aj 1) (cC (.int 1))) (aF aG (ah (aj 0) (ah (aM wX (cC (.int 10)) (cC (.int 9))) (aH))))) (ah (rS wY (cC (.int 1))) (ah (cC (.bl true)) (ah (cC (.bl false)) (ah (cC .non) (ah (cC (.str "0")) (ah (hV (ah (cC (.int 0)) (aH))) (ah (jf (ah (cC (.int 0)) (aH))) (ah (yB) (aH)))))))))))) (ao 2))
 (cI (aM gJ (aj 2) (aF aG (ah (aj 0) (ah (cC (.int 10)) (aH))))))
def cv:List D->au->af D:=jc 2 3 jb
theorem i6:aW ["_law_web", "_law_thing", "_law_one"] ["_law_web", "_law_thing"] (ar bN):=⟨rfl,rfl,rfl,by decide +kernel,rfl,by decide +kernel,by decide +kernel⟩
theorem lq:(["_law_one"]:List Str).Nodup:=by decide +kernel
theorem lp:(["_law_place", "_law_thing"]:List Str).Nodup:=by decide +kernel
theorem ll:(["_law_other", "_law_one", "_law_web"]:List Str).Nodup:=by decide +kernel
def iG:ME:=aF bT (ah (aj 0) (aH))
def iF:ME:=aj 0
def fH:MT:=lx (aM (rR false) (aj 0) (aj 1))
def iE:ME:=aj 0
def fG:MT:=pH (lx (aM (kf .Lt) (aj 1) (aj 0))) (lx (aM (rR true) (hV (ah (aj 1) (ah (aj 0) (aH)))) (aM gJ (aj 2) (cC (.int 1)))))
def dP:MS:=rP (lx (aM (jU true) (cX (fA (aj 1)) [none,some 2,some 0] (ao 0) (fG) (iE)) (jf (aH)))) (cI (cC (.bl false))) (fx)
def jw:MS:=bG (rP (oR (iq (kg (rS (gf "tuple") (aj 1)))) (oR (lx (aM (yA) (aj 1) (hV (aH)))) (iq (kg (aF mC (ah (cX (fA (aj 1)) [none] (ao 0) (cW) (iG)) (aH))))))) (cI (cC (.bl false))) (fx))
 (bG (rP (lx (aM (jU true) (aF i4 (ah (aj 1) (aH))) (cX (kF kd (ah (aM gJ (aj 0) (cC (.int 0))) (aH))) [none,some 1] (ao 0) (fH) (iF)))) (cI (cC (.bl false))) (fx))
 (bG (lA (fA (aj 1)) (ao 2) dP)
 (cI (cC (.bl true)))))
def bL:List D->au->af D:=jc 2 3 jw
theorem ba:aW ["_law_web", "_law_lots", "_law_place", "_law_knots", "_law_due", "_law_lot", "_law_many", "_law_turn", "_law_found"] ["_law_web"] (ar bu):=⟨rfl,rfl,rfl,by decide +kernel,rfl,by decide +kernel,by decide +kernel⟩
theorem jB:(["_law_lot", "_law_place"]:List Str).Nodup:=by decide +kernel
theorem jA:(["_law_lot", "_law_web"]:List Str).Nodup:=by decide +kernel
theorem jz:(["_law_other", "_law_lot"]:List Str).Nodup:=by decide +kernel
def d0:ME:=aM cw (aj 0) (hV (ah (aj 1) (aH)))
def bQ:MS:=kI (AN eA (aj 1) (ah (cX (fA (aF i4 (ah (aj 1) (aH)))) [none,some 2] (ao 0) (cW) (d0)) (aH)))
def f9:ME:=aj 0
def dY:MT:=kg (aF bL (ah (aj 1) (ah (aj 0) (aH))))
def f7:ME:=aj 0
def cM:MT:=pH (lx (aM (kf .Gt) (aF ke (ah (aj 0) (aH))) (aF ke (ah (aj 1) (aH))))) (lx (aM (w6) (aF mB (ah (aM cw (aj 1) (aj 0)) (aH))) (aF mB (ah (aj 0) (aH)))))
def bz:MS:=rP (lx (aM (jU false) (cX (fA (aj 3)) [none,some 5] (ao 0) (cM) (f7)) (jf (aH)))) (kI (AN eB (aj 4) (ah (aj 5) (aH)))) (fx)
def bP:MS:=bG (cH (aF d6 (ah (aj 0) (aH))) (ao 8))
 (bG (rP (oR (iq (kg (rS (gf "list") (aj 8)))) (iq (kg (aF bM (ah (aF iN (ah (aj 8) (aH))) (ah (aF iN (ah (aj 4) (aH))) (aH))))))) (cI (cC (.bl false))) (fx))
 (kI (AN eB (aj 8) (ah (cC .non) (aH)))))
def hE:MS:=bG (cH (jf (ah (hV (aH)) (aH))) (ao 1))
 (bG (lA (kF kd (ah (aM gJ (aj 0) (cC (.int 0))) (aH))) (ao 2) bQ)
 (bG (cH (aF cR (ah (cX (fA (aj 1)) [none,some 0] (ao 0) (dY) (f9)) (aH))) (ao 3))
 (bG (cH (jf (aH)) (ao 4))
 (bG (lA (fA (aj 3)) (ao 5) bz)
 (bG (cH (aF fk (ah (aj 0) (aH))) (ao 6))
 (bG (rP (oR (iq (kg (aF bT (ah (aj 6) (aH))))) (lx (aM (jU true) (aj 6) (aF ke (ah (aj 3) (aH)))))) (cI (cC (.bl false))) (fx))
 (bG (lA (kF kd (ah (cC (.int 2)) (aH))) (ao 7) bP)
 (cI (cC (.bl true))))))))))
def cF:List D->au->af D:=jc 1 9 hE
theorem fV:aW ["_law_script", "_law_cell", "_law_pen", "_law_web", "_law_lot", "_law_spot", "_law_odd", "_law_bent", "_law_some", "_law_thing", "_law_held", "_law_found"] ["_law_script"] (ar ji):=⟨rfl,rfl,rfl,by decide +kernel,rfl,by decide +kernel,by decide +kernel⟩
theorem Aj:(["_law_place", "_law_pen"]:List Str).Nodup:=by decide +kernel
def kU:ME:=aj 0
def kT:MT:=lx (aM (jU false) (aF aG (ah (aj 1) (ah (cC (.int 2)) (aH)))) (cC (.int 0)))
def nc:MS:=bG (cH (aF fX (ah (aj 9) (aH))) (ao 10))
 (bG (cH (aF fR (ah (aj 3) (ah (aj 9) (aH)))) (ao 11))
 (rP (oR (iq (kg (rS (gf "bool") (aj 11)))) (oR (lx (aM (jU true) (aj 11) (aF bL (ah (aj 3) (ah (aj 9) (aH)))))) (lx (aM (wZ true) (aF fX (ah (aj 9) (aH))) (aj 10))))) (cI (cC (.bl false))) (fx)))
def m9:MS:=bG (cH (aF d7 (ah (aj 1) (aH))) (ao 2))
 (bG (cH (aF cg (ah (aj 2) (ah (cC (.int 6)) (aH)))) (ao 3))
 (bG (rP (iq (kg (aF cF (ah (aj 3) (aH))))) (cI (cC (.bl false))) (fx))
 (bG (cH (aF iN (ah (cX (kF kd (ah (aM gJ (aj 3) (cC (.int 0))) (aH))) [none,some 2] (ao 0) (kT) (kU)) (aH))) (ao 4))
 (bG (cH (aF aG (ah (aj 2) (ah (aM cw (aF ke (ah (aj 4) (aH))) (cC (.int 1))) (aH)))) (ao 5))
 (bG (cH (aF cv (ah (aj 2) (ah (aM gJ (aj 3) (cC (.int 0))) (aH)))) (ao 6))
 (bG (cH (jf (ah (aM cw (aM cw (AR (aj 4) (CY) (j3 (aj 5))) (hV (ah (aj 6) (aH)))) (AR (aj 4) (j3 (aj 5)) (CY))) (ah (aM cw (aj 4) (AR (aj 4) (CY) (j3 (cC (.int 1))))) (ah (aM sx (aj 4) (rS wY (cC (.int 1)))) (ah (aF i4 (ah (aj 4) (aH))) (ah (hV (ah (aj 4) (aH))) (ah (cC .non) (ah (cC (.int 0)) (ah (yB) (ah (hV (ah (aj 6) (aH))) (ah (cC (.str "")) (aH)))))))))))) (ao 7))
 (bG (cH (jf (ah (aM gJ (aj 7) (aF aG (ah (aj 2) (ah (cC (.int 10)) (aH))))) (ah (aM gJ (aj 7) (aF aG (ah (aj 2) (ah (cC (.int 10)) (aH))))) (aH)))) (ao 8))
 (lA (fA (aM cw (aj 8) (jf (ah (aj 4) (ah (AR (aj 4) (CY) (j3 (cC (.int 2)))) (ah (AR (aj 4) (CY) (j3 (cC (.int 3)))) (ah (hV (aH)) (ah (aF pG (ah (aM gJ (aj 3) (cC (.int 0))) (aH))) (aH))))))))) (ao 9) nc))))))))
def Dy:MS:=bG (lA (fA (aM cw (jf (ah (aF dG (ah (aj 0) (ah (cC (.int 0)) (aH)))) (aH))) (AR (aj 0) (j3 (cC (.int 1))) (j3 (cC (.int 8)))))) (ao 1) m9)
 (cI (cC (.bl true)))
def sE:List D->au->af D:=jc 1 12 Dy
theorem ug (nm:Nm mg) {f:Addr}{fd:FuncData} (F:ig K "is_whole" "is_whole" gX f fd) (hm:mg "is_whole" = some (.ref f)):dW P w K mg base (dU K w) 1 "is_whole" 1 gD:=
 cU F ud rfl hm (F.b1 (by rfl) fun _ _ _ _ _ _ _=>by rfl) fun cdv A outer s H E hr=>
 bc (bw (nu (jY (T:="int") (by decide) zx (by decide) (by decide) nm.isinstance nm.int (aK 0)) (pk (C2 (jY (T:="bool") (by decide) qY (by decide) (by decide) nm.isinstance nm.bool (aK 0))))))
theorem lX (nm:Nm mg) {f:Addr}{fd:FuncData} (F:ig K "is_whole_from" "is_whole_from" dM f fd) (hm:mg "is_whole_from" = some (.ref f)) (d_is_whole:dW P w K mg base (dU K w) 1 "is_whole" 1 gD):dW P w K mg base (dU K w) 2 "is_whole_from" 3 dh:=
 cU F lW rfl hm (F.b3 (by rfl) fun _ _ _ _ _ _ _ _ _=>by rfl) fun cdv A outer s H E hr=>
 bc (bw (nu (aT d_is_whole (hr.mono (by decide)) (aQ (aK 0) (bp))) (pk (Gy (jg (op:=.LtE) hr.units) (jg (op:=.LtE) hr.units) (aK 1) (aK 0) (aK 2)))))
theorem uh (nm:Nm mg) {f:Addr}{fd:FuncData} (F:ig K "is_place" "is_place" gY f fd) (hm:mg "is_place" = some (.ref f)) (d_is_whole_from:dW P w K mg base (dU K w) 2 "is_whole_from" 3 dh):dW P w K mg base (dU K w) 3 "is_place" 2 gE:=
 cU F ue rfl hm (F.b2 (by rfl) fun _ _ _ _ _ _ _ _=>by rfl) fun cdv A outer s H E hr=>
 bc (bw (aT d_is_whole_from (hr.mono (by decide)) (aQ (aK 1) (aQ (dc) (aQ (nv (aK 0) (dc)) (bp))))))
theorem rF (nm:Nm mg) {f:Addr}{fd:FuncData} (F:ig K "is_places" "is_places" ff f fd) (hm:mg "is_places" = some (.ref f)) (d_is_place:dW P w K mg base (dU K w) 3 "is_place" 2 gE):dW P w K mg base (dU K w) 4 "is_places" 2 fT:=
 cU F rB rfl hm (F.b2 (by rfl) fun _ _ _ _ _ _ _ _=>by rfl) fun cdv A outer s H E hr=>
 bc (bw (nu (jY (T:="tuple") (by decide) k0 (by decide) (by decide) nm.isinstance nm.tuple (aK 1)) (pk (bA nF nm.all (aQ (c0 (bS (N:=["many", "thing"]) (sc:=ar ff) (Nc:=["place", "many"]) (cap:=[none,some 0]) rfl rfl (by decide +kernel)) (ng (aK 1)) (fun _ _ _ _ _=>jC 0 oH) (fun _ _ _ _ _=>jX) (fun _ _ _ _ _=>aT d_is_place (hr.mono (by decide)) (aQ (aK 1) (aQ (aK 0) (bp))))) (bp))))))
theorem rE (nm:Nm mg) {f:Addr}{fd:FuncData} (F:ig K "is_rising" "is_rising" fe f fd) (hm:mg "is_rising" = some (.ref f)):dW P w K mg base (dU K w) 1 "is_rising" 1 fS:=
 cU F rA rfl hm (F.b1 (by rfl) fun _ _ _ _ _ _ _=>by rfl) fun cdv A outer s H E hr=>
 bc (bw (bA nF nm.all (aQ (c0 (bS (N:=["things"]) (sc:=ar fe) (Nc:=["at", "things"]) (cap:=[none,some 0]) rfl rfl (by decide +kernel)) (Im nm.range (aQ (dc) (aQ (bA l9 nm.len (aQ (aK 0) (bp))) (bp)))) (fun _ _ _ _ _=>jC 0 oG) (fun _ _ _ _ _=>jX) (fun _ _ _ _ _=>vL (jg (op:=.Lt) hr.units) (eF (aK 1) (nv (aK 0) (dc))) (eF (aK 1) (aK 0)))) (bp))))
theorem jR (nm:Nm mg) {f:Addr}{fd:FuncData} (F:ig K "is_rising_places" "is_rising_places" cL f fd) (hm:mg "is_rising_places" = some (.ref f)) (d_is_places:dW P w K mg base (dU K w) 4 "is_places" 2 fT) (d_is_rising:dW P w K mg base (dU K w) 1 "is_rising" 1 fS):dW P w K mg base (dU K w) 5 "is_rising_places" 2 cn:=
 cU F jQ rfl hm (F.b2 (by rfl) fun _ _ _ _ _ _ _ _=>by rfl) fun cdv A outer s H E hr=>
 bc (bw (nu (aT d_is_places (hr.mono (by decide)) (aQ (aK 0) (aQ (aK 1) (bp)))) (nu (vL (jg (op:=.Gt) hr.units) (bA l9 nm.len (aQ (aK 1) (bp))) (dc)) (pk (aT d_is_rising (hr.mono (by decide)) (aQ (aK 1) (bp)))))))
theorem vm (nm:Nm mg) {f:Addr}{fd:FuncData} (F:ig K "is_tied" "is_tied" iR f fd) (hm:mg "is_tied" = some (.ref f)):dW P w K mg base (dU K w) 1 "is_tied" 3 fD:=
 cU F ve rfl hm (F.b3 (by rfl) fun _ _ _ _ _ _ _ _ _=>by rfl) fun cdv A outer s H E hr=>
 bc (bw (vL (DC hr.units) (fv (aQ (bA Dw nm.min (aQ (aK 1) (aQ (aK 2) (bp)))) (aQ (bA y0 nm.max (aQ (aK 1) (aQ (aK 2) (bp)))) (bp)))) (eF (aK 0) (dc))))
theorem rD (nm:Nm mg) {f:Addr}{fd:FuncData} (F:ig K "knot_good" "knot_good" eZ f fd) (hm:mg "knot_good" = some (.ref f)) (d_is_rising_places:dW P w K mg base (dU K w) 5 "is_rising_places" 2 cn) (d_is_tied:dW P w K mg base (dU K w) 1 "is_tied" 3 fD):dW P w K mg base (dU K w) 6 "knot_good" 2 fR:=
 cU F rq rfl hm (F.b2 (by rfl) fun _ _ _ _ _ _ _ _=>by rfl) fun cdv A outer s H E hr=>
 aO (kc (jW (yj (aT d_is_rising_places (hr.mono (by decide)) (aQ (eF (aK 0) (dc)) (aQ (aK 1) (bp)))))) (bc (bw (vJ))) (gv))
 (bc (bw (bA nF nm.all (aQ (Bb (bS (N:=["web", "thing"]) (sc:=ar eZ) (Nc:=["a", "b", "web", "thing"]) (cap:=[none,none,some 0,some 1]) rfl rfl (by decide +kernel)) (ng (aK 1)) (fun _ _ _ _ _=>jC 0 jt) (fun _ _ _ _ _=>jX) (fun _ _ _ _ _ _=>Iy rfl (ng (aK 3)) (jC 1 jt) (i0 (de (jg (op:=.Lt) hr.units) (aK 0) (aK 1))) (Iz rfl (aT d_is_tied (hr.mono (by decide)) (aQ (aK 2) (aQ (aK 0) (aQ (aK 1) (bp)))))))) (bp)))))
theorem rG (nm:Nm mg) {f:Addr}{fd:FuncData} (F:ig K "fits_knot" "fits_knot" fg f fd) (hm:mg "fits_knot" = some (.ref f)) (d_is_tied:dW P w K mg base (dU K w) 1 "is_tied" 3 fD):dW P w K mg base (dU K w) 2 "fits_knot" 3 dC:=
 cU F rC rfl hm (F.b3 (by rfl) fun _ _ _ _ _ _ _ _ _=>by rfl) fun cdv A outer s H E hr=>
 bc (bw (bA nF nm.all (aQ (c0 (bS (N:=["web", "knot", "place"]) (sc:=ar fg) (Nc:=["other", "web", "place"]) (cap:=[none,some 0,some 2]) rfl rfl (by decide +kernel)) (ng (aK 1)) (fun _ _ _ _ _=>jC 0 oI) (fun _ _ _ _ _=>jX) (fun _ _ _ _ _=>aT d_is_tied (hr.mono (by decide)) (aQ (aK 1) (aQ (aK 0) (aQ (aK 2) (bp)))))) (bp))))
theorem uf (nm:Nm mg) {f:Addr}{fd:FuncData} (F:ig K "knots_of" "knots_of" fQ f fd) (hm:mg "knots_of" = some (.ref f)) (d_fits_knot:dW P w K mg base (dU K w) 2 "fits_knot" 3 dC):dW P w K mg base (dU K w) 3 "knots_of" 1 eP:=
 cU F gZ rfl hm (F.b1 (by rfl) fun _ _ _ _ _ _ _=>by rfl) fun cdv A outer s H E hr=>
 aO (bU 1 gZ.nd (gM (bp)))
 (aO (jZ NH (rY nm.range (aQ (eF (aK 0) (dc)) (bp))) (jC 2 gZ.nd) (bc (bU 1 gZ.nd (dR (dR (aK 1) (gM (aQ (fv (aQ (aK 2) (bp))) (bp)))) (c0 (bS (N:=["web", "knots", "place"]) (sc:=ar fQ) (Nc:=["knot", "place", "web"]) (cap:=[none,some 2,some 0]) rfl rfl (by decide +kernel)) (ng (aK 1)) (fun _ _ _ _ _=>jC 0 pb) (fun _ _ _ _ _=>i0 (yj (aT d_fits_knot (hr.mono (by decide)) (aQ (aK 2) (aQ (aK 0) (aQ (aK 1) (bp))))))) (fun _ _ _ _ _=>dR (aK 0) (fv (aQ (aK 1) (bp)))))))))
 (bc (bw (aK 1))))
theorem oC (nm:Nm mg) {f:Addr}{fd:FuncData} (F:ig K "great_knots" "great_knots" dD f fd) (hm:mg "great_knots" = some (.ref f)) (d_knots_of:dW P w K mg base (dU K w) 3 "knots_of" 1 eP) (d_fits_knot:dW P w K mg base (dU K w) 2 "fits_knot" 3 dC):dW P w K mg base (dU K w) 4 "great_knots" 1 d6:=
 cU F jr rfl hm (F.b1 (by rfl) fun _ _ _ _ _ _ _=>by rfl) fun cdv A outer s H E hr=>
 aO (bU 1 jr.nd (DS nm.range nm.list (aQ (eF (aK 0) (dc)) (bp))))
 (bc (bw (bA lU nm.sorted (aQ (c0 (bS (N:=["web", "places"]) (sc:=ar dD) (Nc:=["knot", "web", "places"]) (cap:=[none,some 0,some 1]) rfl rfl (by decide +kernel)) (ng (aT d_knots_of (hr.mono (by decide)) (aQ (aK 0) (bp)))) (fun _ _ _ _ _=>jC 0 l4) (fun _ _ _ _ _=>i0 (jW (yj (bA Hs nm.any (aQ (c0 (wG (N:=["knot", "web", "places"]) (Nc:=["place", "web", "knot"]) (cap:=[none,some 1,some 0]) rfl rfl (by decide +kernel)) (ng (aK 2)) (fun _ _ _ _ _=>jC 0 l0) (fun _ _ _ _ _=>jX) (fun _ _ _ _ _=>aT d_fits_knot (hr.mono (by decide)) (aQ (aK 1) (aQ (aK 2) (aQ (aK 0) (bp)))))) (bp)))))) (fun _ _ _ _ _=>aK 0)) (bp)))))
theorem oY (nm:Nm mg) {f:Addr}{fd:FuncData} (F:ig K "knots_many" "knots_many" fJ f fd) (hm:mg "knots_many" = some (.ref f)) (d_knots_of:dW P w K mg base (dU K w) 3 "knots_of" 1 eP):dW P w K mg base (dU K w) 4 "knots_many" 1 fk:=
 cU F oW rfl hm (F.b1 (by rfl) fun _ _ _ _ _ _ _=>by rfl) fun cdv A outer s H E hr=>
 bc (bw (bA l9 nm.len (aQ (aT d_knots_of (hr.mono (by decide)) (aQ (aK 0) (bp))) (bp))))
theorem mL (nm:Nm mg) {f:Addr}{fd:FuncData} (F:ig K "_law_cell_at" "_law_cell_at" eC f fd) (hm:mg "_law_cell_at" = some (.ref f)):dW P w K mg base (dU K w) 1 "_law_cell_at" 2 dG:=
 cU F mI rfl hm (F.b2 (by rfl) fun _ _ _ _ _ _ _ _=>by rfl) fun cdv A outer s H E hr=>
 aO (kc (de (jg (op:=.Lt) hr.units) (aK 1) (bA l9 nm.len (aQ (aK 0) (bp)))) (bc (bw (eF (aK 0) (aK 1)))) (gv))
 (bc (bw (dc)))
theorem rH (nm:Nm mg) {f:Addr}{fd:FuncData} (F:ig K "_law_next" "_law_next" gm f fd) (hm:mg "_law_next" = some (.ref f)):dW P w K mg base (dU K w) 1 "_law_next" 1 eS:=
 cU F k8 rfl hm (F.b1 (by rfl) fun _ _ _ _ _ _ _=>by rfl) fun cdv A outer s H E hr=>
 aO (bU 0 k8.nd (sf (dR (aK 0) (dc)) (dc)))
 (bc (bw (sf (dR (dR (C6 (aK 0) (aK 0)) (C6 (dc) (aK 0))) (dc)) (dc))))
theorem oF (nm:Nm mg) {f:Addr}{fd:FuncData} (F:ig K "_law_pen_of" "_law_pen_of" fm f fd) (hm:mg "_law_pen_of" = some (.ref f)):dW P w K mg base (dU K w) 1 "_law_pen_of" 1 d7:=
 cU F js rfl hm (F.b1 (by rfl) fun _ _ _ _ _ _ _=>by rfl) fun cdv A outer s H E hr=>
 aO (bU 1 js.nd (bA y0 nm.max (aQ (aK 0) (aQ (nv (dc) (aK 0)) (bp)))))
 (bc (bw (gM (aQ (aK 1) (aQ (bA Hr nm.int (aQ (vL (jg (op:=.GtE) hr.units) (aK 1) (C4 (dc) (dc))) (bp))) (aQ (sf (aK 1) (dc)) (bp)))))))
theorem rJ (nm:Nm mg) {f:Addr}{fd:FuncData} (F:ig K "_law_draw" "_law_draw" gn f fd) (hm:mg "_law_draw" = some (.ref f)) (d__law_next:dW P w K mg base (dU K w) 1 "_law_next" 1 eS):dW P w K mg base (dU K w) 2 "_law_draw" 2 aG:=
 cU F k9 rfl hm (F.b2 (by rfl) fun _ _ _ _ _ _ _ _=>by rfl) fun cdv A outer s H E hr=>
 aO (kc (de (wV hr.units) (eF (aK 0) (dc)) (dc)) (aO (bU 2 k9.nd (sf (eF (aK 0) (dc)) (aK 1)))
 (aO (C8 (y6 (eF (aK 0) (dc)) (aK 1)) (Dq (aK 0) (dc)))
 (bc (bw (aK 2))))) (gv))
 (aO (C8 (aT d__law_next (hr.mono (by decide)) (aQ (dR (aT d__law_next (hr.mono (by decide)) (aQ (eF (aK 0) (dc)) (bp))) (dc)) (bp))) (Dq (aK 0) (dc)))
 (bc (bw (sf (y6 (eF (aK 0) (dc)) (dc)) (aK 1)))))
theorem oZ (nm:Nm mg) {f:Addr}{fd:FuncData} (F:ig K "_law_whole" "_law_whole" fK f fd) (hm:mg "_law_whole" = some (.ref f)):dW P w K mg base (dU K w) 1 "_law_whole" 1 bT:=
 cU F oX rfl hm (F.b1 (by rfl) fun _ _ _ _ _ _ _=>by rfl) fun cdv A outer s H E hr=>
 bc (bw (nu (jY (T:="int") (by decide) zx (by decide) (by decide) nm.isinstance nm.int (aK 0)) (pk (C2 (jY (T:="bool") (by decide) qY (by decide) (by decide) nm.isinstance nm.bool (aK 0))))))
theorem oE (nm:Nm mg) {f:Addr}{fd:FuncData} (F:ig K "_law_web_of" "_law_web_of" dE f fd) (hm:mg "_law_web_of" = some (.ref f)):dW P w K mg base (dU K w) 1 "_law_web_of" 2 bq:=
 cU F oB rfl hm (F.b2 (by rfl) fun _ _ _ _ _ _ _ _=>by rfl) fun cdv A outer s H E hr=>
 bc (bw (fv (aQ (aK 0) (aQ (bA m5 nm.tuple (aQ (bA lU nm.sorted (aQ (bA (yZ hr.units) nm.set (aQ (c0 (bS (N:=["_law_many", "_law_ties"]) (sc:=ar dE) (Nc:=["_law_a", "_law_b"]) (cap:=[none,none]) rfl rfl (by decide +kernel)) (ng (aK 1)) (fun _ _ _ _ _=>Dp (qA (jC 0 iD) (qA (jC 1 iD) (Dr)))) (fun _ _ _ _ _=>jX) (fun _ _ _ _ _=>fv (aQ (bA Dw nm.min (aQ (aK 0) (aQ (aK 1) (bp)))) (aQ (bA y0 nm.max (aQ (aK 0) (aQ (aK 1) (bp)))) (bp))))) (bp))) (bp))) (bp))) (bp)))))
theorem lj (nm:Nm mg) {f:Addr}{fd:FuncData} (F:ig K "_law_drawn_web" "_law_drawn_web" cD f fd) (hm:mg "_law_drawn_web" = some (.ref f)) (d__law_draw:dW P w K mg base (dU K w) 2 "_law_draw" 2 aG) (d__law_web_of:dW P w K mg base (dU K w) 1 "_law_web_of" 2 bq):dW P w K mg base (dU K w) 3 "_law_drawn_web" 2 bX:=
 cU F cE rfl hm (F.b2 (by rfl) fun _ _ _ _ _ _ _ _=>by rfl) fun cdv A outer s H E hr=>
 aO (bU 2 cE.nd (dR (dc) (aT d__law_draw (hr.mono (by decide)) (aQ (aK 0) (aQ (aK 1) (bp))))))
 (aO (bU 3 cE.nd (dR (dc) (aT d__law_draw (hr.mono (by decide)) (aQ (aK 0) (aQ (dc) (bp))))))
 (aO (bU 4 cE.nd (gM (bp)))
 (aO (jZ NH (rY nm.range (aQ (aK 2) (bp))) (jC 5 cE.nd) (bc (lE (yH (aK 4) (aQ (c0 (bS (N:=["_law_pen", "_law_most", "_law_many", "_law_share", "_law_ties", "_law_one"]) (sc:=ar cD) (Nc:=["_law_other", "_law_one", "_law_pen", "_law_share"]) (cap:=[none,some 5,some 0,some 3]) rfl rfl (by decide +kernel)) (rY nm.range (aQ (aK 5) (bp))) (fun _ _ _ _ _=>jC 0 jS) (fun _ _ _ _ _=>i0 (de (wV hr.units) (aT d__law_draw (hr.mono (by decide)) (aQ (aK 2) (aQ (aK 3) (bp)))) (dc))) (fun _ _ _ _ _=>fv (aQ (aK 0) (aQ (aK 1) (bp))))) (bp))))))
 (bc (bw (aT d__law_web_of (hr.mono (by decide)) (aQ (aK 2) (aQ (aK 4) (bp)))))))))
theorem mJ (nm:Nm mg) {f:Addr}{fd:FuncData} (F:ig K "_law_near_of" "_law_near_of" df f fd) (hm:mg "_law_near_of" = some (.ref f)):dW P w K mg base (dU K w) 1 "_law_near_of" 2 dF:=
 cU F mH rfl hm (F.b2 (by rfl) fun _ _ _ _ _ _ _ _=>by rfl) fun cdv A outer s H E hr=>
 bc (bw (c0 (bS (N:=["_law_web", "_law_place"]) (sc:=ar df) (Nc:=["_law_a", "_law_b", "_law_place"]) (cap:=[none,none,some 1]) rfl rfl (by decide +kernel)) (ng (eF (aK 0) (dc))) (fun _ _ _ _ _=>Dp (qA (jC 0 g8) (qA (jC 1 g8) (Dr)))) (fun _ _ _ _ _=>i0 (de (DC hr.units) (aK 2) (fv (aQ (aK 0) (aQ (aK 1) (bp)))))) (fun _ _ _ _ _=>nv (dR (aK 0) (aK 1)) (aK 2))))
theorem lY (nm:Nm mg) {f:Addr}{fd:FuncData} (F:ig K "_law_two_step" "_law_two_step" cS f fd) (hm:mg "_law_two_step" = some (.ref f)) (d__law_near_of:dW P w K mg base (dU K w) 1 "_law_near_of" 2 dF) (d__law_web_of:dW P w K mg base (dU K w) 1 "_law_web_of" 2 bq):dW P w K mg base (dU K w) 2 "_law_two_step" 1 di:=
 cU F cT rfl hm (F.b1 (by rfl) fun _ _ _ _ _ _ _=>by rfl) fun cdv A outer s H E hr=>
 aO (bU 1 cT.nd (bA qD nm.list (aQ (eF (aK 0) (dc)) (bp))))
 (aO (jZ NH (rY nm.range (aQ (eF (aK 0) (dc)) (bp))) (jC 2 cT.nd) (aO (bU 3 cT.nd (aT d__law_near_of (hr.mono (by decide)) (aQ (aK 0) (aQ (aK 2) (bp)))))
 (bc (jZ NH (ng (aK 3)) (jC 4 cT.nd) (bc (lE (yH (aK 1) (aQ (c0 (bS (N:=["_law_web", "_law_ties", "_law_place", "_law_near", "_law_one"]) (sc:=ar cS) (Nc:=["_law_other", "_law_one"]) (cap:=[none,some 4]) rfl rfl (by decide +kernel)) (ng (aK 3)) (fun _ _ _ _ _=>jC 0 kD) (fun _ _ _ _ _=>i0 (de (jg (op:=.Lt) hr.units) (aK 1) (aK 0))) (fun _ _ _ _ _=>fv (aQ (aK 1) (aQ (aK 0) (bp))))) (bp)))))))))
 (bc (bw (aT d__law_web_of (hr.mono (by decide)) (aQ (eF (aK 0) (dc)) (aQ (aK 1) (bp)))))))
theorem mM (nm:Nm mg) {f:Addr}{fd:FuncData} (F:ig K "_law_any_web" "_law_any_web" dg f fd) (hm:mg "_law_any_web" = some (.ref f)) (d__law_drawn_web:dW P w K mg base (dU K w) 3 "_law_drawn_web" 2 bX) (d__law_draw:dW P w K mg base (dU K w) 2 "_law_draw" 2 aG) (d__law_two_step:dW P w K mg base (dU K w) 2 "_law_two_step" 1 di) (d__law_web_of:dW P w K mg base (dU K w) 1 "_law_web_of" 2 bq):dW P w K mg base (dU K w) 4 "_law_any_web" 2 cg:=
 cU F bC rfl hm (F.b2 (by rfl) fun _ _ _ _ _ _ _ _=>by rfl) fun cdv A outer s H E hr=>
 aO (bU 2 bC.nd (aT d__law_drawn_web (hr.mono (by decide)) (aQ (aK 0) (aQ (aK 1) (bp)))))
 (aO (bU 3 bC.nd (aT d__law_draw (hr.mono (by decide)) (aQ (aK 0) (aQ (dc) (bp)))))
 (aO (kc (de (wV hr.units) (aK 3) (dc)) (bc (bw (aK 2))) (gv))
 (aO (bU 2 bC.nd (aT d__law_two_step (hr.mono (by decide)) (aQ (aK 2) (bp))))
 (aO (kc (rW (yK (de (wV hr.units) (aK 3) (dc)) (uJ (de (jg (op:=.Gt) hr.units) (eF (aK 2) (dc)) (dc))))) (aO (bU 4 bC.nd (aT d__law_draw (hr.mono (by decide)) (aQ (aK 0) (aQ (nv (eF (aK 2) (dc)) (dc)) (bp)))))
 (aO (bU 5 bC.nd (fv (aQ (aK 4) (aQ (dR (dR (aK 4) (dc)) (aT d__law_draw (hr.mono (by decide)) (aQ (aK 0) (aQ (nv (nv (eF (aK 2) (dc)) (dc)) (aK 4)) (bp))))) (bp)))))
 (aO (Es 6 bC.nd (bS (N:=["_law_pen", "_law_most", "_law_web", "_law_way", "_law_one", "_law_pair", "_law_some"]) (sc:=ar dg) (Nc:=["_law_tie", "_law_pair"]) (cap:=[none,some 5]) rfl rfl (by decide +kernel)) (ng (eF (aK 2) (dc))) (fun _ _ _ _ _=>jC 0 lr) (fun _ _ _ _ _=>i0 (de (wU hr.units) (aK 0) (aK 1))) (fun _ _ _ _ _=>aK 0))
 (aO (kc (de (Dn hr.units) (aK 5) (eF (aK 2) (dc))) (bc (lE (yI (aK 6) (aQ (aK 5) (bp))))) (gv))
 (bc (bU 2 bC.nd (aT d__law_web_of (hr.mono (by decide)) (aQ (eF (aK 2) (dc)) (aQ (aK 6) (bp)))))))))) (gv))
 (bc (bw (aK 2)))))))
theorem kB (nm:Nm mg) {f:Addr}{fd:FuncData} (F:ig K "_law_tuples_are" "_law_tuples_are" cj f fd) (hm:mg "_law_tuples_are" = some (.ref f)) (d__law_whole:dW P w K mg base (dU K w) 1 "_law_whole" 1 bT):dW P w K mg base (dU K w) 2 "_law_tuples_are" 2 bM:=
 cU F kA rfl hm (F.b2 (by rfl) fun _ _ _ _ _ _ _ _=>by rfl) fun cdv A outer s H E hr=>
 aO (kc (rW (uA (jW (yj (jY (T:="tuple") (by decide) k0 (by decide) (by decide) nm.isinstance nm.tuple (aK 0)))) (si (de (wU hr.units) (aK 0) (aK 1))))) (bc (bw (vJ))) (gv))
 (bc (bw (bA nF nm.all (aQ (c0 (bS (N:=["_law_found", "_law_due"]) (sc:=ar cj) (Nc:=["_law_one"]) (cap:=[none]) rfl rfl (by decide +kernel)) (ng (aK 0)) (fun _ _ _ _ _=>jC 0 jy) (fun _ _ _ _ _=>jX) (fun _ _ _ _ _=>nu (jY (T:="tuple") (by decide) k0 (by decide) (by decide) nm.isinstance nm.tuple (aK 0)) (pk (bA nF nm.all (aQ (c0 (wG (N:=["_law_one"]) (Nc:=["_law_number"]) (cap:=[none]) rfl rfl (by decide +kernel)) (ng (aK 0)) (fun _ _ _ _ _=>jC 0 jx) (fun _ _ _ _ _=>jX) (fun _ _ _ _ _=>aT d__law_whole (hr.mono (by decide)) (aQ (aK 0) (bp)))) (bp)))))) (bp)))))
theorem lZ (nm:Nm mg) {f:Addr}{fd:FuncData} (F:ig K "_law_no_place" "_law_no_place" dN f fd) (hm:mg "_law_no_place" = some (.ref f)) (d__law_draw:dW P w K mg base (dU K w) 2 "_law_draw" 2 aG):dW P w K mg base (dU K w) 3 "_law_no_place" 2 cv:=
 cU F iC rfl hm (F.b2 (by rfl) fun _ _ _ _ _ _ _ _=>by rfl) fun cdv A outer s H E hr=>
 aO (bU 2 iC.nd (gM (aQ (aK 1) (aQ (dR (dR (aK 1) (dc)) (aT d__law_draw (hr.mono (by decide)) (aQ (aK 0) (aQ (C4 (dc) (dc)) (bp))))) (aQ (C5 (dc)) (aQ (vJ) (aQ (vJ) (aQ (HL) (aQ (IH) (aQ (fv (aQ (dc) (bp))) (aQ (gM (aQ (dc) (bp))) (aQ (C3) (bp)))))))))))))
 (bc (bw (eF (aK 2) (aT d__law_draw (hr.mono (by decide)) (aQ (aK 0) (aQ (dc) (bp)))))))
theorem mK (nm:Nm mg) {f:Addr}{fd:FuncData} (F:ig K "_law_is_knot" "_law_is_knot" bN f fd) (hm:mg "_law_is_knot" = some (.ref f)) (d__law_whole:dW P w K mg base (dU K w) 1 "_law_whole" 1 bT):dW P w K mg base (dU K w) 2 "_law_is_knot" 2 bL:=
 cU F i6 rfl hm (F.b2 (by rfl) fun _ _ _ _ _ _ _ _=>by rfl) fun cdv A outer s H E hr=>
 aO (kc (rW (uA (jW (yj (jY (T:="tuple") (by decide) k0 (by decide) (by decide) nm.isinstance nm.tuple (aK 1)))) (uA (de (Hh hr.units) (aK 1) (fv (bp))) (si (jW (yj (bA nF nm.all (aQ (c0 (bS (N:=["_law_web", "_law_thing", "_law_one"]) (sc:=ar bN) (Nc:=["_law_one"]) (cap:=[none]) rfl rfl (by decide +kernel)) (ng (aK 1)) (fun _ _ _ _ _=>jC 0 lq) (fun _ _ _ _ _=>jX) (fun _ _ _ _ _=>aT d__law_whole (hr.mono (by decide)) (aQ (aK 0) (bp)))) (bp))))))))) (bc (bw (vJ))) (gv))
 (aO (kc (de (wU hr.units) (bA qD nm.list (aQ (aK 1) (bp))) (c0 (bS (N:=["_law_web", "_law_thing", "_law_one"]) (sc:=ar bN) (Nc:=["_law_place", "_law_thing"]) (cap:=[none,some 1]) rfl rfl (by decide +kernel)) (rY nm.range (aQ (eF (aK 0) (dc)) (bp))) (fun _ _ _ _ _=>jC 0 lp) (fun _ _ _ _ _=>i0 (de (DC hr.units) (aK 0) (aK 1))) (fun _ _ _ _ _=>aK 0))) (bc (bw (vJ))) (gv))
 (aO (jZ NH (ng (aK 1)) (jC 2 i6.nd) (bc (kc (de (wU hr.units) (c0 (bS (N:=["_law_web", "_law_thing", "_law_one"]) (sc:=ar bN) (Nc:=["_law_other", "_law_one", "_law_web"]) (cap:=[none,some 2,some 0]) rfl rfl (by decide +kernel)) (ng (aK 1)) (fun _ _ _ _ _=>jC 0 ll) (fun _ _ _ _ _=>i0 (rW (yK (de (jg (op:=.Lt) hr.units) (aK 1) (aK 0)) (uJ (de (Dn hr.units) (fv (aQ (aK 1) (aQ (aK 0) (bp)))) (eF (aK 2) (dc))))))) (fun _ _ _ _ _=>aK 0)) (gM (bp))) (bc (bw (vJ))) (gv))))
 (bc (bw (vJ)))))
theorem kC (nm:Nm mg) {f:Addr}{fd:FuncData} (F:ig K "_law_lots_right" "_law_lots_right" bu f fd) (hm:mg "_law_lots_right" = some (.ref f)) (d__law_is_knot:dW P w K mg base (dU K w) 2 "_law_is_knot" 2 bL) (d_knots_many:dW P w K mg base (dU K w) 4 "knots_many" 1 fk) (d__law_whole:dW P w K mg base (dU K w) 1 "_law_whole" 1 bT) (d_great_knots:dW P w K mg base (dU K w) 4 "great_knots" 1 d6) (d__law_tuples_are:dW P w K mg base (dU K w) 2 "_law_tuples_are" 2 bM):dW P w K mg base (dU K w) 5 "_law_lots_right" 1 cF:=
 cU F ba rfl hm (F.b1 (by rfl) fun _ _ _ _ _ _ _=>by rfl) fun cdv A outer s H E hr=>
 aO (bU 1 ba.nd (gM (aQ (fv (bp)) (bp))))
 (aO (jZ NH (rY nm.range (aQ (eF (aK 0) (dc)) (bp))) (jC 2 ba.nd) (bc (lE (yH (aK 1) (aQ (c0 (bS (N:=["_law_web", "_law_lots", "_law_place", "_law_knots", "_law_due", "_law_lot", "_law_many", "_law_turn", "_law_found"]) (sc:=ar bu) (Nc:=["_law_lot", "_law_place"]) (cap:=[none,some 2]) rfl rfl (by decide +kernel)) (ng (bA qD nm.list (aQ (aK 1) (bp)))) (fun _ _ _ _ _=>jC 0 jB) (fun _ _ _ _ _=>jX) (fun _ _ _ _ _=>dR (aK 0) (fv (aQ (aK 1) (bp))))) (bp))))))
 (aO (bU 3 ba.nd (bA lU nm.sorted (aQ (c0 (bS (N:=["_law_web", "_law_lots", "_law_place", "_law_knots", "_law_due", "_law_lot", "_law_many", "_law_turn", "_law_found"]) (sc:=ar bu) (Nc:=["_law_lot", "_law_web"]) (cap:=[none,some 0]) rfl rfl (by decide +kernel)) (ng (aK 1)) (fun _ _ _ _ _=>jC 0 jA) (fun _ _ _ _ _=>i0 (yj (aT d__law_is_knot (hr.mono (by decide)) (aQ (aK 1) (aQ (aK 0) (bp)))))) (fun _ _ _ _ _=>aK 0)) (bp))))
 (aO (bU 4 ba.nd (gM (bp)))
 (aO (jZ NH (ng (aK 3)) (jC 5 ba.nd) (bc (kc (de (wV hr.units) (c0 (bS (N:=["_law_web", "_law_lots", "_law_place", "_law_knots", "_law_due", "_law_lot", "_law_many", "_law_turn", "_law_found"]) (sc:=ar bu) (Nc:=["_law_other", "_law_lot"]) (cap:=[none,some 5]) rfl rfl (by decide +kernel)) (ng (aK 3)) (fun _ _ _ _ _=>jC 0 jz) (fun _ _ _ _ _=>i0 (rW (yK (de (jg (op:=.Gt) hr.units) (bA l9 nm.len (aQ (aK 0) (bp))) (bA l9 nm.len (aQ (aK 1) (bp)))) (uJ (de (Hg hr.units) (bA (yZ hr.units) nm.set (aQ (dR (aK 1) (aK 0)) (bp))) (bA (yZ hr.units) nm.set (aQ (aK 0) (bp)))))))) (fun _ _ _ _ _=>aK 0)) (gM (bp))) (bc (lE (yI (aK 4) (aQ (aK 5) (bp))))) (gv))))
 (aO (bU 6 ba.nd (aT d_knots_many (hr.mono (by decide)) (aQ (aK 0) (bp))))
 (aO (kc (rW (uA (jW (yj (aT d__law_whole (hr.mono (by decide)) (aQ (aK 6) (bp))))) (si (de (wU hr.units) (aK 6) (bA l9 nm.len (aQ (aK 3) (bp))))))) (bc (bw (vJ))) (gv))
 (aO (jZ NH (rY nm.range (aQ (dc) (bp))) (jC 7 ba.nd) (aO (bU 8 ba.nd (aT d_great_knots (hr.mono (by decide)) (aQ (aK 0) (bp))))
 (aO (kc (rW (uA (jW (yj (jY (T:="list") (by decide) CT (by decide) (by decide) nm.isinstance nm.list (aK 8)))) (si (jW (yj (aT d__law_tuples_are (hr.mono (by decide)) (aQ (bA m5 nm.tuple (aQ (aK 8) (bp))) (aQ (bA m5 nm.tuple (aQ (aK 4) (bp))) (bp))))))))) (bc (bw (vJ))) (gv))
 (bc (lE (yI (aK 8) (aQ (HL) (bp))))))))
 (bc (bw (vJ))))))))))
theorem FN (nm:Nm mg) {f:Addr}{fd:FuncData} (F:ig K "law" "law" ji f fd) (d__law_cell_at:dW P w K mg base (dU K w) 1 "_law_cell_at" 2 dG) (d__law_pen_of:dW P w K mg base (dU K w) 1 "_law_pen_of" 1 d7) (d__law_any_web:dW P w K mg base (dU K w) 4 "_law_any_web" 2 cg) (d__law_lots_right:dW P w K mg base (dU K w) 5 "_law_lots_right" 1 cF) (d__law_draw:dW P w K mg base (dU K w) 2 "_law_draw" 2 aG) (d__law_no_place:dW P w K mg base (dU K w) 3 "_law_no_place" 2 cv) (d_knot_good:dW P w K mg base (dU K w) 6 "knot_good" 2 fR) (d__law_is_knot:dW P w K mg base (dU K w) 2 "_law_is_knot" 2 bL):oS P w K mg base yo 7 f fd ["_law_script"] (CW (dU K w) 1 sE):=
 Hn F fV rfl fun cdv A outer s H E hr=>
 aO (jZ NH (ng (dR (gM (aQ (aT d__law_cell_at (hr.mono (by decide)) (aQ (aK 0) (aQ (dc) (bp)))) (bp))) (wN (aK 0) (iO (dc)) (iO (dc))))) (jC 1 fV.nd) (aO (bU 2 fV.nd (aT d__law_pen_of (hr.mono (by decide)) (aQ (aK 1) (bp))))
 (aO (bU 3 fV.nd (aT d__law_any_web (hr.mono (by decide)) (aQ (aK 2) (aQ (dc) (bp)))))
 (aO (kc (jW (yj (aT d__law_lots_right (hr.mono (by decide)) (aQ (aK 3) (bp))))) (bc (bw (vJ))) (gv))
 (aO (bU 4 fV.nd (bA m5 nm.tuple (aQ (c0 (bS (N:=["_law_script", "_law_cell", "_law_pen", "_law_web", "_law_lot", "_law_spot", "_law_odd", "_law_bent", "_law_some", "_law_thing", "_law_held", "_law_found"]) (sc:=ar ji) (Nc:=["_law_place", "_law_pen"]) (cap:=[none,some 2]) rfl rfl (by decide +kernel)) (rY nm.range (aQ (eF (aK 3) (dc)) (bp))) (fun _ _ _ _ _=>jC 0 Aj) (fun _ _ _ _ _=>i0 (de (wV hr.units) (aT d__law_draw (hr.mono (by decide)) (aQ (aK 1) (aQ (dc) (bp)))) (dc))) (fun _ _ _ _ _=>aK 0)) (bp))))
 (aO (bU 5 fV.nd (aT d__law_draw (hr.mono (by decide)) (aQ (aK 2) (aQ (dR (bA l9 nm.len (aQ (aK 4) (bp))) (dc)) (bp)))))
 (aO (bU 6 fV.nd (aT d__law_no_place (hr.mono (by decide)) (aQ (aK 2) (aQ (eF (aK 3) (dc)) (bp)))))
 (aO (bU 7 fV.nd (gM (aQ (dR (dR (wN (aK 4) (kL) (iO (aK 5))) (fv (aQ (aK 6) (bp)))) (wN (aK 4) (iO (aK 5)) (kL))) (aQ (dR (aK 4) (wN (aK 4) (kL) (iO (dc)))) (aQ (DR (aK 4) (C5 (dc))) (aQ (bA qD nm.list (aQ (aK 4) (bp))) (aQ (fv (aQ (aK 4) (bp))) (aQ (HL) (aQ (dc) (aQ (C3) (aQ (fv (aQ (aK 6) (bp))) (aQ (IH) (bp)))))))))))))
 (aO (bU 8 fV.nd (gM (aQ (eF (aK 7) (aT d__law_draw (hr.mono (by decide)) (aQ (aK 2) (aQ (dc) (bp))))) (aQ (eF (aK 7) (aT d__law_draw (hr.mono (by decide)) (aQ (aK 2) (aQ (dc) (bp))))) (bp)))))
 (bc (jZ NH (ng (dR (aK 8) (gM (aQ (aK 4) (aQ (wN (aK 4) (kL) (iO (dc))) (aQ (wN (aK 4) (kL) (iO (dc))) (aQ (fv (bp)) (aQ (DQ nm.range nm.tuple (aQ (eF (aK 3) (dc)) (bp))) (bp))))))))) (jC 9 fV.nd) (aO (bU 10 fV.nd (bA (wI hr) nm.repr (aQ (aK 9) (bp))))
 (aO (bU 11 fV.nd (aT d_knot_good (hr.mono (by decide)) (aQ (aK 3) (aQ (aK 9) (bp)))))
 (bc (kc (rW (uA (jW (yj (jY (T:="bool") (by decide) qY (by decide) (by decide) nm.isinstance nm.bool (aK 11)))) (uA (de (wU hr.units) (aK 11) (aT d__law_is_knot (hr.mono (by decide)) (aQ (aK 3) (aQ (aK 9) (bp))))) (si (de (Hf) (bA (wI hr) nm.repr (aQ (aK 9) (bp))) (aK 10)))))) (bc (bw (vJ))) (gv))))))))))))))))
 (bc (bw (vJ)))
end
end Lw
namespace Lv
variable{adj:Int->Int->Prop}{p:Int}
def R(adj:Int->Int->Prop)(p:Int):Nat->Int->Prop
 |0,q=>q=p
 |n+1,q=>R adj p n q\/∃r,adj r q/\R adj p n r
theorem R.up{n:Nat}{q:Int}(h:R adj p n q):R adj p (n+1) q:=.inl h
theorem R.mono{n m:Nat}{q:Int}(h:R adj p n q)(hm:n<=m):R adj p m q:=by
 induction hm with
 |refl=>exact h
 |step _ ih=>exact ih.up
end Lv
namespace Lv
end Lv
namespace Lw
open PySem L2 RS
theorem bH:1000<=sizeLine:=by decide
theorem vX{μ:au}(s:Int):∃r:Int,eS [.int s] μ=.ok (.int r) μ:=by
 have h0:0<=(s+7919)%2147483647:=NI _ (by decide);have h1:(s+7919)%2147483647<2147483647:=NJ _ (by decide);generalize ht:(s+7919)%2147483647=t at h0 h1;refine⟨(t*t+48271*t+12345)%2147483629,?_⟩;have c1:se t t:=.inl ⟨by omega,by omega⟩;have c2:se 48271 t:=.inl ⟨by omega,by omega⟩;unfold eS;rw[h7];simp[mx,ht,c1,c2];exact dr (by simp)
def bW(a b c:Int):O:=.lst [.int a,.int b,.int c]
theorem qQ{n:Nat}{a b c:Int}:(bW a b c).low n:=by simp[bW,O.low]
theorem Ec{μ:au}(x:Int):∃a b c:Int,d7 [.int x] μ=.ok (.obj μ.length) (μ++[bW a b c]):=by
 have e:∀i j:Int,qr [.int i,.int j] μ=.ok (.int (if j>i then j else i)) μ:=fun _ _=>rfl;have p1:yF 10 18:=⟨by decide,by decide,by decide⟩;have ib:∀k:Bool,∀μ,sA [.bl k] μ=.ok (.int (if k then 1 else 0)) μ:=fun _ _=>rfl;refine⟨(if 0-x>x then 0-x else x),(if gL .GtE (if 0-x>x then 0-x else x) (10^(18:Int).toNat) then 1 else 0),(if 0-x>x then 0-x else x)%1000003,?_⟩;unfold d7;rw[h7];have l3:(3:Nat)<=sizeLine:=by decide
 simp only[ka,aJ,aY,az,aq,av,ag,ai,aI,br,aa,ab,ae,Dt,e,bh,aB,bo,fB,List.set,List.replicate,NK,NL];have pw:wX (.int 10) (.int 18) μ=.ok (.int (10^(18:Int).toNat)) μ:=lI p1;have md:∀x,rZ (.int x) (.int 1000003) μ=.ok (.int (x%1000003)) μ:=fun x=>lI (show (0:Int)<1000003 by decide);simp only[pw,md,aa,ab,eX,ib,La,Lp,Jo l3,ae,aV];rw[vP (by simp)];rfl
theorem Bp{μ:au}{i:Nat}{a b c m:Int}(hp:μ[i]?=some (bW a b c))(h0:0<m)(h1:m<1073741824) :
  ∃r a' b' c':Int,0<=r/\r<m/\aG [.obj i,.int m] μ=.ok (.int r) (μ.set i (bW a' b' c')):=by
 have hi:i<μ.length:=(JG.mp hp).1;have hp':μ[i]?=some (.lst [.int a,.int b,.int c]):=hp;have md:∀{x:Int}{μ:au},rZ (.int x) (.int m) μ=.ok (.int (x%m)) μ:=fun {x μ}=>lI (show (fun _ j=>(0:Int)<j) x m from h0);have fd:∀{x:Int}{μ:au},sC (.int x) (.int m) μ=.ok (.int (x / m)) μ:=fun {x μ}=>lI (show A5 x m from⟨h0,by omega⟩);have f64:∀{x:Int}{μ:au},sC (.int x) (.int 64) μ=.ok (.int (x / 64)) μ:=fun {x μ}=>lI (show A5 x 64 from⟨by decide,by decide⟩);unfold aG;rw[eK];by_cases hb:b=1
 ·subst hb;refine⟨a%m,a / m,1,c,NI _ (by omega),NJ _ h0,?_⟩;simp only[jq,aJ,cQ,cV,aI,ag,ai,br,aa,ab];rw[iM hp' y4];simp only[aa,ab,h8,K8,Ku,bt,ae,aJ,aY,aI,ag,ai,br];simp only[K9,Kt,Ku,aJ,aY,aI,ag,ai,br,aa,ab];rw[iM hp' vR];simp only[aa,ab,md,ae,bh,aB,List.replicate,NK,NL,ag,ai,br,aI,aY,aJ];rw[iM hp' vR];simp only[aa,ab,fd,ae,wC,ag,ai,br];rw[wz hp' (zk (by decide) (by simp))];simp only[aa,ab,ae,aB,bo,ag,ai,iK,aV];exact wy (by simp only[Co]) (qQ (a:=a / m) (b:=1) (c:=c))
 ·obtain ⟨s1, e1⟩ := vX (μ := μ) c;obtain⟨s2,e2⟩:=vX (μ:=μ) (s1+7);refine⟨s2 / 64%m,a,b,s2,NI _ (by omega),NJ _ h0,?_⟩;have hb':(b == 1)=false:=by simpa using hb
  simp only[jq,aJ,cQ,cV,aI,ag,ai,br,aa,ab];rw[iM hp' y4];simp only[aa,ab,h8,hb',bt,ae,K9,Kt,cy,aB,aJ,aY,az,aq,av,aI,ag,ai,br];rw[iM hp' Dx];simp only[aa,ab,e1,gS,e2,ae,wC,ag,ai,br];rw[wz hp' (zk (by decide) (by simp))];have hg:(μ.set i (.lst ([D.int a,D.int b,D.int c].set (2:Int).toNat (.int s2))))[i]?=some (.lst [D.int a,D.int b,D.int s2]):=by rw[JI hi];rfl
  simp only[aa,ab,ae,aB,bo,aI,ag,ai,br];rw[iM hg Dx];simp only[aa,ab,f64,md,ae,aV];exact wy (by simp) (qQ (a:=a) (b:=b) (c:=s2))
theorem aE{μ g:au}{i:Nat}{o:O}(h:μ[i]?=some o):(μ++g)[i]?=some o:=by
 rw[Kg (JG.mp h).1];exact h
theorem qL{μ g:au}{i:Nat}{o:O}(h:i<μ.length):(μ++g).set i o=μ.set i o++g:=by
 rw[List.set_append_left _ _ h]
theorem mW{μ:au}{i:Nat}{o:O}(h:i<μ.length):(μ.set i o)[i]?=some o:=JI h
def yn(m:Int)(k:List Int):Prop:=∃a b:Int,k=[a,b]/\0<=a/\a<b/\b<m
theorem yn.prs{m:Int}{k:List Int}(h:yn m k)(hm:m<=6):k∈prs:=by
 obtain⟨a,b,rfl,h1,h2,h3⟩:=h;exact qO h1 h2 (by omega)
def pI(d:D)(m:Int)(ks:List (List Int)):Prop:=d=.tup [.int m,.tup (ks.map bg)]/\1<=m/\m<=6/\(ks.Pairwise fun a b=>oJ a<oJ b)/\∀k∈ks,yn m k
theorem ua{m:Int}{ks:List (List Int)}(h0:1<=m)(h1:m<=6)(hk:∀k∈ks,yn m k):pI (.tup [.int m,.tup ((fw ks).map bg)]) m (fw ks):=by
 refine⟨rfl,h0,h1,kq.filter _,fun k h=>?_⟩;unfold fw at h;rw[Jv,Np]at h;exact hk k h.2
theorem ix{m:Int}{ks:List (List Int)}{d:D}(h:pI d m ks):ks.length<=15:=by
 obtain⟨_,_,hm,hp,hk⟩:=h;have hn:ks.Nodup:=hp.imp fun h e=>by subst e;omega
 have hs:ks ⊆ prs:=fun k h=>(hk k h).prs hm;have:=hn.length_le_of_subset hs;rw[wg]at this;exact this
def iI(p:Int×Int):D:=.tup [.int p.1,.int p.2]
theorem l2:(2:Nat)<=sizeLine:=by decide
theorem Jd{u v:Int}{μ:au}:uF [.tup [.int u,.int v]] μ=.ok (.int (min u v)) μ:=rfl
theorem Je{u v:Int}{μ:au}:qr [.tup [.int u,.int v]] μ=.ok (.int (max u v)) μ:=rfl
theorem iw{n:Nat}{d:D}{m:Int}{ks:List (List Int)}(h:pI d m ks):d.low n:=by
 obtain⟨rfl,_⟩:=h;simp
 exact nU.mpr fun x hx=>by
  obtain⟨k,_,rfl⟩:=Lz.mp hx;simp[bg];exact nU.mpr (by simp)
theorem jL{lo:Int}{n:Nat}:cJ lo (n+1)=.int lo::cJ (lo+1) n:=by
 unfold cJ;rw[Ll,KN,Lm];congr 1
 ·simp
 ·apply Ln;intro i _;simp only[Function.comp_apply];congr 1;omega
theorem jK{lo:Int}:cJ lo 0=[]:=rfl
theorem zY{lo:Int}{n:Nat}(h:cJ lo n=[]):n=0:=by
 cases n with
 |zero=>rfl
 |succ n=>rw[jL]at h;cases h
theorem l1:(1:Nat)<=sizeLine:=by decide
end Lw
namespace Lw
open PySem L2 RS Lv
def DE(ks:List (List Int)):List (Int×Int):=ks.flatMap fun k=>match k with
 |[u,v]=>[(u,v),(v,u)]
 |_=>[]
def rV(ks:List (List Int))(a b:Int):Prop:=(a,b)∈DE ks
section
variable{μ0 μ:au}{m a:Nat}{web:D}{M p u v q r:Int}{n:Nat}{T:Int->Int->Option Nat}{f:Int->Option Nat}
theorem CM{ks:List (List Int)}(hk:∀k∈ks,yn m k){x y:Int}(h:rV ks x y):(0<=x/\x<m)/\(0<=y/\y<m):=by
 unfold rV DE at h;obtain⟨k,hk',hm⟩:=NM.mp h;obtain⟨u,v,rfl,u0,uv,v1⟩:=hk k hk';simp at hm;omega
end
end Lw
namespace Lw
open PySem L2 RS Lv
section
variable{μ0 μ:au}{m a:Nat}{p q:Int}{k:Int}{T:Int->Int->Option Nat}
end
end Lw
namespace Lw
open PySem L2 RS Lv
theorem nW{μ:au}:∀fs:List Int,gy μ (fs.map D.int)=some (fs.map PyData.int)
 |[]=>rfl
 |x::fs=>by simp only[KN,gy,nW fs];rfl
theorem kY:∀fs:List Int,PyData.canLayAll0 (fs.map PyData.int)=true/\PyData.depthAll (fs.map PyData.int)=0
 |[]=>by simp[PyData.canLayAll0,PyData.depthAll]
 |x::fs=>by
  have:=kY fs;simp only[KN,PyData.canLayAll0,PyData.depthAll,PyData.canLay0,PyData.depth,this.1,this.2];exact⟨rfl,rfl⟩
theorem kS{m:Int}{ks:List (List Int)}(hk:∀k∈ks,yn m k){a b:Int}:rV ks a b↔([a,b]∈ks\/[b,a]∈ks):=by
 unfold rV DE;rw[NM];constructor
 ·rintro ⟨k, hk', hm⟩
  obtain⟨u,v,rfl,_⟩:=hk k hk';simp at hm;rcases hm with⟨rfl,rfl⟩|⟨rfl,rfl⟩
  ·exact .inl hk'
  ·exact .inr hk'
 ·rintro (h | h)
  ·exact⟨_,h,by simp⟩
  ·exact⟨_,h,by simp⟩
def fO(k:List Int):PyData:=.tuple (k.map PyData.int)
theorem pU{μ:au}{m:Int}:∀{ks:List (List Int)},(∀k∈ks,yn m k)->gy μ (ks.map bg)=some (ks.map fO)
 |[],_=>rfl
 |k::ks,h=>by
  obtain⟨a,b,rfl,_⟩:=h k JA;have ih:=pU (μ:=μ) fun x hx=>h x (JB _ hx);simp only[KN,gy,ih];rfl
theorem pV{m:Int}:∀{ks:List (List Int)},(∀k∈ks,yn m k)->PyData.canLayAll0 (ks.map fO)=true/\PyData.depthAll (ks.map fO)<=1
 |[],_=>by simp[PyData.canLayAll0,PyData.depthAll]
 |k::ks,h=>by
  obtain⟨a,b,rfl,_⟩:=h k JA;have ih:=pV fun x hx=>h x (JB _ hx);simp only[KN,PyData.canLayAll0,PyData.depthAll,ih.1,fO,KM,PyData.canLay0,PyData.depth];refine⟨rfl,?_⟩;have:=ih.2;omega
end Lw
namespace Lw
open PySem L2 RS
def Pn(μ0:au)(i:Nat)(μ:au):Prop:=∃a b c g,μ=μ0.set i (bW a b c)++g
theorem Pn.app{μ0 μ g:au}{i:Nat}(h:Pn μ0 i μ):Pn μ0 i (μ++g):=by
 obtain⟨a,b,c,g',rfl⟩:=h;exact⟨a,b,c,g'++g,by rw[KZ]⟩
theorem Pn.get{μ0 μ:au}{i:Nat}(h:Pn μ0 i μ)(hi:i<μ0.length):∃a b c,μ[i]?=some (bW a b c):=by
 obtain⟨a,b,c,g',rfl⟩:=h;exact⟨a,b,c,aE (mW hi)⟩
theorem Pn.set{μ0 μ:au}{i:Nat}{a b c:Int}(h:Pn μ0 i μ)(hi:i<μ0.length):Pn μ0 i (μ.set i (bW a b c)):=by
 obtain⟨a',b',c',g',rfl⟩:=h;exact⟨a,b,c,g',by rw[qL (by simpa using hi),List.set_set]⟩
theorem Pn.len{μ0 μ:au}{i:Nat}(h:Pn μ0 i μ):μ0.length<=μ.length:=by
 obtain⟨a',b',c',g',rfl⟩:=h;simp
theorem Pn.self{μ0:au}{i:Nat}{a b c:Int}(h:μ0[i]?=some (bW a b c)):Pn μ0 i μ0:=by
 refine⟨a,b,c,[],?_⟩;rw[J7];apply Mv;intro j;by_cases e:i=j
 ·subst e;rw[mW (JG.mp h).1,h]
 ·rw[JJ e]
theorem Pn.draw{μ0 μ:au}{i:Nat}{m:Int}(h:Pn μ0 i μ)(hi:i<μ0.length)(h0:0<m)(h1:m<1073741824) :
  ∃r a b c:Int,0<=r/\r<m/\aG [.obj i,.int m] μ=.ok (.int r) (μ.set i (bW a b c))/\Pn μ0 i (μ.set i (bW a b c)):=by
 obtain⟨a,b,c,hp⟩:=h.get hi;obtain⟨r,a',b',c',r0,r1,e⟩:=Bp hp h0 h1;exact⟨r,a',b',c',r0,r1,e,h.set hi⟩
theorem Pn.gc{μ0 μ:au}{i:Nat}{d:D}(h:Pn μ0 i μ)(hd:d.low μ0.length):∃a b c,oK μ0 (.ok d μ)=.ok d (μ0.set i (bW a b c)):=by
 obtain⟨a,b,c,g',rfl⟩:=h;exact⟨a,b,c,zl hd qQ⟩
theorem xA{m:Int}{ks:List (List Int)}(h:∀k∈ks,yn m k):eU (.tuple (ks.map fO))=true:=by
 have:=pV h;simp only[eU,PyData.canLay0,this.1,PyData.depth,NG];exact K5 (by omega)
theorem FX{β:Type}{xs:List β}{r:Nat}(h:r<=xs.length):fN xs none (some (r:Int))=xs.take r:=by
 unfold fN;rw[HT.sIx_none,HT.sIx_nat];simp[Nat.min_eq_left h]
end Lw
namespace Lv
def hG(ks:List (List Int))(a b:Int):Bool:=decide ([min a b,max a b]∈ks)
def rg(m:Nat):List Int:=(List.range m).map Int.ofNat
theorem iL{m:Nat}{p:Int}:p∈rg m↔0<=p/\p<m:=by
 unfold rg;rw[Lz];constructor
 ·rintro ⟨i, hi, rfl⟩
  have:=Jw.mp hi;exact⟨Int.natCast_nonneg _,by simpa using this⟩
 ·rintro ⟨h0, h1⟩
  exact⟨p.toNat,Jw.mpr (by omega),by simp;omega⟩
theorem kh{m:Nat}:(rg m).length=m:=by simp[rg]
theorem C9{m:Nat}:(rg m).Pairwise (·<·):=by
 unfold rg;rw[My];exact List.pairwise_lt_range.imp fun h=>by simpa using h
structure Ji(m k:Nat)(w:List Int):Prop where
 len:w.length=k+1
 nd:w.Nodup
 rng:∀p∈w,0<=p/\p<(m:Int)
end Lv
namespace Lw
open PySem L2 RS Lv
theorem cf{U:Type}{en:U->D}{src:mP}{g:MG}{t:MT}{e:ME}{μ1:au}{q:U->Bool}{h:U->D}(R:Ro->Prop)(ho:∀a,bB src (μ1++[.lst a])) :
  ∀{us:List U}{acc:List D}{ρ:Ro},R ρ->acc.length+us.length<=sizeLine->(∀x∈us,∀a ρ,R ρ->∃ρ1,R ρ1/\g (en x) ρ (μ1++[.lst a])=.ok ρ1 (μ1++[.lst a])/\t ρ1 (μ1++[.lst a])=.ok (q x) (μ1++[.lst a])/\(q x=true->e ρ1 (μ1++[.lst a])=.ok (h x) (μ1++[.lst a]))) ->
   compLoop src μ1.length g t e (us.map en) ρ (μ1++[.lst acc])=.ok (.obj μ1.length) (μ1++[.lst (acc++(us.filter q).map h)])
 |[],acc,ρ,hr,hl,he=>by
  rw[KM];unfold compLoop;rw[Jo (ho acc)];simp
 |x::xs,acc,ρ,hr,hl,he=>by
  obtain⟨ρ1,r1,e1,e2,e3⟩:=he x JA acc ρ hr;rw[KN];unfold compLoop;rw[Jo (ho acc),e1];simp only[ab,aa];rw[e2];simp only[ab,aa];have he':=fun y hy=>he y (JB _ hy);simp only[La]at hl;cases hq:q x with
  |false=>
   rw[Jp J4,cf R ho r1 (by omega) he',NA,hq];rfl
  |true=>
   rw[Jo rfl,e3 hq];simp only[ab,aa];rw[iA (by omega)];simp only[aa,ab];rw[cf R ho r1 (by simp;omega) he',NA,hq];simp
theorem kX{U:Type}{en:U->D}{src:mP}{g:MG}{t:MT}{fb:MB}{μ1:au}{q:U->Bool}{k:U->List D}(R:Ro->Prop)(ho:∀a,bB src (μ1++[.lst a])) :
  ∀{us:List U}{acc:List D}{ρ:Ro},R ρ->acc.length+((us.filter q).flatMap k).length<=sizeLine->(∀x∈us,∀a ρ,R ρ->∃ρ1,g (en x) ρ (μ1++[.lst a])=.ok ρ1 (μ1++[.lst a])/\t ρ1 (μ1++[.lst a])=.ok (q x) (μ1++[.lst a])/\(q x=false->R ρ1)/\(q x=true->a.length+(k x).length<=sizeLine->∃ρ2,R ρ2/\fb μ1.length ρ1 (μ1++[.lst a])=.ok ρ2 (μ1++[.lst (a++k x)]))) ->
   ∃ρ',R ρ'/\i3 src μ1.length g t fb (us.map en) ρ (μ1++[.lst acc])=.ok ρ' (μ1++[.lst (acc++(us.filter q).flatMap k)])
 |[],acc,ρ,hr,hl,he=>by
  refine⟨ρ,hr,?_⟩;rw[KM];unfold i3;rw[Jo (ho acc)];simp
 |x::xs,acc,ρ,hr,hl,he=>by
  obtain⟨ρ1,e1,e2,e4,e3⟩:=he x JA acc ρ hr;rw[KN];unfold i3;rw[Jo (ho acc),e1];simp only[ab,aa];rw[e2];simp only[ab,aa];have he':=fun y hy=>he y (JB _ hy);cases hq:q x with
  |false=>
   rw[NA,hq]at hl;rw[Jp J4,NA,hq];exact kX R ho (e4 hq) hl he'
  |true=>
   rw[NA,hq,Jo rfl,NN,Kj]at hl;obtain⟨ρ2,r2,e5⟩:=e3 hq (by omega);rw[Jo rfl,e5];simp only[ab,aa];obtain⟨ρ',r',e6⟩:=kX R ho r2 (acc:=acc++k x) (by rw[Kj];omega) he';refine⟨ρ',r',?_⟩;rw[e6,NA,hq,Jo rfl,NN,KZ]
theorem eY{U:Type}:∀{us:List U},us.filter (fun _=>true)=us
 |[]=>rfl
 |_::us=>by rw[NA,Jo rfl,eY]
theorem Ay{e:ME}{ρ:Ro}{μ1:au}{a:List D}{y:D}(h:e ρ (μ1++[.lst a])=.ok y (μ1++[.lst a]))(hl:a.length+1<=sizeLine):nD e μ1.length ρ (μ1++[.lst a])=.ok ρ (μ1++[.lst (a++[y])]):=by
 unfold nD;rw[h];simp only[ab,aa];rw[iA (by omega)];rfl
theorem uL:100000<=sizeLine:=by decide
theorem tP{μ:au}{m:Int}{ks:List (List Int)}{a b:Int}(hk:∀k∈ks,yn m k):rR false (.tup [.int a,.int b]) (.tup (ks.map bg)) μ=.ok (.bl (decide ([a,b]∈ks))) μ:=by
 have e1:mO μ (.tup [.int a,.int b])=some (.tuple [.int a,.int b]):=rfl
 have e2:mO μ (.tup (ks.map bg))=some (.tuple (ks.map fO)):=by
  simp only[mO,pU hk,Option.map_some]
 unfold rR;rw[e1,e2];dsimp only[uQ];rw[Jo ⟨rfl,xA hk⟩];simp only[K9,Kt];congr 2;rw[Nv];apply J3.mpr;rw[NO,Np];constructor
 ·rintro ⟨k, hk', e⟩
  obtain⟨u,v,rfl,_⟩:=hk k hk';have:u=a/\v=b:=by simpa[fO,PyData.eqv,PyData.eqvAll] using e
  rw[<- this.1,<- this.2];exact hk'
 ·intro h;exact⟨_,h,by simp[fO,PyData.eqv,PyData.eqvAll]⟩
theorem Dk{μ:au}{a b:Int}:uF [.int a,.int b] μ=.ok (.int (min a b)) μ:=by
 show af.ok (D.int (if b<a then b else a)) μ=_;congr 2;split <;> omega
theorem Dl{μ:au}{a b:Int}:qr [.int a,.int b] μ=.ok (.int (max a b)) μ:=by
 show af.ok (D.int (if b>a then b else a)) μ=_;congr 2;split <;> omega
abbrev aP(w:List Int):D:=.tup (w.map D.int)
theorem iU:∀(l acc:List Int),acc.Nodup->(l.foldl (fun acc k=>if k∈acc then acc else acc++[k]) acc).Nodup/\∀x,x∈l.foldl (fun acc k=>if k∈acc then acc else acc++[k]) acc↔x∈acc\/x∈l
 |[],acc,h=>⟨h,fun x=>by simp⟩
 |y::l,acc,h=>by
  rw[K1];by_cases c:y∈acc
  ·rw [Jo c];have ih:=iU l acc h;refine⟨ih.1,fun x=>?_⟩;rw[ih.2 x,JC];constructor
   ·rintro (z | z)
    ·exact .inl z
    ·exact .inr (.inr z)
   ·rintro (z | rfl | z)
    ·exact .inl z
    ·exact .inl c
    ·exact .inr z
  ·rw[Jp c];have ih:=iU l (acc++[y]) (by rw[L5];exact⟨h,by simp,fun a ha b hb=>by simp at hb;subst hb;exact fun e=>c (e ▸ ha)⟩);refine⟨ih.1,fun x=>?_⟩;rw[ih.2 x,JC,JE,Lk,or_assoc]
theorem nX:∀{ns:List Int},gN (ns.map D.int)=some ns
 |[]=>rfl
 |n::ns=>by simp[gN,nX (ns:=ns)]
theorem CB{ns:List Int}(h:∀n∈ns,0<=n/\n<6):yz (ns.map D.int)=some ns:=by
 unfold yz;rw[nX];dsimp only;rw[Jo (LY.mpr fun n hn=>K5 (h n hn))]
theorem Hj{μ:au}{neg:Bool}{w:List Int}{a:Int}:rR neg (.int a) (aP w) μ=.ok (.bl (if neg then !decide (a∈w) else decide (a∈w))) μ:=by
 have e2:mO μ (aP w)=some (.tuple (w.map PyData.int)):=by
  simp only[mO,nW,Option.map_some]
 have f2:eU (.tuple (w.map PyData.int))=true:=by
  have:=kY w;simp only[eU,PyData.canLay0,this.1,PyData.depth,this.2,NG];rfl
 unfold rR;rw[show mO μ (.int a)=some (.int a) from rfl,e2];dsimp only[uQ];rw[Jo ⟨rfl,f2⟩]
 have:(w.map PyData.int).any (fun y=>PyData.eqv y (.int a))=decide (a∈w):=by
  rw[Nv];apply J3.mpr;rw[NO,Np];constructor
  ·rintro ⟨x, hx, e⟩
   have:x=a:=by simpa[PyData.eqv] using e
   subst this;exact hx
  ·intro hx;exact⟨a,hx,by simp[PyData.eqv]⟩
 rw[this]
theorem zz{μ:au}{w:List Int}{p:Int}(h:w.length<=100):cw (aP w) (.tup [.int p]) μ=.ok (aP (w++[p])) μ:=by
 unfold cw;dsimp only;rw[Jo]
 ·show _=af.ok (D.tup ((w++[p]).map D.int)) μ;rw[LJ];rfl
 ·rw[Kk];exact Jx (by simp;omega) bH
theorem nH{m:Nat}:cJ 0 ((m:Int)).toNat=(rg m).map D.int:=by
 unfold cJ rg;rw[Lm];simp
end Lw
namespace Lw
open PySem L2 RS Lv
section
variable{μ0:au}{m A:Nat}{p:Int}{ks:List (List Int)}{w:D}
end
end Lw
namespace Lw
open PySem L2 RS Lv
end Lw
namespace Lv
section
variable{adj adj':Int->Int->Prop}{D:Int->Prop}{p:Int}
theorem R.add{q:Int}{n:Nat}(h:R adj p n q):∀{k:Nat}{r:Int},R adj q k r->R adj p (n+k) r
 |0,r,e=>by have:r=q:=e;subst this;exact h
 |k+1,r,e=>by
  rcases e with e|⟨t,e1,e2⟩
  ·exact .inl (R.add h e)
  ·exact .inr ⟨t,e1,R.add h e2⟩
theorem rh{n:Nat}:∀{k:Nat}{q:Int},R adj p (n+k) q->∃r,R adj p n r/\R adj r k q
 |0,q,h=>⟨q,h,rfl⟩
 |k+1,q,h=>by
  rcases h with h|⟨t,h1,h2⟩
  ·obtain⟨r,a,b⟩:=rh (k:=k) h;exact⟨r,a,.inl b⟩
  ·obtain⟨r,a,b⟩:=rh (k:=k) h2;exact⟨r,a,.inr ⟨t,h1,b⟩⟩
theorem R.one{a b:Int}(h:adj a b):R adj a 1 b:=.inr ⟨a,h,rfl⟩
theorem R.rev(hs:∀a b,adj a b->adj b a):∀{n:Nat}{q:Int},R adj p n q->R adj q n p
 |0,q,h=>by have:q=p:=h;exact this.symm
 |n+1,q,h=>by
  rcases h with h|⟨r,h1,h2⟩
  ·exact .inl (R.rev hs h)
  ·have:=R.add (R.one (hs _ _ h1)) (R.rev hs h2);rw[Nat.add_comm]at this;exact this
end
end Lv
namespace Lw
open PySem L2 RS Lv
theorem y8:∀{xs ys:List (List Int)},xs.Pairwise (fun a b=>oJ a<oJ b)->ys.Pairwise (fun a b=>oJ a<oJ b)->(∀k,k∈xs↔k∈ys)->xs=ys
 |[],ys,_,_,h=>by
  cases ys with
  |nil=>rfl
  |cons y ys=>exact absurd ((h y).mpr JA) Ml
 |x::xs,[],_,_,h=>absurd ((h x).mp JA) Ml
 |x::xs,y::ys,hx,hy,h=>by
  obtain⟨x1,x2⟩:=LI.mp hx;obtain⟨y1,y2⟩:=LI.mp hy
  have e:x=y:=by
   rcases JC.mp ((h x).mp JA) with z|z
   ·exact z
   ·rcases JC.mp ((h y).mpr JA) with u | u
    ·exact u.symm
    ·have:=y1 x z;have:=x1 y u;omega
  subst e;congr 1;refine y8 x2 y2 fun k=>?_;constructor
  ·intro hk;rcases JC.mp ((h k).mp (JB _ hk)) with z|z
   ·subst z;have:=x1 k hk;omega
   ·exact z
  ·intro hk;rcases JC.mp ((h k).mpr (JB _ hk)) with z|z
   ·subst z;have:=y1 k hk;omega
   ·exact z
theorem Au{d d':D}{m m':Int}{ks ks':List (List Int)}(h:pI d m ks)(h':pI d' m' ks')(e:∀a b:Int,[a,b]∈ks↔[a,b]∈ks'):ks=ks':=by
 refine y8 h.2.2.2.1 h'.2.2.2.1 fun k=>?_;constructor
 ·intro hk;obtain⟨a,b,rfl,_⟩:=h.2.2.2.2 k hk;exact(e a b).mp hk
 ·intro hk;obtain⟨a,b,rfl,_⟩:=h'.2.2.2.2 k hk;exact(e a b).mpr hk
abbrev aR(m:Nat)(ks:List (List Int)):D:=.tup [.int m,.tup (ks.map bg)]
abbrev GW(m:Nat)(ks:List (List Int)):Prop:=pI (aR m ks) m ks
open Classical in
def vK(m:Nat)(ks:List (List Int))(k:Nat):List (List Int):=prs.filter fun x=>decide (x.getD 1 0<(m:Int)/\R (rV ks) (x.getD 0 0) k (x.getD 1 0))
open Classical in
theorem zc{m k:Nat}{ks:List (List Int)}{a b:Int}(hm:m<=6):[a,b]∈vK m ks k↔(0<=a/\a<b/\b<(m:Int)/\R (rV ks) a k b):=by
 unfold vK;rw[Jv,decide_eq_true_iff];constructor
 ·rintro ⟨h1, h2, h3⟩
  obtain⟨c,d,e,g1,g2,g3⟩:=eQ h1;injection e with e1 e2
  injection e2 with e2 _
  subst e1 e2;exact⟨g1,g2,h2,h3⟩
 ·rintro ⟨h1, h2, h3, h4⟩
  exact⟨qO h1 h2 (by omega),h3,h4⟩
theorem qK{m k:Nat}{ks:List (List Int)}(h0:1<=m)(hm:m<=6):GW m (vK m ks k):=by
 refine⟨rfl,by omega,by omega,kq.filter _,fun x hx=>?_⟩;obtain⟨a,b,rfl,g1,g2,g3⟩:=eQ (Jv.mp hx).1;obtain⟨h1,h2,h3,_⟩:=(zc hm).mp hx;exact⟨a,b,rfl,h1,h2,h3⟩
end Lw
namespace Lw
open PySem L2 RS Lv
section
variable{m:Nat}{ks:List (List Int)}
theorem GW.m0(h:GW m ks):1<=m:=by have:=h.2.1;omega
theorem GW.m6(h:GW m ks):m<=6:=by have:=h.2.2.1;omega
theorem DI(h:GW m ks){a b:Int}(e:rV ks a b):rV ks b a:=(kS h.2.2.2.2).mpr ((kS h.2.2.2.2).mp e).symm
theorem DJ(h:GW m ks){a b:Int}(e:rV ks a b):(0<=a/\a<(m:Int))/\(0<=b/\b<(m:Int)):=CM h.2.2.2.2 e
end
end Lw
namespace Lw
open PySem L2 RS Lv
mutual
def Kn(μ:au):D->Prop
 |.tup xs=>xs.length<1000/\Kns μ xs
 |.obj n=>∃tn,AL μ (.obj n)=some tn/\tn ≠ "int" /\ tn ≠ "bool" /\ tn ≠ "tuple"
 |_=>True
def Kns(μ:au):List D->Prop
 |[]=>True
 |x::xs=>Kn μ x/\Kns μ xs
end
theorem mV{μ:au}:∀{xs:List D},Kns μ xs↔∀x∈xs,Kn μ x
 |[]=>by simp[Kns]
 |x::xs=>by simp[Kns,mV (xs:=xs)]
theorem Bc{μ g:au}{n:Nat}{tn:String}(h:AL μ (.obj n)=some tn):AL (μ++g) (.obj n)=some tn:=by
 unfold AL at h⊢;dsimp only at h⊢;cases e:μ[n]? with
 |none=>rw[e]at h;cases h
 |some o=>rw[Kg (JG.mp e).1,e];rw[e]at h;exact h
mutual
theorem qS{μ:au}(g:au):∀{d:D},Kn μ d->Kn (μ++g) d
 |.non,_=>by simp[Kn]
 |.bl _,_=>by simp[Kn]
 |.int _,_=>by simp[Kn]
 |.str _,_=>by simp[Kn]
 |.frz _,_=>by simp[Kn]
 |.obj n,h=>by
  simp only[Kn]at h⊢;obtain⟨tn,h1,h2⟩:=h;exact⟨tn,Bc h1,h2⟩
 |.tup xs,h=>by
  simp only[Kn]at h⊢;exact⟨h.1,kns_more g h.2⟩
theorem kns_more{μ:au}(g:au):∀{xs:List D},Kns μ xs->Kns (μ++g) xs
 |[],_=>by simp[Kns]
 |x::xs,h=>by
  simp only[Kns]at h⊢;exact⟨qS g h.1,kns_more g h.2⟩
end
def isInt:D->Bool
 |.int _=>true
 |_=>false
def jh:D->Bool
 |.tup _=>true
 |_=>false
def gO(a b:Int):D->Bool
 |.int i=>decide (a<=i)&&decide (i<=b)
 |_=>false
theorem xK {μ:au}{d:D} (h:Kn μ d):∃b,gf "int" d μ=.ok (.bl b) μ/\(b=true↔(isInt d=true\/∃c,d=.bl c)):=by
 cases d with
 |obj n=>
  simp only[Kn]at h;obtain⟨tn,h1,h2,h3,h4⟩:=h;refine⟨_,by unfold gf;rw[h1],?_⟩;simp[jd,isInt,h2,h3]
 |non=>exact⟨_,rfl,by simp[jd,isInt]⟩
 |bl b=>exact⟨_,rfl,by simp[jd,isInt]⟩
 |int b=>exact⟨_,rfl,by simp[jd,isInt]⟩
 |str b=>exact⟨_,rfl,by simp[jd,isInt]⟩
 |tup b=>exact⟨_,rfl,by simp[jd,isInt]⟩
 |frz b=>exact⟨_,rfl,by simp[jd,isInt]⟩
theorem Aq {μ:au}{d:D} (h:Kn μ d):∃b,gf "bool" d μ=.ok (.bl b) μ/\(b=true↔∃c,d=.bl c):=by
 cases d with
 |obj n=>
  simp only[Kn]at h;obtain⟨tn,h1,h2,h3,h4⟩:=h;refine⟨_,by unfold gf;rw[h1],?_⟩;simp[jd,h2,h3]
 |non=>exact⟨_,rfl,by simp[jd]⟩
 |bl b=>exact⟨_,rfl,by simp[jd]⟩
 |int b=>exact⟨_,rfl,by simp[jd]⟩
 |str b=>exact⟨_,rfl,by simp[jd]⟩
 |tup b=>exact⟨_,rfl,by simp[jd]⟩
 |frz b=>exact⟨_,rfl,by simp[jd]⟩
theorem p3 {μ:au}{d:D} (h:Kn μ d):gf "tuple" d μ=.ok (.bl (jh d)) μ:=by
 cases d with
 |obj n=>
  simp only[Kn]at h;obtain⟨tn,h1,h2,h3,h4⟩:=h;unfold gf;rw[h1];simp[jd,jh,h4]
 |non=>rfl
 |bl b=>rfl
 |int b=>rfl
 |str b=>rfl
 |tup b=>rfl
 |frz b=>rfl
theorem n9{μ:au}{d:D}(h:Kn μ d):gD [d] μ=.ok (.bl (isInt d)) μ:=by
 obtain⟨b1,e1,f1⟩:=xK h;obtain⟨b2,e2,f2⟩:=Aq h;unfold gD;rw[h7]
 have:(b1 && !b2)=isInt d:=by
  cases d <;> simp[isInt]at f1 f2⊢ <;> simp[f1,f2]
 simp[oz,e1,e2];cases b1 <;> cases b2 <;> simp at this⊢ <;> rw[<- this] <;> exact dr (by simp)
theorem lM{μ:au}{d:D}(h:Kn μ d):bT [d] μ=.ok (.bl (isInt d)) μ:=n9 h
theorem zE{μ:au}{d:D}{a b:Int}(h:Kn μ d):dh [d,.int a,.int b] μ=.ok (.bl (gO a b d)) μ:=by
 unfold dh;rw[uS];simp[i9,n9 h]
 cases d <;> simp[isInt,gO] <;> first
  |exact dr (by simp)
  |skip
 simp[gL];split <;> (rename_i hc;simp[hc];exact dr (by simp))
theorem u9{μ:au}{d:D}{m:Int}(h:Kn μ d):gE [.int m,d] μ=.ok (.bl (gO 0 (m-1) d)) μ:=by
 unfold gE;rw[eK];simp[oA,zE h];exact dr (by simp)
def ux(m:Int):D->Bool
 |.tup xs=>xs.all (gO 0 (m-1))
 |_=>false
theorem AB{μ:au}{xs:List D}{h:D->Bool}{e:ME}{c:D}(hl:xs.length<=sizeLine)(he:∀x∈xs,∀a,e [some x,some c] (μ++[.lst a])=.ok (.bl (h x)) (μ++[.lst a])) :
  compLoop (.fix xs) μ.length (ao 0) cW e xs [none,some c] (μ++[.lst []])=.ok (.obj μ.length) (μ++[.lst ((xs.map h).map D.bl)]):=by
 have:=jN (src:=.fix xs) (g:=ao 0) (t:=cW) (e:=e) (μ1:=μ) (q:=fun _=>true) (h:=fun x=>D.bl (h x)) (fun ρ=>∃o,ρ=[o,some c]) (fun _=>trivial) (xs:=xs) (acc:=[]) (ρ:=[none,some c]) ⟨none,rfl⟩ (by simpa using hl)
  (fun x hx a ρ ⟨o,ho⟩=>⟨[some x,some c],⟨_,rfl⟩,by subst ho;rfl,rfl,fun _=>he x hx a⟩)
 rw[this,List.filter_eq_self.mpr (fun _ _=>rfl)];simp[Lm,NP]
theorem zM:1000<=sizeLine:=by decide
theorem xh{μ:au}{d:D}{m:Int}(h:Kn μ d):fT [.int m,d] μ=.ok (.bl (ux m d)) μ:=by
 unfold fT;rw[eK];simp[mv,p3 h];cases d with
 |tup xs=>
  simp only[jh,Ku,ux];simp;simp only[Kn]at h;rw[AB (h:=gO 0 (m-1)) (Jx (Jy h.1) zM) fun x hx a=>?_]
  ·simp;rw[iQ (bs:=xs.map (gO 0 (m-1))) (by simp)];simp[Nu,NP];exact eW (by simp)
  ·simp[j7];exact u9 (qS _ (mV.mp h.2 x hx))
 |non=>simp[jh,ux];exact dr (by simp)
 |bl b=>simp[jh,ux];exact dr (by simp)
 |int b=>simp[jh,ux];exact dr (by simp)
 |str b=>simp[jh,ux];exact dr (by simp)
 |frz b=>simp[jh,ux];exact dr (by simp)
 |obj b=>simp[jh,ux];exact dr (by simp)
theorem sW{m:Int}{xs:List D}(h:ux m (.tup xs)=true):∃ns:List Int,xs=ns.map D.int/\∀n∈ns,0<=n/\n<=m-1:=by
 simp only[ux]at h
 induction xs with
 |nil=>exact⟨[],rfl,by simp⟩
 |cons x r ih=>
  rw[Nt,KJ]at h;obtain⟨ns,e,f⟩:=ih h.2;cases x with
  |int i=>
   simp[gO]at h;exact⟨i::ns,by rw[e];rfl,fun n hn=>(JC.mp hn).elim (fun z=>by rw[z];exact h.1) (f n)⟩
  |non=>simp[gO]at h
  |bl b=>simp[gO]at h
  |str b=>simp[gO]at h
  |tup b=>simp[gO]at h
  |frz b=>simp[gO]at h
  |obj b=>simp[gO]at h
def mm(p:Int×Int):List Int:=[min p.1 p.2,max p.1 p.2]
def PP(m:Nat)(p:Int×Int):Prop:=(0<=p.1/\p.1<(m:Int))/\(0<=p.2/\p.2<(m:Int))/\p.1≠p.2
theorem PP.ok{m:Nat}{p:Int×Int}(h:PP m p):yn m (mm p):=⟨_,_,rfl,by have:=h.1;have:=h.2.1;omega,by have:=h.2.2;omega,by have:=h.1;have:=h.2.1;omega⟩
theorem zJ{m:Nat}{ps:List (Int×Int)}{a b:Int}(hm:m<=6)(hps:∀p∈ps,PP m p):[a,b]∈fw (ps.map mm)↔∃p∈ps,mm p=[a,b]:=by
 unfold fw;rw[Jv,Np,Lz];exact⟨fun h=>h.2,fun h=>⟨by obtain⟨p,hp,e⟩:=h;rw[<- e];exact(hps p hp).ok.prs (by omega),h⟩⟩
theorem mQ{m:Nat}{ps:List (Int×Int)}(h0:1<=m)(hm:m<=6)(hps:∀p∈ps,PP m p):GW m (fw (ps.map mm)):=ua (by omega) (by omega) fun k hk=>by obtain⟨p,hp,rfl⟩:=Lz.mp hk;exact(hps p hp).ok
theorem lL{μ:au}{m t:Nat}{ps:List (Int×Int)}(h0:1<=m)(hm:m<=6)(hl:ps.length<=100000)(ht:μ[t]?=some (.lst (ps.map iI)))(hps:∀p∈ps,PP m p):bq [.int m,.obj t] μ=.ok (aR m (fw (ps.map mm))) μ:=by
 have c:=cf (U:=Int×Int) (en:=iI) (src:=.own t (ps.map iI)) (g:=pD 2 (hW (ao 0) (hW (ao 1) (pE)))) (t:=cW) (e:=fZ) (μ1:=μ) (q:=fun _=>true) (h:=fun p=>bg (mm p)) (fun ρ=>∃o o',ρ=[o,o']) (fun _=>aE ht) (us:=ps) (acc:=[]) (ρ:=[none,none]) ⟨_,_,rfl⟩
  (by rw[Lp];exact Jx (by omega) uL)
  (fun p hp a ρ hJJ => by
   obtain⟨o,o',e⟩:=hJJ;subst e;refine⟨[some (.int p.1),some (.int p.2)],⟨_,_,rfl⟩,rfl,rfl,fun _=>?_⟩;unfold fZ;simp only[dX,az,aq,av,ag,ai,aa,ab,Dk,Dl,La,Lp,Jo l2]
   rfl)
 rw[eY,K4,show ps.map (fun p=>bg (mm p))=(ps.map mm).map bg from by rw[Lm];rfl]at c
 have hk:∀k∈ps.map mm,k∈prs:=fun k hk=>by
  obtain⟨p,hp,rfl⟩:=Lz.mp hk;exact(hps p hp).ok.prs (by omega)
 let M1:au:=μ++[O.lst ((ps.map mm).map bg)]
 have s1:mB [.obj μ.length] M1=.ok (.obj M1.length) (M1++[.set (h9 (ps.map mm))]):=by
  unfold mB;dsimp only;rw[show M1[μ.length]?=some (.lst ((ps.map mm).map bg)) from aA];dsimp only;unfold pq;rw[tJ hk]
 have s2:cR [.obj M1.length] (M1++[.set (h9 (ps.map mm))])=.ok (.obj (M1++[O.set (h9 (ps.map mm))]).length) ((M1++[.set (h9 (ps.map mm))])++[.lst ((fw (ps.map mm)).map bg)]):=by
  unfold cR;dsimp only;rw[aA];dsimp only;unfold jH;dsimp only;rw[aA];dsimp only;rw[ub]
 unfold bq;rw[eK];simp only[j9,List.replicate,bo,dX,aq,av,az,ai,ag,aa,ab,bR,bF];rw[d9 ht];simp only[aa,ab,cu];rw[show eH [none,none] _=[none,none] from rfl,c];simp only[aa,ab];rw[show mB [.obj μ.length] (μ++[O.lst ((ps.map mm).map bg)])=_ from s1];simp only[aa,ab];rw[s2];simp only[aa,ab];rw[mY aA];simp only[aa,ab,La,Lp,Jo l2,ae,aV,M1,KZ];exact eW (iw (mQ h0 hm hps))
theorem FU{μ0 μ1:au}{i:Nat}{m q:Nat}{sh:Int}(hi:i<μ0.length)(h:Pn μ0 i μ1)(hq:q<m)(m6:m<=6)(s0:0<sh)(s1:sh<1000) :
  ∃(qs:List (Int×Int))(μ2:au),(∀p∈qs,PP m p)/\qs.length<=q/\Pn μ0 i μ2/\μ2.length=μ1.length/\(∀j o,i≠j->μ1[j]?=some o->μ2[j]?=some o)/\compLoop (.fix (cJ 0 q)) μ1.length (ao 0) c8 c9 (cJ 0 q) [none,some (.int q),some (.obj i),some (.int sh)] (μ1++[.lst []])=.ok (.obj μ1.length) (μ2++[.lst (qs.map iI)]):=by
 have run:=iy (src:=.fix (cJ 0 q)) (g:=ao 0) (t:=c8) (e:=c9) (n:=μ1.length)
  (fun xs ys ρ μ2 s=>s=[]/\μ2.length=μ1.length/\Pn μ0 i μ2/\(∀j o,i≠j->μ1[j]?=some o->μ2[j]?=some o)/\(∃o,ρ=[o,some (.int q),some (.obj i),some (.int sh)])/\∃(lo n:Nat)(qs:List (Int×Int)),xs=cJ lo n/\lo+n=q/\ys=qs.map iI/\qs.length<=lo/\(∀p∈qs,PP m p))
  (fun ys ρ μ2 s ⟨_,e1,_⟩=>⟨e1,trivial⟩)
  (fun x r ys ρ μ2 s hJJ => by
   obtain⟨es,e1,e2,ek,⟨o,e4⟩,lo,n,qs,e5,e7,e8,e9,e10⟩:=hJJ;subst es e4 e8;cases n with
   |zero=>rw[jK]at e5;cases e5
   |succ n=>
    rw[jL]at e5;injection e5 with ex er
    subst ex er;have i2:i<μ2.length:=Js hi e2.len;obtain⟨v,a,b,c,v0,v1,ed,hp⟩:=(e2.app (g:=[.lst (qs.map iI)])).draw (m:=sh) hi s0 (by omega);rw[qL i2]at ed;refine⟨e1,trivial,[some (.int lo),some (.int q),some (.obj i),some (.int sh)],μ2,[],v == 0,μ2.set i (bW a b c),[],rfl,?_,fun hc=>?_,fun hc=>?_⟩
    ·unfold c8;simp only[cV,aI,az,aq,av,ai,ag,br,aa,ab,ed,h8,K9,Kt,bt]
    ·refine ⟨iI ((lo : Int), (q : Int)), μ2.set i (bW a b c), [], ?_, ?_, by simpa using e1, rfl, by simpa using e1, e2.set hi, fun j o ne z => by rw [JJ ne]; exact ek j o ne z, ⟨_, rfl⟩, lo + 1, n, qs ++ [((lo : Int), (q : Int))], by push_cast; rfl, by omega, by simp, by simp; omega, fun p hp => ?_⟩
     ·unfold c9;simp only[dX,aq,av,ai,ag,aa,ab,La,Lp,Jo l2];rfl
     ·rw[Kk];exact Js (show qs.length<1000 by omega) bH
     ·rcases JE.mp hp with z | z
      ·exact e10 p z
      ·simp at z;subst z;exact⟨⟨by dsimp only;omega,by dsimp only;omega⟩,⟨by dsimp only;omega,by dsimp only;omega⟩,by dsimp only;omega⟩
    ·exact⟨rfl,by simpa using e1,e2.set hi,fun j o ne z=>by rw[JJ ne];exact ek j o ne z,⟨_,rfl⟩,lo+1,n,qs,by push_cast;rfl,by omega,rfl,by omega,e10⟩)
  (xs:=cJ 0 q) (ys:=[]) (ρ:=[none,some (.int q),some (.obj i),some (.int sh)]) (μ1:=μ1) (s:=[])
  ⟨rfl,rfl,h,fun _ _ _ z=>z,⟨_,rfl⟩,0,q,[],rfl,by omega,rfl,by simp,fun p hp=>by cases hp⟩
 obtain⟨ys',ρ',μ2,s',⟨es,e1,e2,ek,⟨o,e4⟩,lo,n,qs,e5,e7,e8,e9,e10⟩,run⟩:=run;subst es e8;exact⟨qs,μ2,e10,by omega,e2,e1,ek,run⟩
theorem Pn.put{μ0 M:au}{i t:Nat}{o:O}(h:Pn μ0 i M)(ht:μ0.length<=t):Pn μ0 i (M.set t o):=by
 obtain⟨a,b,c,g,rfl⟩:=h;refine⟨a,b,c,g.set (t-μ0.length) o,?_⟩;rw[List.set_append_right _ _ (by simpa using ht)];simp
theorem CF{M:au}{t u:Nat}{xs ys:List D}(ht:M[t]?=some (.lst xs))(hu:M[u]?=some (.lst ys))(hl:xs.length+ys.length<=1000):eA (.obj t) [.obj u] M=.ok .non (M.set t (.lst (xs++ys))):=by
 unfold eA;dsimp only;rw[ht,hu];dsimp only;rw[Jo (Jx hl bH)]
theorem lH{M:au}{t:Nat}{xs:List D}(h:M[t]?=some (.lst xs)):Dz (.obj t) M=true:=by
 unfold Dz;dsimp only;rw[h]
theorem zI{μ:au}{i:Nat}{a b c:Int}(hp:μ[i]?=some (bW a b c)):∃m ks a' b' c',GW m ks/\bX [.obj i,.int 6] μ=.ok (aR m ks) (μ.set i (bW a' b' c')):=by
 have hi:i<μ.length:=(JG.mp hp).1;obtain⟨v,a1,b1,c1,v0,v1,ed,P1⟩:=(Pn.self hp).draw (m:=6) hi (by decide) (by decide);obtain⟨m,em⟩:∃m:Nat,(1:Int)+v=(m:Int):=⟨(1+v).toNat,by omega⟩;obtain⟨s,a2,b2,c2,s0,s1,ed2,P2⟩:=P1.draw (m:=3) hi (by decide) (by decide);let M2:au:=(μ.set i (bW a1 b1 c1)).set i (bW a2 b2 c2)
 have lM2:M2.length=μ.length:=by simp[M2]
 obtain⟨ρ',M',⟨n,cc,ps,o5,e1,e2,e3,e4,e5,e6,e7⟩,run⟩:=qU (src:=.fix (cJ 0 m)) (g:=ao 5) (fb:=cm)
  (fun xs ρ M=>∃(n cc:Nat)(ps:List (Int×Int))(o5:Option D),xs=cJ n cc/\n+cc=m/\ρ=[some (.obj i),some (.int 6),some (.int m),some (.int (2+s)),some (.obj M2.length),o5]/\Pn μ i M/\M[M2.length]?=some (.lst (ps.map iI))/\ps.length<=6*n/\∀p∈ps,PP m p)
  (fun _ _ _=>trivial)
  (fun x xs ρ M hJJ => by
   obtain⟨n,cc,ps,o5,e1,e2,e3,e4,e5,e6,e7⟩:=hJJ;subst e3;cases cc with
   |zero=>rw[jK]at e1;cases e1
   |succ cc=>
    rw[jL]at e1;injection e1 with ex er
    subst ex er;obtain⟨qs,M3,q1,q2,q3,q4,q5,q6⟩:=FU (m:=m) (q:=n) (sh:=2+s) hi e4 (by omega) (by omega) (by omega) (by omega);have t3:(M3++[O.lst (qs.map iI)])[M2.length]?=some (.lst (ps.map iI)):=aE (q5 _ _ (by omega) e5);have u3:(M3++[O.lst (qs.map iI)])[M.length]?=some (.lst (qs.map iI)):=by rw[<- q4];exact aA
    have ex:=CF t3 u3 (by rw[Kk,Kk];omega);refine⟨trivial,_,_,[some (.obj i),some (.int 6),some (.int m),some (.int (2+s)),some (.obj M2.length),some (.int n)],(M3++[O.lst (qs.map iI)]).set M2.length (.lst (ps.map iI++qs.map iI)),rfl,?_,n+1,cc,ps++qs,some (.int n),by push_cast;rfl,by omega,rfl,(q3.app).put (by omega),?_,by rw[Kj];omega,fun p hp=>?_⟩
    ·show cm [some (.obj i),some (.int 6),some (.int m),some (.int (2+s)),some (.obj M2.length),some (.int n)] M=_;unfold cm;simp only[jG,pF,ai,ag,aa,ab,lH e5,Ku,aq,av,bR,gh];rw[gQ (by omega) (by omega)];simp only[aa,ab,bj,Kr];rw[show eH [none,some 5,some 0,some 3] [some (D.obj i),some (D.int 6),some (D.int m),some (D.int (2+s)),some (D.obj M2.length),some (D.int n)]=[none,some (.int n),some (.obj i),some (.int (2+s))] from rfl,q6];simp only[aa,ab,ex,ae]
    ·rw[mW (by have:=(JG.mp t3).1;exact this),LJ]
    ·rcases JE.mp hp with z | z
     ·exact e7 p z
     ·exact q1 p z)
  (xs:=cJ 0 m) (ρ:=[some (.obj i),some (.int 6),some (.int m),some (.int (2+s)),some (.obj M2.length),none]) (μ:=M2++[.lst []])
  ⟨0,m,[],none,rfl,by omega,rfl,P2.app,aA,by simp,fun p hp=>by cases hp⟩
 have hz:=zY e1.symm;subst hz e3;have hg:GW m (fw (ps.map mm)):=mQ (by omega) (by omega) e7;obtain⟨a7,b7,c7,hgc⟩:=e4.gc (iw hg);refine⟨m,_,a7,b7,c7,hg,?_⟩;unfold bX;rw[eK];simp only[iH,List.replicate];rw[aJ,aY];simp only[aI,br,az,aq,av,ag,ai,aa,ab,ed,gS,em,ae,bh,aB,NK,NL];rw[aJ,aY];simp only[aI,br,az,aq,av,ag,ai,aa,ab,ed2,gS,ae,bh,aB,NK,NL];rw[aJ,aY];simp only[fB,av,aa,ab,Lp,Jo (Lj sizeLine),ae,bh,aB,NK,NL];rw[aJ,hZ];simp only[gh,aq,av,ai,ag,aa,ab];rw[gQ (by omega) (by omega)];simp only[ae,ab,bj,Kr];rw[show cY (.fix (cJ 0 m)) (ao 5) cm (cJ 0 m) [some (.obj i),some (.int 6),some (.int m),some (.int (2+s)),some (.obj M2.length),none] (M2++[O.lst []])=_ from run];simp only[aB,bo,az,aq,av,ai,ag,aa,ab,lL (show 1<=m by omega) (by omega) (by omega) e5 e7,ae,aV];exact hgc
def my(k:List Int):Int×Int:=(k.getD 0 0,k.getD 1 0)
def wW(p:Int)(k:List Int):Bool:=decide (p=(my k).1) || decide (p=(my k).2)
def d4(ks:List (List Int))(p:Int):List Int:=(ks.filter (wW p)).map fun k=>(my k).1+(my k).2-p
def gK(l:List Int)(x:Int):List (Int×Int):=(l.filter fun y=>decide (x<y)).map fun y=>(x,y)
def yt(m:Nat)(ks:List (List Int)):List (Int×Int):=ks.map my++(rg m).flatMap fun p=>(d4 ks p).flatMap (gK (d4 ks p))
theorem tT{M:au}{t u:Nat}{xs ys:List D}(ht:M[t]?=some (.lst xs))(hu:M[u]?=some (.lst ys))(hl:xs.length+ys.length<=100000):eA (.obj t) [.obj u] M=.ok .non (M.set t (.lst (xs++ys))):=by
 unfold eA;dsimp only;rw[ht,hu];dsimp only;rw[Jo (Jx hl uL)]
theorem FH{μ:au}{p a b:Int}:rR false (.int p) (.tup [.int a,.int b]) μ=.ok (.bl (decide (p=a) || decide (p=b))) μ:=by
 show af.ok (D.bl ((a == p) || ((b == p) || false))) μ=_;congr 2;rw[Bool.or_false];congr 1
 ·apply J3.mpr;rw[NQ,Np];exact eq_comm
 ·apply J3.mpr;rw[NQ,Np];exact eq_comm
section
variable{m:Nat}{ks:List (List Int)}
theorem tw(h:GW m ks){p:Int}:(d4 ks p).length<=15:=by
 have:=ix h;unfold d4;rw[Kk];exact Jx (NR _ _) this
theorem ir(h:GW m ks){p x:Int}:x∈d4 ks p↔rV ks p x:=by
 rw[kS h.2.2.2.2];unfold d4;rw[Lz];constructor
 ·rintro ⟨k, hk, rfl⟩
  obtain⟨h1,h2⟩:=Jv.mp hk;obtain⟨a,b,rfl,_⟩:=h.2.2.2.2 k h1;have h3:p=a\/p=b:=by simpa[wW,my] using h2
  rcases h3 with rfl|rfl
  ·left;rw[show (my [p,b]).1+(my [p,b]).2-p=b from by show p+b-p=b;omega];exact h1
  ·right;rw[show (my [a,p]).1+(my [a,p]).2-p=a from by show a+p-p=a;omega];exact h1
 ·rintro (h1 | h1)
  ·exact⟨[p,x],Jv.mpr ⟨h1,by simp[wW,my]⟩,by show p+x-p=x;omega⟩
  ·exact⟨[x,p],Jv.mpr ⟨h1,by simp[wW,my]⟩,by show x+p-p=x;omega⟩
theorem Bn{μ:au}{p:Int}(h:GW m ks):dF [aR m ks,.int p] μ=.ok (.obj μ.length) (μ++[.lst ((d4 ks p).map D.int)]):=by
 have n2:0+1+1<=sizeLine:=l2
 have c:=cf (U:=List Int) (en:=bg) (src:=.fix (ks.map bg)) (g:=pD 2 (hW (ao 0) (hW (ao 1) (pE)))) (t:=fF) (e:=fI) (μ1:=μ) (q:=wW p) (h:=fun k=>.int ((my k).1+(my k).2-p)) (fun ρ=>∃o o',ρ=[o,o',some (.int p)]) (fun _=>trivial) (us:=ks) (acc:=[]) (ρ:=[none,none,some (.int p)]) ⟨_,_,rfl⟩
  (by rw[Lp];have:=ix h;exact Jx (by omega) bH)
  (fun k hk a ρ hJJ => by
   obtain⟨o,o',e⟩:=hJJ;subst e;obtain⟨x,y,rfl,_⟩:=h.2.2.2.2 k hk;refine⟨[some (.int x),some (.int y),some (.int p)],⟨_,_,rfl⟩,rfl,?_,fun _=>?_⟩
   ·unfold fF;simp only[cV,aI,dX,aq,av,ai,ag,aa,ab,La,Lp,Jo n2,FH,bt];rfl
   ·unfold fI;simp only[aI,ai,ag,aa,ab,gS]
    rfl)
 rw[K4,show (ks.filter (wW p)).map (fun k=>D.int ((my k).1+(my k).2-p))=(d4 ks p).map D.int from by unfold d4;rw[Lm];rfl]at c;unfold dF;rw[eK];simp only[jv,List.replicate,bo,bR,bF,aI,ag,br,aa,ab,jF,kP,bj];rw[show eH [none,none,some 1] _=[none,none,some (.int p)] from rfl,c];simp only[ae,ab,aV];exact vP (by simp)
theorem Bd{M:au}{N:Nat}{l:List Int}{x:Int}(hN:M[N]?=some (.lst (l.map D.int)))(hl:l.length<=15):compLoop (.own N (l.map D.int)) M.length (ao 0) dt dy (l.map D.int) [none,some (.int x)] (M++[.lst []])=.ok (.obj M.length) (M++[.lst ((gK l x).map iI)]):=by
 have c:=cf (U:=Int) (en:=D.int) (src:=.own N (l.map D.int)) (g:=ao 0) (t:=dt) (e:=dy) (μ1:=M) (q:=fun y=>decide (x<y)) (h:=fun y=>iI (x,y)) (fun ρ=>∃o,ρ=[o,some (.int x)]) (fun _=>aE hN) (us:=l) (acc:=[]) (ρ:=[none,some (.int x)]) ⟨_,rfl⟩
  (by rw[Lp];exact Jx (by omega) bH)
  (fun y hy a ρ hJJ => by
   obtain⟨o,e⟩:=hJJ;subst e;refine⟨[some (.int y),some (.int x)],⟨_,rfl⟩,rfl,?_,fun _=>?_⟩
   ·unfold dt;simp only[cV,aI,ai,ag,aa,ab,eX,bt];rfl
   ·unfold dy;simp only[dX,aq,av,ai,ag,aa,ab,La,Lp,Jo l2]
    rfl)
 rw[K4,show (l.filter fun y=>decide (x<y)).map (fun y=>iI (x,y))=(gK l x).map iI from by unfold gK;rw[Lm];rfl]at c;exact c
theorem nR{l:List Int}{x:Int}:(gK l x).length<=l.length:=by
 unfold gK;rw[Kk];exact NR _ _
theorem mX{α β:Type}{f:α->List β}{k:Nat}(h:∀x,(f x).length<=k):∀l:List α,(l.flatMap f).length<=l.length*k
 |[]=>by simp
 |w::l=>by
  rw[NN,Kj,La,K3];have:=h w;have:=mX h l;omega
theorem y9{M:au}{T N:Nat}{ps:List (Int×Int)}{l:List Int}{o0 o2:Option D}(hT:M[T]?=some (.lst (ps.map iI)))(hN:M[N]?=some (.lst (l.map D.int)))(ne:T≠N)(hl:l.length<=15)(hp:ps.length<=10000):∀(xs:List Int)(dn:List Int)(M1:au)(o4:Option D),l=dn++xs->M1[T]?=some (.lst ((ps++dn.flatMap (gK l)).map iI))->(∀j o,T≠j->M[j]?=some o->M1[j]?=some o) ->
  ∃(M2:au)(o4':Option D),cY (.own N (l.map D.int)) (ao 4) dw (xs.map D.int) [o0,some (.obj T),o2,some (.obj N),o4] M1=.next [o0,some (.obj T),o2,some (.obj N),o4'] M2/\M2[T]?=some (.lst ((ps++l.flatMap (gK l)).map iI))/\(∀j o,T≠j->M[j]?=some o->M2[j]?=some o)
 |[],dn,M1,o4,e,h1,h2=>by
  rw[J7]at e;subst e;refine⟨M1,o4,?_,h1,h2⟩;rw[KM];unfold cY;rw[Jo (show bB (.own N _) M1 from h2 N _ ne hN)]
 |x::xs,dn,M1,o4,e,h1,h2=>by
  have hN1:=h2 N _ ne hN;have c:=Bd (M:=M1) (x:=x) hN1 hl
  have fl:(dn.flatMap (gK l)).length<=15*15:=by
   have h3:=mX (f:=gK l) (k:=15) (fun y=>Jx nR hl) dn;have h4:dn.length<=15:=by have:=JN List.length e;simp at this;omega
   exact Jx h3 (NS 15 h4)
  have rl:(gK l x).length<=15:=Jx nR hl;have ex:=tT (M:=M1++[.lst ((gK l x).map iI)]) (aE h1) aA (by rw[Kk,Kk,Kj];omega);have tl:T<M1.length:=(JG.mp h1).1
  obtain⟨M2,o4',r1,r2,r3⟩:=y9 (o0:=o0) (o2:=o2) hT hN ne hl hp xs (dn++[x]) ((M1++[O.lst ((gK l x).map iI)]).set T (.lst ((ps++dn.flatMap (gK l)).map iI++(gK l x).map iI))) (some (.int x)) (by rw[e];simp)
   (by rw[mW (by rw[Kj];omega),List.flatMap_append,NN,NT,J7,<- KZ,LJ (l₂:=gK l x)])
   (fun j o nj z=>by rw[JJ nj];exact aE (h2 j o nj z))
  refine⟨M2,o4',?_,r2,r3⟩;rw[KN];unfold cY;rw[Jo (show bB (.own N _) M1 from hN1)];simp only[bh,ae,ab,NK,NL]
  rw[show dw [o0,some (.obj T),o2,some (.obj N),some (.int x)] M1=.next [o0,some (.obj T),o2,some (.obj N),some (.int x)] ((M1++[O.lst ((gK l x).map iI)]).set T (.lst ((ps++dn.flatMap (gK l)).map iI++(gK l x).map iI))) from by
   unfold dw;simp only[jG,pF,ai,ag,aa,ab,lH h1,Ku,aq,av,bR,bF];rw[d9 hN1];simp only[aa,ab,cu];rw[show eH [none,some 4] [o0,some (D.obj T),o2,some (D.obj N),some (D.int x)]=[none,some (.int x)] from rfl,c]
   simp only[aa,ab,ex,ae]]
  exact r1
end
end Lw
namespace Lw
open PySem L2 RS Lv
section
variable{m:Nat}{ks:List (List Int)}
def pB(ks:List (List Int))(l:List Int):List (Int×Int):=l.flatMap fun p=>(d4 ks p).flatMap (gK (d4 ks p))
theorem xD(h:GW m ks){p:Int}:((d4 ks p).flatMap (gK (d4 ks p))).length<=225:=by
 have hl:=tw h (p:=p);have h3:=mX (f:=gK (d4 ks p)) (k:=15) (fun y=>Jx nR hl) (d4 ks p);exact Jx h3 (NS 15 hl)
theorem tf(h:GW m ks)(l:List Int):(pB ks l).length<=l.length*225:=mX (fun p=>xD h) l
theorem vS{T:Nat}{μ:au}(h:GW m ks):∀(xs dn:List Int)(M:au)(o2 o3 o4:Option D),dn.length+xs.length<=6->M[T]?=some (.lst ((ks.map my++pB ks dn).map iI))->μ.length<=T->(∀j,j<μ.length->M[j]?=μ[j]?) ->
  ∃(M':au)(o2' o3' o4':Option D),cY (.fix ((rg m).map D.int)) (ao 2) dv (xs.map D.int) [some (aR m ks),some (.obj T),o2,o3,o4] M=.next [some (aR m ks),some (.obj T),o2',o3',o4'] M'/\M'[T]?=some (.lst ((ks.map my++pB ks (dn++xs)).map iI))/\(∀j,j<μ.length->M'[j]?=μ[j]?)
 |[],dn,M,o2,o3,o4,hl,hT,hμ,hk=>by
  refine⟨M,o2,o3,o4,?_,by rw[J7];exact hT,hk⟩;rw[KM];unfold cY;rw[Jo (show bB (.fix _) M from trivial)]
 |p::xs,dn,M,o2,o3,o4,hl,hT,hμ,hk=>by
  have nl:=tw h (p:=p);have pl:=tf h dn;have kl:=ix h;simp only[La]at hl;have tl:T<M.length:=(JG.mp hT).1
  obtain⟨M2,o4',r1,r2,r3⟩:=y9 (M:=M++[.lst ((d4 ks p).map D.int)]) (T:=T) (N:=M.length) (ps:=ks.map my++pB ks dn) (l:=d4 ks p) (o0:=some (aR m ks)) (o2:=some (.int p)) (aE hT) aA (by omega) nl
   (by
    rw[Kj,Kk];have:dn.length*225<=6*225:=NS 225 (by omega)
    omega) (d4 ks p) [] (M++[.lst ((d4 ks p).map D.int)]) o4 rfl (by rw[NT,J7];exact aE hT) (fun _ _ _ z=>z)
  obtain⟨M',o2',o3',o4'',q1,q2,q3⟩:=vS h xs (dn++[p]) M2 (some (.int p)) (some (.obj M.length)) o4' (by rw[Kj];simp only[La,Lp];omega)
   (by rw [r2]; unfold pB; rw [List.flatMap_append, NN, NT, J7, KZ]) hμ (fun j hj => by
    have hj':j<M.length:=by
     have:j<T:=by omega
     omega
    rw[r3 j M[j] (by omega) (by rw[Kg hj',MR hj']),<- hk j hj,MR hj'])
  refine⟨M',o2',o3',o4'',?_,by rw[q2,KZ];rfl,q3⟩;rw[KN];unfold cY;rw[Jo (show bB (.fix _) M from trivial)];simp only[bh,ae,ab,NK,NL]
  rw[show dv [some (aR m ks),some (.obj T),some (.int p),o3,o4] M=.next [some (aR m ks),some (.obj T),some (.int p),some (.obj M.length),o4'] M2 from by
   unfold dv;rw[aJ,aY];simp only[az,aq,av,ai,ag,aa,ab,Bn h,ae,bh,aB,NK,NL];rw[hZ];simp only[bF,ai,ag,aa,ab];rw[d9 (show (M++[O.lst ((d4 ks p).map D.int)])[M.length]?=some (.lst ((d4 ks p).map D.int)) from aA)];simp only[ae,ab,cu]
   exact r1]
  exact q1
theorem qu(h:GW m ks):∀p∈yt m ks,PP m p:=fun p hp=>by
 rcases JE.mp hp with z|z
 ·obtain⟨k,hk,rfl⟩:=Lz.mp z;obtain⟨a,b,rfl,h1,h2,h3⟩:=h.2.2.2.2 k hk;exact⟨⟨h1,by show a<(m:Int);omega⟩,⟨by show 0<=b;omega,h3⟩,by show a≠b;omega⟩
 ·obtain⟨q,hq,z⟩:=NM.mp z;obtain⟨x,hx,z⟩:=NM.mp z;obtain⟨y,hy,rfl⟩:=Lz.mp z;obtain⟨hy,hxy⟩:=Jv.mp hy;have ax:=DJ h ((ir h).mp hx);have ay:=DJ h ((ir h).mp hy);have:=NU hxy;exact⟨ax.2,ay.2,by dsimp only;omega⟩
theorem DW(h:GW m ks):fw ((yt m ks).map mm)=vK m ks 2:=by
 have m0:=h.m0;have m6:=h.m6;refine Au (mQ m0 m6 (qu h)) (qK m0 m6) fun a b=>?_;rw[zJ m6 (qu h),zc m6];constructor
 ·rintro ⟨p, hp, e⟩
  have pp:=qu h p hp;unfold mm at e;simp only[List.cons.injEq,and_true]at e;have hab:0<=a/\a<b/\b<(m:Int):=by obtain⟨⟨_,_⟩,⟨_,_⟩,_⟩:=pp;omega
  refine⟨hab.1,hab.2.1,hab.2.2,?_⟩
  have key:rV ks p.1 p.2\/∃q,rV ks p.1 q/\rV ks q p.2:=by
   rcases JE.mp hp with z|z
   ·obtain⟨k,hk,rfl⟩:=Lz.mp z;obtain⟨x,y,rfl,_⟩:=h.2.2.2.2 k hk;exact .inl ((kS h.2.2.2.2).mpr (.inl hk))
   ·obtain⟨q,hq,z⟩:=NM.mp z;obtain⟨x,hx,z⟩:=NM.mp z;obtain⟨y,hy,rfl⟩:=Lz.mp z;exact .inr ⟨q,DI h ((ir h).mp hx),(ir h).mp (Jv.mp hy).1⟩
  have r:R (rV ks) p.1 2 p.2:=by
   rcases key with k|⟨q,k1,k2⟩
   ·exact(R.one k).mono (by decide)
   ·exact(R.one k1).add (R.one k2)
  by_cases c:p.1<=p.2
  ·have e1 : a = p.1 := by omega
   have e2:b=p.2:=by omega
   rw[e1,e2];exact r
  ·have e1 : a = p.2 := by omega
   have e2:b=p.1:=by omega
   rw[e1,e2];exact r.rev fun x y z=>DI h z
 ·rintro ⟨h1, h2, h3, r⟩
  obtain⟨c,r1,r2⟩:=rh (n:=1) (k:=1) r
  have st:∀{x y:Int},R (rV ks) x 1 y->y=x\/rV ks x y:=fun {x y} z=>by
   rcases z with z|⟨t,z1,z2⟩
   ·exact .inl z
   ·have:t=x:=z2;subst this;exact .inr z1
  have one:rV ks a b->∃p∈yt m ks,mm p=[a,b]:=fun z=>by
   have hk:[a,b]∈ks:=by
    rcases (kS h.2.2.2.2).mp z with z|z
    ·exact z
    ·obtain⟨x,y,e,_⟩:=h.2.2.2.2 _ z;simp only[List.cons.injEq,and_true]at e;omega
   refine⟨(a,b),JF _ (Lz.mpr ⟨[a,b],hk,rfl⟩),?_⟩;unfold mm;rw[NV (by dsimp only;omega),NW (by dsimp only;omega)]
  rcases st r1 with rfl|k1
  ·rcases st r2 with rfl | k2
   ·omega
   ·exact one k2
  ·rcases st r2 with rfl | k2
   ·exact one k1
   ·have hc:=(DJ h k1).2;refine⟨(a,b),J1 _ (NM.mpr ⟨c,iL.mpr hc,NM.mpr ⟨a,(ir h).mpr (DI h k1),Lz.mpr ⟨b,Jv.mpr ⟨(ir h).mpr k2,K5 h2⟩,rfl⟩⟩⟩),?_⟩;unfold mm;rw[NV (by dsimp only;omega),NW (by dsimp only;omega)]
theorem vY{μ:au}(h:GW m ks):di [aR m ks] μ=.ok (aR m (vK m ks 2)) μ:=by
 have m0:=h.m0;have m6:=h.m6;have kl:=ix h
 have e0:ks.map bg=(ks.map my).map iI:=by
  rw[Lm];apply Ln;intro k hk;obtain⟨a,b,rfl,_⟩:=h.2.2.2.2 k hk;rfl
 obtain⟨M',o2,o3,o4,run,hT,hk⟩:=vS (T:=μ.length) (μ:=μ) h (rg m) [] (μ++[.lst (ks.map bg)]) none none none (by rw[kh];simpa using m6) (by rw[e0];show _=some (O.lst ((ks.map my++[]).map iI));rw[J7];exact aA) (JY _) (fun j hj=>Kg hj);rw[K4]at hT
 obtain⟨g,hpre⟩:∃g,M'=μ++g:=by
  refine⟨M'.drop μ.length,?_⟩;apply Mv;intro i;by_cases hi:i<μ.length
  ·rw[Kg hi,hk i hi]
  ·rw[Kf (by omega),List.getElem?_drop];congr 1;omega
 have hr:∀μ,kd [.int (m:Int)] μ=.ok (.fix ((rg m).map D.int)) μ:=fun μ=>by rw[gQ (by omega) (by omega),nH]
 have wo:=lL (μ:=M') m0 m6 (ps:=yt m ks) (by
  unfold yt;rw[Kj,Kk];have:=tf h (rg m);unfold pB at this;rw[kh]at this;have h2:m*225<=6*225:=NS 225 m6
  omega) hT (qu h)
 rw[DW h]at wo;unfold di;rw[h7];simp only[ja,List.replicate];rw[aJ,aY];simp only[az,aq,av,aI,ag,br,aa,ab,jF];rw[show i4 [.tup (ks.map bg)] μ=.ok (.obj μ.length) (μ++[.lst (ks.map bg)]) from rfl];simp only[ae,ab,bh,aB,NK,NL];rw[aJ,hZ];simp only[gh,aq,av,aI,ag,br,aa,ab,cK,hr,ae,bj];rw[run];simp only[aB,bo,az,aq,av,aI,ai,ag,br,aa,ab,cK,wo,ae,aV];rw[hpre];exact eW (iw (qK m0 m6))
end
end Lw
namespace Lw
open PySem L2 RS Lv
theorem p5{μ:au}{m:Int}{ks:List (List Int)}{a b:Int}(hk:∀k∈ks,yn m k):rR true (.tup [.int a,.int b]) (.tup (ks.map bg)) μ=.ok (.bl (!decide ([a,b]∈ks))) μ:=by
 have e:=tP (μ:=μ) (a:=a) (b:=b) hk;unfold rR at e⊢;split at e
 ·split at e
  ·split at e
   ·rename_i hf;rw[Jo hf,Jo rfl];rw[Jp J4]at e;injection e with e1
    injection e1 with e2
    rw[e2]
   ·cases e
  ·cases e
 ·cases e
theorem Cg{μ:au}{a b c d:Int}:jU true (.tup [.int a,.int b]) (.tup [.int c,.int d]) μ=.ok (.bl (!(decide (a=c)&&decide (b=d)))) μ:=by
 show af.ok (D.bl (!((a == c)&&((b == d)&&true)))) μ=_;congr 3;rw[Bool.and_true];rfl
section
variable{m:Nat}{ks:List (List Int)}
theorem Ee{μ:au}{i:Nat}{a b c:Int}(hp:μ[i]?=some (bW a b c)):∃m ks a' b' c',GW m ks/\cg [.obj i,.int 6] μ=.ok (aR m ks) (μ.set i (bW a' b' c')):=by
 have hi:i<μ.length:=(JG.mp hp).1;obtain⟨m,ks,a1,b1,c1,h,ed⟩:=zI hp;have m0:=h.m0;have m6:=h.m6;let M1:au:=μ.set i (bW a1 b1 c1)
 have P1:Pn μ i M1:=(Pn.self hp).set hi;obtain⟨w,a2,b2,c2,w0,w1,ew,P2⟩:=P1.draw (m:=4) hi (by decide) (by decide);let M2:au:=M1.set i (bW a2 b2 c2)
 have ed':bX [.obj i,.int 6] μ=.ok (aR m ks) M1:=ed;have ew':aG [.obj i,.int 4] M1=.ok (.int w) M2:=ew;have hg:=qK (k:=2) (ks:=ks) m0 m6;by_cases z0:w=0
 ·obtain⟨a7,b7,c7,hgc⟩:=P2.gc (iw h);refine⟨m,ks,a7,b7,c7,h,?_⟩;unfold cg;rw[eK];simp only[fq,List.replicate];rw[aJ,aY];simp only[az,aq,av,ai,ag,aa,ab,ed',ae,bh,aB,NK,NL];rw[aJ,aY];simp only[az,aq,av,ai,ag,br,aa,ab,ew',ae,bh,aB,NK,NL];rw[aJ,cQ];simp only[cV,aI,ai,ag,br,aa,ab,h8,K9,Kt,bt,ae];rw[show (w == 0)=true from by rw[NQ];exact z0];simp only[Ku,bo,ai,ag,ae,ab,iK,aV];exact hgc
 ·by_cases z3 : w = 3 /\ 1 < m
  ·
   obtain⟨u,a3,b3,c3,u0,u1,eu,P3⟩:=P2.draw (m:=(m:Int)-1) hi (by omega) (by omega);obtain⟨v,a4,b4,c4,v0,v1,ev',P4⟩:=P3.draw (m:=(m:Int)-1-u) hi (by omega) (by omega);let M4:au:=(M2.set i (bW a3 b3 c3)).set i (bW a4 b4 c4)
   let y:Int:=u+1+v
   let ls:List (List Int):=(vK m ks 2).filter fun k=>!(decide (k.getD 0 0=u)&&decide (k.getD 1 0=y))
   have cc:=cf (U:=List Int) (en:=bg) (src:=.fix ((vK m ks 2).map bg)) (g:=ao 0) (t:=dO) (e:=dQ) (μ1:=M4) (q:=fun k=>!(decide (k.getD 0 0=u)&&decide (k.getD 1 0=y))) (h:=bg) (fun ρ=>∃o,ρ=[o,some (.tup [.int u,.int y])]) (fun _=>trivial) (us:=vK m ks 2) (acc:=[]) (ρ:=[none,some (.tup [.int u,.int y])]) ⟨_,rfl⟩
    (by rw[Lp];have:=ix hg;exact Jx (by omega) bH)
    (fun k hk a ρ hJJ => by
     obtain⟨o,e⟩:=hJJ;subst e;obtain⟨x,z,rfl,_⟩:=hg.2.2.2.2 k hk;refine⟨[some (bg [x,z]),some (.tup [.int u,.int y])],⟨_,rfl⟩,rfl,?_,fun _=>by unfold dQ;rw[ag]⟩;unfold dO;simp only[cV,aI,ai,ag,aa,ab];rw[show jU true (bg [x,z]) (.tup [.int u,.int y]) (M4++[O.lst a])=_ from Cg];simp only[aa,ab,bt]
     rfl)
   rw[K4]at cc;let ps:List (Int×Int):=ls.map my++(if ([u,y]∈vK m ks 2) then [] else [(u,y)])
   have pp:∀p∈ps,PP m p:=by
    intro p hp;rcases JE.mp hp with z|z
    ·obtain⟨k,hk,rfl⟩:=Lz.mp z;obtain⟨x,y',rfl,h1,h2,h3⟩:=hg.2.2.2.2 k (Jv.mp hk).1;exact⟨⟨h1,by show x<(m:Int);omega⟩,⟨by show 0<=y';omega,h3⟩,by show x≠y';omega⟩
    ·split at z
     ·cases z
     ·rw[Lk.mp z];exact⟨⟨u0,by show u<(m:Int);omega⟩,⟨by show 0<=u+1+v;omega,by show u+1+v<(m:Int);omega⟩,by show u≠u+1+v;omega⟩
   have e0:ls.map bg=(ls.map my).map iI:=by
    rw[Lm];apply Ln;intro k hk;obtain⟨x,z,rfl,_⟩:=hg.2.2.2.2 k (Jv.mp hk).1;rfl
   have lsl:ls.length<=15:=Jx (NR _ _) (ix hg);let M6:au:=M4++[O.lst (ps.map iI)]
   have psl:ps.length<=100000:=by
    simp only[ps,Kj,Kk];split <;> simp only[La,Lp] <;> omega
   have wo:=lL (μ:=M6) (t:=M4.length) m0 m6 psl aA pp;have gw:=mQ m0 m6 pp;obtain⟨a7,b7,c7,hgc⟩:=(P4.app (g:=[O.lst (ps.map iI)])).gc (iw gw);refine⟨m,_,a7,b7,c7,gw,?_⟩;have n2:0+1+1<=sizeLine:=l2;unfold cg;rw[eK];simp only[fq,List.replicate];rw[aJ,aY];simp only[az,aq,av,ai,ag,aa,ab,ed',ae,bh,aB,NK,NL];rw[aJ,aY];simp only[az,aq,av,ai,ag,br,aa,ab,ew',ae,bh,aB,NK,NL];rw[aJ,cQ];simp only[cV,aI,ai,ag,br,aa,ab,h8,K9,Kt,bt,ae];rw[show (w == 0)=false from by rw[Jm];exact z0];simp only[K9,Kt,cy,aB];rw[aJ,aY];simp only[az,aq,av,ai,ag,aa,ab,vY h,ae,bh,aB,NK,NL];rw[aJ,cQ];simp only[m3,cV,aI,ai,ag,br,aa,ab,h8,K9,Kt,bt,cK,eX];rw[show (w == 3)=true from by rw[NQ];exact z3.1,Jo rfl,show gL .Gt (m:Int) 1=true from K5 (by have:=z3.2;show (1:Int)<m;omega)];simp only[ae,ab,Ku];rw[aJ,aY];simp only[az,aq,av,aI,ai,ag,br,aa,ab,cK];rw[show nq (.int m) (.int 1) M2=.ok (.int ((m:Int)-1)) M2 from rfl];simp only[aa,ab];rw[show aG [.obj i,.int ((m:Int)-1)] M2=.ok (.int u) (M2.set i (bW a3 b3 c3)) from eu];simp only[ae,ab,bh,aB,NK,NL];rw[aJ,aY];simp only[dX,az,aq,av,aI,ai,ag,br,aa,ab,cK,gS];rw[show nq (.int m) (.int 1) (M2.set i (bW a3 b3 c3))=.ok (.int ((m:Int)-1)) (M2.set i (bW a3 b3 c3)) from rfl];simp only[aa,ab];rw[show nq (.int ((m:Int)-1)) (.int u) (M2.set i (bW a3 b3 c3))=.ok (.int ((m:Int)-1-u)) (M2.set i (bW a3 b3 c3)) from rfl];simp only[aa,ab];rw[show aG [.obj i,.int ((m:Int)-1-u)] (M2.set i (bW a3 b3 c3))=.ok (.int v) M4 from ev'];simp only[aa,ab,gS,La,Lp,Jo n2,ae,bh,aB,NK,NL];rw[aJ,aY];simp only[bR,bF,aI,ai,ag,br,aa,ab,jF,kP,bj];rw[show eH [none,some 5] [some (D.obj i),some (D.int 6),some (aR m (vK m ks 2)),some (D.int w),some (D.int u),some (D.tup [D.int u,D.int (u+1+v)]),none]=[none,some (.tup [.int u,.int y])] from rfl];rw[show compLoop (.fix ((vK m ks 2).map bg)) M4.length (ao 0) dO dQ ((vK m ks 2).map bg) [none,some (.tup [.int u,.int y])] (M4++[O.lst []])=.ok (.obj M4.length) (M4++[O.lst (ls.map bg)]) from cc];simp only[ae,ab,bh,aB,NK,NL];rw[aJ,cQ];simp only[cV,aI,ai,ag,br,aa,ab,jF];rw[show rR true (.tup [.int u,.int (u+1+v)]) (.tup ((vK m ks 2).map bg)) (M4++[O.lst (ls.map bg)])=_ from p5 hg.2.2.2.2];simp only[aa,ab,bt,ae];by_cases hc:[u,u+1+v]∈vK m ks 2
   ·rw [K5 hc];simp only[LZ,K9,Kt,cy,aB];have ep:ps=ls.map my:=by simp only[ps,y];rw[Jo hc,J7]
    rw[aY];simp only[az,aq,av,aI,ai,ag,br,aa,ab,cK];rw[show bq [.int m,.obj M4.length] (M4++[O.lst (ls.map bg)])=.ok (aR m (fw (ps.map mm))) (M4++[O.lst (ps.map iI)]) from by rw[e0,<- ep];exact wo];simp only[ae,ab,bh,aB,NK,NL,bo,ai,ag,aV];exact hgc
   ·rw [Jl hc];simp only[L9,Ku];have ep:ps=ls.map my++[(u,u+1+v)]:=by simp only[ps,y];rw[Jp hc]
    rw[jG,pF];simp only[ai,ag,aa,ab];rw[lH (show (M4++[O.lst (ls.map bg)])[M4.length]?=some (.lst (ls.map bg)) from aA),Jo rfl];simp only[aq,av,ai,ag,aa,ab]
    rw[show eB (.obj M4.length) [.tup [.int u,.int (u+1+v)]] (M4++[O.lst (ls.map bg)])=.ok .non (M4++[O.lst (ps.map iI)]) from by
     unfold eB;dsimp only;rw[aA];dsimp only;rw[Jo (by rw[Kk];exact Js (show ls.length<1000 by omega) bH),nQ,e0,ep,LJ]
     rfl]
    simp only[ae,ab,aB];rw[aY];simp only[az,aq,av,aI,ai,ag,br,aa,ab,cK];rw[show bq [.int m,.obj M4.length] (M4++[O.lst (ps.map iI)])=.ok (aR m (fw (ps.map mm))) (M4++[O.lst (ps.map iI)]) from wo];simp only[ae,ab,bh,aB,NK,NL,bo,ai,ag,aV];exact hgc
  ·obtain ⟨a7, b7, c7, hgc⟩ := P2.gc (iw hg);refine⟨m,_,a7,b7,c7,hg,?_⟩;unfold cg;rw[eK];simp only[fq,List.replicate];rw[aJ,aY];simp only[az,aq,av,ai,ag,aa,ab,ed',ae,bh,aB,NK,NL];rw[aJ,aY];simp only[az,aq,av,ai,ag,br,aa,ab,ew',ae,bh,aB,NK,NL];rw[aJ,cQ];simp only[cV,aI,ai,ag,br,aa,ab,h8,K9,Kt,bt,ae];rw[show (w == 0)=false from by rw[Jm];exact z0];simp only[K9,Kt,cy,aB];rw[aJ,aY];simp only[az,aq,av,ai,ag,aa,ab,vY h,ae,bh,aB,NK,NL];rw[aJ,cQ];simp only[m3,cV,aI,ai,ag,br,aa,ab,h8,K9,Kt,bt,cK,eX];by_cases c3:w=3
   ·rw[show (w == 3)=true from by rw[NQ];exact c3,Jo rfl,show gL .Gt (m:Int) 1=false from Jl (by show ¬ (1:Int)<m;intro z;exact z3 ⟨c3,by omega⟩)];simp only[ae,ab,K9,Kt,cy,aB,bo,ai,ag,aV];exact hgc
   ·rw[show (w == 3)=false from by rw[Jm];exact c3];simp only[K9,Kt,ae,ab,cy,aB,bo,ai,ag,aV];exact hgc
end
def I0(w:Nat)(q:PyData):Prop:=q.showable=true/\q.leavesShort 40=true/\q.weight<=w/\q.hasDict=false
section
variable{T:au->Prop}{n w k:Nat}
theorem zq{μ:au}{d:D}{q:PyData}(h:sv d=some q):ly μ n d=some q:=by
 cases n with
 |zero=>exact h
 |succ n=>
  cases d with
  |tup _=>cases h
  |frz _=>cases h
  |obj _=>cases h
  |_=>exact h
theorem lP{i:Int}(h0:-1<=i)(h1:i<=8):I0 8 (.int i):=by
 have:i=-1\/i=0\/i=1\/i=2\/i=3\/i=4\/i=5\/i=6\/i=7\/i=8:=by omega
 rcases this with rfl|rfl|rfl|rfl|rfl|rfl|rfl|rfl|rfl|rfl <;> exact⟨by decide +kernel,by decide +kernel,by decide +kernel,rfl⟩
end
theorem nB{μ:au}{b:Bool}:oK μ (.ok (.bl b) μ)=.ok (.bl b) μ:=dr (by simp)
abbrev HN(ls:List (List Int)):D:=.tup (ls.map aP)
def F7:D->Int
 |.int i=>i
 |_=>0
def yp:D->List Int
 |.tup xs=>xs.map F7
 |_=>[]
theorem vM{w:List Int}:yp (aP w)=w:=by
 show (w.map D.int).map F7=w;rw[Lm];exact List.map_id' w
def oP(w:List Int):Bool:=(List.range (w.length-1)).all fun i=>decide (w.getD i 0<w.getD (i+1) 0)
theorem kW{w:List Int}:oP w=true↔w.Pairwise (·<·):=by
 unfold oP;rw[LY];constructor
 ·intro h
  have st:∀i (hi:i+1<w.length),w[i]<w[i+1]:=fun i hi=>by
   have:=NU (h i (Jw.mpr (by omega)));rw[Mu,Mu,MR (by omega),MR hi]at this;exact this
  have up:∀k i (hi:i+k+1<w.length),w[i]<w[i+k+1]:=fun k=>by
   induction k with
   |zero=>exact fun i hi=>st i hi
   |succ k ih=>exact fun i hi=>Int.lt_trans (ih i (by omega)) (st (i+k+1) hi)
  rw[Ls];intro i j hi hj hij;have:=up (j-i-1) i (by omega);have e:i+(j-i-1)+1=j:=by omega
  simp only[e]at this;exact this
 ·intro h i hi;have hi:=Jw.mp hi;apply K5;rw[Mu,Mu,MR (show i<w.length by omega),MR (show i+1<w.length by omega)];exact Ls.mp h i (i+1) (by omega) (by omega) (by omega)
theorem zZ{μ:au}{w:List Int}(i:Nat)(hi:i<w.length-1) :
  fM [some (.int (1+(i:Int))),some (aP w)] μ=.ok (.bl (decide (w.getD i 0<w.getD (i+1) 0))) μ:=by
 have h1:i<w.length:=by omega
 have h2:i+1<w.length:=by omega
 have g1:atI (w.map D.int) (1+(i:Int)-1)=some (.int w[i]):=by
  rw[show (1+(i:Int)-1)=((i:Nat):Int) by omega];exact kR (by rw[Kh,MR h1];rfl)
 have g2:atI (w.map D.int) (1+(i:Int))=some (.int w[i+1]):=by
  rw[show (1+(i:Int))=((i+1:Nat):Int) by omega];exact kR (by rw[Kh,MR h2];rfl)
 rw[Mu,Mu,MR h1,MR h2];unfold fM;simp only[aI,ai,ag,br,aa,ab,Dt];rw[qB g1];simp only[aa,ab];rw[qB g2];simp only[aa,ab,eX];rfl
theorem u7{μ:au}{w:List Int}(hl:w.length<1000):fS [aP w] μ=.ok (.bl (oP w)) μ:=by
 have c:=cf (U:=Nat) (en:=fun(i:Nat)=>D.int (1+(i:Int))) (src:=.fix (cJ 1 (w.length-1))) (g:=ao 0) (t:=cW) (e:=fM) (μ1:=μ) (q:=fun _=>true) (h:=fun i=>.bl (decide (w.getD i 0<w.getD (i+1) 0)))
  (fun ρ=>∃o,ρ=[o,some (aP w)]) (fun _=>trivial) (us:=List.range (w.length-1)) (acc:=[]) (ρ:=[none,some (aP w)]) ⟨none,rfl⟩
  (by rw[Lo,Lp];exact Jx (by omega) bH)
  (fun i hi a ρ ⟨o,ho⟩=>⟨[some (.int (1+(i:Int))),some (aP w)],⟨_,rfl⟩,by subst ho;rfl,rfl,fun _=>zZ i (Jw.mp hi)⟩)
 rw[K4,eY]at c;unfold fS;rw[h7];simp only[mr,bo,az,aq,bR,gh,br,av,aa,ab,ag,mZ,Kk];rw[CG (by omega) (by omega) (by omega) (by omega)];have hn:((w.length:Int)-1).toNat=w.length-1:=by omega
 simp only[aa,ab,bj,hn];rw[show eH [none,some 0] (some (aP w)::List.replicate (1-1) none)=[none,some (aP w)] from rfl];rw[show cJ 1 (w.length-1)=(List.range (w.length-1)).map fun(i:Nat)=>D.int (1+(i:Int)) from rfl]at c⊢;rw[c];simp only[aa,ab];rw[iQ (bs:=(List.range (w.length-1)).map fun i=>decide (w.getD i 0<w.getD (i+1) 0)) (by rw[Lm];exact aA)];simp only[ae,ab,aV];rw[eW (by simp)];simp[oP,Nu,NP]
def uw(m:Int)(d:D):Bool:=ux m d&&(decide (0<(yp d).length)&&oP (yp d))
theorem qM{m:Int}{d:D}(h:ux m d=true):∃w:List Int,d=aP w/\yp d=w/\∀n∈w,0<=n/\n<=m-1:=by
 cases d with
 |tup xs=>
  obtain⟨ns,rfl,f⟩:=sW h;exact⟨ns,rfl,vM,f⟩
 |_=>cases h
theorem Hd{μ:au}{w:List Int}(h:Kn μ (aP w)):w.length<1000:=by
 simp only[aP,Kn,Kk]at h;exact h.1
theorem GO{μ:au}{d:D}{m:Int}(h:Kn μ d):cn [.int m,d] μ=.ok (.bl (uw m d)) μ:=by
 unfold cn;rw[eK];simp only[gH,List.replicate,bo,wD,az,aq,av,ag,ai,aa,ab,xh h,bt];cases hp:ux m d with
 |false=>
  simp only[K9,Kt,ae,ab,aV,uw,hp,JV];exact nB
 |true=>
  obtain⟨w,rfl,hu,_⟩:=qM hp;simp only[Ku,aI,az,aq,av,ai,ag,aa,ab,mZ,Kk,br,eX,bt]
  rw[show gL .Gt (w.length:Int) 0=decide (0<w.length) from by
   show decide ((w.length:Int)>0)=_;by_cases z:0<w.length
   ·rw[K5 z];exact K5 (by omega)
   ·rw[Jl z];exact Jl (by omega)]
  rw[uw,hp,hu,NG];cases decide (0<w.length) with
  |false=>
   simp only[K9,Kt,ae,ab,aV,JV];exact nB
  |true=>
   simp only[Ku,u7 (Hd h),ae,ab,aV,NG];exact nB
theorem tY{U:Type}{en:U->D}{src:mP}{k:Nat}{fb:MS}{c:U->Bool}(Q:Ro->au->Prop)(ho:∀ρ M,Q ρ M->bB src M):∀(us:List U),(∀u∈us,∀ρ M,Q ρ M->∃ρ' M',Q ρ' M'/\fb (ρ.set k (some (en u))) M=if c u=true then .next ρ' M' else .ret (.bl false) M') ->
  ∀ρ M,Q ρ M->∃ρ' M',Q ρ' M'/\cY src (ao k) fb (us.map en) ρ M=if us.all c=true then .next ρ' M' else .ret (.bl false) M'
 |[],_,ρ,M,h=>⟨ρ,M,h,by rw[KM];unfold cY;rw[Jo (ho ρ M h)];rfl⟩
 |u::us,hs,ρ,M,h=>by
  obtain⟨ρ1,M1,q1,e1⟩:=hs u JA ρ M h;obtain⟨ρ2,M2,q2,e2⟩:=tY Q ho us (fun v hv=>hs v (JB _ hv)) ρ1 M1 q1;rw[KN];unfold cY;rw[Jo (ho ρ M h)];simp only[bh,ae,ab,e1];rw[Nt];cases c u with
  |true=>
   refine⟨ρ2,M2,q2,?_⟩;simp only[Ku,qR,e2,NG]
  |false=>
   refine⟨ρ1,M1,q1,?_⟩;simp only[K9,Kt,Fq,JV]
theorem tU:∀{v w:List Int},PyData.eqvAll (v.map PyData.int) (w.map PyData.int)=decide (v=w)
 |[],[]=>rfl
 |[],_::_=>rfl
 |_::_,[]=>rfl
 |a::v,b::w=>by
  simp only[KN,PyData.eqvAll,tU (v:=v) (w:=w),PyData.eqv];apply J3.mpr;simp
theorem wm{M:au}{t:Nat}{w:List Int}(h:M[t]?=some (.lst (w.map D.int))):mO M (.obj t)=some (.list (w.map PyData.int)):=by
 unfold mO;dsimp only;rw[h];dsimp only;rw[nW];rfl
theorem wq{w:List Int}:eU (.list (w.map PyData.int))=true:=by
 have:=kY w;simp only[eU,PyData.canLay0,this.1,PyData.depth,this.2,NG];rfl
theorem tx{M:au}{t u:Nat}{v w:List Int}(ht:M[t]?=some (.lst (v.map D.int)))(hu:M[u]?=some (.lst (w.map D.int))):jU true (.obj t) (.obj u) M=.ok (.bl (!decide (v=w))) M:=by
 unfold jU;rw[wm ht,wm hu];dsimp only;rw[Jo ⟨wq,wq⟩,Jo rfl];simp only[PyData.eqv,tU]
def c1(n:Int)(xs:List D)(p:Nat):Bool:=ux n (xs.getD p .non)&&(oP (yp (xs.getD p .non))&&decide ((p:Int)∈yp (xs.getD p .non)))
theorem qw:∀{l:List Int}{lo hi:Int},l.Pairwise (·<·)->(∀x∈l,lo<=x/\x<hi)->(l.length:Int)<=max 0 (hi-lo)
 |[],lo,hi,_,_=>by simp only[Lp];omega
 |x::r,lo,hi,h,hr=>by
  have ih:=qw (l:=r) (lo:=x+1) (hi:=hi) (LI.mp h).2 fun y hy=>⟨(LI.mp h).1 y hy,(hr y (JB _ hy)).2⟩;have:=hr x JA;simp only[La];omega
theorem Ds{U V:Type}{f:U->List V}{k:Nat}:∀(l:List U),(∀u∈l,(f u).length<=k)->(l.flatMap f).length<=l.length*k
 |[],_=>by simp
 |x::r,h=>by
  have a:=h x JA;have b:=Ds r fun u hu=>h u (JB _ hu);rw[NN,Kj,La,K3];omega
theorem sj{μ:au}{w:List Int}:uB (aP w) μ=.ok (.fix (w.map D.int)) μ:=rfl
theorem FO{μ G:au}{T:Nat}{acc xs:List D}(hT:(μ++G)[T]?=some (.lst acc))(hμ:μ.length<=T)(hl:acc.length+xs.length<=100000) :
  ∃G',eA (.obj T) [.obj (μ++G).length] (μ++G++[.lst xs])=.ok .non (μ++G')/\(μ++G')[T]?=some (.lst (acc++xs)):=by
 have hlt:=(JG.mp hT).1;refine⟨(G++[O.lst xs]).set (T-μ.length) (.lst (acc++xs)),?_,?_⟩
 ·rw[tT (aE hT) aA hl,KZ,NX,Jp (by omega)]
 ·rw[Kf hμ,JI];rw[Kj]at *;simp only[Kj,La,Lp];omega
theorem m8{μ:au}{a b:Nat}{xs ys:List D}(h:μ[a]?=some (.lst xs))(g:μ[b]?=some (.lst ys))(hn:xs.length+ys.length<=1000000):cw (.obj a) (.obj b) μ=.ok (.obj μ.length) (μ++[.lst (xs++ys)]):=by
 unfold cw;simp only[h,g];rw[Jo (Jx hn (by decide))]
theorem Nk{μ:au}{x:D}{p:PyData}{neg:Bool}(e:mO μ x=some p)(f:eU p=true):jU neg x x μ=.ok (.bl (!neg)) μ:=by
 unfold jU;rw[e];dsimp only;rw[Jo ⟨f,f⟩,SeqAt.eqv_refl _ (cb f)];cases neg <;> rfl
theorem tN{μ:au}:∀fs:List Int,toPs μ (fs.map D.int)=some (fs.map PyData.int)
 |[]=>rfl
 |x::fs=>by simp only[KN,toPs,tN fs];rfl
theorem qJ{μ:au}:∀ls:List (List Int),gy μ (ls.map aP)=some (ls.map fO)
 |[]=>rfl
 |l::ls=>by
  have:yv μ (aP l)=some (fO l):=by
   show (toPs μ (l.map D.int)).map PyData.tuple=_;rw[tN];rfl
  simp only[KN,gy,qJ ls,this];rfl
theorem D2{μ:au}{ls:List (List Int)}:mO μ (HN ls)=some (.tuple (ls.map fO)):=by
 simp only[mO,qJ,Option.map_some]
theorem uK:∀ls:List (List Int),PyData.canLayAll0 (ls.map fO)=true/\PyData.depthAll (ls.map fO)<=1
 |[]=>by simp[PyData.canLayAll0,PyData.depthAll]
 |l::ls=>by
  have ih:=uK ls;have f:=kY l;simp only[KN,PyData.canLayAll0,PyData.depthAll,ih.1,fO,PyData.canLay0,PyData.depth,f.1,f.2];have:=ih.2;exact⟨rfl,by omega⟩
theorem D4{ls:List (List Int)}:eU (.tuple (ls.map fO))=true:=by
 have:=uK ls;simp only[eU,PyData.canLay0,this.1,PyData.depth,NG];exact K5 (by have:=this.2;omega)
theorem FE {μ:au}{xs:List D}:gf "tuple" (.tup xs) μ=.ok (.bl true) μ:=rfl
theorem Ar{w:List Int}{M:au}(hl:w.length<=1000):compLoop (.fix (w.map D.int)) M.length (ao 0) cW cN (w.map D.int) [none] (M++[.lst []])=.ok (.obj M.length) (M++[.lst ((w.map fun _=>true).map D.bl)]):=by
 have c:=cf (U:=Int) (en:=D.int) (src:=.fix (w.map D.int)) (g:=ao 0) (t:=cW) (e:=cN) (μ1:=M) (q:=fun _=>true) (h:=fun _=>.bl true) (fun ρ=>∃o,ρ=[o]) (fun _=>trivial) (us:=w) (acc:=[]) (ρ:=[none]) ⟨_,rfl⟩
  (by rw[Lp];exact Jx (by omega) bH)
  (fun k hk x ρ hJJ => by
   obtain⟨o,e'⟩:=hJJ;subst e';refine⟨[some (.int k)],⟨_,rfl⟩,rfl,rfl,fun _=>?_⟩;unfold cN;simp only[az,aq,av,ag,aa]
   exact lM (by simp[Kn]))
 rw[c,eY,K4,Lm];rfl
theorem xg{μ:au}{ls:List (List Int)}(h:∀k∈ls,k.length<=1000)(hl:ls.length<=1000):bM [HN ls,HN ls] μ=.ok (.bl true) μ:=by
 obtain⟨ys',ρ',μ2,s',⟨e1,n,L',e3,e4,e5,e6,e7⟩,run⟩:=iy (src:=.fix (ls.map aP)) (g:=ao 0) (t:=cW) (e:=dZ) (n:=μ.length)
  (fun xs ys ρ μ2 s=>μ2=μ/\∃(n:Nat)(L':List (List Int)),xs=L'.map aP/\(∀k∈L',k.length<=1000)/\ys=(List.replicate n true).map D.bl/\n+L'.length<=1000/\∃o,ρ=[o])
  (fun ys ρ μ2 s ⟨e,_⟩=>⟨by rw[e],trivial⟩)
  (fun x r ys ρ μ2 s hJ => by
   obtain⟨e1,n,L',e3,e4,e5,e6,o,e7⟩:=hJ;subst e1 e5 e7;cases L' with
   |nil=>cases e3
   |cons k L'=>
    rw[KN]at e3;injection e3 with ex er
    subst ex er;have hk:=e4 k JA;simp only[La]at e6;refine⟨rfl,trivial,[some (aP k)],μ2,s,true,μ2,s,rfl,rfl,fun _=>⟨.bl true,μ2,s++[.lst ((k.map fun _=>true).map D.bl)],?_,?_,rfl,rfl,n+1,L',rfl,fun k hk=>e4 k (JB _ hk),?_,by omega,_,rfl⟩,fun z=>by cases z⟩
    ·unfold dZ;simp only[wD,nC,ag,aa];rw[show gf "tuple" (aP k) (μ2++O.lst ((List.replicate n true).map D.bl)::s)=.ok (.bl true) (μ2++O.lst ((List.replicate n true).map D.bl)::s) from rfl];simp only[aa,bt,Ku,az,aq,av,bR,bF,ag,sj,bj];rw[show eH [none] [some (aP k)]=[none] from rfl,Ar hk];simp only[aa];refine(iQ aA).trans ?_;rw[show (k.map fun _=>true).all id=true from by simp];simp only[KZ,Lr]
    ·simp only[Kk,List.length_replicate];exact Js (show n<1000 by omega) bH
    ·rw[List.replicate_succ',LJ];rfl)
  (xs:=ls.map aP) (ys:=[]) (ρ:=[none]) (μ1:=μ) (s:=[]) ⟨rfl,0,ls,rfl,h,rfl,by omega,_,rfl⟩
 subst e1 e5;unfold bM;rw[eK];simp only[g9,List.replicate];rw[aJ,cQ];simp only[nK,gR,hX,nC,aI,cV,ai,ag,aa,FE,d8,LZ,K9,Kt,Nk D2 D4,bt,ae,cy,aB,bo,az,aq,av,bR,bF,kP,bj];rw[AE,CS,run];simp only[aa];rw[iQ (bs:=List.replicate n true) (by rw[Kf (JY _),LS];rfl)];rw[show (List.replicate n true).all id=true from by simp];simp only[ae,aV];exact eW (by simp)
def cB(b:Bool)(q:PyData):Bool:=if b then !q.hasDict else AM q
def AS(b:Bool)(q:List PyData):Bool:=if b then !PyData.hasDictAll q else noLs q
theorem FZ{b:Bool}{qs:List PyData}(h:AS b qs=true):cB b (.tuple qs)=true:=by
 cases b with
 |true=>simp only[AS,Ku]at h;simp only[cB,Ku,PyData.hasDict];exact h
 |false=>simp only[AS,K9,Kt]at h;simp only[cB,K9,Kt,AM];exact h
theorem AH{b:Bool}{q:PyData}{qs:List PyData}(h:cB b q=true)(hs:AS b qs=true):AS b (q::qs)=true:=by
 cases b with
 |true=>
  simp only[AS,cB,Ku,Bool.not_eq_true']at h hs⊢;simp only[PyData.hasDictAll,h,hs,Bool.or_self]
 |false=>
  simp only[AS,cB,K9,Kt]at h hs⊢;simp only[noLs,h,hs,L3]
def Ja(b:Bool)(w:Nat)(q:PyData):Prop:=q.showable=true/\q.leavesShort 40=true/\q.weight<=w/\cB b q=true
def GB(b:Bool)(T:au->Prop)(n w:Nat)(d:D):Prop:=(∃q,(∀μ,T μ->ly μ n d=some q)/\Ja b w q/\q.depth<=n)/\∀μ,T μ->Kn μ d
section
variable{b:Bool}{T:au->Prop}{n w k:Nat}
theorem GB.wk{w':Nat}{d:D}(h:GB b T n w d)(hw:w<=w'):GB b T n w' d:=by
 obtain⟨⟨q,h1,⟨a,b,c,e⟩,h3⟩,h4⟩:=h;exact⟨⟨q,h1,⟨a,b,Jx c hw,e⟩,h3⟩,h4⟩
theorem kO{d:D}{q:PyData}(h:sv d=some q)(h1:q.showable=true)(h2:q.leavesShort 40=true)(h3:q.weight<=w)(h4:cB true q=true)(h5:cB false q=true)(hd:q.depth=0):GB b T n w d:=by
 refine⟨⟨q,fun μ _=>zq h,⟨h1,h2,h3,by cases b <;> assumption⟩,by omega⟩,fun μ _=>?_⟩;cases d with
 |tup _=>cases h
 |frz _=>cases h
 |obj _=>cases h
 |_=>simp[Kn]
theorem km{i:Int}(h0:-1<=i)(h1:i<=8):GB b T n 8 (.int i):=kO rfl (lP h0 h1).1 (lP h0 h1).2.1 (lP h0 h1).2.2.1 rfl rfl rfl
theorem Do{c:Bool}:GB b T n 8 (.bl c):=kO rfl rfl rfl (by simp[PyData.weight]) rfl rfl rfl
theorem FL:GB b T n 8 .non:=kO rfl rfl rfl (by simp[PyData.weight]) rfl rfl rfl
theorem FK:GB b T n 8 (.str "0"):=kO rfl rfl (by decide +kernel) (by decide +kernel) rfl rfl rfl
theorem nY:∀{xs:List D},(∀x∈xs,GB b T n w x)->∃qs,(∀μ,T μ->ik (ly μ n) xs=some qs)/\PyData.showableAll qs=true/\PyData.leavesShortAll 40 qs=true/\PyData.weightAll qs<=xs.length*(w+1)/\AS b qs=true/\PyData.depthAll qs<=n/\∀μ,T μ->Kns μ xs
 |[],_=>⟨[],fun _ _=>rfl,rfl,rfl,by simp[PyData.weightAll],by cases b <;> rfl,by simp[PyData.depthAll],fun _ _=>by simp[Kns]⟩
 |x::xs,h=>by
  obtain⟨⟨q,q1,⟨a,b,c,e⟩,q3⟩,q4⟩:=h x JA;obtain⟨qs,r1,r2,r3,r4,r5,r6,r7⟩:=nY fun y hy=>h y (JB _ hy);refine⟨q::qs,fun μ hμ=>?_,?_,?_,?_,AH e r5,?_,fun μ hμ=>?_⟩
  ·simp only[ik,q1 μ hμ,r1 μ hμ,Option.bind_some,Option.map_some]
  ·simp only[PyData.showableAll,a,r2,L3]
  ·simp only[PyData.leavesShortAll,b,r3,L3]
  ·simp only[PyData.weightAll,La,K3];omega
  ·simp only[PyData.depthAll];exact Nat.max_le.mpr ⟨q3,r6⟩
  ·simp only[Kns];exact⟨q4 μ hμ,r7 μ hμ⟩
theorem uR{xs:List D}(h:∀x∈xs,GB b T n w x)(hl:xs.length<=k)(hk:k<1000):GB b T (n+1) (k*(w+1)) (.tup xs):=by
 obtain⟨qs,r1,r2,r3,r4,r5,r6,r7⟩:=nY h;refine⟨⟨.tuple qs,fun μ hμ=>?_,⟨?_,?_,?_,FZ r5⟩,?_⟩,fun μ hμ=>?_⟩
 ·show (ik (ly μ n) xs).map PyData.tuple=_;rw[r1 μ hμ];rfl
 ·simp only[PyData.showable,r2]
 ·simp only[PyData.leavesShort,r3]
 ·simp only[PyData.weight];exact Jx r4 (NS _ hl)
 ·simp only[PyData.depth];omega
 ·simp only[Kn];exact⟨by omega,r7 μ hμ⟩
theorem zo{t:Nat}{xs:List D}(ht:∀μ,T μ->μ[t]?=some (.lst xs))(h:∀x∈xs,GB true T n w x)(hl:xs.length<=k):GB true T (n+1) (k*(w+1)) (.obj t):=by
 obtain⟨qs,r1,r2,r3,r4,r5,r6,r7⟩:=nY h;refine⟨⟨.list qs,fun μ hμ=>?_,⟨?_,?_,?_,?_⟩,?_⟩,fun μ hμ=>?_⟩
 ·unfold ly;dsimp only;rw[ht μ hμ];dsimp only;rw[r1 μ hμ];rfl
 ·simp only[PyData.showable,r2]
 ·simp only[PyData.leavesShort,r3]
 ·simp only[PyData.weight];exact Jx r4 (NS _ hl)
 ·simp only[AS,Ku]at r5;simp only[cB,Ku,PyData.hasDict];exact r5
 ·simp only[PyData.depth];omega
 ·simp only[Kn];refine⟨"list",?_,by decide,by decide,by decide⟩;unfold AL;dsimp only;rw[ht μ hμ]
theorem zp{t:Nat}(ht:∀μ,T μ->μ[t]?=some .dic):GB false T (n+1) 8 (.obj t):=by
 refine⟨⟨.dict [],fun μ hμ=>?_,⟨rfl,rfl,by decide +kernel,rfl⟩,by simp[PyData.depth,PyData.depthKv]⟩,fun μ hμ=>?_⟩
 ·unfold ly;dsimp only;rw[ht μ hμ]
 ·simp only[Kn];refine⟨"dict",?_,by decide,by decide,by decide⟩;unfold AL;dsimp only;rw[ht μ hμ]
theorem CD{d:D}(h:GB b T 5 w d)(hw:w<=300000)(hr:qy d=true):∃x,∀μ,T μ->Kn μ d/\fX [d] μ=.ok (.str x) μ:=by
 obtain⟨⟨q,q1,⟨a,s,c,e⟩,q3⟩,q4⟩:=h;refine⟨q.shown,fun μ hμ=>⟨q4 μ hμ,?_⟩⟩
 have hl:q.shown.length<=sizeLine:=by
  have h1:=PyData.shown_le 40 (by decide) q s;have h2:(40+2)*q.weight<=42*300000:=Nat.mul_le_mul (JY _) (by omega);rw[J5];omega
 have hd:(!q.hasDict || AM q)=true:=by
  cases b with
  |true=>rw[show (!q.hasDict)=true from e];rfl
  |false=>rw[show AM q=true from e,Bool.or_true]
 have ok:mR q=true:=by
  unfold mR;rw[a,hd,K5 (show q.depth<=60 by omega),K5 hl];rfl
 cases d with
 |tup xs=>unfold fX;dsimp only;rw[q1 μ hμ];dsimp only;rw[Jo ⟨rfl,ok⟩]
 |frz xs=>unfold fX;dsimp only;rw[q1 μ hμ];dsimp only;rw[Jo ⟨rfl,ok⟩]
 |obj k=>unfold fX;dsimp only;rw[q1 μ hμ];dsimp only;rw[Jo ⟨rfl,ok⟩]
 |_=>cases hr
variable{n0:Nat}
end
theorem FY{β:Type}{xs:List β}{r:Nat}{n:Int}(e:n=(r:Int)):fN xs (some n) none=xs.drop r:=by
 subst e;unfold fN;have h1:HT.sIx xs.length 0 (some (r:Int))=min r xs.length:=HT.sIx_nat _ _ r;have h2:HT.sIx xs.length xs.length none=xs.length:=rfl;rw[h1,h2];by_cases h:r<=xs.length
 ·rw[Nat.min_eq_left h,Lx (by rw[KA];exact JY _)]
 ·rw[Nat.min_eq_right (by omega),LS,List.take_zero,List.drop_eq_nil_of_le (by omega)]
theorem uV{xs:List D}{r:Int}{n:Nat}(h0:0<=r)(h1:r<(n:Int))(hl:xs.length=n):∃d,atI xs r=some d/\d∈xs:=by
 have h:r.toNat<xs.length:=by omega
 exact⟨xs[r.toNat],F0 h0 (MR h),MQ h⟩
theorem m7{xs ys:List D}{M:au}(h:xs.length+ys.length<=1000):cw (.tup xs) (.tup ys) M=.ok (.tup (xs++ys)) M:=by
 unfold cw;dsimp only;rw[Jo (Jx h bH)]
theorem qW{xs:List D}{a b:Option Int}:∀x∈fN xs a b,x∈xs:=fun x hx=>by
 unfold fN at hx;exact LP (LO hx)
theorem m4{xs:List D}{a b:Option Int}:(fN xs a b).length<=xs.length:=by
 unfold fN;rw[Kd,KA];omega
theorem qv{xs:List D}{a b:Option Int}{M:au}:yl (.tup xs) a b M=.ok (.tup (fN xs a b)) M:=rfl
theorem Eu{xs:List D}{M:au}:sx (.tup xs) (.int (-1)) M=.ok (.tup xs.reverse) M:=by
 unfold sx;dsimp only;rw[Jo rfl]
theorem Bq{μ:au}{ns:List Int}:∃x:Int,dG [.frz (ns.map D.int),.int 0] μ=.ok (.int x) μ:=by
 unfold dG;rw[eK];cases ns with
 |nil=>
  refine⟨0,?_⟩;simp only[gG,KM,List.replicate,aJ,cQ,cV,aI,ai,ag,az,aq,av,wB,Lp,aa,eX];rw[show gL .Lt 0 ((0:Nat):Int)=false from rfl];simp only[bt,ae,K9,Kt,cy,aB,bo,br,aV];exact dr (by simp)
 |cons x r=>
  refine⟨x,?_⟩;simp only[gG,KN,List.replicate,aJ,cQ,cV,aI,ai,ag,az,aq,av,wB,La,aa,eX];rw[show gL .Lt 0 (((r.map D.int).length+1:Nat):Int)=true from K5 (by omega)];simp only[bt,ae,Ku,bo,aI,ai,ag,aa];rw[FP vR];simp only[ae,iK,aV];exact dr (by simp)
def F3(M:au)(d:D):Prop:=∃x,∀s,Kn (M++s) d/\fX [d] (M++s)=.ok (.str x) (M++s)
end Lw
namespace Lw
open PySem L2 RS Lv
section
variable{m:Nat}{ks:List (List Int)}{μ:au}
theorem vW{a b:Int}(h:GW m ks):fD [aR m ks,.int a,.int b] μ=.ok (.bl (hG ks a b)) μ:=by
 have n2:0+1+1<=sizeLine:=l2;unfold fD;rw[uS];simp only[qm,List.replicate,bo,aI,dX,az,aq,av,br,ai,ag,aa,ab,Dk,Dl,La,Lp,Jo n2,jF,tP h.2.2.2.2,ae,aV];exact nB
def dH(ks:List (List Int))(k:List Int)(p:Int):Bool:=k.all fun o=>hG ks o p
theorem vZ{k:List Int}{p:Int}(h:GW m ks)(hl:k.length<=100):dC [aR m ks,aP k,.int p] μ=.ok (.bl (dH ks k p)) μ:=by
 have c:=cf (U:=Int) (en:=D.int) (src:=.fix (k.map D.int)) (g:=ao 0) (t:=cW) (e:=ie) (μ1:=μ) (q:=fun _=>true) (h:=fun o=>.bl (hG ks o p)) (fun ρ=>∃o,ρ=[o,some (aR m ks),some (.int p)]) (fun _=>trivial) (us:=k) (acc:=[]) (ρ:=[none,some (aR m ks),some (.int p)]) ⟨_,rfl⟩
  (by rw[Lp];exact Jx (by omega) bH)
  (fun o ho a ρ ⟨x, hx⟩ => ⟨[some (.int o), some (aR m ks), some (.int p)], ⟨_, rfl⟩, by subst hx; rfl, rfl, fun _ => by
   unfold ie;simp only[az,aq,av,ai,ag,aa,ab]
   exact vW h⟩)
 rw[eY,K4]at c;unfold dC;rw[uS];simp only[mw,List.replicate,bo,az,aq,av,bR,bF,ai,ag,aa,ab,sj,bj];rw[show eH [none,some 0,some 2] (some (aR m ks)::some (aP k)::some (.int p)::List.replicate (3-3) none)=[none,some (aR m ks),some (.int p)] from rfl,c];simp only[aa,ab];rw[iQ (bs:=k.map fun o=>hG ks o p) (by rw[Lm];exact aA)];simp only[ae,aV];rw[eW (by simp)];simp[dH,Nu,NP]
def jP(ks:List (List Int))(w:List Int):Bool:=(w.flatMap fun a=>(w.filter fun b=>decide (a<b)).map fun b=>hG ks a b).all id
def eV(m:Nat)(ks:List (List Int))(d:D):Bool:=uw m d&&jP ks (yp d)
theorem Cv{M:au}{w:List Int}(h:GW m ks)(hl:w.length<=100):lK (fA (aj 1)) [none,none,some 0,some 1] (ao 0) (cW) (fL) [some (aR m ks),some (aP w)] M=.ok (.obj M.length) (M++[.lst ((w.flatMap fun a=>(w.filter fun b=>decide (a<b)).map fun b=>hG ks a b).map D.bl)]):=by
 have fl:(w.flatMap fun a=>(w.filter fun b=>decide (a<b)).map fun b=>hG ks a b).length<=10000:=by
  have:=Ds (f:=fun a=>(w.filter fun b=>decide (a<b)).map fun b=>hG ks a b) (k:=100) w fun a _=>by
   rw[Kk];exact Jx (NR _ _) hl
  have:w.length*100<=100*100:=NS 100 hl;omega
 obtain⟨ρ',_,run⟩:=kX (U:=Int) (en:=D.int) (src:=.fix (w.map D.int)) (g:=ao 0) (t:=cW) (fb:=fL) (μ1:=M) (q:=fun _=>true) (k:=fun a=>((w.filter fun b=>decide (a<b)).map fun b=>hG ks a b).map D.bl)
  (fun ρ=>∃x y,ρ=[x,y,some (aR m ks),some (aP w)]) (fun _=>trivial) (us:=w) (acc:=[]) (ρ:=[none,none,some (aR m ks),some (aP w)]) ⟨_,_,rfl⟩
  (by
   rw[eY,Lp,Nat.zero_add,<- List.map_flatMap,Kk]
   exact Jx fl (Jx (by decide) uL))
  (fun x hx a ρ hJJ => by
   obtain⟨y,z,e⟩:=hJJ;subst e;refine⟨[some (.int x),z,some (aR m ks),some (aP w)],rfl,rfl,⟨(fun q=>Bool.noConfusion q),fun _ ha=>?_⟩⟩
   obtain⟨ρ2,⟨z2,e2⟩,run2⟩:=kX (U:=Int) (en:=D.int) (src:=.fix (w.map D.int)) (g:=ao 1) (t:=ia) (fb:=nD ic) (μ1:=M) (q:=fun b=>decide (x<b)) (k:=fun b=>[.bl (hG ks x b)])
    (fun ρ=>∃z,ρ=[some (.int x),z,some (aR m ks),some (aP w)]) (fun _=>trivial) (us:=w) (acc:=a) (ρ:=[some (.int x),z,some (aR m ks),some (aP w)]) ⟨_,rfl⟩
    (by
     rw[<- List.map_eq_flatMap];rw[Lm]at ha
     exact ha)
    (fun b hb a ρ hJJ => by
     obtain⟨z,e⟩:=hJJ;subst e;refine⟨[some (.int x),some (.int b),some (aR m ks),some (aP w)],rfl,?_,fun _=>⟨_,rfl⟩,fun _ ha=>⟨[some (.int x),some (.int b),some (aR m ks),some (aP w)],⟨_,rfl⟩,?_⟩⟩
     ·unfold ia;simp only[cV,aI,ai,ag,aa,ab,eX,bt];rfl
     ·refine Ay ?_ ha;unfold ic;simp only[az,aq,av,ai,ag,aa,ab]
      exact vW h)
   subst e2;refine⟨[some (.int x),z2,some (aR m ks),some (aP w)],⟨_,_,rfl⟩,?_⟩;unfold fL nJ;simp only[bF,ai,ag,aa,sj,ab,bj];rw[run2,<- List.map_eq_flatMap,Lm]
   rfl)
 unfold lK;simp only[bF,ai,ag,aa,sj,bj];rw[show eH [none,none,some 0,some 1] [some (aR m ks),some (aP w)]=[none,none,some (aR m ks),some (aP w)] from rfl,run];simp only[aa,eY,K4];rw[<- List.map_flatMap]
theorem EG{d:D}{w:List Int}(hm:m<=6)(hp:uw m d=true)(e:yp d=w):w.length<=6:=by
 unfold uw at hp;rw[KJ,KJ]at hp;obtain⟨v,_,e2,hr⟩:=qM hp.1;rw[e]at e2 hp;subst e2;have:=qw (lo:=0) (hi:=m) (kW.mp hp.2.2) (fun x hx=>by have:=hr x hx;omega);omega
theorem zG{d:D}(h:GW m ks)(hk:Kn μ d):fR [aR m ks,d] μ=.ok (.bl (eV m ks d)) μ:=by
 unfold fR;rw[eK];simp only[mq,List.replicate];rw[aJ,cQ];simp only[gR,hX,az,aq,av,aI,br,ai,ag,aa,ab,cK,GO hk,d8];unfold eV;cases hp:uw m d with
 |false=>
  simp only[L9,ae,Ku,bo,br,iK,aV,JV];exact nB
 |true=>
  have hp':=hp;unfold uw at hp';rw[KJ]at hp';obtain⟨w,rfl,e,_⟩:=qM hp'.1;have hl:=EG h.m6 hp e;simp only[LZ,ae,K9,Kt,cy,aB,bo,az,aq,av];rw[show (some (aR m ks)::some (aP w)::List.replicate (2-2) none)=[some (aR m ks),some (aP w)] from rfl,Cv h (by omega)];simp only[aa,ab];rw[iQ aA];simp only[ae,aV,e,NG];exact eW (by simp)
theorem BF{w:List Int}:decide (w=(rg m).filter fun p=>decide (p∈w))=((w.all fun x=>decide (0<=x)&&decide (x<(m:Int)))&&oP w):=by
 have up:((rg m).filter fun p=>decide (p∈w)).Pairwise (·<·):=C9.filter _;apply J3.mpr;rw[Np,KJ,LY,kW];constructor
 ·intro e;refine⟨fun x hx=>?_,by rw[e];exact up⟩;rw[e]at hx;have:=iL.mp (Jv.mp hx).1;simp only[KJ,Np];exact this
 ·rintro ⟨h1, h2⟩
  refine List.Perm.eq_of_pairwise (le:=(·<=·)) (fun a b _ _ x y=>Nx x y) (h2.imp fun z=>Int.le_of_lt z) (up.imp fun z=>Int.le_of_lt z) ?_;refine(LW (h2.imp fun z=>by omega) (up.imp fun z=>by omega)).mpr fun q=>?_;rw[Jv,Np,iL];refine⟨fun hq=>⟨by simpa using h1 q hq,hq⟩,fun z=>z.2⟩
def ck(ks:List (List Int))(w:List Int)(a:Int):Bool:=decide ((w.filter fun b=>decide (a<b) && !decide ([a,b]∈ks))=[])
theorem CQ{w:List Int}:w.all (ck ks w)=jP ks w:=by
 apply J3.mpr;unfold jP;rw[LY,LY]
 have tt:∀{a b:Int},a<b->hG ks a b=decide ([a,b]∈ks):=fun {a b} h=>by
  unfold hG;rw[NV (by omega),NW (by omega)]
 constructor
 ·intro h x hx;obtain⟨a,ha,hx⟩:=NM.mp hx;obtain⟨b,hb,rfl⟩:=Lz.mp hx;obtain⟨hb,hab⟩:=Jv.mp hb;have hab:=NU hab;have:=h a ha;unfold ck at this;rw[Np,NY]at this;have:=this b hb;show hG ks a b=true;rw[tt hab];rw[K5 hab,NG]at this;simpa using this
 ·intro h a ha;unfold ck;rw[Np,NY];intro b hb;by_cases hab:a<b
  ·have:=h (hG ks a b) (NM.mpr ⟨a,ha,Lz.mpr ⟨b,Jv.mpr ⟨hb,K5 hab⟩,rfl⟩⟩);have this:hG ks a b=true:=this;rw[tt hab]at this;rw[this];simp
  ·simp[hab]
theorem Ct{M:au}{w:List Int}{a:Int}(h:GW m ks)(hl:w.length<=100):∃g:au,dP [some (aR m ks),some (aP w),some (.int a)] M=if ck ks w a=true then .next [some (aR m ks),some (aP w),some (.int a)] (M++g) else .ret (.bl false) (M++g):=by
 have n2:0+1+1<=sizeLine:=l2
 have c:=cf (U:=Int) (en:=D.int) (src:=.fix (w.map D.int)) (g:=ao 0) (t:=fG) (e:=iE) (μ1:=M) (q:=fun b=>decide (a<b) && !decide ([a,b]∈ks)) (h:=D.int) (fun ρ=>∃o,ρ=[o,some (.int a),some (aR m ks)]) (fun _=>trivial) (us:=w) (acc:=[]) (ρ:=[none,some (.int a),some (aR m ks)]) ⟨_,rfl⟩
  (by rw[Lp];exact Jx (by omega) bH)
  (fun b hb x ρ ⟨o, ho⟩ => by
   refine⟨[some (.int b),some (.int a),some (aR m ks)],⟨_,rfl⟩,by subst ho;rfl,?_,fun _=>rfl⟩;unfold fG;simp only[m3,cV,aI,dX,aq,av,br,ai,ag,aa,ab,eX,bt];rw[show gL .Lt a b=decide (a<b) from rfl];cases decide (a<b) with
   |false=>simp only[K9,Kt,JV]
   |true=>simp only[Ku,La,Lp,Jo n2,aa,ab,jF,p5 h.2.2.2.2,bt,NG])
 rw[K4]at c;refine⟨[.lst ((w.filter fun b=>decide (a<b) && !decide ([a,b]∈ks)).map D.int)]++[.lst []],?_⟩;unfold dP;rw[cQ];simp only[cV,aI,bR,bF,ai,ag,aa,ab,sj,bj];rw[show eH [none,some 2,some 0] [some (aR m ks),some (aP w),some (.int a)]=[none,some (.int a),some (aR m ks)] from rfl,c];simp only[aa,ab,fB,av,Lp,Jo (Lj sizeLine)];have ne:∀v:List Int,jU true (.obj M.length) (.obj (M++[O.lst (v.map D.int)]).length) (M++[O.lst (v.map D.int)]++[O.lst []])=.ok (.bl (!decide (v=[]))) (M++[O.lst (v.map D.int)]++[O.lst []]):=fun v=>tx (w:=[]) (aE aA) aA;rw[ne];simp only[aa,ab,bt];unfold ck;cases decide ((w.filter fun b=>decide (a<b) && !decide ([a,b]∈ks))=[]) with
 |true=>simp only[LZ,ae,K9,Kt,cy,Ku,KZ]
 |false=>simp only[L9,ae,Ku,bo,br,K9,Kt,KZ]
theorem xW{M:au}{xs:List D}{h:D->Bool}{e:ME}(hl:xs.length<=sizeLine)(he:∀x∈xs,∀a,e [some x] (M++[.lst a])=.ok (.bl (h x)) (M++[.lst a])) :
  compLoop (.fix xs) M.length (ao 0) cW e xs [none] (M++[.lst []])=.ok (.obj M.length) (M++[.lst ((xs.map h).map D.bl)]):=by
 have:=jN (src:=.fix xs) (g:=ao 0) (t:=cW) (e:=e) (μ1:=M) (q:=fun _=>true) (h:=fun x=>D.bl (h x)) (fun ρ=>∃o,ρ=[o]) (fun _=>trivial) (xs:=xs) (acc:=[]) (ρ:=[none]) ⟨none,rfl⟩ (by simpa using hl)
  (fun x hx a ρ ⟨o,ho⟩=>⟨[some x],⟨_,rfl⟩,by subst ho;rfl,rfl,fun _=>he x hx a⟩)
 rw[this,List.filter_eq_self.mpr (fun _ _=>rfl)];simp[Lm,NP]
theorem t5:∀{xs:List D},xs.all isInt=true->∃w:List Int,xs=w.map D.int
 |[],_=>⟨[],rfl⟩
 |x::xs,h=>by
  rw[Nt,KJ]at h;obtain⟨w,rfl⟩:=t5 h.2;cases x with
  |int i=>exact⟨i::w,rfl⟩
  |_=>cases h.1
theorem wc{w:List Int}:uw m (aP w)=((w.all fun x=>decide (0<=x)&&decide (x<(m:Int)))&&(decide (0<w.length)&&oP w)):=by
 unfold uw;rw[vM];congr 1;show (w.map D.int).all (gO 0 ((m:Int)-1))=_;rw[Nu];apply List.all_congr
 ·rfl
 ·intro x;show (decide (0<=x)&&decide (x<=(m:Int)-1))=_;congr 1;by_cases z:x<(m:Int)
  ·rw[K5 z];exact K5 (by omega)
  ·rw[Jl z];exact Jl (by omega)
theorem pN{d:D}(h:GW m ks)(hk:Kn μ d):bL [aR m ks,d] μ=.ok (.bl (eV m ks d)) μ:=by
 have m6:=h.m6;unfold bL;rw[eK];simp only[jw,List.replicate];rw[aJ,cQ];simp only[nK,gR,hX,nC,ai,ag,aa,ab,p3 hk,d8];cases d with
 |tup xs=>
  simp only[Kn]at hk;simp only[jh,LZ,K9,Kt,cV,aI,dX,av,ai,ag,aa,ab,Lp,Jo (Lj sizeLine)];rw[show yA (.tup xs) (.tup []) μ=.ok (.bl xs.isEmpty) μ from rfl];simp only[aa,ab,bt];cases xs with
  |nil=>
   simp only[List.isEmpty_nil,Ku,ae,bo,br,iK,aV];rw[show eV m ks (.tup [])=false from by simp[eV,uw,yp]];exact nB
  |cons x0 r0=>
   generalize hxs:x0::r0=xs at hk⊢;have ne:xs≠[]:=by rw[<- hxs];exact nofun
   simp only[show xs.isEmpty=false from by rw[<- hxs];rfl,K9,Kt,az,aq,av,bR,bF,ai,ag,aa,ab,kP,bj];rw[show eH [none] [some (aR m ks),some (.tup xs),none]=[none] from rfl]
   rw[xW (h:=isInt) (Jx (Jy hk.1) bH) fun x hx a=>by
    unfold iG;simp only[az,aq,av,ag,aa,ab]
    exact lM (qS _ (mV.mp hk.2 x hx))]
   simp only[aa,ab];rw[iQ aA];simp only[aa,ab,d8];rw[show (xs.map isInt).all id=xs.all isInt from by simp[Nu,NP]];cases hi:xs.all isInt with
   |false=>
    simp only[L9,ae,Ku,bo,br,iK,aV]
    rw[show eV m ks (.tup xs)=false from by
     unfold eV uw;cases hp:ux m (.tup xs) with
     |false=>rfl
     |true=>
      obtain⟨w,e,_⟩:=sW hp;rw[e,Nu]at hi;have:w.all (isInt ∘ D.int)=true:=LY.mpr fun _ _=>rfl;rw[this]at hi
      cases hi]
    exact eW (by simp)
   |true=>
    obtain⟨w,rfl⟩:=t5 hi;have wl:w.length<1000:=by simpa using hk.1
    have wn:0<w.length:=by
     cases w with
     |nil=>exact absurd rfl ne
     |cons=>simp
    simp only[LZ,ae,K9,Kt,cy,aB];let M1:au:=μ++[O.lst (((w.map D.int).map isInt).map D.bl)]
    have c:=cf (U:=Int) (en:=D.int) (src:=.fix ((rg m).map D.int)) (g:=ao 0) (t:=fH) (e:=iF) (μ1:=M1++[O.lst (w.map D.int)]) (q:=fun p=>decide (p∈w)) (h:=D.int) (fun ρ=>∃o,ρ=[o,some (aP w)]) (fun _=>trivial) (us:=rg m) (acc:=[]) (ρ:=[none,some (aP w)]) ⟨_,rfl⟩
     (by rw[Lp,kh];exact Jx (by omega) bH)
     (fun p hp a ρ ⟨o, ho⟩ => ⟨[some (.int p), some (aP w)], ⟨_, rfl⟩, by subst ho; rfl, by
      unfold fH
      simp only[cV,aI,ai,ag,aa,ab,Hj,K9,Kt,bt],fun _=>rfl⟩)
    rw[K4]at c;rw[aJ,cQ];simp only[cV,aI,az,aq,av,ai,ag,aa,ab];rw[show i4 [.tup (w.map D.int)] (μ++[O.lst (((w.map D.int).map isInt).map D.bl)])=.ok (.obj M1.length) (M1++[O.lst (w.map D.int)]) from rfl];simp only[aa,ab,bR,gh,aq,av,aI,br,ai,ag,cK];rw[gQ (by omega) (by omega)];simp only[aa,ab,bj,nH];rw[show eH [none,some 1] [some (aR m ks),some (.tup (w.map D.int)),none]=[none,some (aP w)] from rfl,c];simp only[aa,ab];rw[tx (aE aA) aA,BF];simp only[aa,ab,bt]
    have kb:eV m ks (.tup (w.map D.int))=((w.all fun x=>decide (0<=x)&&decide (x<(m:Int)))&&oP w&&jP ks w):=by
     unfold eV;rw[show uw m (.tup (w.map D.int))=uw m (aP w) from rfl,wc,K5 wn,NG,show yp (.tup (w.map D.int))=w from vM]
    rw[kb];cases hr:((w.all fun x=>decide (0<=x)&&decide (x<(m:Int)))&&oP w) with
    |false=>
     simp only[L9,ae,Ku,bo,br,iK,aV,JV,M1,KZ];exact eW (by simp)
    |true=>
     simp only[LZ,ae,K9,Kt,cy,aB,NG]
     have wl6:w.length<=100:=by
      rw[KJ]at hr;have:=qw (lo:=0) (hi:=m) (kW.mp hr.2) (fun x hx=>by have:=LY.mp hr.1 x hx;simpa using this);omega
     obtain⟨ρ1,M2,⟨g1,b1,rfl,rfl⟩,e1⟩:=tY (U:=Int) (en:=D.int) (src:=.fix (w.map D.int)) (k:=2) (fb:=dP) (c:=ck ks w) (fun ρ M=>∃(g:au)(b1:Option D),M=μ++g/\ρ=[some (aR m ks),some (aP w),b1]) (fun _ _ _=>trivial) w
      (fun a ha ρ M ⟨g, b1, eM, eρ⟩ => by
       subst eM eρ;obtain⟨g',e⟩:=Ct (M:=μ++g) (a:=a) h wl6
       exact⟨_,_,⟨g++g',_,by rw[KZ],rfl⟩,e⟩) [some (aR m ks),some (aP w),none] (M1++[O.lst (w.map D.int)]++[O.lst (((rg m).filter fun p=>decide (p∈w)).map D.int)]) ⟨_,none,by simp only[M1,KZ];rfl,rfl⟩
     rw[aJ,hZ];simp only[bF,ai,ag,aa,ab,kP,ae,bj];rw[e1,CQ];cases jP ks w with
     |false=>
      simp only[K9,Kt,iK,aV];exact eW (by simp)
     |true=>
      simp only[Ku,aB,bo,br,ae,aV];exact eW (by simp)
 |_=>
  simp only[jh,L9,Ku,ae,bo,br,iK,aV];exact nB
end
end Lw
namespace Lw
open PySem L2 RS Lv
section
variable{m:Nat}{ks:List (List Int)}
theorem gC{w:List Int}:jP ks w=true↔∀a∈w,∀b∈w,a<b->hG ks a b=true:=by
 unfold jP;rw[LY];constructor
 ·intro h a ha b hb hab;exact h _ (NM.mpr ⟨a,ha,Lz.mpr ⟨b,Jv.mpr ⟨hb,K5 hab⟩,rfl⟩⟩)
 ·intro h x hx;obtain⟨a,ha,hx⟩:=NM.mp hx;obtain⟨b,hb,rfl⟩:=Lz.mp hx;obtain⟨hb,hab⟩:=Jv.mp hb;exact h a ha b hb (NU hab)
theorem qV{k:List Int}{p:Int}:dH ks k p=true↔∀a∈k,hG ks a p=true:=by
 unfold dH;rw[LY]
def kn(ks:List (List Int)):Nat->List (List Int)
 |0=>[]
 |n+1=>kn ks n++[[(n:Int)]]++((kn ks n).filter fun k=>dH ks k (n:Int)).map fun k=>k++[(n:Int)]
def lo:Nat->List (List Int)
 |0=>[]
 |n+1=>lo n++[(n:Int)]::(lo n).map fun k=>k++[(n:Int)]
def mz(n:Nat)(k:List Int):Prop:=k≠[]/\k.Pairwise (·<·)/\∀x∈k,0<=x/\x<(n:Int)
theorem fW:∀{n:Nat}{k:List Int},k∈lo n↔mz n k
 |0,k=>by
  simp only[lo,Ml,false_iff]
  rintro⟨h1,_,h3⟩
  cases k with
  |nil=>exact h1 rfl
  |cons x r=>have:=h3 x JA;omega
 |n+1,k=>by
  simp only[lo,JE,JC,Lz];constructor
  ·rintro (h | rfl | ⟨j, hj, rfl⟩)
   ·obtain⟨h1,h2,h3⟩:=fW.mp h;exact⟨h1,h2,fun x hx=>by have:=h3 x hx;push_cast;omega⟩
   ·exact⟨by simp,by simp,fun x hx=>by rw[Lk.mp hx];push_cast;omega⟩
   ·obtain ⟨h1, h2, h3⟩ := fW.mp hj;refine⟨by simp,LH.mpr ⟨h2,by simp,fun a ha b hb=>by rw[Lk.mp hb];exact(h3 a ha).2⟩,fun x hx=>?_⟩;rcases JE.mp hx with z|z
    ·have:=h3 x z;push_cast;omega
    ·rw[Lk.mp z];push_cast;omega
  ·rintro ⟨h1, h2, h3⟩
   obtain⟨j,p,rfl⟩:∃j p,k=j++[p]:=⟨k.dropLast,k.getLast h1,(List.dropLast_concat_getLast h1).symm⟩;have hp:=h3 p (by simp);rw[LH]at h2;by_cases e:p=(n:Int)
   ·subst e;right;cases j with
    |nil=>left;rfl
    |cons a r=>right;exact⟨a::r,fW.mpr ⟨by simp,h2.1,fun x hx=>⟨(h3 x (JF _ hx)).1,h2.2.2 x hx _ (by simp)⟩⟩,rfl⟩
   ·left;refine fW.mpr ⟨by simp,LH.mpr h2,fun x hx=>⟨(h3 x hx).1,?_⟩⟩
    push_cast at hp
    rcases JE.mp hx with z|z
    ·have:=h2.2.2 x z p (by simp);omega
    ·rw[Lk.mp z];omega
theorem AC{p:Int}:jP ks [p]=true:=gC.mpr fun a ha b hb hab=>by
 rw[Lk.mp ha,Lk.mp hb]at hab;omega
theorem xX{n:Nat}{k:List Int}(h:mz n k):jP ks (k++[(n:Int)])=(jP ks k&&dH ks k (n:Int)):=by
 apply J3.mpr;rw[KJ,gC,gC,qV];constructor
 ·intro z;exact⟨fun a ha b hb=>z a (JF _ ha) b (JF _ hb),fun a ha=>z a (JF _ ha) _ (by simp) (h.2.2 a ha).2⟩
 ·rintro ⟨z1, z2⟩ a ha b hb hab
  rcases JE.mp ha with ha|ha
  ·rcases JE.mp hb with hb | hb
   ·exact z1 a ha b hb hab
   ·rw[Lk.mp hb];exact z2 a ha
  ·rw [Lk.mp ha] at hab;rcases JE.mp hb with hb|hb
   ·have:=(h.2.2 b hb).2;omega
   ·rw[Lk.mp hb]at hab;omega
theorem pC:∀n,kn ks n=(lo n).filter (jP ks)
 |0=>rfl
 |n+1=>by
  simp only[kn,lo];rw[pC n,NZ,NA,AC,Jo rfl,KZ,LU];congr 2;rw[List.filter_filter,List.filter_map];congr 1;refine Nw fun k hk=>?_;show (dH ks k (n:Int)&&jP ks k)=jP ks (k++[(n:Int)]);rw[xX (fW.mp hk),Bool.and_comm]
theorem zj:∀n,(lo n).length+1=2^n
 |0=>rfl
 |n+1=>by
  have:=zj n;simp only[lo,Kj,La,Kk];rw[Nat.pow_succ];omega
theorem yT{n:Nat}(h:n<=6):(lo n).length<=63:=by
 have a:=zj n;have:2^n<=2^6:=Nat.pow_le_pow_right (by decide) h;omega
theorem vO{n:Nat}(h:n<=6):(kn ks n).length<=63:=by
 rw[pC];exact Jx (NR _ _) (yT h)
theorem nV:∀n,(lo n).Nodup
 |0=>LR
 |n+1=>by
  simp only[lo];have sn:∀{k:List Int},k∈lo n->(n:Int)∉k:=fun {k} hk hn=>by have:=((fW.mp hk).2.2 _ hn).2;omega
  rw[L5];refine⟨nV n,?_,fun a ha b hb e=>?_⟩
  ·rw [Ka];refine⟨fun h=>?_,?_⟩
   ·obtain ⟨k, hk, e⟩ := Lz.mp h;have:=(fW.mp hk).1;cases k with
    |nil=>exact this rfl
    |cons x r=>simp at e
   ·rw[List.nodup_iff_pairwise_ne,My];exact(nV n).imp fun hne e=>hne (List.append_cancel_right e)
  ·subst e;refine sn ha ?_;rcases JC.mp hb with rfl|hb
   ·simp
   ·obtain⟨k,_,rfl⟩:=Lz.mp hb;simp
theorem tH{n:Nat}:(kn ks n).Nodup:=by rw[pC];exact(nV n).filter _
theorem ki{n:Nat}{k:List Int}(h:k∈kn ks n):mz n k/\jP ks k=true:=by
 rw[pC]at h;obtain⟨h1,h2⟩:=Jv.mp h;exact⟨fW.mp h1,h2⟩
theorem He{n:Nat}{k:List Int}(h:mz n k)(hc:jP ks k=true):k∈kn ks n:=by
 rw[pC];exact Jv.mpr ⟨fW.mpr h,hc⟩
theorem gP{n:Nat}{k:List Int}(h:mz n k):k.length<=n:=by
 have:=qw (lo:=0) (hi:=n) h.2.1 h.2.2;omega
theorem Ex{n:Nat}{k:List Int}(hn:n<=6)(h:mz n k):Sm k:=⟨h.1,Jx (gP h) hn,fun x hx=>by have:=h.2.2 x hx;omega⟩
theorem pK{a b:Int}:hG ks a b=hG ks b a:=by unfold hG;rw[Int.min_comm,Int.max_comm]
def yk(K:List (List Int))(k:List Int):Bool:=decide (K.filter (fun o=>decide (k.length<o.length)&&(k.all fun x=>decide (x∈o)))=[])
theorem xP(h:GW m ks){k:List Int}(hk:k∈kn ks m){K:List (List Int)}(hK:∀o,o∈K↔o∈kn ks m):yk K k=!(rg m).any (dH ks k):=by
 obtain⟨hr,hc⟩:=ki hk;have nd:∀{w:List Int},w.Pairwise (·<·)->w.Nodup:=fun h=>h.imp fun z=>by omega
 apply J3.mpr;unfold yk;rw[Np,NY,Bool.not_eq_true'];constructor
 ·intro z;cases e:(rg m).any (dH ks k) with
  |false=>rfl
  |true=>
   obtain⟨p,hp,hf⟩:=NO.mp e;have hf:=qV.mp hf
   have pn:p∉k:=fun hpk=>by
    have:=hf p hpk;unfold hG at this;rw[Int.min_self,Int.max_self,Np]at this;obtain⟨u,v,e,_,hlt,_⟩:=h.2.2.2.2 _ this;simp at e;omega
   have up:((rg m).filter fun x=>decide (x∈k) || decide (x=p)).Pairwise (·<·):=C9.filter _
   have mem:∀x,x∈(rg m).filter (fun x=>decide (x∈k) || decide (x=p))↔x∈k++[p]:=fun x=>by
    rw[Jv,iL,JE,Lk,Bool.or_eq_true,Np,Np];refine⟨fun z=>z.2,fun z=>⟨?_,z⟩⟩;rcases z with z|z
    ·exact hr.2.2 x z
    ·rw[z];exact iL.mp hp
   have nk:(k++[p]).Nodup:=L5.mpr ⟨nd hr.2.1,by simp,fun a ha b hb e=>by rw[Lk.mp hb]at e;exact pn (e ▸ ha)⟩;have pm:((rg m).filter fun x=>decide (x∈k) || decide (x=p)).Perm (k++[p]):=(LW (nd up) nk).mpr mem;have ln:=pm.length_eq;rw[Kj,K2]at ln;have ro:mz m ((rg m).filter fun x=>decide (x∈k) || decide (x=p)):=⟨fun e=>by rw[e]at ln;simp at ln,up,fun x hx=>iL.mp (Jv.mp hx).1⟩
   have co:jP ks ((rg m).filter fun x=>decide (x∈k) || decide (x=p))=true:=gC.mpr fun a ha b hb hab=>by
    rcases JE.mp ((mem a).mp ha) with ha|ha
    ·rcases JE.mp ((mem b).mp hb) with hb | hb
     ·exact gC.mp hc a ha b hb hab
     ·rw[Lk.mp hb];exact hf a ha
    ·rcases JE.mp ((mem b).mp hb) with hb | hb
     ·rw[Lk.mp ha,pK];exact hf b hb
     ·rw[Lk.mp ha,Lk.mp hb]at hab;omega
   refine absurd ?_ (z _ ((hK _).mpr (He ro co)));rw[KJ,Np,LY];exact⟨by omega,fun x hx=>K5 ((mem x).mpr (JF _ hx))⟩
 ·intro z o ho hs;rw[KJ,Np,LY]at hs;obtain⟨ro,co⟩:=ki ((hK o).mp ho);have sub:∀x∈k,x∈o:=fun x hx=>NU (hs.2 x hx)
  obtain⟨p,hp,hpn⟩:∃p∈o,p∉k:=by
   rcases Classical.em (∃p∈o,p∉k) with y|y
   ·exact y
   ·have:o.length<=k.length:=gB (nd ro.2.1) fun x hx=>LB fun w=>y ⟨x,hx,w⟩;omega
  have:(rg m).any (dH ks k)=true:=NO.mpr ⟨p,iL.mpr (ro.2.2 p hp),qV.mpr fun a ha=>by
   have ne:a≠p:=fun e=>hpn (e ▸ ha);by_cases lt:a<p
   ·exact gC.mp co a (sub a ha) p hp lt
   ·rw[pK];exact gC.mp co p hp a (sub a ha) (by omega)⟩
  rw[z]at this;cases this
theorem xk{K:List (List Int)}{P:List Int->Bool}(hs:∀k∈K,Sm k):kH (K.filter P)=(kH K).filter P:=
 (sN (fun k hk=>hs k (Jv.mp hk).1) (c6.filter P) (sO.filter P)).symm
end
end Lw
namespace Lw
open PySem L2 RS Lv
section
variable{m:Nat}{ks:List (List Int)}{μ:au}
theorem sQ{n c:Nat}:cJ (n:Int) (c+1)=.int (n:Int)::cJ ((n+1:Nat):Int) c:=by
 rw[jL]
 push_cast
 rfl
theorem Cu{G:au}{B n:Nat}(h:GW m ks)(hn:n<m)(hB:(μ++G)[B]?=some (.lst ((kn ks n).map aP)))(hμ:μ.length<=B) :
  ∃(B':Nat)(G':au),fj [some (aR m ks),some (.obj B),some (.int (n:Int))] (μ++G)=.next [some (aR m ks),some (.obj B'),some (.int (n:Int))] (μ++G')/\(μ++G')[B']?=some (.lst ((kn ks (n+1)).map aP))/\μ.length<=B':=by
 have m6:=h.m6;have n1:0+1<=sizeLine:=l1;have l63:=vO (ks:=ks) (n:=n) (by omega);let M:au:=μ++G
 let M1:au:=M++[O.lst [aP [(n:Int)]]]
 let M2:au:=M1++[O.lst ((kn ks n).map aP++[aP [(n:Int)]])]
 let F:List (List Int):=(kn ks n).filter fun k=>dH ks k (n:Int)
 have fl:F.length<=63:=Jx (NR _ _) l63;let M3:au:=M2++[O.lst (F.map fun k=>aP (k++[(n:Int)]))]
 have c:=cf (U:=List Int) (en:=aP) (src:=.own B ((kn ks n).map aP)) (g:=ao 0) (t:=iW) (e:=iX) (μ1:=M2) (q:=fun k=>dH ks k (n:Int)) (h:=fun k=>aP (k++[(n:Int)])) (fun ρ=>∃o,ρ=[o,some (.int (n:Int)),some (aR m ks)]) (fun _=>aE (aE (aE hB))) (us:=kn ks n) (acc:=[]) (ρ:=[none,some (.int (n:Int)),some (aR m ks)]) ⟨_,rfl⟩
  (by rw[Lp];exact Jx (by omega) bH)
  (fun k hk a ρ ⟨o, ho⟩ => by
   have kl:=gP (ki hk).1;refine⟨[some (aP k),some (.int (n:Int)),some (aR m ks)],⟨_,rfl⟩,by subst ho;rfl,?_,fun _=>?_⟩
   ·unfold iW;simp only[hX,az,aq,av,ai,ag,aa,ab,vZ h (show k.length<=100 by omega),d8]
   ·unfold iX;simp only[aI,dX,aq,av,ai,ag,aa,ab,La,Lp,Jo n1]
    exact zz (by omega))
 rw[K4]at c;have a1:cw (.obj B) (.obj M.length) M1=.ok (.obj M1.length) M2:=m8 (aE hB) aA (by rw[Kk];simp only[La,Lp];omega);have a2:cw (.obj M1.length) (.obj M2.length) M3=.ok (.obj M3.length) (M3++[O.lst ((kn ks n).map aP++[aP [(n:Int)]]++F.map fun k=>aP (k++[(n:Int)]))]):=m8 (aE aA) aA (by rw[Kj,Kk,Kk];simp only[La,Lp];omega);refine⟨M3.length,G++[O.lst [aP [(n:Int)]]]++[O.lst ((kn ks n).map aP++[aP [(n:Int)]])]++[O.lst (F.map fun k=>aP (k++[(n:Int)]))]++[O.lst ((kn ks n).map aP++[aP [(n:Int)]]++F.map fun k=>aP (k++[(n:Int)]))],?_,?_,?_⟩
 ·unfold fj;rw[aY];simp only[aI,fB,dX,aq,av,ai,ag,aa,ab,La,Lp,Jo n1];rw[show cw (.obj B) (.obj (μ++G).length) (μ++G++[O.lst [.tup [.int (n:Int)]]])=_ from a1];simp only[aa,ab,bR,bF,ai,ag];rw[d9 (show M2[B]?=some (.lst ((kn ks n).map aP)) from aE (aE hB))];simp only[aa,ab,cu];rw[show eH [none,some 2,some 0] [some (aR m ks),some (.obj B),some (.int (n:Int))]=[none,some (.int (n:Int)),some (aR m ks)] from rfl,c];simp only[aa,ab];rw[show cw (.obj M1.length) (.obj M2.length) (M2++[O.lst (((kn ks n).filter fun k=>dH ks k (n:Int)).map fun k=>aP (k++[(n:Int)]))])=_ from a2];simp only[ae,bh,NK,NL,M3,M2,M1,M,KZ]
 ·have:(M3++[O.lst ((kn ks n).map aP++[aP [(n:Int)]]++F.map fun k=>aP (k++[(n:Int)]))])[M3.length]?=_:=aA;rw[show μ++(G++[O.lst [aP [(n:Int)]]]++[O.lst ((kn ks n).map aP++[aP [(n:Int)]])]++[O.lst (F.map fun k=>aP (k++[(n:Int)]))]++[O.lst ((kn ks n).map aP++[aP [(n:Int)]]++F.map fun k=>aP (k++[(n:Int)]))])=M3++[O.lst ((kn ks n).map aP++[aP [(n:Int)]]++F.map fun k=>aP (k++[(n:Int)]))] from by simp only[M3,M2,M1,M,KZ],this];congr 2;simp only[kn,LJ,KN,KM,Lm];rfl
 ·simp only[M3,M2,M1,M,Kj];omega
theorem wt{all:List D}(h:GW m ks):∀(c n:Nat)(G:au)(B:Nat)(o:Option D),n+c=m->(μ++G)[B]?=some (.lst ((kn ks n).map aP))->μ.length<=B ->
  ∃(B':Nat)(G':au)(o':Option D),cY (.fix all) (ao 2) fj (cJ (n:Int) c) [some (aR m ks),some (.obj B),o] (μ++G)=.next [some (aR m ks),some (.obj B'),o'] (μ++G')/\(μ++G')[B']?=some (.lst ((kn ks m).map aP))/\μ.length<=B'
 |0,n,G,B,o,e,hB,hμ=>by
  refine⟨B,G,o,?_,by rw[<- e];exact hB,hμ⟩;rw[jK];unfold cY;rw[Jo (show bB (.fix all) _ from trivial)]
 |c+1,n,G,B,o,e,hB,hμ=>by
  obtain⟨B1,G1,e1,t1,u1⟩:=Cu h (show n<m by omega) hB hμ;obtain⟨B2,G2,o2,e2,t2,u2⟩:=wt h c (n+1) G1 B1 (some (.int (n:Int))) (by omega) t1 u1;refine⟨B2,G2,o2,?_,t2,u2⟩;rw[sQ];unfold cY;rw[Jo (show bB (.fix all) _ from trivial)];simp only[bh,ae,NK,NL];rw[e1];exact e2
theorem sM(h:GW m ks):∃(t:Nat)(G:au),eP [aR m ks] μ=.ok (.obj t) (μ++G)/\(μ++G)[t]?=some (.lst ((kn ks m).map aP))/\μ.length<=t:=by
 have m6:=h.m6;obtain⟨B,G,o,e,t,u⟩:=wt (μ:=μ) (all:=cJ 0 m) h m 0 [O.lst []] μ.length none (by omega) aA (JY _);refine⟨B,G,?_,t,u⟩;unfold eP;rw[h7];simp only[oy,List.replicate];rw[aJ,aY];simp only[fB,av,aa,ab,Lp,Jo (Lj sizeLine),ae,bh,aB,NK,NL];rw[aJ,hZ];simp only[gh,aq,av,aI,br,ai,ag,aa,ab,cK];rw[gQ (by omega) (by omega)];simp only[ae,ab,bj,Kr];rw[show cY (.fix (cJ 0 m)) (ao 2) fj (cJ 0 m) [some (aR m ks),some (.obj μ.length),none] (μ++[O.lst []])=_ from e];simp only[aB,bo,ai,ag,ae,aV];exact vP (by rw[mT];omega)
theorem zF(h:GW m ks):fk [aR m ks] μ=.ok (.int ((kn ks m).length:Int)) μ:=by
 obtain⟨t,G,e,g,_⟩:=sM (μ:=μ) h;unfold fk;rw[h7];simp only[lh,List.replicate,bo,az,aq,av,ag,aa,ab,e];rw[wA g,Kk];simp only[ae,aV];exact eW (by simp)
def uu(m:Nat)(ks:List (List Int)):List (List Int):=kH ((kn ks m).filter fun k=>!(rg m).any (dH ks k))
theorem sI:∀{K:List (List Int)},(∀k∈K,Sm k)->ny (K.map aP)=some K
 |[],_=>rfl
 |k::K,h=>by
  have ih:=sI (K:=K) fun x hx=>h x (JB _ hx)
  have e:sg (aP k)=some k:=by
   show (match gN (k.map D.int) with|some ns=>if HC ns=true then some ns else none|none=>none)=_;rw[nX];dsimp only;rw[Jo (v8.mpr (h k JA))]
  rw[KN];unfold ny;rw[e,ih]
theorem v7{M:au}{t:Nat}{K:List (List Int)}(ht:M[t]?=some (.lst (K.map aP)))(hs:∀k∈K,Sm k)(hn:K.Nodup)(hl:K.length<64):cR [.obj t] M=.ok (.obj M.length) (M++[.lst ((kH K).map aP)]):=by
 unfold cR;dsimp only;rw[ht];dsimp only;rw[sI hs];dsimp only;rw[Jo ⟨hn,hl⟩];rfl
theorem yU(h:GW m ks):∀k∈kn ks m,Sm k:=fun k hk=>Ex h.m6 (ki hk).1
theorem AJ{M:au}{t:Nat}{bs:List Bool}(h:M[t]?=some (.lst (bs.map D.bl))):uG [.obj t] M=.ok (.bl (bs.any id)) M:=CH h
theorem zH(h:GW m ks):∃(t:Nat)(G:au),d6 [aR m ks] μ=.ok (.obj t) (μ++G)/\(μ++G)[t]?=some (.lst ((uu m ks).map aP))/\μ.length<=t:=by
 have m6:=h.m6;let M1:au:=μ++[O.lst ((rg m).map D.int)]
 obtain⟨t,G,e,g,u⟩:=sM (μ:=M1) h;have kl:=vO (ks:=ks) (n:=m) m6;have hP:(M1++G)[μ.length]?=some (.lst ((rg m).map D.int)):=aE aA
 obtain⟨ys',ρ',μ2,s',⟨e1,dn,r,e3,e4,e5,e6,e7⟩,run⟩:=iy (src:=.own t ((kn ks m).map aP)) (g:=ao 0) (t:=eE) (e:=i8) (n:=(M1++G).length)
  (fun xs ys ρ μ2 s=>μ2=M1++G/\∃(dn r:List (List Int)),xs=r.map aP/\(∀k∈r,k∈kn ks m)/\ys=(dn.filter fun k=>!(rg m).any (dH ks k)).map aP/\dn++r=kn ks m/\∃o,ρ=[o,some (aR m ks),some (.obj μ.length)])
  (fun ys ρ μ2 s ⟨e,_⟩=>⟨by rw[e],by rw[e];exact aE g⟩)
  (fun x r ys ρ μ2 s hJ => by
   obtain⟨e1,dn,L',e3,e4,e5,e6,o,e7⟩:=hJ;subst e1 e5 e7;cases L' with
   |nil=>cases e3
   |cons k L'=>
    rw[KN]at e3;injection e3 with ex er
    subst ex er;have hk:=e4 k JA;have kk:=gP (ki hk).1
    have hdn:(dn.filter fun k=>!(rg m).any (dH ks k)).length<1000:=by
     have:=JN List.length e6;rw[Kj,La]at this;have:=NR (fun k=>!(rg m).any (dH ks k)) dn;omega
    let N:au:=M1++G++O.lst ((dn.filter fun k=>!(rg m).any (dH ks k)).map aP)::s
    have hPN:N[μ.length]?=some (.lst ((rg m).map D.int)):=aE hP
    have c:=cf (U:=Int) (en:=D.int) (src:=.own μ.length ((rg m).map D.int)) (g:=ao 0) (t:=cW) (e:=fY) (μ1:=N) (q:=fun _=>true) (h:=fun p=>.bl (dH ks k p)) (fun ρ=>∃o,ρ=[o,some (aR m ks),some (aP k)]) (fun _=>aE hPN) (us:=rg m) (acc:=[]) (ρ:=[none,some (aR m ks),some (aP k)]) ⟨_,rfl⟩
     (by rw[Lp,kh];exact Jx (by omega) bH)
     (fun p hp a ρ ⟨o, ho⟩ => ⟨[some (.int p), some (aR m ks), some (aP k)], ⟨_, rfl⟩, by subst ho; rfl, rfl, fun _ => by
      unfold fY;simp only[az,aq,av,ai,ag,aa,ab]
      exact vZ h (by omega)⟩)
    rw[eY,K4]at c
    have tst:eE [some (aP k),some (aR m ks),some (.obj μ.length)] N=.ok (!(rg m).any (dH ks k)) (N++[.lst ((rg m).map fun p=>.bl (dH ks k p))]):=by
     unfold eE;simp only[gR,hX,az,aq,av,bR,bF,ai,ag,aa,ab];rw[d9 hPN];simp only[aa,ab,cu];rw[show eH [none,some 1,some 0] [some (aP k),some (aR m ks),some (.obj μ.length)]=[none,some (aR m ks),some (aP k)] from rfl,c];simp only[aa,ab];rw[AJ (bs:=(rg m).map (dH ks k)) (by rw[Lm];exact aA)];simp only[aa,ab,d8];rw[Nv];rfl
    refine⟨rfl,aE g,[some (aP k),some (aR m ks),some (.obj μ.length)],M1++G,s,!(rg m).any (dH ks k),M1++G,s++[.lst ((rg m).map fun p=>.bl (dH ks k p))],rfl,?_,fun hc=>⟨aP k,M1++G,s++[.lst ((rg m).map fun p=>.bl (dH ks k p))],rfl,?_,rfl,rfl,dn++[k],L',rfl,fun z hz=>e4 z (JB _ hz),?_,by rw[KZ];exact e6,_,rfl⟩,fun hc=>⟨rfl,dn++[k],L',rfl,fun z hz=>e4 z (JB _ hz),?_,by rw[KZ];exact e6,_,rfl⟩⟩
    ·rw[show M1++G++O.lst ((dn.filter fun k=>!(rg m).any (dH ks k)).map aP)::s=N from rfl,tst];simp only[N,KZ,Lr]
    ·rw[Kk];exact Js hdn bH
    ·rw[NZ,NA,hc,Jo rfl,LJ];rfl
    ·rw[NZ,NA,hc,Jp J4,N0,J7])
  (xs:=(kn ks m).map aP) (ys:=[]) (ρ:=[none,some (aR m ks),some (.obj μ.length)]) (μ1:=M1++G) (s:=[]) ⟨rfl,[],kn ks m,rfl,fun _ z=>z,rfl,rfl,_,rfl⟩
 subst e1 e5
 have:r=[]:=by
  cases r with
  |nil=>rfl
  |cons=>cases e3
 subst this;rw[J7]at e6;subst e6;have hs:∀k∈(kn ks m).filter (fun k=>!(rg m).any (dH ks k)),Sm k:=fun k hk=>yU h k (Jv.mp hk).1
 have so:cR [.obj (M1++G).length] (M1++G++O.lst (((kn ks m).filter fun k=>!(rg m).any (dH ks k)).map aP)::s')=.ok (.obj (M1++G++O.lst (((kn ks m).filter fun k=>!(rg m).any (dH ks k)).map aP)::s').length) ((M1++G++O.lst (((kn ks m).filter fun k=>!(rg m).any (dH ks k)).map aP)::s')++[.lst ((uu m ks).map aP)]):=
  v7 aA hs (tH.filter _) (Nat.lt_of_le_of_lt (NR _ _) (by omega))
 refine⟨(M1++G++O.lst (((kn ks m).filter fun k=>!(rg m).any (dH ks k)).map aP)::s').length,[O.lst ((rg m).map D.int)]++G++(O.lst (((kn ks m).filter fun k=>!(rg m).any (dH ks k)).map aP)::s')++[.lst ((uu m ks).map aP)],?_,?_,?_⟩
 ·unfold d6;rw[h7];simp only[j8,List.replicate];rw[aJ,aY];simp only[az,aq,av,aI,br,ag,aa,ab,cK]
  rw[show lJ [.int (m:Int)] μ=.ok (.obj μ.length) M1 from by
   unfold lJ;dsimp only
   rw[Jo ⟨by omega,by omega⟩,nH]]
  simp only[ae,bh,aB,NK,NL,bo,az,aq,av,bR,bF,ai,ag,aa,ab,e];rw[d9 g];simp only[aa,ab,cu];rw[show eH [none,some 0,some 1] [some (aR m ks),some (.obj μ.length)]=[none,some (aR m ks),some (.obj μ.length)] from rfl,run];simp only[aa,ab,so,ae,aV];rw[vP (by rw[mT];simp only[M1,Kj];omega)];simp only[M1,KZ]
 ·rw[show μ++([O.lst ((rg m).map D.int)]++G++(O.lst (((kn ks m).filter fun k=>!(rg m).any (dH ks k)).map aP)::s')++[.lst ((uu m ks).map aP)])=(M1++G++O.lst (((kn ks m).filter fun k=>!(rg m).any (dH ks k)).map aP)::s')++[.lst ((uu m ks).map aP)] from by simp only[M1,KZ]];exact aA
 ·simp only[M1,Kj];omega
end
end Lw
namespace Lw
open PySem L2 RS Lv
theorem n3{U:Type}{en:U->D}{src:mP}{g:MG}{t:MT}{e:ME}{M0:au}{q:U->Bool}{h:U->D}(R:Ro->Prop)(ho:∀a s,bB src (M0++.lst a::s)) :
  ∀{us:List U}{acc:List D}{ρ:Ro}{s:au},R ρ->acc.length+us.length<=sizeLine->(∀x∈us,∀a s ρ,R ρ->∃ρ1 s1,R ρ1/\g (en x) ρ (M0++.lst a::s)=.ok ρ1 (M0++.lst a::s)/\t ρ1 (M0++.lst a::s)=.ok (q x) (M0++.lst a::s1)/\(q x=true->e ρ1 (M0++.lst a::s1)=.ok (h x) (M0++.lst a::s1))) ->
   ∃s',compLoop src M0.length g t e (us.map en) ρ (M0++.lst acc::s)=.ok (.obj M0.length) (M0++.lst (acc++(us.filter q).map h)::s')
 |[],acc,ρ,s,hr,hl,he=>by
  refine⟨s,?_⟩;rw[KM];unfold compLoop;rw[Jo (ho acc s)];simp
 |x::xs,acc,ρ,s,hr,hl,he=>by
  obtain⟨ρ1,s1,r1,e1,e2,e3⟩:=he x JA acc s ρ hr;have he':=fun y hy=>he y (JB _ hy);simp only[La]at hl;cases hq:q x with
  |false=>
   obtain⟨s',ih⟩:=n3 R ho (us:=xs) (acc:=acc) (s:=s1) r1 (by omega) he';refine⟨s',?_⟩;rw[KN];unfold compLoop;rw[Jo (ho acc s),e1];simp only[ab,aa];rw[e2];simp only[ab,aa];rw[hq,Jp J4,ih,NA,hq];rfl
  |true=>
   obtain⟨s',ih⟩:=n3 R ho (us:=xs) (acc:=acc++[h x]) (s:=s1) r1 (by simp;omega) he';refine⟨s',?_⟩;rw[KN];unfold compLoop;rw[Jo (ho acc s),e1];simp only[ab,aa];rw[e2];simp only[ab,aa];rw[hq,Jo rfl,e3 hq];simp only[ab,aa];rw[iA (by omega)];simp only[aa,ab];rw[ih,NA,hq];simp
section
variable{m:Nat}{ks:List (List Int)}{μ:au}
theorem xF{G:au}{n:Nat}(hn:n<=6)(hT:(μ++G)[μ.length]?=some (.lst (([]::lo n).map aP))){b3 b4 b5 b6 b7 b8:Option D}{w:Option D} :
  ∃G':au,bQ [w,some (.obj μ.length),some (.int (n:Int)),b3,b4,b5,b6,b7,b8] (μ++G)=.next [w,some (.obj μ.length),some (.int (n:Int)),b3,b4,b5,b6,b7,b8] (μ++G')/\(μ++G')[μ.length]?=some (.lst (([]::lo (n+1)).map aP)):=by
 have n1:0+1<=sizeLine:=l1;have l63:=yT hn;let M1:au:=μ++G++[O.lst (([]::lo n).map aP)]
 have c:=cf (U:=List Int) (en:=aP) (src:=.own (μ++G).length (([]::lo n).map aP)) (g:=ao 0) (t:=cW) (e:=d0) (μ1:=M1) (q:=fun _=>true) (h:=fun k=>aP (k++[(n:Int)])) (fun ρ=>∃o,ρ=[o,some (.int (n:Int))]) (fun _=>aE aA) (us:=[]::lo n) (acc:=[]) (ρ:=[none,some (.int (n:Int))]) ⟨_,rfl⟩
  (by rw[Lp,La];exact Jx (by omega) bH)
  (fun k hk a ρ ⟨o, ho⟩ => ⟨[some (aP k), some (.int (n : Int))], ⟨_, rfl⟩, by subst ho; rfl, rfl, fun _ => by
   unfold d0;simp only[aI,dX,aq,av,ai,ag,aa,ab,La,Lp,Jo n1];refine zz ?_;rcases JC.mp hk with rfl|hk
   ·simp
   ·have:=gP (fW.mp hk);omega⟩)
 rw[eY,K4]at c;obtain⟨G',x1,x2⟩:=FO (μ:=μ) (G:=G++[O.lst (([]::lo n).map aP)]) (T:=μ.length) (xs:=([]::lo n).map fun k=>aP (k++[(n:Int)])) (by rw[<- KZ];exact aE hT) (JY _) (by rw[Kk,Kk,La];omega);refine⟨G',?_,?_⟩
 ·unfold bQ;simp only[jG,pF,ai,ag,aa,ab,lH hT,Ku,aq,av,bR,bF,az]
  rw[show i4 [.obj μ.length] (μ++G)=.ok (.obj (μ++G).length) M1 from by
   unfold i4;dsimp only
   rw[hT]]
  simp only[aa,ab];rw[d9 (show M1[(μ++G).length]?=some (.lst (([]::lo n).map aP)) from aA)];simp only[aa,ab,cu];rw[show eH [none,some 2] [w,some (.obj μ.length),some (.int (n:Int)),b3,b4,b5,b6,b7,b8]=[none,some (.int (n:Int))] from rfl,c];simp only[aa,ab];rw[<- KZ]at x1;rw[show eA (.obj μ.length) [.obj M1.length] (M1++[O.lst (([]::lo n).map fun k=>aP (k++[(n:Int)]))])=_ from x1];simp only[ae]
 ·rw[x2];congr 2;simp only[lo,LJ,KN,Lm,K4,Lr];rfl
theorem pZ{all:List D}{b3 b4 b5 b6 b7 b8:Option D}{w:Option D}(hm:m<=6):∀(c n:Nat)(G:au)(o:Option D),n+c=m->(μ++G)[μ.length]?=some (.lst (([]::lo n).map aP)) ->
  ∃(G':au)(o':Option D),cY (.fix all) (ao 2) bQ (cJ (n:Int) c) [w,some (.obj μ.length),o,b3,b4,b5,b6,b7,b8] (μ++G)=.next [w,some (.obj μ.length),o',b3,b4,b5,b6,b7,b8] (μ++G')/\(μ++G')[μ.length]?=some (.lst (([]::lo m).map aP))
 |0,n,G,o,e,hB=>by
  refine⟨G,o,?_,by rw[<- e];exact hB⟩;rw[jK];unfold cY;rw[Jo (show bB (.fix all) _ from trivial)]
 |c+1,n,G,o,e,hB=>by
  obtain⟨G1,e1,t1⟩:=xF (b3:=b3) (b4:=b4) (b5:=b5) (b6:=b6) (b7:=b7) (b8:=b8) (w:=w) (show n<=6 by omega) hB;obtain⟨G2,o2,e2,t2⟩:=pZ hm c (n+1) G1 (some (.int (n:Int))) (by omega) t1;refine⟨G2,o2,?_,t2⟩;rw[sQ];unfold cY;rw[Jo (show bB (.fix all) _ from trivial)];simp only[bh,ae,NK,NL];rw[e1];exact e2
theorem Cs(hm:m<=6):([]::lo m).filter (fun k=>eV m ks (aP k))=kn ks m:=by
 rw[NA,show eV m ks (aP [])=false from by simp[eV,uw,yp],Jp J4,pC];refine Nw fun k hk=>?_;obtain⟨h1,h2,h3⟩:=fW.mp hk;unfold eV;rw[wc,vM,kW.mpr h2,LY.mpr fun x hx=>by have:=h3 x hx;simp;exact this];rw[K5 (Ny.mpr h1)];rfl
theorem Jb{k o:List Int}:(decide ((bD (k++o)).length=(bD o).length)&&(bD (k++o)).all fun x=>decide (x∈bD o))=k.all fun x=>decide (x∈o):=by
 have d1:=iU (k++o) [] LR;have d2:=iU o [] LR;have m1:∀x,x∈bD (k++o)↔x∈k++o:=fun x=>(d1.2 x).trans (by simp);have m2:∀x,x∈bD o↔x∈o:=fun x=>(d2.2 x).trans (by simp);apply J3.mpr;rw[KJ,Np,LY,LY];constructor
 ·rintro ⟨_, h⟩ x hx
  exact K5 ((m2 x).mp (NU (h x ((m1 x).mpr (JF _ hx)))))
 ·intro h
  have sub:∀x,x∈k++o↔x∈o:=fun x=>by
   rw[JE];exact⟨fun z=>z.elim (fun y=>NU (h x y)) id,.inr⟩
  refine⟨((LW d1.1 d2.1).mpr fun x=>(m1 x).trans ((sub x).trans (m2 x).symm)).length_eq,fun x hx=>K5 ((m2 x).mpr ((sub x).mp ((m1 x).mp hx)))⟩
theorem v9{M:au}{w:List Int}(hn:w≠[])(h:∀n∈w,0<=n/\n<6):mB [aP w] M=.ok (.obj M.length) (M++[.iset (bD w)]):=by
 cases w with
 |nil=>exact absurd rfl hn
 |cons a r=>
  unfold mB;dsimp only;unfold pq;rw[show nA ((a::r).map D.int)=none from rfl,CB h]
theorem zC{M:au}{k o:List Int}(hm:m<=6)(hk:mz m k)(ho:mz m o):∃g,cM [some (aP o),some (aP k)] M=.ok (decide (k.length<o.length)&&(k.all fun x=>decide (x∈o))) (M++g):=by
 have kl:=gP hk;have ol:=gP ho;unfold cM;simp only[m3,cV,aI,az,aq,av,ai,ag,aa,ab,mZ,Kk,eX,bt]
 rw[show gL .Gt (o.length:Int) (k.length:Int)=decide (k.length<o.length) from by
  show decide ((o.length:Int)>(k.length:Int))=_;by_cases z:k.length<o.length
  ·rw[K5 z];exact K5 (by omega)
  ·rw[Jl z];exact Jl (by omega)]
 cases decide (k.length<o.length) with
 |false=>exact⟨[],by simp only[K9,Kt,JV,J7]⟩
 |true=>
  refine⟨[.iset (bD (k++o))]++[.iset (bD o)],?_⟩
  have ad:cw (aP k) (aP o) M=.ok (aP (k++o)) M:=by
   rw[m7 (by rw[Kk,Kk];omega),<- LJ]
  simp only[Ku,NG];rw[show cw (.tup (k.map D.int)) (.tup (o.map D.int)) M=_ from ad];simp only[aa,ab]
  rw[v9 (by simp[hk.1]) fun x hx=>by
   rcases JE.mp hx with z|z
   ·have:=hk.2.2 x z;omega
   ·have:=ho.2.2 x z;omega]
  simp only[aa,ab];rw[show mB [.tup (o.map D.int)] (M++[O.iset (bD (k++o))])=_ from v9 ho.1 fun x hx=>by have:=ho.2.2 x hx;omega];simp only[aa,ab]
  rw[show w6 (.obj M.length) (.obj (M++[O.iset (bD (k++o))]).length) (M++[O.iset (bD (k++o))]++[O.iset (bD o)])=.ok (.bl (k.all fun x=>decide (x∈o))) (M++[O.iset (bD (k++o))]++[O.iset (bD o)]) from by
   have g1:(M++[O.iset (bD (k++o))]++[O.iset (bD o)])[M.length]?=some (.iset (bD (k++o))):=aE aA;have g2:(M++[O.iset (bD (k++o))]++[O.iset (bD o)])[(M++[O.iset (bD (k++o))]).length]?=some (.iset (bD o)):=aA;unfold w6;dsimp only;rw[g1,g2];dsimp only
   rw[Jb]]
  simp only[aa,ab,bt,KZ]
theorem FQ{M:au}{t u:Nat}{K:List (List Int)}(ht:M[t]?=some (.lst (K.map aP)))(hu:M[u]?=some (.lst [])):jU false (.obj t) (.obj u) M=.ok (.bl (decide (K=[]))) M:=by
 have e1:mO M (.obj t)=some (.list (K.map fO)):=by
  unfold mO;dsimp only;rw[ht];dsimp only;rw[qJ];rfl
 have e2:mO M (.obj u)=some (.list []):=by
  unfold mO;dsimp only;rw[hu];rfl
 have f1:eU (.list (K.map fO))=true:=by
  have:=uK K;simp only[eU,PyData.canLay0,this.1,PyData.depth,NG];exact K5 (by have:=this.2;omega)
 unfold jU;rw[e1,e2];dsimp only;rw[Jo ⟨f1,by decide⟩,Jp J4];cases K <;> rfl
end
end Lw
namespace Lw
open PySem L2 RS Lv
section
variable{m:Nat}{ks:List (List Int)}{μ:au}
theorem Az{G:au}{S U:Nat}{K acc:List (List Int)}{k:List Int}{b0 b1 b2 b6 b7 b8:Option D}(hm:m<=6)(hK:∀o∈K,mz m o)(hl:K.length<=63)(hk:mz m k)(hS:(μ++G)[S]?=some (.lst (K.map aP)))(hU:(μ++G)[U]?=some (.lst (acc.map aP)))(ne:S≠U)(hμ:μ.length<=U)(ha:acc.length<=63) :
  ∃G':au,bz [b0,b1,b2,some (.obj S),some (.obj U),some (aP k),b6,b7,b8] (μ++G)=.next [b0,b1,b2,some (.obj S),some (.obj U),some (aP k),b6,b7,b8] (μ++G')/\(μ++G')[S]?=some (.lst (K.map aP))/\(μ++G')[U]?=some (.lst ((acc++[k].filter (yk K)).map aP)):=by
 obtain⟨s',c⟩:=n3 (U:=List Int) (en:=aP) (src:=.own S (K.map aP)) (g:=ao 0) (t:=cM) (e:=f7) (M0:=μ++G) (q:=fun o=>decide (k.length<o.length)&&(k.all fun x=>decide (x∈o))) (h:=aP) (fun ρ=>∃o,ρ=[o,some (aP k)]) (fun a s=>aE hS) (us:=K) (acc:=[]) (ρ:=[none,some (aP k)]) (s:=[]) ⟨_,rfl⟩
  (by rw[Lp];exact Jx (by omega) bH)
  (fun o ho a s ρ ⟨x, hx⟩ => by
   obtain⟨g,e⟩:=zC (M:=μ++G++.lst a::s) hm hk (hK o ho);refine⟨[some (aP o),some (aP k)],s++g,⟨_,rfl⟩,by subst hx;rfl,?_,fun _=>rfl⟩;rw[e]
   simp only[KZ,Lr])
 rw[K4]at c;let N:au:=μ++G++O.lst ((K.filter fun o=>decide (k.length<o.length)&&(k.all fun x=>decide (x∈o))).map aP)::s'
 have eq:jU false (.obj (μ++G).length) (.obj N.length) (N++[O.lst []])=.ok (.bl (yk K k)) (N++[O.lst []]):=FQ (aE aA) aA;have hU':(N++[O.lst []])[U]?=some (.lst (acc.map aP)):=aE (aE hU);have hS':(N++[O.lst []])[S]?=some (.lst (K.map aP)):=aE (aE hS)
 have run:bz [b0,b1,b2,some (.obj S),some (.obj U),some (aP k),b6,b7,b8] (μ++G)=if yk K k=true then .next [b0,b1,b2,some (.obj S),some (.obj U),some (aP k),b6,b7,b8] ((N++[O.lst []]).set U (.lst (acc.map aP++[aP k]))) else .next [b0,b1,b2,some (.obj S),some (.obj U),some (aP k),b6,b7,b8] (N++[O.lst []]):=by
  unfold bz;rw[cQ];simp only[cV,aI,bR,bF,ai,ag,aa,ab];rw[d9 hS];simp only[aa,ab,cu];rw[show eH [none,some 5] [b0,b1,b2,some (.obj S),some (.obj U),some (aP k),b6,b7,b8]=[none,some (aP k)] from rfl,c];simp only[aa,ab,fB,av,Lp,Jo (Lj sizeLine)];rw[show jU false (.obj (μ++G).length) (.obj (μ++G++O.lst ((K.filter fun o=>decide (k.length<o.length)&&(k.all fun x=>decide (x∈o))).map aP)::s').length) (μ++G++O.lst ((K.filter fun o=>decide (k.length<o.length)&&(k.all fun x=>decide (x∈o))).map aP)::s'++[O.lst []])=_ from eq];simp only[aa,ab,bt,ae];cases yk K k with
  |false=>simp only[K9,Kt,cy]
  |true=>
   simp only[Ku,jG,pF,ai,ag,aa,ab,lH hU',aq,av]
   rw[show eB (.obj U) [aP k] (N++[O.lst []])=.ok .non ((N++[O.lst []]).set U (.lst (acc.map aP++[aP k]))) from by
    unfold eB;dsimp only;rw[hU'];dsimp only
    rw[Jo (by rw[Kk];exact Js (show acc.length<1000 by omega) bH)]]
   simp only[ae]
 rw[run];cases hs:yk K k with
 |false=>
  refine⟨G++(O.lst ((K.filter fun o=>decide (k.length<o.length)&&(k.all fun x=>decide (x∈o))).map aP)::s')++[O.lst []],?_,?_,?_⟩
  ·simp only[K9,Kt,N,KZ]
  ·rw[<- KZ,<- KZ];exact hS'
  ·rw[<- KZ,<- KZ,NA,hs,Jp J4,N0,J7];exact hU'
 |true=>
  have hUl:=(JG.mp hU').1
  obtain⟨G',eG⟩:∃G',(N++[O.lst []]).set U (.lst (acc.map aP++[aP k]))=μ++G':=by
   simp only[N,KZ];rw[NX,Jp (by omega)];exact⟨_,rfl⟩
  refine⟨G',?_,?_,?_⟩
  ·simp only[Ku,eG]
  ·rw[<- eG,JJ (JD ne)];exact hS'
  ·rw[<- eG,JI hUl,NA,hs,Jo rfl,N0,LJ];rfl
theorem tX{S U:Nat}{K:List (List Int)}{b0 b1 b2 b6 b7 b8:Option D}(hm:m<=6)(hK:∀o∈K,mz m o)(hl:K.length<=63)(ne:S≠U)(hμ:μ.length<=U):∀(rs acc:List (List Int))(G:au)(o:Option D),(∀k∈rs,mz m k)->acc.length+rs.length<=63->(μ++G)[S]?=some (.lst (K.map aP))->(μ++G)[U]?=some (.lst (acc.map aP)) ->
  ∃(G':au)(o':Option D),cY (.own S (K.map aP)) (ao 5) bz (rs.map aP) [b0,b1,b2,some (.obj S),some (.obj U),o,b6,b7,b8] (μ++G)=.next [b0,b1,b2,some (.obj S),some (.obj U),o',b6,b7,b8] (μ++G')/\(μ++G')[S]?=some (.lst (K.map aP))/\(μ++G')[U]?=some (.lst ((acc++rs.filter (yk K)).map aP))
 |[],acc,G,o,_,_,hS,hU=>⟨G,o,by rw[KM];unfold cY;rw[Jo (show bB (.own S (K.map aP)) _ from hS)],hS,by rw[N0,J7];exact hU⟩
 |k::rs,acc,G,o,hr,hz,hS,hU=>by
  simp only[La]at hz;obtain⟨G1,e1,s1,u1⟩:=Az (b0:=b0) (b1:=b1) (b2:=b2) (b6:=b6) (b7:=b7) (b8:=b8) hm hK hl (hr k JA) hS hU ne hμ (by omega)
  obtain⟨G2,o2,e2,s2,u2⟩:=tX hm hK hl ne hμ rs (acc++[k].filter (yk K)) G1 (some (aP k)) (fun x hx=>hr x (JB _ hx)) (by
   have:=NR (yk K) [k];rw[Kj];simp only[La,Lp]at this
   omega) s1 u1
  refine⟨G2,o2,?_,s2,?_⟩
  ·rw[KN];unfold cY;rw[Jo (show bB (.own S (K.map aP)) _ from hS)];simp only[bh,ae,NK,NL];rw[e1];exact e2
  ·rw[u2];congr 2;rw[KZ,NA,NA (xs:=rs)];cases yk K k <;> rfl
theorem Ft{μ:au}{k:List Int}(hl:k.length<1000):Kn μ (aP k):=by
 simp only[aP,Kn,Kk];exact⟨hl,mV.mpr fun x hx=>by obtain⟨i,_,rfl⟩:=Lz.mp hx;simp[Kn]⟩
theorem tR{M:au}{U:Nat}{b1 b2 b3 b5 b6 b7 b8:Option D}(h:GW m ks)(hU:M[U]?=some (.lst ((uu m ks).map aP))) :
  ∃(g:au)(b:Option D),bP [some (aR m ks),b1,b2,b3,some (.obj U),b5,b6,b7,b8] M=.next [some (aR m ks),b1,b2,b3,some (.obj U),b5,b6,b7,b] (M++g):=by
 have m6:=h.m6;obtain⟨t,G,e,g,u⟩:=zH (μ:=M) h
 have gl:(uu m ks).length<=63:=by
  unfold uu;rw[c6.length_eq];exact Jx (NR _ _) (vO m6)
 have gr:∀k∈uu m ks,k.length<=1000:=fun k hk=>by
  have:=gP (ki (Jv.mp (c6.mem_iff.mp hk)).1).1;omega
 have tu:bM [.tup ((uu m ks).map aP),.tup ((uu m ks).map aP)] (M++G)=.ok (.bl true) (M++G):=xg gr (by omega);have tl:t<(M++G).length:=(JG.mp g).1
 have ap:eB (.obj t) [.non] (M++G)=.ok .non ((M++G).set t (.lst ((uu m ks).map aP++[.non]))):=by
  unfold eB;dsimp only;rw[g];dsimp only;rw[Jo (by rw[Kk];exact Js (show (uu m ks).length<1000 by omega) bH)]
 have il:gf "list" (.obj t) (M++G)=.ok (.bl true) (M++G):=by
  unfold gf AL;dsimp only;rw[g];rfl
 refine⟨G.set (t-M.length) (.lst ((uu m ks).map aP++[.non])),some (.obj t),?_⟩;unfold bP;rw[aJ,aY];simp only[az,aq,av,ai,ag,aa,ab,e,ae,bh,aB,NK,NL];rw[aJ,cQ];simp only[nK,gR,hX,nC,az,aq,av,ai,ag,aa,ab,il,d8,LZ,K9,Kt];rw[mY g];simp only[aa,ab];rw[mY (aE hU)];simp only[aa,ab,tu,d8,LZ,ae,K9,Kt,cy,aB,jG,pF,ai,ag,lH g,Ku,aq,av,br,ap];rw[NX,Jp (by omega)]
theorem Bo(h:GW m ks):cF [aR m ks] μ=.ok (.bl true) μ:=by
 have m6:=h.m6;have n1:0+1<=sizeLine:=l1;have l63:=yT m6;have k63:=vO (ks:=ks) m6;let K:List (List Int):=kH (kn ks m)
 have kl:K.length=(kn ks m).length:=c6.length_eq;have kr:∀o∈K,mz m o:=fun o ho=>(ki (c6.mem_iff.mp ho)).1;obtain⟨G1,o1,e1,t1⟩:=pZ (μ:=μ) (all:=cJ 0 m) (b3:=none) (b4:=none) (b5:=none) (b6:=none) (b7:=none) (b8:=none) (w:=some (aR m ks)) m6 m 0 [O.lst (([]::lo 0).map aP)] none (by omega) aA
 have c:=cf (U:=List Int) (en:=aP) (src:=.own μ.length (([]::lo m).map aP)) (g:=ao 0) (t:=dY) (e:=f9) (μ1:=μ++G1) (q:=fun k=>eV m ks (aP k)) (h:=aP) (fun ρ=>∃o,ρ=[o,some (aR m ks)]) (fun _=>aE t1) (us:=[]::lo m) (acc:=[]) (ρ:=[none,some (aR m ks)]) ⟨_,rfl⟩
  (by rw[Lp,La];exact Jx (by omega) bH)
  (fun k hk a ρ ⟨o, ho⟩ => ⟨[some (aP k), some (aR m ks)], ⟨_, rfl⟩, by subst ho; rfl, by
   have kk:k.length<1000:=by
    rcases JC.mp hk with rfl|hk
    ·simp
    ·have:=gP (fW.mp hk);omega
   unfold dY;simp only[hX,az,aq,av,ai,ag,aa,ab];rw[show bL [aR m ks,aP k] (μ++G1++[.lst a])=_ from pN h (Ft kk)]
   simp only[aa,ab,d8],fun _=>rfl⟩)
 rw[K4,Cs m6]at c;let M2:au:=μ++G1++[O.lst ((kn ks m).map aP)]
 have so:cR [.obj (μ++G1).length] M2=.ok (.obj M2.length) (M2++[.lst (K.map aP)]):=v7 aA (yU h) tH (by omega);let M3:au:=M2++[O.lst (K.map aP)]
 let G4:au:=G1++[O.lst ((kn ks m).map aP)]++[O.lst (K.map aP)]++[O.lst (([]:List (List Int)).map aP)]
 have eM4:M3++[O.lst []]=μ++G4:=by simp only[M3,M2,G4,KZ];rfl
 obtain⟨G5,o5,e5,s5,u5⟩:=tX (μ:=μ) (S:=M2.length) (U:=M3.length) (K:=K) (b0:=some (aR m ks)) (b1:=some (.obj μ.length)) (b2:=o1) (b6:=none) (b7:=none) (b8:=none) m6 kr (by omega) (by simp[M3]) (by simp only[M3,M2,Kj];omega) K [] G4 none kr (by rw[Lp];omega) (by rw[<- eM4];exact aE aA) (by rw[<- eM4];exact aA)
 have du:([]++K.filter (yk K))=uu m ks:=by
  rw[K4];unfold uu;rw[xk (yU h)];exact Nw fun k hk=>xP h (c6.mem_iff.mp hk) fun o=>c6.mem_iff
 rw[du]at u5;let M5:au:=μ++G5
 obtain⟨g6,b6,e6⟩:=tR (M:=M5) (U:=M3.length) (b1:=some (.obj μ.length)) (b2:=o1) (b3:=some (.obj M2.length)) (b5:=o5) (b6:=some (.int ((kn ks m).length:Int))) (b7:=some (.int 0)) (b8:=none) h u5;obtain⟨g7,b7,e7⟩:=tR (M:=M5++g6) (U:=M3.length) (b1:=some (.obj μ.length)) (b2:=o1) (b3:=some (.obj M2.length)) (b5:=o5) (b6:=some (.int ((kn ks m).length:Int))) (b7:=some (.int 1)) (b8:=b6) h (aE u5);unfold cF;rw[h7];simp only[hE,List.replicate];rw[aJ,aY];simp only[fB,dX,aq,av,aa,ab,Lp,La,Jo (Lj sizeLine),Jo n1,ae,bh,aB,NK,NL];rw[aJ,hZ];simp only[gh,aq,av,aI,br,ai,ag,aa,ab,cK];rw[gQ (by omega) (by omega)];simp only[ae,ab,bj,Kr];rw[show cY (.fix (cJ 0 m)) (ao 2) bQ (cJ 0 m) [some (aR m ks),some (.obj μ.length),none,none,none,none,none,none,none] (μ++[O.lst [.tup []]])=_ from e1];simp only[aB];rw[aJ,aY];simp only[az,aq,av,bR,bF,ai,ag,aa,ab];rw[d9 t1];simp only[aa,ab,cu];rw[show eH [none,some 0] [some (aR m ks),some (.obj μ.length),o1,none,none,none,none,none,none]=[none,some (aR m ks)] from rfl,c];simp only[aa,ab];rw[show cR [.obj (μ++G1).length] (μ++G1++[O.lst ((kn ks m).map aP)])=_ from so];simp only[ae,bh,aB,NK,NL];rw[aJ,aY];simp only[fB,av,aa,ab,Lp,Jo (Lj sizeLine),ae,bh,aB,NK,NL];rw[aJ,hZ];simp only[bF,ai,ag,aa,ab];rw[d9 (show (M2++[O.lst (K.map aP)]++[O.lst []])[M2.length]?=some (.lst (K.map aP)) from aE aA)];simp only[ae,ab,cu];rw[show M2++[O.lst (K.map aP)]++[O.lst []]=μ++G4 from eM4];rw[show cY (.own M2.length (K.map aP)) (ao 5) bz (K.map aP) [some (aR m ks),some (.obj μ.length),o1,some (.obj M2.length),some (.obj (M2++[O.lst (K.map aP)]).length),none,none,none,none] (μ++G4)=_ from e5];simp only[aB];rw[aJ,aY];simp only[az,aq,av,ai,ag,aa,ab,zF h,ae,bh,aB,NK,NL];rw[aJ,cQ];simp only[nK,gR,hX,az,aq,av,ai,ag,aa,ab];rw[show bT [.int ((kn ks m).length:Int)] (μ++G5)=.ok (.bl true) (μ++G5) from lM (by simp[Kn])];simp only[aa,ab,d8,LZ,K9,Kt,cV,aI,az,aq,av,ai,ag];rw[wA s5,Kk,kl];simp only[aa,ab,h8,bt];rw[show (!(((kn ks m).length:Int) == ((kn ks m).length:Int)))=false from by simp];simp only[Ku,ae,K9,Kt,cy,aB];rw[aJ,hZ];simp only[gh,aq,av,br,aa,ab];rw[show ∀M:au,kd [.int 2] M=.ok (.fix [.int 0,.int 1]) M from fun M=>gQ (by decide) (by decide)];simp only[ae,ab,bj]
 rw[show cY (.fix [.int 0,.int 1]) (ao 7) bP [.int 0,.int 1] [some (aR m ks),some (.obj μ.length),o1,some (.obj M2.length),some (.obj M3.length),o5,some (.int ((kn ks m).length:Int)),none,none] (μ++G5)=.next [some (aR m ks),some (.obj μ.length),o1,some (.obj M2.length),some (.obj M3.length),o5,some (.int ((kn ks m).length:Int)),some (.int 1),b7] (M5++g6++g7) from by
  unfold cY;rw[Jo (show bB (.fix _) _ from trivial)];simp only[bh,ae,NK,NL];rw[show bP [some (aR m ks),some (.obj μ.length),o1,some (.obj M2.length),some (.obj M3.length),o5,some (.int ((kn ks m).length:Int)),some (.int 0),none] (μ++G5)=_ from e6];simp only[qR];unfold cY;rw[Jo (show bB (.fix _) _ from trivial)];simp only[bh,ae,NK,NL];rw[e7];simp only[qR];unfold cY
  rw[Jo (show bB (.fix _) _ from trivial)]]
 simp only[aB,bo,br,ae,aV,M5,KZ];exact eW (by simp)
theorem Al{μ0 μ1:au}{i:Nat}(hi:i<μ0.length)(h:Pn μ0 i μ1)(hm:m<=6):∃(qs:List Int)(μ2:au),qs.Sublist (rg m)/\Pn μ0 i μ2/\μ2.length=μ1.length /\
  compLoop (.fix ((rg m).map D.int)) μ1.length (ao 0) kT kU ((rg m).map D.int) [none,some (.obj i)] (μ1++[.lst []])=.ok (.obj μ1.length) (μ2++[.lst (qs.map D.int)]):=by
 have kl:(rg m).length<=6:=by rw[kh];exact hm
 obtain⟨ys',ρ',μ2,s',⟨es,e1,e2,⟨o,e4⟩,qs,rs,e5,e6,e7,e8⟩,run⟩:=iy (src:=.fix ((rg m).map D.int)) (g:=ao 0) (t:=kT) (e:=kU) (n:=μ1.length)
  (fun xs ys ρ μ2 s=>s=[]/\μ2.length=μ1.length/\Pn μ0 i μ2/\(∃o,ρ=[o,some (.obj i)])/\∃qs rs:List Int,xs=rs.map D.int/\ys=qs.map D.int/\(qs++rs).Sublist (rg m)/\qs.length+rs.length<=(rg m).length)
  (fun ys ρ μ2 s ⟨_,e1,_⟩=>⟨e1,trivial⟩)
  (fun x r ys ρ μ2 s hJJ => by
   obtain⟨es,e1,e2,⟨o,e4⟩,qs,rs,e5,e6,e7,e8⟩:=hJJ;subst es e4 e6;cases rs with
   |nil=>cases e5
   |cons k rs=>
    rw[KN]at e5;injection e5 with ex er
    subst ex er;simp only[La]at e8;have i2:i<μ2.length:=Js hi e2.len;obtain⟨v,a,b,c,v0,v1,ed,hp⟩:=(e2.app (g:=[.lst (qs.map D.int)])).draw (m:=2) hi (by decide) (by decide);rw[qL i2]at ed;refine⟨e1,trivial,[some (.int k),some (.obj i)],μ2,[],v == 0,μ2.set i (bW a b c),[],rfl,?_,fun hc=>?_,fun hc=>?_⟩
    ·unfold kT;simp only[cV,aI,az,aq,av,ai,ag,br,aa,ab,ed,h8,K9,Kt,bt]
    ·refine ⟨.int k, μ2.set i (bW a b c), [], ?_, ?_, by simpa using e1, rfl, by simpa using e1, e2.set hi, ⟨_, rfl⟩, qs ++ [k], rs, rfl, by simp, by simpa using e7, by simp; omega⟩
     ·unfold kU;rw[ag]
     ·rw[Kk];exact Js (show qs.length<1000 by omega) bH
    ·exact⟨rfl,by simpa using e1,e2.set hi,⟨_,rfl⟩,qs,rs,rfl,rfl,(List.Sublist.append (List.Sublist.refl qs) (List.sublist_cons_self k rs)).trans e7,by omega⟩)
  (xs:=(rg m).map D.int) (ys:=[]) (ρ:=[none,some (.obj i)]) (μ1:=μ1) (s:=[])
  ⟨rfl,rfl,h,⟨_,rfl⟩,[],rg m,rfl,rfl,by simp,by simp⟩
 subst es e6;refine⟨qs,μ2,?_,e2,e1,run⟩;cases rs with
 |nil=>simpa using e7
 |cons=>cases e5
theorem FJ{b:Bool}{T:au->Prop}{n:Nat}{i:Int}(h0:0<=i)(h1:i<10000000000):GB b T n 110 (.int i):=by
 have lg:i.natAbs.log2<34:=by
  by_cases z:i.natAbs=0
  ·rw[z];decide
  ·exact(Nat.log2_lt z).mpr (Js (show i.natAbs<10000000000 by omega) (by decide))
 refine kO rfl ?_ ?_ ?_ rfl rfl rfl
 ·simp only[PyData.showable];exact K5 (by omega)
 ·simp only[PyData.leavesShort];refine K5 ?_;have:=PyProof.Rows.toString_length_le h0 (k:=10) (by decide) h1;exact Jx (show (PyData.shown (.int i)).length<=10 from this) (by decide)
 ·simp only[PyData.weight];split <;> omega
theorem Ij{μ:au}:wX (.int 10) (.int 9) μ=.ok (.int 1000000000) μ:=by
 rw[show (wX:D->D->au->af D)=CZ yF fun i j=>.int (i^j.toNat) from rfl,lI (show yF 10 9 from⟨by decide,by decide,by decide⟩)];rfl
def Gx(l:Nat)(M:au)(d:D):Prop:=(∀(b:Bool)(T:au->Prop) n,GB b T (n+1) 110 d)\/∃j,d=.obj j/\l<=j/\(M[j]?=some (.lst [.int 0])\/M[j]?=some .dic)
theorem va{P:Nat}{a b c:Int}(hp:μ[P]?=some (bW a b c))(hm:m<=6):∃d μ',cv [.obj P,.int (m:Int)] μ=.ok d μ'/\Pn μ P μ'/\Gx μ.length μ' d:=by
 have hP:P<μ.length:=(JG.mp hp).1;obtain⟨r0,a1,b1,c1,r00,r01,e1,P1⟩:=(Pn.self hp).draw (m:=1000000000) hP (by decide) (by decide);let M1:au:=μ.set P (bW a1 b1 c1)
 have l1M:M1.length=μ.length:=by simp[M1]
 let odds:List D:=[.int (m:Int),.int ((m:Int)+1+r0),.int (-1),.bl true,.bl false,.non,.str "0",.tup [.int 0],.obj M1.length,.obj (M1++[O.lst [.int 0]]).length]
 let M2:au:=M1++[O.lst [.int 0]]++[O.dic]++[O.lst odds]
 have P2:Pn μ P M2:=((P1.app (g:=[O.lst [.int 0]])).app (g:=[O.dic])).app;obtain⟨r1,a3,b3,c3,r10,r11,e3,P3⟩:=P2.draw (m:=10) hP (by decide) (by decide);let M3:au:=M2.set P (bW a3 b3 c3)
 have t3:M3[(M1++[O.lst [.int 0]]++[O.dic]).length]?=some (.lst odds):=by rw[JJ (by simp only[Kj];omega)];exact aA
 have tL:M3[M1.length]?=some (.lst [.int 0]):=by rw[JJ (by omega)];exact aE (aE aA)
 have tD':M3[(M1++[O.lst [.int 0]]).length]?=some .dic:=by rw[JJ (by rw[Kj];omega)];exact aE aA
 obtain⟨d,ed,hd⟩:=uV (xs:=odds) (n:=10) r10 r11 rfl
 have all:(∀(b:Bool)(T:au->Prop) n,GB b T (n+1) 110 d)\/d=.obj M1.length\/d=.obj (M1++[O.lst [.int 0]]).length:=by
  simp only[odds,JC,Ml,Mm]at hd;rcases hd with rfl|rfl|rfl|rfl|rfl|rfl|rfl|rfl|h|h
  ·exact .inl fun b T n=>(km (by omega) (by omega)).wk (by decide)
  ·exact .inl fun b T n=>FJ (by omega) (by omega)
  ·exact .inl fun b T n=>(km (by omega) (by omega)).wk (by decide)
  ·exact .inl fun b T n=>Do.wk (by decide)
  ·exact .inl fun b T n=>Do.wk (by decide)
  ·exact .inl fun b T n=>FL.wk (by decide)
  ·exact .inl fun b T n=>FK.wk (by decide)
  ·exact .inl fun b T n=>(uR (k:=1) (w:=8) (fun x hx=>by rw[Lk.mp hx];exact km (by omega) (by omega)) (by simp) (by decide)).wk (by decide)
  ·exact .inr (.inl h)
  ·exact .inr (.inr h)
 have fin:∃μ',oK μ (.ok d M3)=.ok d μ'/\Pn μ P μ'/\Gx μ.length μ' d:=by
  rcases zm (μ:=μ) (d:=d) (μ':=M3) with e|⟨e,hlow⟩
  ·refine ⟨M3, e, P3, ?_⟩;rcases all with g|rfl|rfl
   ·exact .inl g
   ·exact .inr ⟨_,rfl,by omega,.inl tL⟩
   ·exact .inr ⟨_,rfl,by rw[Kj];omega,.inr tD'⟩
  ·refine ⟨_, e, ?_, ?_⟩
   ·obtain⟨u,v,w,g,hg⟩:=P3;rw[show M3=μ.set P (bW u v w)++g from hg];exact⟨u,v,w,[],by rw[Nz (by simp),Lx (by simp),J7]⟩
   ·rcases all with g | rfl | rfl
    ·exact .inl g
    ·rw[mT]at hlow;omega
    ·rw[mT,Kj]at hlow;omega
 obtain⟨μ',eg,P4,tg⟩:=fin;refine⟨d,μ',?_,P4,tg⟩;have n1:0+1<=sizeLine:=l1;have n10:0+1+1+1+1+1+1+1+1+1+1<=sizeLine:=Jx (by decide) bH;have e1':aG [.obj P,.int 1000000000] μ=.ok (.int r0) M1:=e1;have e3':aG [.obj P,.int 10] M2=.ok (.int r1) M3:=e3;unfold cv;rw[eK];simp only[jb,List.replicate];rw[aJ,aY];simp only[fB,aI,nC,zt,dX,aq,av,az,ai,ag,br,zu,aa,ab,gS,Ij,e1',La,Lp,Jo n1,Jo n10,ae,bh,aB,NK,NL,bo];rw[show aG [.obj P,.int 10] (M1++[O.lst [.int 0]]++[O.dic]++[O.lst [.int (m:Int),.int ((m:Int)+1+r0),.int (-1),.bl true,.bl false,.non,.str "0",.tup [.int 0],.obj M1.length,.obj (M1++[O.lst [.int 0]]).length]])=_ from e3'];simp only[aa,ab];rw[iM t3 ed];simp only[ae,aV];exact eg
end
end Lw
namespace Lw
open PySem L2 RS Lv
theorem Iu{M:au}{neg:Bool}{x:Str}:wZ neg (.str x) (.str x) M=.ok (.bl (!neg)) M:=by
 unfold wZ;dsimp only;rw[K5 rfl];cases neg <;> rfl
section
variable{m:Nat}{ks:List (List Int)}{μ:au}{d:D}
theorem Ak{M:au}{a0 a1 a2 a4 a5 a6 a7 a8 a10 a11:Option D}(h:GW m ks)(hd:F3 M d):∃b10 b11,nc [a0,a1,a2,some (aR m ks),a4,a5,a6,a7,a8,some d,a10,a11] M=.next [a0,a1,a2,some (aR m ks),a4,a5,a6,a7,a8,some d,b10,b11] M:=by
 obtain⟨x,hx⟩:=hd;have A0:=hx [];rw[J7]at A0;obtain⟨K0,R0⟩:=A0;refine⟨some (.str x),some (.bl (eV m ks d)),?_⟩;have eqb:jU true (.bl (eV m ks d)) (.bl (eV m ks d)) M=.ok (.bl false) M:=by cases eV m ks d <;> rfl
 unfold nc;rw[aJ,aY];simp only[az,aq,av,ai,ag,aa,ab,R0,ae,bh,aB,NK,NL];rw[aJ,aY];simp only[az,aq,av,ai,ag,aa,ab,zG h K0,ae,bh,aB,NK,NL];rw[cQ];simp only[nK,gR,hX,nC,ai,ag,aa,ab];rw[show gf "bool" (.bl (eV m ks d)) M=.ok (.bl true) M from rfl];simp only[aa,ab,d8,LZ,K9,Kt,cV,aI,az,aq,av,ai,ag,pN h K0,eqb,bt,R0,Iu,ae,cy]
theorem pY{M:au}{t:Nat}{all:List D}{a0 a1 a2 a4 a5 a6 a7 a8:Option D}(h:GW m ks)(ht:M[t]?=some (.lst all)):∀(ds:List D)(a9 a10 a11:Option D),(∀d∈ds,F3 M d) ->
  ∃b9 b10 b11:Option D,cY (.own t all) (ao 9) nc ds [a0,a1,a2,some (aR m ks),a4,a5,a6,a7,a8,a9,a10,a11] M=.next [a0,a1,a2,some (aR m ks),a4,a5,a6,a7,a8,b9,b10,b11] M
 |[],a9,a10,a11,_=>⟨a9,a10,a11,by unfold cY;rw[Jo (show bB (.own t all) M from ht)]⟩
 |d::ds,a9,a10,a11,hd=>by
  obtain⟨c10,c11,e1⟩:=Ak (a0:=a0) (a1:=a1) (a2:=a2) (a4:=a4) (a5:=a5) (a6:=a6) (a7:=a7) (a8:=a8) (a10:=a10) (a11:=a11) h (hd d JA);obtain⟨b9,b10,b11,e2⟩:=pY h ht ds (some d) c10 c11 fun u hu=>hd u (JB _ hu);refine⟨b9,b10,b11,?_⟩;unfold cY;rw[Jo (show bB (.own t all) M from ht)];simp only[bh,ae,NK,NL];rw[e1];exact e2
theorem uI{M:au}{b:Bool}{w:Nat}(h:GB b (fun μ=>∃s,μ=M++s) 5 w d)(hw:w<=300000)(hr:qy d=true):F3 M d:=by
 obtain⟨x,hx⟩:=CD h hw hr;exact⟨x,fun s=>hx _ ⟨s,rfl⟩⟩
theorem F2{b:Bool}{T:au->Prop}{n w:Nat}(h:GB b T n w d):GB b T (n+1) w d:=by
 obtain⟨⟨q,h1,h2,h3⟩,h4⟩:=h;refine⟨⟨q,fun μ hμ=>?_,h2,by omega⟩,h4⟩
 have up:∀n (d:D) q μ,ly μ n d=some q->ly μ (n+1) d=some q:=by
  intro n
  induction n with
  |zero=>exact fun d q μ h=>zq h
  |succ n ih=>
   intro d q μ h
   have mp:∀(xs:List D) qs,ik (ly μ n) xs=some qs->ik (ly μ (n+1)) xs=some qs:=by
    intro xs
    induction xs with
    |nil=>exact fun qs h=>h
    |cons x xs ihx=>
     intro qs h;unfold ik at h⊢;cases e1:ly μ n x with
     |none=>rw[e1]at h;cases h
     |some y=>
      rw[e1]at h;rw[ih x y μ e1];cases e2:ik (ly μ n) xs with
      |none=>rw[e2]at h;cases h
      |some ys=>rw[e2]at h;rw[ihx ys e2];exact h
   cases d with
   |tup xs=>
    unfold ly at h⊢;dsimp only at h⊢;cases e:ik (ly μ n) xs with
    |none=>rw[e]at h;cases h
    |some qs=>rw[e]at h;rw[mp xs qs e];exact h
   |frz xs=>
    unfold ly at h⊢;dsimp only at h⊢;cases e:ik (ly μ n) xs with
    |none=>rw[e]at h;cases h
    |some qs=>rw[e]at h;rw[mp xs qs e];exact h
   |obj k=>
    unfold ly at h⊢;dsimp only at h⊢;cases eo:μ[k]? with
    |none=>rw[eo]at h;cases h
    |some o=>
     rw[eo]at h;cases o with
     |lst xs=>
      dsimp only at h⊢;cases e:ik (ly μ n) xs with
      |none=>rw[e]at h;cases h
      |some qs=>rw[e]at h;rw[mp xs qs e];exact h
     |_=>exact h
   |_=>exact h
 exact up n d q μ (h1 μ hμ)
theorem Cn{M:au}{x:Int}{a0 a2 a3 a4 a5 a6 a7 a8 a9 a10 a11:Option D}:∃(M':au)(b2 b3 b4 b5 b6 b7 b8 b9 b10 b11:Option D),
  m9 [a0,some (.int x),a2,a3,a4,a5,a6,a7,a8,a9,a10,a11] M=.next [a0,some (.int x),b2,b3,b4,b5,b6,b7,b8,b9,b10,b11] M'/\∀(j:Nat)(o:O),M[j]?=some o->M'[j]?=some o:=by
 obtain⟨a,b,c,ep⟩:=Ec (μ:=M) x;have sl:∀a b c a' b' c':Int,(M++[bW a b c]).set M.length (bW a' b' c')=M++[bW a' b' c']:=fun _ _ _ _ _ _=>nQ;obtain⟨m,ks,a2',b2',c2',h,ea⟩:=Ee (μ:=M++[bW a b c]) (i:=M.length) aA;rw[sl]at ea;have m0:=h.m0;have m6:=h.m6;let P:Nat:=M.length
 let M2:au:=M++[bW a2' b2' c2']
 have hM2:P<M2.length:=by simp[M2,P]
 obtain⟨w,μ2,hw,P2,l2',ec⟩:=Al (m:=m) (μ0:=M2) (μ1:=M2) (i:=P) hM2 (Pn.self aA) m6;have wr:∀y∈w,0<=y/\y<(m:Int):=fun y hy=>iL.mp (hw.subset hy)
 have wl:w.length<=6:=by
  have:=hw.length_le;rw[kh]at this;omega
 let ws:List D:=w.map D.int
 have wsl:ws.length<=6:=by simp only[ws,Kk];exact wl
 let M3:au:=μ2++[O.lst ws]
 have P3:Pn M2 P M3:=P2.app;obtain⟨sp,a4',b4',c4',s0,s1,e4,P4⟩:=P3.draw (m:=(w.length:Int)+1) hM2 (by omega) (by omega);obtain⟨sp,rfl⟩:∃k:Nat,sp=(k:Int):=⟨sp.toNat,by omega⟩;let M4:au:=M3.set P (bW a4' b4' c4')
 obtain⟨u4,v4,w4,hp4⟩:=P4.get hM2;obtain⟨odd,M5,e5,P5',ho⟩:=va (m:=m) (μ:=M4) (P:=P) hp4 m6;have l24:M2.length<=M4.length:=P4.len;obtain⟨u5,v5,w5,g5,hg5⟩:=P5'
 have P5:Pn M2 P M5:=by
  rw[hg5];exact(P4.set hM2).app
 have l45:M4.length<=M5.length:=by
  rw[hg5];have:(M4.set P (bW u5 v5 w5)).length=M4.length:=List.length_set;rw[Kj,this];omega
 let bent:List D:=[.tup (ws.take sp++[odd]++ws.drop sp),.tup (ws++fN ws none (some 1)),.tup ws.reverse,.obj M5.length,.tup [.tup ws],.non,.int 0,.obj (M5++[O.lst ws]).length,.tup [odd],.str ""]
 let M6:au:=M5++[O.lst ws]++[O.dic]++[O.lst bent]
 let B:Nat:=(M5++[O.lst ws]++[O.dic]).length
 have P6:Pn M2 P M6:=((P5.app (g:=[O.lst ws])).app (g:=[O.dic])).app;obtain⟨r1,a7',b7',c7',r10,r11,e7,P7⟩:=P6.draw (m:=10) hM2 (by decide) (by decide);let M7:au:=M6.set P (bW a7' b7' c7')
 obtain⟨r2,a8',b8',c8',r20,r21,e8,P8⟩:=P7.draw (m:=10) hM2 (by decide) (by decide);let M8:au:=M7.set P (bW a8' b8' c8')
 have hB:B=M5.length+2:=by simp[B]
 have t7:M7[B]?=some (.lst bent):=by rw[JJ (by omega)];exact aA
 have t8:M8[B]?=some (.lst bent):=by rw[JJ (by omega)];exact t7
 obtain⟨d1,ed1,hd1⟩:=uV (xs:=bent) (n:=10) r10 r11 rfl;obtain⟨d2,ed2,hd2⟩:=uV (xs:=bent) (n:=10) r20 r21 rfl;let some2:List D:=[d1,d2]
 let five:List D:=[.tup ws,.tup (fN ws none (some 2)),.tup (fN ws none (some 3)),.tup [],.tup ((rg m).map D.int)]
 let M9:au:=M8++[O.lst some2]
 let M10:au:=M9++[O.lst five]
 let Mf:au:=M10++[O.lst (some2++five)]
 have up:∀{j:Nat}{o:O},M2.length<=j->M6[j]?=some o->Mf[j]?=some o:=fun {j o} hj e=>aE (aE (aE (by
  rw[JJ (by omega),JJ (by omega)]
  exact e)))
 let T:au->Prop:=fun μ=>∃s,μ=Mf++s
 have tk:∀{j:Nat}{o:O},Mf[j]?=some o->∀μ',T μ'->μ'[j]?=some o:=fun {j o} e μ' hT=>by obtain⟨s,rfl⟩:=hT;exact aE e
 have oL:=tk (up (j:=M5.length) (by omega) (aE (aE aA)));have l51:(M5++[O.lst ws]).length=M5.length+1:=by simp
 have oD:=tk (up (j:=(M5++[O.lst ws]).length) (by omega) (aE aA))
 have gws:∀(b:Bool)(T:au->Prop) n,∀y∈ws,GB b T n 110 y:=fun b T n y hy=>by
  obtain⟨i,hi,rfl⟩:=Lz.mp hy;have:=wr i hi;exact(km (by omega) (by omega)).wk (by decide)
 have godd:∃b,GB b T 3 300 odd:=by
  rcases ho with g|⟨j,rfl,hj,g⟩
  ·exact⟨true,(g _ _ 2).wk (by decide)⟩
  ·have hj2 : M2.length <= j := by omega
   rcases g with g|g
   ·exact⟨true,(zo (n:=2) (k:=1) (w:=110) (tk (up hj2 (aE (aE (aE g))))) (fun z hz=>by rw[Lk.mp hz];exact(km (by omega) (by omega)).wk (by decide)) (by simp)).wk (by decide)⟩
   ·exact⟨false,(zp (n:=2) (tk (up hj2 (aE (aE (aE g)))))).wk (by decide)⟩
 obtain⟨bb,godd⟩:=godd;have gT:∀(b:Bool)(l:List D),l.length<=17->(∀y∈l,GB b T 3 300 y)->F3 Mf (.tup l):=fun b l hl hy=>uI (F2 (uR (n:=3) (k:=17) (w:=300) hy hl (by decide))) (by decide) rfl;have gW:∀(l:List D),l.length<=17->(∀y∈l,y∈ws)->F3 Mf (.tup l):=fun l hl hy=>gT true l hl fun y h=>(gws _ _ _ y (hy y h)).wk (by decide)
 have thB:∀d∈bent,F3 Mf d:=fun d hd=>by
  have c3:=m4 (xs:=ws) (a:=none) (b:=some 1);simp only[bent,JC,Ml,Mm]at hd;rcases hd with rfl|rfl|rfl|rfl|rfl|rfl|rfl|rfl|rfl|rfl
  ·refine gT bb _ (by simp only [Kj, Kd, KA, La, Lp]; omega) fun y hy => ?_;rcases JE.mp hy with hy|hy
   ·rcases JE.mp hy with hy | hy
    ·exact(gws _ _ _ y (LO hy)).wk (by decide)
    ·rw[Lk.mp hy];exact godd
   ·exact(gws _ _ _ y (LP hy)).wk (by decide)
  ·exact gW _ (by rw[Kj];omega) fun y hy=>by
    rcases JE.mp hy with z|z
    ·exact z
    ·exact qW y z
  ·exact gW _ (by rw[NB];omega) fun y hy=>List.mem_reverse.mp hy
  ·exact uI (zo (T:=T) (n:=4) (k:=6) (w:=110) oL (fun z hz=>gws _ _ _ z hz) wsl) (by decide) rfl
  ·exact gT true _ (by simp) fun y hy=>by
    rw[Lk.mp hy]
    exact(uR (n:=2) (k:=6) (w:=8) (fun z hz=>by
     obtain⟨i,hi,rfl⟩:=Lz.mp hz;have:=wr i hi
     exact km (by omega) (by omega)) wsl (by decide)).wk (by decide)
  ·exact⟨_,fun s=>⟨by simp[Kn],rfl⟩⟩
  ·exact⟨_,fun s=>⟨by simp[Kn],by unfold fX;dsimp only;rw[Jo (by decide)]⟩⟩
  ·exact uI (zp (T:=T) (n:=4) oD) (by decide) rfl
  ·exact gT bb _ (by simp) fun y hy=>by rw[Lk.mp hy];exact godd
  ·exact⟨_,fun s=>⟨by simp[Kn],by unfold fX;dsimp only;rw[Jo (by decide +kernel)]⟩⟩
 obtain⟨b9,b10,b11,ef⟩:=pY (M:=Mf) (t:=M10.length) (all:=some2++five) (a0:=a0) (a1:=some (.int x)) (a2:=some (.obj P)) (a4:=some (.tup ws)) (a5:=some (.int (sp:Int))) (a6:=some odd) (a7:=some (.obj B)) (a8:=some (.obj M8.length)) h aA (some2++five) a9 a10 a11 (fun d hd=>by
  have c2:=m4 (xs:=ws) (a:=none) (b:=some 2);have c3:=m4 (xs:=ws) (a:=none) (b:=some 3);rcases JE.mp hd with hd|hd
  ·simp only [some2, JC, Ml, Mm] at hd;rcases hd with rfl|rfl
   ·exact thB _ hd1
   ·exact thB _ hd2
  ·simp only [five, JC, Ml, Mm] at hd;rcases hd with rfl|rfl|rfl|rfl|rfl
   ·exact gW _ (by omega) fun y hy=>hy
   ·exact gW _ (by omega) fun y hy=>qW y hy
   ·exact gW _ (by omega) fun y hy=>qW y hy
   ·exact gW _ (by simp) fun y hy=>by cases hy
   ·exact gT true _ (by rw[Kk,kh];omega) fun y hy=>by
     obtain⟨i,hi,rfl⟩:=Lz.mp hy;have:=iL.mp hi
     exact(km (by omega) (by omega)).wk (by decide))
 refine⟨Mf,some (.obj P),some (aR m ks),some (.tup ws),some (.int (sp:Int)),some odd,some (.obj B),some (.obj M8.length),b9,b10,b11,?_,fun j o e=>?_⟩
 rotate_left
 ·have hj : j < M.length := (JG.mp e).1;have z2:M2[j]?=some o:=aE e;obtain⟨u,v,w',g,hg⟩:=P8
  have z8:M8[j]?=some o:=by
   rw[show M8=M2.set P (bW u v w')++g from hg];exact aE (by rw[JJ (by simp only[P];omega)];exact z2)
  exact aE (aE (aE z8))
 ·have n1 : 0 + 1 <= sizeLine := l1;have n2:0+1+1<=sizeLine:=l2;have n5:0+1+1+1+1+1<=sizeLine:=Jx (by decide) bH;have n10:0+1+1+1+1+1+1+1+1+1+1<=sizeLine:=Jx (by decide) bH;have e4':aG [.obj P,.int ((w.length:Int)+1)] M3=.ok (.int (sp:Int)) M4:=e4;have e7':aG [.obj P,.int 10] M6=.ok (.int r1) M7:=e7;have e8':aG [.obj P,.int 10] M7=.ok (.int r2) M8:=e8;unfold m9;rw[aJ,aY];simp only[az,aq,av,ai,ag,aa,ab,ep,ae,bh,NK,NL,aB];rw[aJ,aY];simp only[az,aq,av,ai,ag,br,aa,ab,ea,ae,bh,NK,NL,aB];rw[aJ,cQ];simp only[gR,hX,az,aq,av,ai,ag,aa,ab,Bo h,d8,LZ,ae,K9,Kt,cy,aB];rw[aJ,aY];simp only[az,aq,av,bR,gh,aI,br,ai,ag,aa,ab,cK];rw[gQ (by omega) (by omega)];simp only[aa,ab,bj,nH];rw[show eH [none,some 2] [a0,some (.int x),some (.obj M.length),some (aR m ks),a4,a5,a6,a7,a8,a9,a10,a11]=[none,some (.obj P)] from rfl];rw[show compLoop (.fix ((rg m).map D.int)) (M++[bW a2' b2' c2']).length (ao 0) kT kU ((rg m).map D.int) [none,some (.obj P)] (M++[bW a2' b2' c2']++[O.lst []])=_ from ec];simp only[aa,ab];rw[mY (show (μ2++[O.lst (w.map D.int)])[M2.length]?=some (.lst ws) from by rw[<- l2'];exact aA)];simp only[ae,bh,NK,NL,aB];rw[aJ,aY];simp only[az,aq,av,aI,br,ai,ag,aa,ab,mZ,gS];rw[show ((ws.length:Nat):Int)=(w.length:Int) from by simp[ws]];rw[show aG [.obj M.length,.int ((w.length:Int)+1)] (μ2++[O.lst (w.map D.int)])=_ from e4'];simp only[ae,bh,NK,NL,aB];rw[aJ,aY];simp only[az,aq,av,aI,br,ai,ag,aa,ab,cK];rw[show cv [.obj M.length,.int (m:Int)] M4=_ from e5];simp only[ae,bh,NK,NL,aB];rw[aJ,aY];have q1:∀M:au,yl (.tup ws) none (some (sp:Int)) M=.ok (.tup (ws.take sp)) M:=fun M=>by rw[qv,FX (by simp only[ws,Kk];omega)]
  have q2:∀M:au,yl (.tup ws) (some (sp:Int)) none M=.ok (.tup (ws.drop sp)) M:=fun M=>by rw[qv,FY (r:=sp) rfl]
  have q3:∀M:au,cw (.tup (ws.take sp)) (.tup [odd]) M=.ok (.tup (ws.take sp++[odd])) M:=fun M=>m7 (by rw[Kd];simp only[La,Lp];omega);have q4:∀M:au,cw (.tup (ws.take sp++[odd])) (.tup (ws.drop sp)) M=.ok (.tup (ws.take sp++[odd]++ws.drop sp)) M:=fun M=>m7 (by rw[Kj,Kd,KA];simp only[La,Lp];omega);have q5:∀M:au,cw (.tup ws) (.tup (fN ws none (some 1))) M=.ok (.tup (ws++fN ws none (some 1))) M:=fun M=>m7 (by have:=m4 (xs:=ws) (a:=none) (b:=some 1);omega);have q6:∀M:au,i4 [.tup ws] M=.ok (.obj M.length) (M++[O.lst ws]):=fun _=>rfl;have q7:∀M:au,yl (.tup ws) none (some 1) M=.ok (.tup (fN ws none (some 1))) M:=fun _=>rfl;have q8:∀M:au,yl (.tup ws) none (some 2) M=.ok (.tup (fN ws none (some 2))) M:=fun _=>rfl;have q9:∀M:au,yl (.tup ws) none (some 3) M=.ok (.tup (fN ws none (some 3))) M:=fun _=>rfl;simp only[fB,aI,yW,zr,nZ,uT,nC,zt,dX,aq,av,az,ai,ag,br,zu,aa,ab,q1,q2,q3,q4,q5,q6,q7,Eu,La,Lp,Jo n1,Jo (Lj sizeLine),Jo n10,ae,bh,aB,NK,NL];rw[aJ,aY];simp only[fB,aq,av,aI,az,ai,ag,br,aa,ab];rw[show aG [.obj M.length,.int 10] (M5++[O.lst ws]++[O.dic]++[O.lst bent])=_ from e7'];simp only[aa,ab];rw[show gJ (.obj (M5++[O.lst ws]++[O.dic]).length) (.int r1) M7=_ from iM t7 ed1];simp only[aa,ab];rw[show aG [.obj M.length,.int 10] M7=_ from e8'];simp only[aa,ab];rw[show gJ (.obj (M5++[O.lst ws]++[O.dic]).length) (.int r2) M8=_ from iM t8 ed2];simp only[aa,ab,La,Lp,Jo n2,ae,bh,aB,NK,NL];rw[hZ]
  have tr:∀M:au,pG [.int (m:Int)] M=.ok (.tup ((rg m).map D.int)) M:=fun M=>by
   unfold pG;dsimp only;rw[Jo ⟨by omega,by omega⟩,nH]
  simp only[bF,aI,fB,yW,zr,nZ,uT,dX,aq,av,az,ai,ag,br,aa,ab,cK,q8,q9,tr,La,Lp,Jo (Lj sizeLine),Jo n5];rw[show cw (.obj M8.length) (.obj (M8++[O.lst [d1,d2]]).length) (M8++[O.lst [d1,d2]]++[O.lst five])=.ok (.obj M10.length) Mf from m8 (aE aA) aA (show (2+5:Nat)<=1000000 by decide)];simp only[aa,ab];rw[d9 (show Mf[M10.length]?=some (.lst (some2++five)) from aA)];simp only[ae,cu];exact ef
end
theorem Ed(ns:List Int):∃μ',sE [.frz (ns.map D.int)] []=.ok (.bl true) μ':=by
 obtain⟨x0,ex0⟩:=Bq (μ:=[]) (ns:=ns)
 obtain⟨xs,hxs,hxl⟩:∃xs:List Int,fN (ns.map D.int) (some 1) (some 8)=xs.map D.int/\xs.length<=8:=by
  refine⟨(ns.drop (HT.sIx ns.length 0 (some 1))).take (HT.sIx ns.length ns.length (some 8)-HT.sIx ns.length 0 (some 1)),?_,?_⟩
  ·unfold fN;rw[Kk,LK,LL]
  ·rw[Kd];have h6:HT.sIx ns.length ns.length (some 8)=min 8 ns.length:=HT.sIx_nat _ _ 8;omega
 obtain⟨L,hL⟩:∃L:List Int,L=x0::xs:=⟨_,rfl⟩;let M5:au:=([O.lst [.int x0]]++[O.lst (xs.map D.int)])++[O.lst (L.map D.int)]
 have h5:M5[2]?=some (.lst (L.map D.int)):=rfl
 obtain⟨ρ3,M6,_,run3⟩:=qU (src:=.own 2 (L.map D.int)) (g:=ao 1) (fb:=m9)
  (fun zs ρ μ=>μ[2]?=some (O.lst (L.map D.int))/\(∃rs:List Int,zs=rs.map D.int)/\∃o0 o1 o2 o3 o4 o5 o6 o7 o8 o9 o10 o11,ρ=[o0,o1,o2,o3,o4,o5,o6,o7,o8,o9,o10,o11])
  (fun ρ μ hJJ=>hJJ.1)
  (fun x r ρ μ hJJ => by
   obtain⟨h2,⟨rs,er⟩,o0,o1,o2,o3,o4,o5,o6,o7,o8,o9,o10,o11,eρ⟩:=hJJ;subst eρ;cases rs with
   |nil=>cases er
   |cons y rs=>
    injection er with ex er
    subst ex er;obtain⟨M',b2,b3,b4,b5,b6,b7,b8,b9,b10,b11,e1,e2⟩:=Cn (M:=μ) (x:=y) (a0:=o0) (a2:=o2) (a3:=o3) (a4:=o4) (a5:=o5) (a6:=o6) (a7:=o7) (a8:=o8) (a9:=o9) (a10:=o10) (a11:=o11)
    exact⟨h2,_,μ,_,_,rfl,e1,e2 2 _ h2,⟨rs,rfl⟩,_,_,_,_,_,_,_,_,_,_,_,_,rfl⟩)
  (xs:=L.map D.int) (ρ:=[some (.frz (ns.map D.int)),none,none,none,none,none,none,none,none,none,none,none]) (μ:=M5)
  ⟨h5,⟨L,rfl⟩,_,_,_,_,_,_,_,_,_,_,_,_,rfl⟩
 have hend:∃μ',oK [] (.ok (.bl true) M6)=.ok (.bl true) μ':=by
  rcases zm (μ:=[]) (d:=.bl true) (μ':=M6) with e|⟨e,_⟩ <;> exact⟨_,e⟩
 obtain⟨μ',hend⟩:=hend;refine⟨μ',?_⟩;have l1':([.int x0]:List D).length<=sizeLine:=by show 1<=sizeLine;decide
 have sl:∀μ,yl (.frz (ns.map D.int)) (some 1) (some 8) μ=.ok (.obj μ.length) (μ++[.lst (xs.map D.int)]):=fun μ=>by
  unfold yl;dsimp only;rw[hxs]
 have ad:cw (.obj 0) (.obj 1) ([O.lst [.int x0]]++[O.lst (xs.map D.int)])=.ok (.obj 2) M5:=by
  have:=m8 (μ:=[O.lst [.int x0]]++[O.lst (xs.map D.int)]) (a:=0) (b:=1) rfl rfl (show ([.int x0]:List D).length+(xs.map D.int).length<=1000000 by rw[Kk];simp only[La,Lp];omega);rw[this];simp only[M5,hL];rfl
 unfold sE;rw[h7];unfold Dy;simp only[List.replicate];rw[aJ,hZ,bF,aI,fB,aq,az,aq,ag,aa,aq,br,aa,av,aa,aa,aa,ex0,aa,av,aa,aa];simp only[Jo l1',aa,yW,ag,nZ,br,uT];rw[sl,aa];rw[show cw (.obj ([]:au).length) (.obj (([]:au)++[O.lst [.int x0]]).length) (([]:au)++[O.lst [.int x0]]++[O.lst (xs.map D.int)])=_ from ad];rw[aa,d9 h5,ae,cu,run3,aB,bo,br,ae,aV];exact hend
end Lw
namespace Lw
open PySem PySem.Spec PyProof.Rows L2 RS
theorem cO(P:Params)(f:Addr)(n m:Str)(t:Tok)(c:Addr)(st:Stmt)(l:(Kz P).lookup f=some (fo n st m t c))(q:W.codeIn (Kz P) (.ref c) n=true):ig (Kz P) n n st f (W.fnOf n n (dJ st) (cz st) (ar st) .none .none .none (.str m t) none (.ref c) .none):=FM l q (by unfold W.keepIn;dsimp only;rw[l];rfl)
theorem F1 {l:W.OpenLaw}{w:World}{h:Heap}{mg:Str->Option Value}{fa:Addr} (X:(Kz w.params).In h) (G:h.Ns mainGlobals mg) (hfa:mg "law" = some (.ref fa)) :
  ∃fd:FuncData,(∀(s:Shared) (v:Value),BindsTo s fd ⟨[v],[]⟩ [("_law_script",v)])/\∀base:Heap,(Kz w.params).In base->base.Ns mainGlobals mg->oS l.prog w (Kz w.params) mg base yo 7 fa fd ["_law_script"] (CW (dU (Kz w.params) w) 1 sE):=by
 have e:=hfa.symm.trans (W.mg_of X G (v:=.ref 173) (by kernel_rfl));cases e;have nm:Nm mg:=⟨W.mg_none_of X G (by kernel_rfl),W.mg_none_of X G (by kernel_rfl),W.mg_none_of X G (by kernel_rfl),W.mg_none_of X G (by kernel_rfl),W.mg_none_of X G (by kernel_rfl),W.mg_none_of X G (by kernel_rfl),W.mg_none_of X G (by kernel_rfl),W.mg_none_of X G (by kernel_rfl),W.mg_none_of X G (by kernel_rfl),W.mg_none_of X G (by kernel_rfl),W.mg_none_of X G (by kernel_rfl),W.mg_none_of X G (by kernel_rfl),W.mg_none_of X G (by kernel_rfl),W.mg_none_of X G (by kernel_rfl)⟩;have F:=cO w.params 173 "law" "law_rootwebs_k39_knots" 277 172 ji (by kernel_rfl) (by kernel_rfl);refine⟨W.fnOf "law" "law" (dJ ji) (cz ji) (ar ji) .none .none .none (.str "law_rootwebs_k39_knots" 277) none (.ref 172) .none,fun s v=>.of_eq rfl,fun base Xb Gb=>?_⟩;have d_is_whole:=ug (P:=l.prog) (w:=w) (base:=base)  nm (cO w.params 21 "is_whole" "rootwebs.kinds" 187 20 gX (by kernel_rfl) (by kernel_rfl)) (W.mg_of X G (by kernel_rfl));have d_is_whole_from:=lX (P:=l.prog) (w:=w) (base:=base)  nm (cO w.params 28 "is_whole_from" "rootwebs.kinds" 187 27 dM (by kernel_rfl) (by kernel_rfl)) (W.mg_of X G (by kernel_rfl)) d_is_whole;have d_is_place:=uh (P:=l.prog) (w:=w) (base:=base)  nm (cO w.params 35 "is_place" "rootwebs.kinds" 187 34 gY (by kernel_rfl) (by kernel_rfl)) (W.mg_of X G (by kernel_rfl)) d_is_whole_from;have d_is_places:=rF (P:=l.prog) (w:=w) (base:=base)  nm (cO w.params 40 "is_places" "rootwebs.kinds" 187 39 ff (by kernel_rfl) (by kernel_rfl)) (W.mg_of X G (by kernel_rfl)) d_is_place;have d_is_rising:=rE (P:=l.prog) (w:=w) (base:=base)  nm (cO w.params 45 "is_rising" "rootwebs.kinds" 187 44 fe (by kernel_rfl) (by kernel_rfl)) (W.mg_of X G (by kernel_rfl));have d_is_rising_places:=jR (P:=l.prog) (w:=w) (base:=base)  nm (cO w.params 52 "is_rising_places" "rootwebs.kinds" 187 51 cL (by kernel_rfl) (by kernel_rfl)) (W.mg_of X G (by kernel_rfl)) d_is_places d_is_rising;have d_is_tied:=vm (P:=l.prog) (w:=w) (base:=base)  nm (cO w.params 59 "is_tied" "rootwebs.webs" 233 58 iR (by kernel_rfl) (by kernel_rfl)) (W.mg_of X G (by kernel_rfl));have d_knot_good:=rD (P:=l.prog) (w:=w) (base:=base)  nm (cO w.params 64 "knot_good" "rootwebs.stars" 244 63 eZ (by kernel_rfl) (by kernel_rfl)) (W.mg_of X G (by kernel_rfl)) d_is_rising_places d_is_tied;have d_fits_knot:=rG (P:=l.prog) (w:=w) (base:=base)  nm (cO w.params 69 "fits_knot" "rootwebs.stars" 244 68 fg (by kernel_rfl) (by kernel_rfl)) (W.mg_of X G (by kernel_rfl)) d_is_tied;have d_knots_of:=uf (P:=l.prog) (w:=w) (base:=base)  nm (cO w.params 74 "knots_of" "rootwebs.stars" 244 73 fQ (by kernel_rfl) (by kernel_rfl)) (W.mg_of X G (by kernel_rfl)) d_fits_knot;have d_great_knots:=oC (P:=l.prog) (w:=w) (base:=base)  nm (cO w.params 79 "great_knots" "rootwebs.stars" 244 78 dD (by kernel_rfl) (by kernel_rfl)) (W.mg_of X G (by kernel_rfl)) d_knots_of d_fits_knot;have d_knots_many:=oY (P:=l.prog) (w:=w) (base:=base)  nm (cO w.params 86 "knots_many" "rootwebs.stars" 244 85 fJ (by kernel_rfl) (by kernel_rfl)) (W.mg_of X G (by kernel_rfl)) d_knots_of;have d__law_cell_at:=mL (P:=l.prog) (w:=w) (base:=base)  nm (cO w.params 93 "_law_cell_at" "law_rootwebs_k39_knots" 277 92 eC (by kernel_rfl) (by kernel_rfl)) (W.mg_of X G (by kernel_rfl));have d__law_next:=rH (P:=l.prog) (w:=w) (base:=base)  nm (cO w.params 100 "_law_next" "law_rootwebs_k39_knots" 277 99 gm (by kernel_rfl) (by kernel_rfl)) (W.mg_of X G (by kernel_rfl));have d__law_pen_of:=oF (P:=l.prog) (w:=w) (base:=base)  nm (cO w.params 107 "_law_pen_of" "law_rootwebs_k39_knots" 277 106 fm (by kernel_rfl) (by kernel_rfl)) (W.mg_of X G (by kernel_rfl));have d__law_draw:=rJ (P:=l.prog) (w:=w) (base:=base)  nm (cO w.params 114 "_law_draw" "law_rootwebs_k39_knots" 277 113 gn (by kernel_rfl) (by kernel_rfl)) (W.mg_of X G (by kernel_rfl)) d__law_next;have d__law_whole:=oZ (P:=l.prog) (w:=w) (base:=base)  nm (cO w.params 121 "_law_whole" "law_rootwebs_k39_knots" 277 120 fK (by kernel_rfl) (by kernel_rfl)) (W.mg_of X G (by kernel_rfl));have d__law_web_of:=oE (P:=l.prog) (w:=w) (base:=base)  nm (cO w.params 126 "_law_web_of" "law_rootwebs_k39_knots" 277 125 dE (by kernel_rfl) (by kernel_rfl)) (W.mg_of X G (by kernel_rfl));have d__law_drawn_web:=lj (P:=l.prog) (w:=w) (base:=base)  nm (cO w.params 131 "_law_drawn_web" "law_rootwebs_k39_knots" 277 130 cD (by kernel_rfl) (by kernel_rfl)) (W.mg_of X G (by kernel_rfl)) d__law_draw d__law_web_of;have d__law_near_of:=mJ (P:=l.prog) (w:=w) (base:=base)  nm (cO w.params 136 "_law_near_of" "law_rootwebs_k39_knots" 277 135 df (by kernel_rfl) (by kernel_rfl)) (W.mg_of X G (by kernel_rfl));have d__law_two_step:=lY (P:=l.prog) (w:=w) (base:=base)  nm (cO w.params 141 "_law_two_step" "law_rootwebs_k39_knots" 277 140 cS (by kernel_rfl) (by kernel_rfl)) (W.mg_of X G (by kernel_rfl)) d__law_near_of d__law_web_of;have d__law_any_web:=mM (P:=l.prog) (w:=w) (base:=base)  nm (cO w.params 146 "_law_any_web" "law_rootwebs_k39_knots" 277 145 dg (by kernel_rfl) (by kernel_rfl)) (W.mg_of X G (by kernel_rfl)) d__law_drawn_web d__law_draw d__law_two_step d__law_web_of;have d__law_tuples_are:=kB (P:=l.prog) (w:=w) (base:=base)  nm (cO w.params 151 "_law_tuples_are" "law_rootwebs_k39_knots" 277 150 cj (by kernel_rfl) (by kernel_rfl)) (W.mg_of X G (by kernel_rfl)) d__law_whole;have d__law_no_place:=lZ (P:=l.prog) (w:=w) (base:=base)  nm (cO w.params 158 "_law_no_place" "law_rootwebs_k39_knots" 277 157 dN (by kernel_rfl) (by kernel_rfl)) (W.mg_of X G (by kernel_rfl)) d__law_draw;have d__law_is_knot:=mK (P:=l.prog) (w:=w) (base:=base)  nm (cO w.params 163 "_law_is_knot" "law_rootwebs_k39_knots" 277 162 bN (by kernel_rfl) (by kernel_rfl)) (W.mg_of X G (by kernel_rfl)) d__law_whole;have d__law_lots_right:=kC (P:=l.prog) (w:=w) (base:=base)  nm (cO w.params 168 "_law_lots_right" "law_rootwebs_k39_knots" 277 167 bu (by kernel_rfl) (by kernel_rfl)) (W.mg_of X G (by kernel_rfl)) d__law_is_knot d_knots_many d__law_whole d_great_knots d__law_tuples_are;exact FN nm F d__law_cell_at d__law_pen_of d__law_any_web d__law_lots_right d__law_draw d__law_no_place d_knot_good d__law_is_knot
theorem HU {l:W.OpenLaw}{q:Program}{loose:List Str}{XP:(Str->Option Value)->Heap->Prop}{d:DefRec} (hn:l.most=some 63) (hdf:d.params.defaults=[]) (hd:d.name = "law") :
  W.WalkO q loose XP (W.Hook.says Hz) l.row.toRowW d [] (fun f vs=>PySem.call f vs):=
 L2.walk_of (K:=Kz) (n:=63) (k:=7) (x:="_law_script") (CX:=fun _=>yo) (sp:=fun w=>CW (dU (Kz w.params) w) 1 sE) hn (by decide) hdf ⟨rfl,by decide,by decide,rfl⟩ (fun _ _ Y=>W.kIn_of Y) (fun _ _ _ _ X G e=>F1 X G (hd ▸ e)) (fun w H a ns hl hO hS=>Am (Ed ns) hO hS) fun _ _ _ _ _ z=>z
end Lw
open PySem PySem.W PyProof.Rows Lw
set_option maxRecDepth 100000 in
set_option maxHeartbeats 0 in
theorem PySem.Challenge.cw_rootwebs_k39_knots_holds : PySem.Challenge.rw_rootwebs_k39_knots.Holds := by
 w_on;refine holds_law DN fun said=>?_
 exact holds_open (Xt:=Xz) (XP:=XL Qz []) (YP:=Hook.says Hz) DO (Hook.of Hz) (Hook.keeps Hz) (fun s e=>xl_of s (Bool.and_eq_true_iff.mp e).1) XL.keeps (by rfl) (by rfl) (by rfl) (fun s e=>recFacts_of (Bool.and_eq_true_iff.mp e).2) (by rfl) said (by decide +kernel) ⟨rfl,rfl,rfl,rfl,rfl,by decide +kernel⟩ (by w_witness2) (HU rfl rfl rfl)
