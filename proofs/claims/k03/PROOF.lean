import PyProof.Rows.All
import Wide.All
import OpenK.AllK
import Wide.FinOn
import PyProof.EqAt
import PyProof.EqKinds
import PyProof.TupleCall
import PyProof.P3In
import PyProof.NeData
import PyProof.ConsumeS
import PyProof.WalksMore
import PyProof.ReprRoads
import PyProof.ReprLen
import PyProof.Draws
import PyProof.EnumMake
import PyProof.EnumFor
import PyProof.CallFns
import PyProof.Rows.CallKwBuiltin
import Lean
import PySem.Challenge.RW_rootwebs_k03_far_stars_and_steps
set_option Elab.async false
set_option linter.all false
set_option maxHeartbeats 1000000
set_option maxHeartbeats 2000000
set_option maxHeartbeats 400000
set_option maxHeartbeats 4000000
set_option maxRecDepth 100000
abbrev Jp:=@PySem.Value.isInt_shape
abbrev Jq:=@decide_eq_false
abbrev Jr:=@PySem.wpAny_eqBool_int
abbrev Js:=@if_pos
abbrev Jt:=@if_neg
abbrev Ju:=@Option.some.inj
abbrev Jv:=@PySem.Heap.lt_size
abbrev Jw:=@Nat.lt_of_lt_of_le
abbrev Jx:=@Nat.lt_irrefl
abbrev Jy:=@Nat.ne_of_lt
abbrev Jz:=@List.mem_filter
abbrev JA:=@List.mem_range
abbrev JB:=@Nat.le_trans
abbrev JC:=@Nat.le_of_lt
abbrev JD:=@List.filterMap_cons
abbrev JE:=@List.mem_cons_self
abbrev JF:=@List.mem_cons_of_mem
abbrev JG:=@List.mem_cons
abbrev JH:=@Ne.symm
abbrev JI:=@List.mem_append
abbrev JJ:=@List.mem_append_left
abbrev JK:=@List.getElem?_eq_some_iff
abbrev JL:=@List.getElem_inj
abbrev JM:=@List.getElem?_set_self
abbrev JN:=@List.getElem?_set_ne
abbrev JO:=@PySem.wpAny_mono
abbrev JP:=@PySem.wpAny_truthy_bool
abbrev JQ:=@Array.length_toList
abbrev JR:=@congrArg
abbrev JS:=@PySem.wpAny_execs_nil
abbrev JT:=@PySem.wpAny_bind
abbrev JU:=@PySem.wpAny_holding
abbrev JV:=@PySem.wpAny_standAt
abbrev JW:=@PySem.wpAny_passesOwn
abbrev JX:=@Bool.false_ne_true
abbrev JY:=@Nat.ne_of_gt
abbrev JZ:=@PySem.wpAny_pure
abbrev J0:=@PySem.wpAny_load
abbrev J1:=@PySem.Heap.get?_push_of_some
abbrev J2:=@PySem.Heap.get?_push_size
abbrev J3:=@Nat.le_refl
abbrev J4:=@PyProof.Rows.callWith_type1
abbrev J6:=@List.mem_filterMap
abbrev J7:=@List.mem_append_right
abbrev J8:=@Bool.eq_iff_iff
abbrev J9:=@PySem.sizeLine_eq
abbrev Ka:=@List.size_toArray
abbrev Kb:=@List.append_nil
abbrev Kc:=@PySem.codeAny_mono
abbrev Kd:=@PySem.wpAny_Call_Name_kw
abbrev Ke:=@List.nodup_cons
abbrev Kf:=@List.of_mem_zip
abbrev Kg:=@Option.isSome_iff_exists
abbrev Kh:=@List.length_take
abbrev Ki:=@PySem.mem_of_lookup
abbrev Kj:=@List.getElem?_append_right
abbrev Kk:=@List.getElem?_replicate
abbrev Kl:=@List.getElem?_append_left
abbrev Km:=@List.getElem?_map
abbrev Kn:=@List.getElem?_take_of_lt
abbrev Ko:=@List.mem_of_getElem?
abbrev Kq:=@List.length_append
abbrev Kr:=@List.length_map
abbrev Ks:=@PySem.noFill_tuple_add
abbrev Kt:=@PySem.F.slot_tuple_add
abbrev Ku:=@PySem.F.entry_tuple_add
abbrev Kv:=@PySem.F.args_tuple_add_2
abbrev Kw:=@Int.toNat_natCast
abbrev Kx:=@Nat.min_le_right
abbrev Ky:=@if_false
abbrev KA:=@if_true
abbrev KB:=@List.length_drop
abbrev KC:=@PySem.wpAny_callSpecial?_slot
abbrev KD:=@PyProof.Rows.slot_tuple_getitem
abbrev KE:=@PySem.wpAny_call_entry
abbrev KG:=@PySem.wpAny_typeOf
abbrev KH:=@Bool.and_eq_true
abbrev KJ:=@PySem.wpAny_newObj_type
abbrev KL:=@List.map_nil
abbrev KM:=@List.map_cons
abbrev KN:=@PySem.Heap.get?_update_self
abbrev KO:=@List.length_set
abbrev KQ:=@List.replicate_succ
abbrev KR:=@List.flatten_cons
abbrev KS:=@List.append_assoc
abbrev KU:=@List.foldl_cons
abbrev KW:=@PySem.call_meets
abbrev KY:=@List.length_singleton
abbrev KZ:=@Array.getElem?_toList
abbrev K0:=@List.nil_append
abbrev K1:=@decide_eq_true
abbrev K2:=@List.lookup_cons
abbrev K3:=@beq_self_eq_true
abbrev K4:=@Bool.false_eq_true
abbrev K5:=@List.length_cons
abbrev K6:=@Nat.lt_succ_self
abbrev K7:=@Nat.lt_succ_of_lt
abbrev K8:=@PySem.Heap.size_push
abbrev K9:=@PySem.pushCells_keeps
abbrev La:=@Option.bind_some
abbrev Lb:=@PySem.codeAny_of_tree
abbrev Lc:=@PySem.wpAny_askSetting
abbrev Ld:=@PySem.wpAny_rule
abbrev Le:=@Nat.zero_le
abbrev Lf:=@List.mem_singleton
abbrev Lg:=@List.range_succ_eq_map
abbrev Lh:=@List.map_map
abbrev Li:=@List.map_congr_left
abbrev Lj:=@List.length_range
abbrev Lk:=@List.length_nil
abbrev Ll:=@List.cons.inj
abbrev Lm:=@List.cons_append
abbrev Ln:=@Array.getElem?_eq_some_iff
abbrev Lo:=@List.take_of_length_le
abbrev Lp:=@List.mem_map
abbrev Lq:=@Classical.byContradiction
abbrev Lr:=@List.nodup_range
abbrev Ls:=@List.getElem?_of_mem
abbrev Lu:=@List.mem_map_of_mem
abbrev Lx:=@List.take_append_drop
abbrev Ly:=@List.pairwise_cons
abbrev Lz:=@List.map_append
abbrev LA:=@List.map_take
abbrev LB:=@List.map_drop
abbrev LC:=@Array.getD_eq_getD_getElem?
abbrev LD:=@Option.getD_some
abbrev LF:=@List.getElem?_drop
abbrev LG:=@List.mem_of_mem_take
abbrev LH:=@Array.getElem?_eq_none_iff
abbrev LI:=@List.nodup_nil
abbrev LJ:=@List.pairwise_lt_range
abbrev LK:=@List.perm_ext_iff_of_nodup
abbrev LL:=@Array.getElem?_eq_getElem
abbrev LM:=@List.all_eq_true
abbrev LN:=@Int.toNat_of_nonneg
abbrev LO:=@Bool.not_true
abbrev LP:=@PySem.wpAny_forIn_list
abbrev LQ:=@PySem.wpAny_setState_of
abbrev LR:=@Bool.and_self
abbrev LS:=@Array.mem_toList_iff
abbrev LU:=@List.nodup_append
abbrev LV:=@PySem.wpAny_storeSet_of
abbrev LW:=@PySem.putSet_of
abbrev LX:=@PySem.Heap.SameBut.update
abbrev LY:=@Bool.not_false
abbrev LZ:=@List.foldl_append
abbrev L3:=@PySem.codeAny_builtin
abbrev L4:=@PySem.Around.under_plainId
abbrev L5:=@PyProof.Rows.F.plain_set_update_loop
abbrev L6:=@PySem.wpAny_of_eq
abbrev L7:=@PySem.isSubtype_type
abbrev L8:=@PySem.F.called_set
abbrev L9:=@PySem.Code.quiet_builtin
abbrev Ma:=@PySem.codeAny_call_builtin
abbrev Mb:=@PySem.wpAny_pyIter_list
abbrev Mc:=@PySem.wpAny_runValue
abbrev Md:=@List.not_mem_nil
abbrev Me:=@or_false
abbrev Mf:=@PySem.wpAny_pyIter_tuple
abbrev Mg:=@List.take_add_one
abbrev Mh:=@List.take_length
abbrev Mi:=@PySem.W.KasT.kasWp_bind
abbrev Mj:=@decide_eq_decide
abbrev Ml:=@List.getD_eq_getElem?_getD
abbrev Mm:=@List.ext_getElem?
abbrev Mn:=@List.getElem?_range
abbrev Mo:=@List.getElem?_eq_none
abbrev Mp:=@List.pairwise_map
abbrev Mq:=@PyProof.Rows.listUpdate_at
abbrev Mr:=@PyProof.Rows.get?_update_seq
abbrev Ms:=@PySem.wpAny_newList
abbrev Mt:=@PyProof.Rows.size_push'
abbrev Mu:=@PySem.Heap.size_update
abbrev Mv:=@PySem.Heap.get?_update_ne
abbrev Mw:=@bne_self_eq_false
abbrev Mx:=@List.getElem_mem
abbrev My:=@List.getElem?_eq_getElem
abbrev Mz:=@PySem.wpAny_setEntries_of
abbrev MC:=@PySem.wpAny_setField_rec
abbrev MD:=@PySem.Calls.call_function_entry
abbrev MF:=@PyProof.Rows.entry_list_sort
abbrev MH:=@beq_iff_eq
abbrev MJ:=@of_eq_true
abbrev MK:=@eq_self
abbrev ML:=@decide_eq_true_eq
abbrev MM:=@List.eq_nil_of_length_eq_zero
abbrev MN:=@PyProof.Rows.boot_isinstance
abbrev MP:=@Int.le_antisymm
abbrev MQ:=@List.length_pos_iff
abbrev MR:=@Bool.or_eq_true
abbrev MU:=@List.filter_cons
abbrev MV:=@PySem.F.slot_list_iadd
abbrev MW:=@List.getElem_toArray
abbrev MX:=@List.findIdx_lt_length_of_exists
abbrev MY:=@PySem.PassesOwn.never
abbrev MZ:=@Int.emod_nonneg
abbrev M7:=@Int.emod_lt_of_pos
abbrev M8:=@List.set_cons_succ
abbrev M9:=@List.set_cons_zero
abbrev Na:=@List.filter_eq_self
abbrev Nb:=@List.mem_flatMap
abbrev Nd:=@List.filter_map
abbrev Nf:=@List.range_succ
abbrev Ng:=@List.flatMap_append
abbrev Nh:=@List.flatMap_cons
abbrev Ni:=@List.flatMap_nil
abbrev Nj:=@Bool.true_and
abbrev Nk:=@of_decide_eq_true
abbrev Nl:=@Int.min_eq_left
abbrev Np:=@Int.max_eq_right
abbrev Nq:=@Int.min_eq_right
abbrev Nr:=@Int.max_eq_left
abbrev Nt:=@decide_eq_true_iff
namespace L2
open PySem PySem.Spec PyProof.Rows
abbrev rl:=Sum Int Str
def DE:rl->Value->Bool
 | .inl k,v=>Value.isInt k v
 | .inr x,v=>Value.isStrOf x v
def Iy (w:World):rl->Int
 | .inl k=>hashInt k
 | .inr x=>hashStr w x
theorem cB:∀ {k:rl}{v:Value},DE k v=true->(∃ i t,k=Sum.inl i/\v=Value.int i t)\/(∃ x t,k=Sum.inr x/\v=Value.str x t)
 | .inl i,v,h=>by
  obtain ⟨t,e⟩:=Jp (k:=i) (v:=v) h
  exact .inl ⟨i,t,rfl,e⟩
 | .inr x,v,h=>by
  obtain ⟨t,e⟩:=Value.isStrOf_shape (x:=x) (v:=v) h
  exact .inr ⟨x,t,rfl,e⟩
theorem FM (a b:Int):decide ((Sum.inl a:rl)=Sum.inl b)=(a == b):=by
 by_cases e:a=b
 ·subst e;simp
 ·have h : ¬ (Sum.inl a : rl) = Sum.inl b := fun q => e (Sum.inl.inj q)
  rw [Jq h]
  exact (beq_eq_false_iff_ne.mpr e).symm
theorem FJ (a b:Str):decide ((Sum.inr a:rl)=Sum.inr b)=decide (a=b):=by
 by_cases e:a=b
 ·subst e;simp
 ·have h : ¬ (Sum.inr a : rl) = Sum.inr b := fun q => e (Sum.inr.inj q)
  rw [Jq h,Jq e]
theorem FL (a:Int) (b:Str):decide ((Sum.inl a:rl)=Sum.inr b)=false:=Jq (fun q=>nomatch q)
theorem FK (a:Str) (b:Int):decide ((Sum.inr a:rl)=Sum.inl b)=false:=Jq (fun q=>nomatch q)
def sd (prog:Program) (w:World):PySem.KeyKind prog w rl where
 is:=DE
 hash:=Iy w
 inj:=fun v a b ha hb=>by
  rcases cB ha with ⟨i,t,rfl,rfl⟩ | ⟨x,t,rfl,rfl⟩
  ·rcases cB hb with ⟨j, u, rfl, e⟩ | ⟨y, u, rfl, e⟩
   ·injection e with e1 _;rw [e1]
   ·exact nomatch e
  ·rcases cB hb with ⟨j, u, rfl, e⟩ | ⟨y, u, rfl, e⟩
   ·exact nomatch e
   ·injection e with e1 _;rw [e1]
 byValue:=fun k v h=>by
  rcases cB h with ⟨i,t,rfl,rfl⟩ | ⟨x,t,rfl,rfl⟩ <;> rfl
 pyHash:=fun hv h=>by
  rcases cB hv with ⟨i,t,rfl,rfl⟩ | ⟨x,t,rfl,rfl⟩
  ·exact wpAny_pyHash_int h
  ·exact wpAny_pyHash_str h
 eqBool:=fun hu hv h=>by
  rcases cB hu with ⟨i,t,rfl,rfl⟩ | ⟨x,t,rfl,rfl⟩
  ·rcases cB hv with ⟨j, u, rfl, rfl⟩ | ⟨y, u, rfl, rfl⟩
   ·rw [FM] at h;exact Jr h
   ·rw [FL] at h;exact SeqAt.EqAt.int_str i t y u _ _ _ _ h
  ·rcases cB hv with ⟨j, u, rfl, rfl⟩ | ⟨y, u, rfl, rfl⟩
   ·rw [FK] at h;exact SeqAt.EqAt.str_int x t j u _ _ _ _ h
   ·rw [FJ] at h;exact wpAny_eqBool_str h
 «strs»:=fun k x t v h=>by
  rcases cB h with ⟨i,u,rfl,e⟩ | ⟨y,u,rfl,e⟩
  ·exact nomatch e
  ·injection e with e1 _
   subst e1
   cases v <;> rfl
end L2
namespace L2
open PySem PySem.Spec PyProof.Rows
inductive V where
 | non | bl (b:Bool) | int (i:Int) | str (x:Str) | byt (b:Array UInt8) | flt (b:UInt64) | ref (a:Addr) | ty (n:String)
 deriving DecidableEq
def bL:V->Value->Prop
 | .non,u=>u=Value.none
 | .bl b,u=>u=Value.bool b
 | .int i,u=>∃ t,u=Value.int i t
 | .str x,u=>∃ t,u=Value.str x t
 | .byt b,u=>∃ t,u=Value.bytes b t
 | .flt b,u=>∃ t,u=Value.float b t
 | .ref a,u=>u=Value.ref a
 | .ty n,u=>u=Value.type n
abbrev bb:List V->List Value->Prop:=Paired bL
theorem bb.length {xs:List V}{us:List Value} (r:bb xs us):xs.length=us.length:=Paired.length r
theorem bb.get:∀ {xs:List V}{us:List Value}{i:Nat}{x:V},bb xs us->xs[i]?=some x->∃ u,us[i]?=some u/\bL x u
 | _,_,_,_,.nil,e=>by simp at e
 | _,_,0,_,.cons r _,e=>by simp at e;subst e;exact ⟨_,rfl,r⟩
 | _,_,i+1,x,.cons _ t,e=>by
  obtain ⟨u,h1,h2⟩:=bb.get (i:=i) (x:=x) t (by simpa using e)
  exact ⟨u,by simpa using h1,h2⟩
theorem bb.set {x:V}{u:Value} (r:bL x u):∀ {xs:List V}{us:List Value} (i:Nat),bb xs us->bb (xs.set i x) (us.set i u)
 | _,_,_,.nil=>.nil
 | _,_,0,.cons _ t=>.cons r t
 | _,_,i+1,.cons q t=>.cons q (bb.set r i t)
theorem bb.append:∀ {xs ys:List V}{us ws:List Value},bb xs us->bb ys ws->bb (xs++ys) (us++ws)
 | _,_,_,_,.nil,s=>s
 | _,_,_,_,.cons r t,s=>.cons r (bb.append t s)
theorem bb.take:∀ {xs:List V}{us:List Value} (n:Nat),bb xs us->bb (xs.take n) (us.take n)
 | _,_,0,_=>.nil
 | _,_,_+1,.nil=>.nil
 | _,_,n+1,.cons r t=>.cons r (bb.take n t)
theorem bb.drop:∀ {xs:List V}{us:List Value} (n:Nat),bb xs us->bb (xs.drop n) (us.drop n)
 | _,_,0,r=>r
 | _,_,_+1,.nil=>.nil
 | _,_,n+1,.cons _ t=>bb.drop n t
def GM:Option V->Option Value->Prop
 | some v,some u=>bL v u
 | none,none=>True
 | _,_=>False
def KV {κ:Type}:List (κ × V)->List (κ × Value)->Prop:=Paired fun (p:κ × V) (q:κ × Value)=>p.1=q.1/\bL p.2 q.2
def kV:rl->V
 | .inl i=>.int i
 | .inr x=>.str x
inductive HO where
 | lst (xs:List V)
 | tup (xs:List V)
 | dK (kvs:List (rl × V)) | dT (kvs:List (List rl × V))
 | set (S:Int->Bool) (n:Nat)
 | ins (C dx:Addr) (fs:List (Str × V))
 | own (x:Addr)
 | xd (fs:List (Str × V))
 | met (f x:Addr)
 | rng (lo hi:Int)
 | frz (o:Obj) (u:HO)
 | tbl (ps:Array Value)
 | ext (φ:Heap->Prop)
abbrev Hp:=Addr->Option HO
def cK (H:Hp) (a:Addr) (o:HO):Hp:=fun b=>if b=a then some o else H b
theorem cy {H:Hp}{a:Addr}{o:HO}:cK H a o a=some o:=by unfold cK;rw [Js rfl]
theorem bt {H:Hp}{a b:Addr}{o:HO} (h:b≠a):cK H a o b=H b:=by unfold cK;rw [Jt h]
theorem yT {H:Hp}{a b:Addr}{o u:HO} (h:H a=some o) (h':H b=some u) (d:o≠u):a≠b:=by
 intro e;subst e;rw [h] at h';exact d (Ju h')
theorem bP {H:Hp}{a b:Addr}{o:HO} (h:H a=some o) (h':H b=none):a≠b:=by
 intro e;subst e;rw [h] at h';cases h'
section
variable (P:Program) (w:World)
def dU (H:Hp) (h:Heap) (a:Addr):HO->Prop
 | .lst xs=>xs.length<=sizeLine/\∃ (its:List Value) (n:Nat),bb xs its/\h.get? a=some { cls:=.type "list",data:=.seq its.toArray n }
 | .tup xs=>xs.length<=sizeLine/\∃ its:List Value,bb xs its/\IsTup h a its.toArray
 | .dK kvs=>kvs.length<=sizeLine/\(a == sysModules)=false/\∃ vs,KV kvs vs/\h.DictOf (sd P w) a vs
 | .dT kvs=>kvs.length<=sizeLine/\(a == sysModules)=false/\∃ xs:List (List rl × Addr × Value),
   Paired (fun (p:List rl × V) (q:List rl × Addr × Value)=>p.1=q.1/\H q.2.1=some (.tup (p.1.map kV))/\bL p.2 q.2.2) kvs xs /\
   ∃ o es ep,h.get? a=some o/\o.ExactDict/\o.data=.dict es ep/\es.toList=xs.map (entryOfKey (tupleKind (sd P w)))/\(xs.map (·.1)).Nodup
 | .set S n=>h.SetOf (intKind P w) a S n
 | .ins C dx fs=>H dx=some (.own a)/\fs.length<=1000/\dx≠a/\h.get? a=some (W.instObj C dx) /\
   ∃ mA,h.Ns1 dx mA/\(∀ f,GM (fs.lookup f) (mA f))/\PySem.Within mA (fs.map (·.1))
 | .own _=>∃ o,h.get? a=some o
 | .xd fs=>∃ mA,h.Ns1 a mA/\∀ f,GM (fs.lookup f) (mA f)
 | .rng lo hi=>∃ t u v,h.get? a=some { cls:=.type "range",data:=.fields #[.int lo t,.int hi u,.int 1 v] }
 | .frz o u=>h.get? a=some o/\dU H h a u
 | .tbl ps=>h.get? a=some { cls:=.none,data:=.fields ps }
 | .met f x=>h.get? a=some (W.methodObj (.ref f) (.ref x))
 | .ext φ=>φ h/\(∃ o,h.get? a=some o)/\∀ h1 h2:Heap,φ h1->(∀ o,h1.get? a=some o->h2.get? a=some o)->φ h2
def mf (H:Hp) (h:Heap):Prop:=∀ a o,H a=some o->dU P w H h a o
end
section
variable {P:Program}{w:World}{H H':Hp}{h h':Heap}{a:Addr}{o:HO}
theorem dU.lt (x:dU P w H h a o):a<h.objs.size:=by
 cases o with
 | lst xs=>obtain ⟨_,_,_,_,e⟩:=x;exact Jv e
 | tup xs=>obtain ⟨_,_,_,p⟩:=x;exact p.lt
 | dK kvs=>obtain ⟨_,_,_,_,o,_,_,e,_⟩:=x;exact Jv e
 | dT kvs=>obtain ⟨_,_,_,_,o,_,_,e,_⟩:=x;exact Jv e
 | set S n=>obtain ⟨o,_,_,_,e,_⟩:=x;exact Jv e
 | ins C dx fs=>obtain ⟨_,_,_,e,_⟩:=x;exact Jv e
 | own y=>obtain ⟨_,e⟩:=x;exact Jv e
 | xd fs=>obtain ⟨_,⟨_,_,_,e,_⟩,_⟩:=x;exact Jv e
 | rng lo hi=>obtain ⟨_,_,_,e⟩:=x;exact Jv e
 | frz ob u=>obtain ⟨e,_⟩:=x;exact Jv e
 | tbl ps=>exact Jv (show h.get? a=some _ from x)
 | met f y=>exact Jv (show h.get? a=some _ from x)
 | ext φ=>obtain ⟨_,⟨_,e⟩,_⟩:=x;exact Jv e
theorem nu {α β:Type}{F G:α->β->Prop}:∀ {l₁:List α}{l₂:List β},Paired F l₁ l₂->(∀ a b,F a b->G a b)->Paired G l₁ l₂
 | _,_,.nil,_=>.nil
 | _,_,.cons r t,f=>.cons (f _ _ r) (nu t f)
theorem dU.stay (x:dU P w H h a o) (k:∀ b u,(b=a\/H b=some (.own a))->h.get? b=some u->h'.get? b=some u)
  (ho:∀ b,H b=some (.own a)->H' b=some (.own a)) (ht:∀ b xs,H b=some (.tup xs)->H' b=some (.tup xs)):dU P w H' h' a o:=by
 induction o with
 | lst xs=>obtain ⟨z,its,n,r,e⟩:=x;exact ⟨z,its,n,r,k _ _ (.inl rfl) e⟩
 | tup xs=>obtain ⟨z,its,r,ob,e,c⟩:=x;exact ⟨z,its,r,ob,k _ _ (.inl rfl) e,c⟩
 | dK kvs=>obtain ⟨z,y,vs,r,ob,es,ep,e,c⟩:=x;exact ⟨z,y,vs,r,ob,es,ep,k _ _ (.inl rfl) e,c⟩
 | dT kvs=>
  obtain ⟨z,y,xs,r,ob,es,ep,e,c⟩:=x
  exact ⟨z,y,xs,nu r fun p q z=>⟨z.1,ht _ _ z.2.1,z.2.2⟩,ob,es,ep,k _ _ (.inl rfl) e,c⟩
 | set S n=>obtain ⟨ob,es,ep,t,e,c⟩:=x;exact ⟨ob,es,ep,t,k _ _ (.inl rfl) e,c⟩
 | ins C dx fs=>
  obtain ⟨d,z,ne,e,mA,⟨od,es,ep,e2,c⟩,r⟩:=x
  exact ⟨ho _ d,z,ne,k _ _ (.inl rfl) e,mA,⟨od,es,ep,k _ _ (.inr d) e2,c⟩,r⟩
 | own y=>obtain ⟨ob,e⟩:=x;exact ⟨ob,k _ _ (.inl rfl) e⟩
 | xd fs=>obtain ⟨mA,⟨od,es,ep,e,c⟩,r⟩:=x;exact ⟨mA,⟨od,es,ep,k _ _ (.inl rfl) e,c⟩,r⟩
 | rng lo hi=>obtain ⟨t,u,v,e⟩:=x;exact ⟨t,u,v,k _ _ (.inl rfl) e⟩
 | frz ob u ih=>obtain ⟨e,q⟩:=x;exact ⟨k _ _ (.inl rfl) e,ih q⟩
 | tbl ps=>
  have e:h.get? a=some { cls:=.none,data:=.fields ps }:=x
  show h'.get? a=some { cls:=.none,data:=.fields ps }
  exact k a _ (.inl rfl) e
 | met f y=>
  have e:h.get? a=some (W.methodObj (.ref f) (.ref y)):=x
  show h'.get? a=some (W.methodObj (.ref f) (.ref y))
  exact k a _ (.inl rfl) e
 | ext φ=>obtain ⟨p,⟨o,e⟩,st⟩:=x;exact ⟨st _ _ p fun o q=>k _ _ (.inl rfl) q,⟨o,k _ _ (.inl rfl) e⟩,st⟩
theorem mf.lt (x:mf P w H h) (e:H a=some o):a<h.objs.size:=(x a o e).lt
theorem mf.fresh (x:mf P w H h) (e:h.objs.size<=a):H a=none:=by
 cases q:H a with
 | none=>rfl
 | some u=>exact absurd (Jw (x.lt q) e) (Jx _)
theorem mf.kept (x:mf P w H h) (k:∀ b u,h.get? b=some u->h'.get? b=some u):mf P w H h':=fun a o e=>
 (x a o e).stay (fun b u _ q=>k b u q) (fun _ q=>q) fun _ _ q=>q
theorem mf.laid (x:mf P w H h) (k:∀ b u,h.get? b=some u->h'.get? b=some u) (hp:h.objs.size<=a) (new:dU P w (cK H a o) h' a o):mf P w (cK H a o) h':=fun b u e=>by
 have hn:=x.fresh hp
 by_cases hb:b=a
 ·subst hb;rw [cy] at e;cases e;exact new
 ·rw [bt hb] at e
  exact (x b u e).stay (fun c v _ q=>k c v q) (fun c q=>by rw [bt (bP q hn)];exact q) fun c xs q=>by rw [bt (bP q hn)];exact q
end
def Rd (H:Hp) (a:Addr) (u:HO):Prop:=H a=some u\/∃ o,H a=some (.frz o u)
theorem Rd.ok {P:Program}{w:World}{H:Hp}{h:Heap}{a:Addr}{u:HO} (r:Rd H a u) (x:mf P w H h):dU P w H h a u:=by
 rcases r with r | ⟨o,r⟩
 ·exact x a u r
 ·obtain ⟨_, q⟩ := x a _ r
  exact q
def HP:Option HO->Prop
 | some (.lst _)=>True
 | some (.dK _)=>True
 | some (.dT _)=>True
 | some (.set _ _)=>True
 | some (.ins _ _ _)=>True
 | some (.ext _)=>True
 | _=>False
section
variable {P:Program}{w:World}{H:Hp}{h h':Heap}{x e:Addr}{o':HO}
theorem mf.write (ok:mf P w H h) (mu:HP (H x)) (he:e=x\/H e=some (.own x)) (k:∀ b u,b≠e->h.get? b=some u->h'.get? b=some u) (heo:∃ u,h'.get? e=some u)
  (new:dU P w (cK H x o') h' x o'):mf P w (cK H x o') h':=fun b u q=>by
 have nown:∀ c y,H c=some (.own y)->c≠x:=fun c y r z=>by subst z;rw [r] at mu;exact mu
 have ntup:∀ c xs,H c=some (.tup xs)->c≠x:=fun c xs r z=>by subst z;rw [r] at mu;exact mu
 by_cases hb:b=x
 ·subst hb;rw [cy] at q;cases q;exact new
 ·rw [bt hb] at q
  by_cases hbe:b=e
  ·have q':H b=some (.own x):=by
    rcases he with z | z
    ·exact absurd (hbe.trans z) hb
    ·rw [hbe];exact z
   rw [q] at q';cases q'
   obtain ⟨v,hv⟩:=heo
   exact ⟨v,by rw [hbe];exact hv⟩
  ·refine (ok b u q).stay (fun c v hc r => k c v ?_ r) (fun c r => by rw [bt (nown c b r)]; exact r) fun c xs r => by rw [bt (ntup c xs r)]; exact r
   rcases hc with rfl | hc
   ·exact hbe
   ·rintro rfl
    rcases he with z | z
    ·exact nown c b hc z
    ·rw [hc] at z;cases z;exact hb rfl
end
structure Un (fs ex:List Addr) (H H':Hp) (h h':Heap):Prop where
 keep:∀ b o,h.get? b=some o->H b=none->b ∉ fs->b ∉ ex->h'.get? b=some o
 slot:∀ b o,h.get? b=some o->H b=none->b∈fs->b ∉ ex->∃ sl,h'.get? b=some { o with slots:=sl }
 free:∀ b o,h.get? b=some o->H b=none->b ∉ ex->H' b=none
 there:∀ b o,h.get? b=some o->b ∉ ex->∃ o',h'.get? b=some o'
 tups:∀ b xs,H b=some (.tup xs)->H' b=some (.tup xs)
 frzs:∀ b o u,H b=some (.frz o u)->H' b=some (.frz o u)
 tbls:∀ b ps,H b=some (.tbl ps)->∃ more,H' b=some (.tbl (ps++more))
section
variable {fs fs' ex ex':List Addr}{H H1 H2:Hp}{h h1 h2 h':Heap}{a x e:Addr}{o:HO}
theorem Un.any (u:Un fs ex H H1 h h1) {b:Addr}{ob:Obj} (q:h.get? b=some ob) (n:H b=none) (hx:b ∉ ex):∃ sl,h1.get? b=some { ob with slots:=sl }:=by
 by_cases hb:b∈fs
 ·exact u.slot b ob q n hb hx
 ·exact ⟨ob.slots,u.keep b ob q n hb hx⟩
theorem Un.kept (k:∀ b u,h.get? b=some u->h'.get? b=some u):Un fs ex H H h h':=
 ⟨fun b ob q _ _ _=>k b ob q,fun b ob q _ _ _=>⟨ob.slots,k b ob q⟩,fun _ _ _ n _=>n,fun b ob q _=>⟨ob,k b ob q⟩,fun _ _ q=>q,fun _ _ _ q=>q,fun _ ps q=>⟨#[],by rw [q];simp⟩⟩
theorem Un.refl:Un fs ex H H h h:=Un.kept fun _ _ q=>q
theorem Un.laid (k:∀ b u,h.get? b=some u->h'.get? b=some u) (hp:h.objs.size<=a) (hn:H a=none):Un fs ex H (cK H a o) h h' where
 keep:=fun b u q _ _ _=>k b u q
 slot:=fun b u q _ _ _=>⟨u.slots,k b u q⟩
 free:=fun b u q n _=>by rw [bt (Jy (Jw (Jv q) hp))];exact n
 there:=fun b u q _=>⟨u,k b u q⟩
 tups:=fun b xs q=>by rw [bt (bP q hn)];exact q
 frzs:=fun b u xs q=>by rw [bt (bP q hn)];exact q
 tbls:=fun b ps q=>⟨#[],by rw [bt (bP q hn),q];simp⟩
theorem Un.write (mu:HP (H x)) (he:e=x\/H e=some (.own x)) (k:∀ b u,b≠e->h.get? b=some u->h'.get? b=some u) (heo:∃ u,h'.get? e=some u):Un fs ex H (cK H x o) h h':=by
 have hx:∀ b,H b=none->b≠x:=fun b n z=>by subst z;rw [n] at mu;exact mu
 have hb:∀ b,H b=none->b≠e:=fun b n z=>by
  subst z
  rcases he with r | r
  ·exact hx b n r
  ·rw [n] at r;cases r
 have hm:∀ b u,H b=some u->¬ HP (some u)->b≠x:=fun b u q nm z=>by subst z;rw [q] at mu;exact nm mu
 refine ⟨fun b u q n _ _=>k b u (hb b n) q,fun b u q n _ _=>⟨u.slots,k b u (hb b n) q⟩,fun b u q n _=>by rw [bt (hx b n)];exact n,fun b u q _=>?_,
  fun b xs q=>by rw [bt (hm b _ q fun z=>z)];exact q,fun b u xs q=>by rw [bt (hm b _ q fun z=>z)];exact q,fun b ps q=>⟨#[],by rw [bt (hm b _ q fun z=>z),q];simp⟩⟩
 by_cases hbe:b=e
 ·subst hbe;exact heo
 ·exact ⟨u,k b u hbe q⟩
end
def HG (h:Heap) (H:Hp):List Addr:=(List.range h.objs.size).filter fun a=>(H a).isSome
def rB (h:Heap) (H:Hp):Heap:=W.hideAll h (HG h H)
theorem x4 (h:Heap) (H:Hp):(rB h H).objs.size=h.objs.size:=W.hideAll_size _ _
theorem AF {h:Heap}{H:Hp}{b:Addr}{o:Obj} (e:h.get? b=some o) (n:H b=none):(rB h H).get? b=some o:=
 W.hideAll_get _ e fun hm=>by
  have q:(H b).isSome=true:=(Jz.mp hm).2
  rw [n] at q;simp at q
theorem CD {h:Heap}{H:Hp}{b:Addr}{o:Obj} (e:(rB h H).get? b=some o):h.get? b=some o/\H b=none:=by
 have e':h.get? b=some o:=W.of_hideAll (HG h H) e
 refine ⟨e',?_⟩
 cases q:H b with
 | none=>rfl
 | some x=>
  have hm:b∈HG h H:=Jz.mpr ⟨JA.mpr (Jv e'),by simp [q]⟩
  have z:(rB h H).get? b=none:=W.hideAll_none (HG h H) hm
  rw [z] at e;cases e
end L2
namespace L2
open PySem PySem.Spec PyProof.Rows
structure Mod (K:W.Frag) (mg:Str->Option Value) (base:Heap):Prop where
 kin:K.In base
 glob:base.Ns mainGlobals mg
 blt:∃ mb,base.Ns builtinsNs mb/\∀ x:Str,x ≠ "__name__" -> mb x=bootBuiltins x
 nolimit:base.NoLimit
structure Cx where
 prog:Program
 w:World
 K:W.Frag
 mg:Str->Option Value
 base:Heap
 A:Around
 N:List Str
 s₀:Shared
 H₀:Hp
 env:Env
 outer:List Env
 stack:List Env
 ex:List Addr
 fn:Str->Bool
 calm:Bool
 pn:List (Addr × Obj)
 xe:Value->Shared->Prop
def mY (l:List Env):List Addr:=l.filterMap (·.frame)
abbrev Cx.fs (X:Cx):List Addr:=mY X.outer
def HL (sc:Scope) (x:Str):Prop:=sc.names.lookup x=some .local\/sc.names.lookup x=some .cell\/sc.names.lookup x=some .free
def xa (sc:Scope) (x:Str):Prop:=sc.names.lookup x=some .local\/sc.names.lookup x=some .cell
def IL (env:Env) (h:Heap) (m:Str->Option Value) (x:Str) (u:Value):Prop:=
 (env.kindOf x=some .local/\m x=some u)\/((env.kindOf x=some .cell\/env.kindOf x=some .free)/\∃ c,env.cells.lookup x=some c/\h.IsCell c (some u))
structure Cx.Ok (X:Cx):Prop where
 mod:Mod X.K X.mg X.base
 kind:X.env.scope.kind=.function
 glob:X.env.globals=mainGlobals
 blt:X.env.builtins=builtinsNs
 above:X.s₀.heap.objs.size<=X.env.locals
 inj:∀ x y c,X.env.cells.lookup x=some c->X.env.cells.lookup y=some c->x=y
 has:∀ x,(X.env.kindOf x=some .cell\/X.env.kindOf x=some .free)->∃ c,X.env.cells.lookup x=some c
 cab:∀ x c,X.fn x=true->X.env.cells.lookup x=some c->X.s₀.heap.objs.size<=c
 hd:X.calm=true->X.A.handled=none
 frames:X.A.frames=some X.stack
 stk:X.stack=X.outer\/(X.stack=X.env::X.outer/\X.env.frame=some X.env.locals)
 exf:∀ b∈X.ex,b≠X.env.locals/\∀ x c,X.env.cells.lookup x=some c->c≠b
 bs:∀ b o,X.base.get? b=some o->X.s₀.heap.get? b=some o/\X.H₀ b=none
 bsz:X.base.objs.size<=X.s₀.heap.objs.size
 noex:∀ b o,X.base.get? b=some o->b ∉ X.ex
 exfs:∀ b∈X.ex,b ∉ X.fs
 funs:X.s₀.heap.FunFrames X.base X.outer
 frf:∀ b∈X.fs,X.H₀ b=none
structure aO (X:Cx) (pins:List (Addr × Obj)) (σ:List (Option V)) (H:Hp) (s:Shared):Prop where
 ok:X.Ok
 os:s.os=X.s₀.os
 bare:AllBare s.gens
 base:Un X.fs X.ex X.H₀ H X.s₀.heap s.heap
 loc:∃ m,s.heap.Ns X.env.locals m/\∀ (i:Nat) (x:Str) (v:V),X.N[i]?=some x->σ[i]?=some (some v)->HL X.env.scope x->∃ u,bL v u/\IL X.env s.heap m x u
 cell:∀ x c,X.env.cells.lookup x=some c->∃ v,s.heap.IsCell c v
 free:H X.env.locals=none
 freeC:∀ x c,X.env.cells.lookup x=some c->H c=none
 pin:∀ p∈X.pn++pins,s.heap.get? p.1=some p.2/\H p.1=none/\p.1≠X.env.locals/\p.1 ∉ X.fs/\∀ v,p.2.data≠.cell v
 hok:mf X.prog X.w H s.heap
 len:σ.length=X.N.length
section
variable {X:Cx}{pins:List (Addr × Obj)}{σ:List (Option V)}{H H':Hp}{s:Shared}{h':Heap}
theorem Cx.Ok.nofr (ok:X.Ok) {b:Addr}{o:Obj} (e:X.base.get? b=some o):b ∉ X.fs:=fun hb=>by
 have:=(ok.funs.mem hb).1
 rw [e] at this;cases this
theorem aO.bs (I:aO X pins σ H s):∀ b o,X.base.get? b=some o->s.heap.get? b=some o/\H b=none:=fun b o e=>
 ⟨I.base.keep b o (I.ok.bs b o e).1 (I.ok.bs b o e).2 (I.ok.nofr e) (I.ok.noex b o e),I.base.free b o (I.ok.bs b o e).1 (I.ok.bs b o e).2 (I.ok.noex b o e)⟩
theorem aO.bk (I:aO X pins σ H s):∀ b o,X.base.get? b=some o->s.heap.get? b=some o:=fun b o e=>(I.bs b o e).1
theorem aO.mod (I:aO X pins σ H s):Mod X.K X.mg X.base:=I.ok.mod
theorem aO.kIn (I:aO X pins σ H s):X.K.In s.heap:=I.ok.mod.kin.keeps I.bk
theorem aO.lt (I:aO X pins σ H s):X.env.locals<s.heap.objs.size:=let ⟨_,hn,_⟩:=I.loc;hn.lt
theorem aO.sz (I:aO X pins σ H s):X.s₀.heap.objs.size<=s.heap.objs.size:=JB I.ok.above (JC I.lt)
theorem aO.nofs (I:aO X pins σ H s) {a:Addr} (h:s.heap.objs.size<=a):a ∉ X.fs:=fun hb=>by
 obtain ⟨_,o,ho,_⟩:=I.ok.funs.mem hb
 exact absurd (Jw (Jv ho) (JB I.sz h)) (Jx _)
theorem aO.cne (I:aO X pins σ H s):∀ x c,X.env.cells.lookup x=some c->c≠X.env.locals:=fun x c e z=>by
 obtain ⟨v,o,ho,hd⟩:=I.cell x c e
 obtain ⟨m,⟨o',es,ep,ho',hd',_⟩,_⟩:=I.loc
 rw [z,ho'] at ho;cases ho;rw [hd'] at hd;cases hd
theorem aO.funs (I:aO X pins σ H s):s.heap.FunFrames X.base X.outer:=by
 have all:∀ (l:List Env),(∀ b∈mY l,b∈X.fs)->X.s₀.heap.FunFrames X.base l->s.heap.FunFrames X.base l:=by
  intro l
  induction l with
  | nil=>intro _ _;trivial
  | cons env r ih=>
   intro hs hl
   obtain ⟨hk,⟨L,o,hf,hn,ho,hd⟩,hr⟩:=hl
   have hL:L∈X.fs:=hs L (by unfold mY;rw [JD,hf];exact JE)
   obtain ⟨sl,e⟩:=I.base.slot L o ho (I.ok.frf L hL) hL fun z=>I.ok.exfs L z hL
   exact ⟨hk,⟨L,_,hf,hn,e,hd⟩,ih (fun b hb=>hs b (by unfold mY;rw [JD,hf];exact JF _ hb)) hr⟩
 exact all X.outer (fun _ hb=>hb) I.ok.funs
theorem aO.stack (I:aO X pins σ H s):s.heap.FunFrames X.base X.stack:=by
 rcases I.ok.stk with e | ⟨e,hf⟩
 ·rw [e];exact I.funs
 ·rw [e]
  obtain ⟨m,hn,_⟩:=I.loc
  refine .cons (by rw [I.ok.kind];decide) hf hn ?_ I.funs
  exact Heap.get?_none_of_le (JB I.ok.bsz I.ok.above)
theorem aO.stkSub (I:aO X pins σ H s):∀ b∈mY X.stack,b∈X.env.locals::X.fs:=fun b hb=>by
 rcases I.ok.stk with e | ⟨e,hf⟩
 ·rw [e] at hb;exact JF _ hb
 ·rw [e] at hb
  unfold mY at hb
  rw [JD,hf] at hb
  exact hb
theorem aO.stkFree (I:aO X pins σ H s):∀ b∈mY X.stack,H b=none:=fun b hb=>by
 rcases JG.mp (I.stkSub b hb) with e | hb
 ·rw [e];exact I.free
 ·obtain ⟨_, o, ho, _⟩ := I.ok.funs.mem hb
  exact I.base.free b o ho (I.ok.frf b hb) fun z=>I.ok.exfs b z hb
theorem aO.step {g':Array GenState}{t':Nat}{d':Drawn}{ch:List Addr} (I:aO X pins σ H s)
  (hch:∀ b∈ch,(b∈X.ex\/X.s₀.heap.objs.size<=b)/\b≠X.env.locals/\(∀ x c,X.env.cells.lookup x=some c->c≠b)/\∀ p∈X.pn++pins,p.1≠b)
  (keep:∀ b o,b≠X.env.locals->b ∉ X.fs->b ∉ ch->s.heap.get? b=some o->H b=none->h'.get? b=some o)
  (slot:∀ b o,b≠X.env.locals->b∈X.fs->b ∉ ch->s.heap.get? b=some o->H b=none->∃ sl,h'.get? b=some { o with slots:=sl }) (free:∀ b o,b ∉ ch->s.heap.get? b=some o->H b=none->H' b=none)
  (there:∀ b o,b ∉ ch->s.heap.get? b=some o->∃ o',h'.get? b=some o')
  (tups:∀ b xs,H b=some (.tup xs)->H' b=some (.tup xs)) (frzs:∀ b o u,H b=some (.frz o u)->H' b=some (.frz o u)) (tbls:∀ b ps,H b=some (.tbl ps)->∃ more,H' b=some (.tbl (ps++more)))
  (ns:∀ m,s.heap.Ns X.env.locals m->h'.Ns X.env.locals m) (hok:mf X.prog X.w H' h') (hg:AllBare g') :
  aO X pins σ H' { s with heap:=h',gens:=g',drawn:=d',toks:=t' }:=by
 have neL:∀ b o,X.s₀.heap.get? b=some o->b≠X.env.locals:=fun b o e=>Jy (Jw (Jv e) I.ok.above)
 have neC:∀ b o,X.s₀.heap.get? b=some o->b ∉ X.ex->b ∉ ch:=fun b o e hx hb=>by
  rcases (hch b hb).1 with z | z
  ·exact hx z
  ·exact absurd (Jw (Jv e) z) (Jx _)
 have cellK:∀ x c,X.env.cells.lookup x=some c->∀ v,s.heap.IsCell c v->h'.IsCell c v:=fun x c e v ⟨o,ho,hd⟩=>by
  have nch:c ∉ ch:=fun z=>(hch c z).2.2.1 x c e rfl
  by_cases hc:c∈X.fs
  ·obtain ⟨sl, q⟩ := slot c o (I.cne x c e) hc nch ho (I.freeC x c e)
   exact ⟨_,q,hd⟩
  ·exact ⟨o,keep c o (I.cne x c e) hc nch ho (I.freeC x c e),hd⟩
 refine ⟨I.ok,I.os,hg,⟨fun b o e n hb hx=>?_,fun b o e n hb hx=>?_,fun b o e n hx=>?_,fun b o e hx=>?_,fun b xs e=>tups b xs (I.base.tups b xs e),fun b o xs e=>frzs b o xs (I.base.frzs b o xs e),fun b ps e=>?_⟩,?_,fun x c e=>?_,?_,fun x c e=>?_,fun p hp=>?_,hok,I.len⟩
 ·exact keep b o (neL b o e) hb (neC b o e hx) (I.base.keep b o e n hb hx) (I.base.free b o e n hx)
 ·obtain ⟨sl, e1⟩ := I.base.slot b o e n hb hx
  obtain ⟨sl',e2⟩:=slot b _ (neL b o e) hb (neC b o e hx) e1 (I.base.free b o e n hx)
  exact ⟨sl',e2⟩
 ·obtain ⟨o', e1⟩ := I.base.there b o e hx
  exact free b o' (neC b o e hx) e1 (I.base.free b o e n hx)
 ·obtain ⟨o', e1⟩ := I.base.there b o e hx
  exact there b o' (neC b o e hx) e1
 ·obtain ⟨m1, e1⟩ := I.base.tbls b ps e
  obtain ⟨m2,e2⟩:=tbls b _ e1
  exact ⟨m1++m2,by rw [e2,Array.append_assoc]⟩
 ·obtain ⟨m, hn, hl⟩ := I.loc
  refine ⟨m,ns m hn,fun i x v e1 e2 e3=>?_⟩
  obtain ⟨u,r,l⟩:=hl i x v e1 e2 e3
  refine ⟨u,r,?_⟩
  rcases l with l | ⟨k,c,e,z⟩
  ·exact .inl l
  ·exact .inr ⟨k,c,e,cellK x c e _ z⟩
 ·obtain ⟨v, z⟩ := I.cell x c e
  exact ⟨v,cellK x c e v z⟩
 ·obtain ⟨m, ⟨o, _, _, ho, _⟩, _⟩ := I.loc
  exact free _ o (fun z=>(hch _ z).2.1 rfl) ho I.free
 ·obtain ⟨v, o, ho, hd⟩ := I.cell x c e
  exact free c o (fun z=>(hch c z).2.2.1 x c e rfl) ho (I.freeC x c e)
 ·obtain ⟨e, n, ne, nf, d⟩ := I.pin p hp
  have nch:p.1 ∉ ch:=fun z=>(hch p.1 z).2.2.2 p hp rfl
  exact ⟨keep p.1 p.2 ne nf nch e n,free p.1 p.2 nch e n,ne,nf,d⟩
theorem aO.un {t':Nat} (I:aO X pins σ H s) (u:Un X.fs [] H H' s.heap h') (hok:mf X.prog X.w H' h'):aO X pins σ H' { s with heap:=h',toks:=t' }:=by
 obtain ⟨m,⟨o,es,ep,ho,r⟩,_⟩:=id I.loc
 obtain ⟨sl,hL⟩:=u.any ho I.free (by simp)
 exact I.step (g':=s.gens) (d':=s.drawn) (ch:=[]) (fun _ z=>nomatch z) (fun b o _ hb _ e n=>u.keep b o e n hb (by simp)) (fun b o _ hb _ e n=>u.slot b o e n hb (by simp)) (fun b o _ e n=>u.free b o e n (by simp)) (fun b o _ e=>u.there b o e (by simp)) u.tups u.frzs u.tbls (fun m' hm=>by
  obtain ⟨o',es',ep',ho',r'⟩:=hm
  rw [ho] at ho';cases ho'
  exact ⟨_,es',ep',hL,r'⟩) hok I.bare
theorem aO.call {g':Array GenState}{t':Nat}{d':Drawn}{ch:List Addr} (I:aO X pins σ H s) (u:Un (mY X.stack) ch H H' s.heap h') (hok:mf X.prog X.w H' h') (hg:AllBare g')
  (hch:∀ b∈ch,(b∈X.ex\/X.s₀.heap.objs.size<=b)/\b≠X.env.locals/\(∀ x c,X.env.cells.lookup x=some c->c≠b)/\∀ p∈X.pn++pins,p.1≠b) :
  aO X pins σ H' { s with heap:=h',gens:=g',drawn:=d',toks:=t' }:=by
 obtain ⟨m,⟨o,es,ep,ho,r⟩,_⟩:=id I.loc
 obtain ⟨sl,hL⟩:=u.any ho I.free fun z=>(hch _ z).2.1 rfl
 exact I.step (ch:=ch) hch (fun b o hL hb hc e n=>u.keep b o e n (fun z=>(JG.mp (I.stkSub b z)).elim hL hb) hc) (fun b o _ _ hc e n=>u.any e n hc) (fun b o hc e n=>u.free b o e n hc) (fun b o hc e=>u.there b o e hc) u.tups u.frzs u.tbls (fun m' hm=>by
  obtain ⟨o',es',ep',ho',r'⟩:=hm
  rw [ho] at ho';cases ho'
  exact ⟨_,es',ep',hL,r'⟩) hok hg
theorem aO.turned {t':Nat}{it:Addr} (I:aO X pins σ H s) (k:∀ b o,b≠it->s.heap.get? b=some o->h'.get? b=some o) (hn:H it=none) (hL:it≠X.env.locals)
  (h1:it∈X.ex\/X.s₀.heap.objs.size<=it) (h2:∀ x c,X.env.cells.lookup x=some c->c≠it) (h3:∀ p∈X.pn++pins,p.1≠it):aO X pins σ H { s with heap:=h',toks:=t' }:=by
 have nit:∀ b u,H b=some u->b≠it:=fun b u e z=>by rw [z,hn] at e;cases e
 refine I.step (g':=s.gens) (d':=s.drawn) (ch:=[it]) (fun b hb=>?_) (fun b o _ _ hc e _=>k b o (fun z=>hc (by simp [z])) e) (fun b o _ _ hc e _=>⟨o.slots,k b o (fun z=>hc (by simp [z])) e⟩) (fun _ _ _ _ n=>n)
  (fun b o hc e=>⟨o,k b o (fun z=>hc (by simp [z])) e⟩) (fun _ _ e=>e) (fun _ _ _ e=>e) (fun b ps e=>⟨#[],by rw [e];simp⟩) (fun m hm=>?_) (fun b u e=>?_) I.bare
 ·have e : b = it := by simpa using hb
  subst e
  exact ⟨h1,hL,h2,h3⟩
 ·obtain ⟨o, es, ep, ho, r⟩ := hm
  exact ⟨o,es,ep,k _ o (JH hL) ho,r⟩
 ·refine (I.hok b u e).stay (fun c v hc q => k c v ?_ q) (fun _ q => q) fun _ _ q => q
  rcases hc with z | z
  ·rw [z];exact nit b u e
  ·exact nit c _ z
theorem aO.tok (I:aO X pins σ H s) (t:Nat):aO X pins σ H { s with toks:=t }:=I.un (h':=s.heap) (t':=t) Un.refl I.hok
theorem aO.kept {t':Nat} (I:aO X pins σ H s) (k:∀ b u,s.heap.get? b=some u->h'.get? b=some u):aO X pins σ H { s with heap:=h',toks:=t' }:=I.un (Un.kept k) (I.hok.kept k)
theorem aO.laid {a:Addr}{o:HO}{t':Nat} (I:aO X pins σ H s) (k:∀ b u,s.heap.get? b=some u->h'.get? b=some u) (hp:s.heap.objs.size<=a) (new:dU X.prog X.w (cK H a o) h' a o) :
  aO X pins σ (cK H a o) { s with heap:=h',toks:=t' }:=I.un (Un.laid k hp (I.hok.fresh hp)) (I.hok.laid k hp new)
theorem aO.write {x e:Addr}{o:HO}{t':Nat} (I:aO X pins σ H s) (mu:HP (H x)) (he:e=x\/H e=some (.own x)) (k:∀ b u,b≠e->s.heap.get? b=some u->h'.get? b=some u) (heo:∃ u,h'.get? e=some u)
  (new:dU X.prog X.w (cK H x o) h' x o):aO X pins σ (cK H x o) { s with heap:=h',toks:=t' }:=I.un (Un.write mu he k heo) (I.hok.write mu he k heo new)
theorem aO.pins_of {pins':List (Addr × Obj)} (I:aO X pins σ H s) (h:∀ p∈pins',s.heap.get? p.1=some p.2/\H p.1=none/\p.1≠X.env.locals/\p.1 ∉ X.fs/\∀ v,p.2.data≠.cell v):aO X pins' σ H s:=
 ⟨I.ok,I.os,I.bare,I.base,I.loc,I.cell,I.free,I.freeC,fun p hp=>(JI.mp hp).elim (fun z=>I.pin p (JJ _ z)) (h p),I.hok,I.len⟩
theorem t7 {N:List Str} (hN:N.Nodup) {i j:Nat}{x:Str} (a:N[i]?=some x) (b:N[j]?=some x):i=j:=by
 obtain ⟨h1,e1⟩:=JK.mp a
 obtain ⟨h2,e2⟩:=JK.mp b
 exact (JL hN).mp (e1.trans e2.symm)
theorem qA {M:Model}{A:Around}{E:Value->Shared->Prop}{i:Nat}{x:Str}{v:V}{u:Value}{Q:Unit->Shared->Prop} (I:aO X pins σ H s) (hN:X.N.Nodup) (hi:X.N[i]?=some x) (hx:xa X.env.scope x) (r:bL v u)
  (h:∀ s',aO X pins (σ.set i (some v)) H s'->(∃ a,Heap.SameBut a s.heap s'.heap/\(a=X.env.locals\/X.env.cells.lookup x=some a))->Q () s') (hf:X.fn x=true\/X.env.scope.names.lookup x=some .local:=by first | exact .inl rfl | exact .inr rfl | assumption):wpAny M A (storeName X.env x u) Q E s:=by
 obtain ⟨m,hn,hl⟩:=id I.loc
 have hcls:(X.env.scope.kind == .class || (X.env.scope.kind == .module && X.env.locals != X.env.globals))=false:=by rw [I.ok.kind];rfl
 have hiσ:i<σ.length:=by rw [I.len];exact (JK.mp hi).1
 have cne:=I.cne
 have tracked:∀ {a:Addr}{h':Heap},(∃ o,s.heap.get? a=some o/\H a=none)->Heap.SameBut a s.heap h'->mf X.prog X.w H h':=fun {a h'} ha hs b ob e=>by
  obtain ⟨_,_,hfree⟩:=ha
  refine (I.hok b ob e).stay (fun c w' hc q=>(hs.2 c ?_).trans q) (fun _ q=>q) fun _ _ q=>q
  rintro rfl
  rcases hc with rfl | hc
  ·rw [hfree] at e;cases e
  ·rw [hfree] at hc;cases hc
 rcases hx with hk | hk
 ·refine wpAny_storeName_local hk hn (fun h' hn' hs => ?_) hcls
  obtain ⟨oL,_,_,hoL,_⟩:=id hn
  refine h _ ⟨I.ok,I.os,I.bare,⟨fun b o e n hb hx=>?_,fun b o e n hb hx=>?_,I.base.free,fun b o e hx=>?_,I.base.tups,I.base.frzs,I.base.tbls⟩,⟨_,hn',fun j y v' e1 e2 e3=>?_⟩,fun y c e=>?_,I.free,I.freeC,fun p hp=>?_,tracked ⟨oL,hoL,I.free⟩ hs,by simpa using I.len⟩ ⟨_,hs,.inl rfl⟩
  ·exact (hs.2 b (Jy (Jw (Jv e) I.ok.above))).trans (I.base.keep b o e n hb hx)
  ·obtain ⟨sl, e1⟩ := I.base.slot b o e n hb hx
   exact ⟨sl,(hs.2 b (Jy (Jw (Jv e) I.ok.above))).trans e1⟩
  ·obtain ⟨o', e1⟩ := I.base.there b o e hx
   exact ⟨o',(hs.2 b (Jy (Jw (Jv e) I.ok.above))).trans e1⟩
  ·by_cases hj : j = i
   ·subst hj
    rw [hi] at e1;cases e1
    rw [JM hiσ] at e2
    cases e2
    exact ⟨u,r,.inl ⟨hk,by simp⟩⟩
   ·rw [JN (JH hj)] at e2
    obtain ⟨u',r',q⟩:=hl j y v' e1 e2 e3
    refine ⟨u',r',?_⟩
    rcases q with ⟨k,e⟩ | ⟨k,c,e,z⟩
    ·refine .inl ⟨k, ?_⟩
     have:y≠x:=fun e=>hj (t7 hN e1 (e ▸ hi))
     simp [this,e]
    ·exact .inr ⟨k,c,e,z.sameBut hs (cne y c e)⟩
  ·obtain ⟨w', z⟩ := I.cell y c e
   exact ⟨w',z.sameBut hs (cne y c e)⟩
  ·obtain ⟨e, n, ne, nf, d⟩ := I.pin p hp
   exact ⟨(hs.2 p.1 ne).trans e,n,ne,nf,d⟩
 ·have hfn:X.fn x=true:=by
   rcases hf with z | z
   ·exact z
   ·rw [z] at hk;cases hk
  obtain ⟨c,hc⟩:=I.ok.has x (.inl hk)
  obtain ⟨w',z⟩:=I.cell x c hc
  refine wpAny_storeName_cell I.ok.kind hk hc z (fun h' hc' hs=>?_)
  obtain ⟨oc,hoc,hocd⟩:=id z
  refine h { s with heap:=h' } ⟨I.ok,I.os,I.bare,⟨fun b o e n hb hx=>?_,fun b o e n hb hx=>?_,I.base.free,fun b o e hx=>?_,I.base.tups,I.base.frzs,I.base.tbls⟩,⟨m,hn.sameBut hs (JH (cne x c hc)),fun j y v' e1 e2 e3=>?_⟩,fun y c' e=>?_,I.free,I.freeC,fun p hp=>?_,tracked ⟨oc,hoc,I.freeC x c hc⟩ hs,by simpa using I.len⟩ ⟨c,hs,.inr hc⟩
  ·exact (hs.2 b (Jy (Jw (Jv e) (I.ok.cab x c hfn hc)))).trans (I.base.keep b o e n hb hx)
  ·obtain ⟨sl, e1⟩ := I.base.slot b o e n hb hx
   exact ⟨sl,(hs.2 b (Jy (Jw (Jv e) (I.ok.cab x c hfn hc)))).trans e1⟩
  ·obtain ⟨o', e1⟩ := I.base.there b o e hx
   exact ⟨o',(hs.2 b (Jy (Jw (Jv e) (I.ok.cab x c hfn hc)))).trans e1⟩
  ·by_cases hj : j = i
   ·subst hj
    rw [hi] at e1;cases e1
    rw [JM hiσ] at e2
    cases e2
    exact ⟨u,r,.inr ⟨.inl hk,c,hc,hc'⟩⟩
   ·rw [JN (JH hj)] at e2
    obtain ⟨u',r',q⟩:=hl j y v' e1 e2 e3
    refine ⟨u',r',?_⟩
    rcases q with q | ⟨k,c',e,z'⟩
    ·exact .inl q
    ·refine .inr ⟨k, c', e, z'.sameBut hs ?_⟩
     rintro rfl
     exact hj (t7 hN e1 (I.ok.inj _ _ _ e hc ▸ hi))
  ·by_cases hcc : c' = c
   ·subst hcc;exact ⟨_,hc'⟩
   ·obtain ⟨w2, z2⟩ := I.cell y c' e
    exact ⟨w2,z2.sameBut hs hcc⟩
  ·obtain ⟨e, n, ne, nf, d⟩ := I.pin p hp
   refine ⟨(hs.2 p.1 ?_).trans e,n,ne,nf,d⟩
   intro q
   rw [q,hoc] at e
   have q':oc=p.2:=Ju e
   exact d w' (by rw [<- q'];exact hocd)
theorem lG {M:Model}{A:Around}{E:Value->Shared->Prop}{i:Nat}{x:Str}{v:V}{u:Value}{Q:Unit->Shared->Prop} (I:aO X pins σ H s) (hN:X.N.Nodup) (hi:X.N[i]?=some x) (hx:xa X.env.scope x) (r:bL v u)
  (h:∀ s',aO X pins (σ.set i (some v)) H s'->Q () s') (hf:X.fn x=true\/X.env.scope.names.lookup x=some .local:=by first | exact .inl rfl | exact .inr rfl | assumption):wpAny M A (storeName X.env x u) Q E s:=
 qA I hN hi hx r (fun s' I' _=>h s' I') hf
theorem aO.call' {s':Shared}{ch:List Addr} (I:aO X pins σ H s) (ho:s'.os=s.os) (u:Un (mY X.stack) ch H H' s.heap s'.heap) (hok:mf X.prog X.w H' s'.heap) (hg:AllBare s'.gens)
  (hch:∀ b∈ch,(b∈X.ex\/X.s₀.heap.objs.size<=b)/\b≠X.env.locals/\(∀ x c,X.env.cells.lookup x=some c->c≠b)/\∀ p∈X.pn++pins,p.1≠b):aO X pins σ H' s':=by
 obtain ⟨h',g',d',t',o'⟩:=s'
 have e:o'=s.os:=ho
 subst e
 exact I.call (g':=g') (t':=t') (d':=d') u hok hg hch
end
abbrev XK:=Value->Option Addr->Hp->Prop
abbrev St:=List (Option V)
abbrev VK:=V->Hp->Prop
abbrev TE:=St->Hp->VK->Prop
abbrev TT:=St->Hp->(Bool->Hp->Prop)->Prop
abbrev TA:=St->Hp->(List V->Hp->Prop)->Prop
structure ml where
 nx:St->Hp->Prop
 rt:VK
 bk:St->Hp->Prop:=fun _ _=>False
 ct:St->Hp->Prop:=fun _ _=>False
abbrev TS:=ml->St->Hp->Prop
def EP (X:Cx) (pins:List (Addr × Obj)) (σ:St) (Q:VK) (u:Value) (s':Shared):Prop:=∃ v H',aO X pins σ H' s'/\bL v u/\Q v H'
def TP (X:Cx) (pins:List (Addr × Obj)) (σ:St) (Q:Bool->Hp->Prop) (b:Bool) (s':Shared):Prop:=∃ H',aO X pins σ H' s'/\Q b H'
def AP (X:Cx) (pins:List (Addr × Obj)) (σ:St) (Q:List V->Hp->Prop) (us:List Value) (s':Shared):Prop:=∃ vs H',aO X pins σ H' s'/\bb vs us/\Q vs H'
def SP (X:Cx) (pins:List (Addr × Obj)) (D:ml) (f:Flow) (s':Shared):Prop:=
 match f with
 | .next=>∃ σ' H',aO X pins σ' H' s'/\D.nx σ' H'
 | .brk=>∃ σ' H',aO X pins σ' H' s'/\D.bk σ' H'
 | .cont=>∃ σ' H',aO X pins σ' H' s'/\D.ct σ' H'
 | .ret u=>∃ v σ' H',aO X pins σ' H' s'/\bL v u/\D.rt v H'
def PE (X:Cx) (e:Expr) (t:TE):Prop:=
 ∀ (pins:List (Addr × Obj)) (s:Shared) (σ:St) (H:Hp) (Q:VK),aO X pins σ H s->t σ H Q->wpAny (model X.prog X.w) X.A (eval e X.env) (EP X pins σ Q) X.xe s
def PT (X:Cx) (e:Expr) (t:TT):Prop:=
 ∀ (pins:List (Addr × Obj)) (s:Shared) (σ:St) (H:Hp) (Q:Bool->Hp->Prop),aO X pins σ H s->t σ H Q->wpAny (model X.prog X.w) X.A (isTrue e X.env (eval e X.env)) (TP X pins σ Q) X.xe s
def PW (X:Cx) (e:Expr) (t:TT):Prop:=
 ∀ (whole:Sem Value) (pins:List (Addr × Obj)) (s:Shared) (σ:St) (H:Hp) (Q:Bool->Hp->Prop),aO X pins σ H s->t σ H Q->wpAny (model X.prog X.w) X.A (isTrue e X.env whole) (TP X pins σ Q) X.xe s
theorem PW.pt {X:Cx}{e:Expr}{t:TT} (h:PW X e t):PT X e t:=h _
def PA (X:Cx) (es:List Expr) (t:TA):Prop:=
 ∀ (pos:Pos) (pins:List (Addr × Obj)) (s:Shared) (σ:St) (H:Hp) (Q:List V->Hp->Prop),aO X pins σ H s->t σ H Q->wpAny (model X.prog X.w) X.A (spliced (backTo pos (starEach es X.env))) (AP X pins σ Q) X.xe s
def PS (X:Cx) (st:Stmt) (t:TS):Prop:=
 ∀ (pins:List (Addr × Obj)) (s:Shared) (σ:St) (H:Hp) (D:ml),aO X pins σ H s->t D σ H->wpAny (model X.prog X.w) X.A (exec st X.env) (SP X pins D) X.xe s
def iO (X:Cx) (st:List Stmt) (t:TS):Prop:=
 ∀ (pins:List (Addr × Obj)) (s:Shared) (σ:St) (H:Hp) (D:ml),aO X pins σ H s->t D σ H->wpAny (model X.prog X.w) X.A (execs st X.env) (SP X pins D) X.xe s
theorem dS {α:Type}{t:Sem α}{Q Q':α->Shared->Prop}{M:Model}{A:Around}{E:Value->Shared->Prop}{s:Shared} (h:wpAny M A t Q E s) (hQ:∀ a s,Q a s->Q' a s):wpAny M A t Q' E s:=JO h hQ fun _ _ x=>x
end L2
namespace L2
open PySem PySem.Spec PyProof.Rows
section
variable {X:Cx}
def Gu (i:Nat):TE:=fun σ H Q=>∃ v,σ[i]?=some (some v)/\Q v H
def tC (v:V):TE:=fun _ H Q=>Q v H
theorem E4 {i:Nat}{x:Str}{pos:Pos} (hN:X.N[i]?=some x) (hv:HL X.env.scope x) (hd:(x == ("__debug__" : Str))=false:=by decide) (hcd:(x == ("__classdict__" : Str))=false:=by decide):PE X (.Name x pos) (Gu i):=by
 intro pins s σ H Q I h
 obtain ⟨v,e,h⟩:=h
 obtain ⟨m,hn,hl⟩:=I.loc
 obtain ⟨u,r,l⟩:=hl i x v hN e hv
 have fin:EP X pins σ Q u s:=⟨v,H,I,r,h⟩
 rcases l with ⟨hk,hm⟩ | ⟨hk,c,hc,hcell⟩
 ·exact wpAny_Name (wpAny_loadName_local I.ok.kind hk hn hm fin) hd
 ·rcases hk with hk | hk
  ·exact wpAny_Name (wpAny_loadName_cell I.ok.kind hk hc hcell fin) hd
  ·exact wpAny_Name (wpAny_loadName_free I.ok.kind hk hc hcell fin hcd) hd
theorem Fc {i j pos}:PE X (.Constant (.int i) j pos) (tC (.int i)):=fun _ _ _ H _ I h=>wpAny_Constant_int ⟨.int i,H,I.tok _,⟨_,rfl⟩,h⟩
theorem Hl {b j pos}:PE X (.Constant (.bool b) j pos) (tC (.bl b)):=fun _ _ _ H _ I h=>Constant_bool ⟨.bl b,H,I,rfl,h⟩
theorem E9 {j pos}:PE X (.Constant .none j pos) (tC .non):=fun _ _ _ H _ I h=>Constant_none ⟨.non,H,I,rfl,h⟩
theorem E6 {x j pos}:PE X (.Constant (.str x) j pos) (tC (.str x)):=fun _ _ _ H _ I h=>Calls.Constant_str ⟨.str x,H,I.tok _,⟨_,rfl⟩,h⟩
def Gl (X:Cx) (x:Str):Prop:=X.env.kindOf x=some .globalImplicit
theorem lC {E:Value->Shared->Prop}{pins:List (Addr × Obj)}{s:Shared}{σ:St}{H:Hp}{x:Str}{u:Value}{pos:Pos}{Q:Value->Shared->Prop} (I:aO X pins σ H s) (hg:Gl X x) (hm:X.mg x=some u) (h:Q u s)
  (hd:(x == ("__debug__" : Str))=false:=by decide):wpAny (model X.prog X.w) X.A (eval (.Name x pos) X.env) Q E s:=
 Calls.Name_function_global I.ok.kind hg (Calls.loadGlobal_global (by rw [I.ok.glob];exact I.mod.glob.keeps I.bk) hm h) hd
theorem mx {E:Value->Shared->Prop}{pins:List (Addr × Obj)}{s:Shared}{σ:St}{H:Hp}{x:Str}{u:Value}{pos:Pos}{Q:Value->Shared->Prop} (I:aO X pins σ H s) (hg:Gl X x) (hm:X.mg x=none) (hv:bootBuiltins x=some u) (h:Q u s)
  (hn:x ≠ "__name__" := by decide) (hd:(x == ("__debug__" : Str))=false:=by decide):wpAny (model X.prog X.w) X.A (eval (.Name x pos) X.env) Q E s:=by
 obtain ⟨mb,h1,h2⟩:=I.mod.blt
 exact Calls.Name_function_global I.ok.kind hg (Calls.loadGlobal_builtin (by rw [I.ok.glob];exact I.mod.glob.keeps I.bk) hm (by rw [I.ok.blt];exact h1.keeps I.bk) ((h2 x hn).trans hv) h) hd
theorem wB {x:Str}{v:V}{u:Value}{pos:Pos} (hg:Gl X x) (hm:X.mg x=some u) (r:bL v u) (hd:(x == ("__debug__" : Str))=false:=by decide):PE X (.Name x pos) (tC v):=
 fun _ _ _ H _ I h=>lC I hg hm ⟨v,H,I,r,h⟩ hd
theorem wC {x:Str}{v:V}{u:Value}{pos:Pos} (hg:Gl X x) (hm:X.mg x=none) (hv:bootBuiltins x=some u) (r:bL v u) (hn:x ≠ "__name__" := by decide) (hd:(x == ("__debug__" : Str))=false:=by decide):PE X (.Name x pos) (tC v):=
 fun _ _ _ H _ I h=>mx I hg hm hv ⟨v,H,I,r,h⟩ hn hd
variable {a b:Expr}{ta tb:TE}{pos:Pos}
variable {tA tB':TT}{rest:List Expr}
def Ip (t u:TT):TT:=fun σ H Q=>t σ H fun c H1=>if c=true then u σ H1 Q else Q false H1
def Je (t u:TT):TT:=fun σ H Q=>t σ H fun c H1=>if c=true then Q true H1 else u σ H1 Q
def Ii (t:TT):TT:=fun σ H Q=>t σ H fun c H1=>Q (!c) H1
theorem B8 (ha:PT X a tA):PW X (.BoolOp .And [a] pos) tA:=by
 intro wh pins s σ H Q I h
 refine isTrue_and (dS (ha pins s σ H Q I h) fun c s1 e=>?_)
 cases c with
 | true=>exact isTrue_and_nil e
 | false=>exact e
theorem ER (ha:PT X a tA):PW X (.BoolOp .Or [a] pos) tA:=by
 intro wh pins s σ H Q I h
 refine isTrue_or (dS (ha pins s σ H Q I h) fun c s1 e=>?_)
 cases c with
 | false=>exact isTrue_or_nil e
 | true=>exact e
theorem ES (ha:PT X a tA) (hb:PW X (.BoolOp .And (b::rest) pos) tB'):PW X (.BoolOp .And (a::b::rest) pos) (Ip tA tB'):=by
 intro wh pins s σ H Q I h
 refine isTrue_and (dS (ha pins s σ H _ I h) fun c s1 ⟨H1,I1,q1⟩=>?_)
 cases c with
 | true=>exact hb wh pins s1 σ H1 Q I1 q1
 | false=>exact ⟨H1,I1,q1⟩
theorem Hf (ha:PT X a tA) (hb:PW X (.BoolOp .Or (b::rest) pos) tB'):PW X (.BoolOp .Or (a::b::rest) pos) (Je tA tB'):=by
 intro wh pins s σ H Q I h
 refine isTrue_or (dS (ha pins s σ H _ I h) fun c s1 ⟨H1,I1,q1⟩=>?_)
 cases c with
 | true=>exact ⟨H1,I1,q1⟩
 | false=>exact hb wh pins s1 σ H1 Q I1 q1
theorem ET (ha:PT X a tA):PT X (.UnaryOp .Not a pos) (Ii tA):=by
 intro pins s σ H Q I h
 exact isTrue_not (ha pins s σ H (fun c H1=>Q (!c) H1) I h)
def G2 (ta tb:TE):TE:=fun σ H Q=>ta σ H fun x H1=>∃ c,x=.bl c/\if c=true then tb σ H1 Q else Q (.bl false) H1
def GY (ta:TE):TE:=fun σ H Q=>ta σ H fun x H1=>∃ c,x=.bl c/\Q (.bl (!c)) H1
theorem E7 {op}{t:TE} (h:PE X a t):PE X (.BoolOp op [a] pos) t:=fun pins s σ H Q I hw=>BoolOp_one (h pins s σ H Q I hw)
theorem Fd (ha:PE X a ta) (hb:PE X (.BoolOp .And (b::rest) pos) tb):PE X (.BoolOp .And (a::b::rest) pos) (G2 ta tb):=by
 intro pins s σ H Q I h
 refine BoolOp_and (dS (ha pins s σ H _ I h) fun v s1 ⟨x,H1,I1,r1,q1⟩=>?_)
 obtain ⟨c,rfl,q1⟩:=q1
 cases r1
 refine JP ?_
 cases c with
 | true=>exact hb pins s1 σ H1 Q I1 q1
 | false=>exact ⟨.bl false,H1,I1,rfl,q1⟩
theorem E8 (ha:PE X a ta):PE X (.UnaryOp .Not a pos) (GY ta):=by
 intro pins s σ H Q I h
 refine UnaryOp_ (dS (ha pins s σ H _ I h) fun v s1 ⟨x,H1,I1,r1,q1⟩=>?_)
 obtain ⟨c,rfl,q1⟩:=q1
 cases r1
 exact not_of (JP ⟨.bl (!c),H1,I1,rfl,q1⟩)
def Jf (t:TT) (ta tb:TE):TE:=fun σ H Q=>t σ H fun c H1=>if c=true then ta σ H1 Q else tb σ H1 Q
theorem Ai {c:Expr} (hc:PT X c tA) (ha:PE X a ta) (hb:PE X b tb):PE X (.IfExp c a b pos) (Jf tA ta tb):=by
 intro pins s σ H Q I h
 refine wpAny_IfExp (dS (hc pins s σ H _ I h) fun d s1 ⟨H1,I1,q1⟩=>?_)
 cases d with
 | true=>exact ha pins s1 σ H1 Q I1 q1
 | false=>exact hb pins s1 σ H1 Q I1 q1
end
end L2
namespace L2
open PySem PySem.Spec PyProof.Rows
def hX (K:W.Frag) (H:Hp) (a:Addr) (xs:List V):Prop:=
 Rd H a (.lst xs) \/
  ∃ (o:Obj) (its:Array Value) (n:Nat),K.lookup a=some o/\o.cls=.type "list" /\ o.dict=none/\o.data=.seq its n/\its.size<=sizeLine/\bb xs its.toList
def gU (K:W.Frag) (H:Hp) (a:Addr) (xs:List V):Prop:=
 Rd H a (.tup xs) \/
  ∃ (o:Obj) (its:Array Value) (n:Nat),K.lookup a=some o/\o.cls=.type "tuple" /\ o.data=.seq its n/\its.size<=sizeLine/\bb xs its.toList
def IJ:Value->Option V
 | .none=>some .non
 | .bool b=>some (.bl b)
 | .int i _=>some (.int i)
 | .str x _=>some (.str x)
 | .bytes b _=>some (.byt b)
 | .float b _=>some (.flt b)
 | .ref a=>some (.ref a)
 | .type n=>some (.ty n)
 | _=>none
theorem bL.abs {x:V}{u:Value} (r:bL x u):IJ u=some x:=by
 cases x with
 | non=>cases r;rfl
 | bl _=>cases r;rfl
 | int _=>obtain ⟨t,rfl⟩:=r;rfl
 | str _=>obtain ⟨t,rfl⟩:=r;rfl
 | byt _=>obtain ⟨t,rfl⟩:=r;rfl
 | flt _=>obtain ⟨t,rfl⟩:=r;rfl
 | ref _=>cases r;rfl
 | ty _=>cases r;rfl
theorem bL.inj {x y:V}{u:Value} (r:bL x u) (q:bL y u):x=y:=Ju (r.abs.symm.trans q.abs)
theorem bb.inj:∀ {xs ys:List V}{us:List Value},bb xs us->bb ys us->xs=ys
 | _,_,_,.nil,.nil=>rfl
 | _,_,_,.cons r t,.cons r' t'=>by rw [r.inj r',bb.inj t t']
section
variable {X:Cx}{pins:List (Addr × Obj)}{σ:St}{H:Hp}{s:Shared}{a:Addr}{xs ys:List V}
theorem hX.of {K:W.Frag} (h:H a=some (.lst xs)):hX K H a xs:=.inl (.inl h)
theorem gU.of {K:W.Frag} (h:H a=some (.tup xs)):gU K H a xs:=.inl (.inl h)
theorem aO.list (I:aO X pins σ H s) (h:hX X.K H a xs):∃ its:List Value,bb xs its/\PlainL s.heap a its.toArray/\xs.length<=sizeLine:=by
 rcases h with h | ⟨o,its,n,hk,hc,hd,hs,hz,r⟩
 ·obtain ⟨z, its, n, r, e⟩ := h.ok I.hok
  exact ⟨its,r,⟨_,n,e,rfl,rfl,rfl⟩,z⟩
 ·refine ⟨its.toList, r, ⟨o, n, I.kIn a o hk, hc, hd, by simpa using hs⟩, ?_⟩
  have e:=r.length
  simp only [JQ] at e
  omega
theorem aO.tuple (I:aO X pins σ H s) (h:gU X.K H a xs):∃ its:List Value,bb xs its/\IsTup s.heap a its.toArray/\xs.length<=sizeLine:=by
 rcases h with h | ⟨o,its,n,hk,hc,hs,hz,r⟩
 ·obtain ⟨z, its, r, p⟩ := h.ok I.hok
  exact ⟨its,r,p,z⟩
 ·refine ⟨its.toList, r, ⟨o, I.kIn a o hk, hc, n, by simpa using hs⟩, ?_⟩
  have e:=r.length
  simp only [JQ] at e
  omega
theorem aO.list_inj (I:aO X pins σ H s) (h:hX X.K H a xs) (h':hX X.K H a ys):xs=ys:=by
 obtain ⟨its,r,⟨o,n,e,_,_,d⟩,_⟩:=I.list h
 obtain ⟨its',r',⟨o',n',e',_,_,d'⟩,_⟩:=I.list h'
 rw [e] at e';cases e'
 rw [d] at d'
 injection d' with d1 _
 have:its=its':=by simpa using JR Array.toList d1
 subst this
 exact r.inj r'
theorem aO.tuple_inj (I:aO X pins σ H s) (h:gU X.K H a xs) (h':gU X.K H a ys):xs=ys:=by
 obtain ⟨its,r,⟨o,e,_,n,d⟩,_⟩:=I.tuple h
 obtain ⟨its',r',⟨o',e',_,n',d'⟩,_⟩:=I.tuple h'
 rw [e] at e';cases e'
 rw [d] at d'
 injection d' with d1 _
 have:its=its':=by simpa using JR Array.toList d1
 subst this
 exact r.inj r'
end
abbrev Cx.wish (X:Cx) (E:Value->Shared->Prop):Cx:={ X with xe:=E }
abbrev Cx.nox (X:Cx):Cx:=X.wish fun _ _=>False
theorem Cx.Ok.wish {X:Cx} (ok:X.Ok) (E:Value->Shared->Prop):(X.wish E).Ok:=
 ⟨ok.mod,ok.kind,ok.glob,ok.blt,ok.above,ok.inj,ok.has,ok.cab,ok.hd,ok.frames,ok.stk,ok.exf,ok.bs,ok.bsz,ok.noex,ok.exfs,ok.funs,ok.frf⟩
theorem Cx.Ok.unwish {X:Cx}{E:Value->Shared->Prop} (ok:(X.wish E).Ok):X.Ok:=
 ⟨ok.mod,ok.kind,ok.glob,ok.blt,ok.above,ok.inj,ok.has,ok.cab,ok.hd,ok.frames,ok.stk,ok.exf,ok.bs,ok.bsz,ok.noex,ok.exfs,ok.funs,ok.frf⟩
section
variable {X:Cx}{pins:List (Addr × Obj)}{σ:St}{H:Hp}{s:Shared}{E:Value->Shared->Prop}
theorem aO.wish (I:aO X pins σ H s) (E:Value->Shared->Prop):aO (X.wish E) pins σ H s:=⟨I.ok.wish E,I.os,I.bare,I.base,I.loc,I.cell,I.free,I.freeC,I.pin,I.hok,I.len⟩
theorem aO.unwish (I:aO (X.wish E) pins σ H s):aO X pins σ H s:=⟨I.ok.unwish,I.os,I.bare,I.base,I.loc,I.cell,I.free,I.freeC,I.pin,I.hok,I.len⟩
theorem SP.unwish {D:ml}{f:Flow}{s':Shared} (h:SP (X.wish E) pins D f s'):SP X pins D f s':=by
 cases f with
 | next=>obtain ⟨σ',H',I,q⟩:=h;exact ⟨σ',H',I.unwish,q⟩
 | brk=>obtain ⟨σ',H',I,q⟩:=h;exact ⟨σ',H',I.unwish,q⟩
 | cont=>obtain ⟨σ',H',I,q⟩:=h;exact ⟨σ',H',I.unwish,q⟩
 | ret u=>obtain ⟨v,σ',H',I,r,q⟩:=h;exact ⟨v,σ',H',I.unwish,r,q⟩
theorem iO.nox {st:List Stmt}{t:TS} (h:iO X.nox st t):iO X st t:=fun pins s σ H D I hw=>
 JO (h pins s σ H D (I.wish _) hw) (fun _ _ q=>q.unwish) fun _ _ z=>False.elim z
end
section
variable {X:Cx}{st:Stmt}{rest:List Stmt}{t u:TS}{e:Expr}{te:TE}{pos:Pos}
def GZ:TS:=fun D σ H=>D.nx σ H
def Ig (t u:TS):TS:=fun D σ H=>t { D with nx:=u D } σ H
theorem Cd:iO X [] GZ:=fun _ _ σ H _ I h=>JS ⟨σ,H,I,h⟩
theorem Ac (h1:PS X st t) (h2:iO X rest u):iO X (st::rest) (Ig t u):=by
 intro pins s σ H D I h
 refine wpAny_execs_cons (dS (h1 pins s σ H { D with nx:=u D } I h) fun f s1 q=>?_)
 cases f with
 | next=>
  obtain ⟨σ',H',I',q⟩:=q
  exact h2 pins s1 σ' H' D I' q
 | ret v=>exact q
 | brk=>exact q
 | cont=>exact q
theorem Cc (h1:PS X st t):iO X [st] t:=by
 intro pins s σ H D I h
 refine wpAny_execs_cons (dS (h1 pins s σ H D I h) fun f s1 q=>?_)
 cases f with
 | next=>exact JS q
 | ret v=>exact q
 | brk=>exact q
 | cont=>exact q
theorem aO.quiet {pins:List (Addr × Obj)}{σ:St}{H:Hp}{s:Shared} (I:aO X pins σ H s):interactive X.env=false:=by simp [interactive,I.ok.kind]
def G0 (te:TE):TS:=fun D σ H=>te σ H fun _ H1=>D.nx σ H1
theorem Cf (he:PE X e te) (hs:swapsWith e none pos.line X.env=pure false:=by rfl):PS X (.Expr e pos) (G0 te):=by
 intro pins s σ H D I h
 exact wpAny_Expr_any (dS (he pins s σ H _ I h) fun v s1 ⟨x,H1,I1,r1,q1⟩=>⟨σ,H1,I1,q1⟩) I.quiet hs
def Ih (te:TE):TS:=fun D σ H=>te σ H D.rt
theorem EW (he:PE X e te):PS X (.Return (some e) pos) (Ih te):=by
 intro pins s σ H D I h
 exact wpAny_Return_some (dS (he pins s σ H _ I h) fun v s1 ⟨x,H1,I1,r1,q1⟩=>⟨x,σ,H1,I1,r1,q1⟩)
def Il (c:TT) (t u:TS):TS:=fun D σ H=>c σ H fun b H1=>if b=true then t D σ H1 else u D σ H1
theorem Hg {c:Expr}{a b:List Stmt}{tc:TT} (hc:PT X c tc) (ha:iO X a t) (hb:iO X b u):PS X (.If c a b pos) (Il tc t u):=by
 intro pins s σ H D I h
 refine wpAny_If (dS (hc pins s σ H _ I h) fun d s1 ⟨H1,I1,q1⟩=>?_)
 cases d with
 | true=>exact ha pins s1 σ H1 D I1 q1
 | false=>exact hb pins s1 σ H1 D I1 q1
end
abbrev TG:=V->St->Hp->(St->Hp->Prop)->Prop
abbrev A8:=List V->St->Hp->(St->Hp->Prop)->Prop
def PG (X:Cx) (target:Expr) (t:TG):Prop:=
 ∀ (pins:List (Addr × Obj)) (s:Shared) (σ:St) (H:Hp) (v:V) (u:Value) (Q:St->Hp->Prop),aO X pins σ H s->bL v u->t v σ H Q ->
  wpAny (model X.prog X.w) X.A (assign target X.env u) (fun _ s'=>∃ σ' H',aO X pins σ' H' s'/\Q σ' H') X.xe s
def uU (X:Cx) (ts:List Expr) (t:A8):Prop:=
 ∀ (pins:List (Addr × Obj)) (s:Shared) (σ:St) (H:Hp) (vs:List V) (us:List Value) (Q:St->Hp->Prop),aO X pins σ H s->bb vs us->t vs σ H Q ->
  wpAny (model X.prog X.w) X.A (assignInOrder ((assignEach ts X.env).map (·.2)) us) (fun _ s'=>∃ σ' H',aO X pins σ' H' s'/\Q σ' H') X.xe s
abbrev D5:=V->V->V->Hp->(Hp->Prop)->Prop
def GN (X:Cx) (t:D5):Prop:=
 ∀ (pins:List (Addr × Obj)) (s:Shared) (σ:St) (H:Hp) (o i v:V) (ov iv u:Value) (Q:Hp->Prop),aO X pins σ H s->bL o ov->bL i iv->bL v u->t o i v H Q ->
  wpAny (model X.prog X.w) X.A (setItem ov iv u) (fun _ s'=>∃ H',aO X pins σ H' s'/\Q H') X.xe s
abbrev Gn:=V->V->Hp->VK->Prop
def HN (X:Cx) (op:Operator) (t:Gn):Prop:=
 ∀ (pins:List (Addr × Obj)) (s:Shared) (σ:St) (H:Hp) (x y:V) (v u:Value) (Q:VK),aO X pins σ H s->bL x v->bL y u->t x y H Q ->
  wpAny (model X.prog X.w) X.A (inplaceOp op v u) (EP X pins σ Q) X.xe s
section
variable {X:Cx}{pos:Pos}
def tx (i:Nat):TG:=fun v σ H Q=>Q (σ.set i (some v)) H
theorem Ck {i:Nat}{x:Str} (hN:X.N.Nodup) (hi:X.N[i]?=some x) (hx:xa X.env.scope x) (hf:X.fn x=true\/X.env.scope.names.lookup x=some .local:=by first | exact .inl rfl | exact .inr rfl | assumption):PG X (.Name x pos) (tx i):=by
 intro pins s σ H v u Q I r h
 exact wpAny_assign_Name (lG I hN hi hx r (fun s' I'=>⟨_,H,I',h⟩) hf)
def IF:A8:=fun vs σ H Q=>vs=[]/\Q σ H
def Hx (t:TG) (u:A8):A8:=fun vs σ H Q=>∃ v r,vs=v::r/\t v σ H fun σ' H'=>u r σ' H' Q
theorem Cj:uU X [] IF:=by
 intro pins s σ H vs us Q I r h
 obtain ⟨e,h⟩:=h
 subst e
 cases r
 exact assignInOrder_nil ⟨σ,H,I,h⟩
theorem Ag {e:Expr}{es:List Expr}{t:TG}{u:A8} (h1:PG X e t) (h2:uU X es u)
  (hs:(assignEach (e::es) X.env).map (·.2)=assign e X.env::(assignEach es X.env).map (·.2):=by rfl):uU X (e::es) (Hx t u):=by
 intro pins s σ H vs us Q I r h
 obtain ⟨v,vr,e1,h⟩:=h
 subst e1
 cases r with
 | cons r rr=>
  rw [hs]
  refine assignInOrder_cons (dS (h1 pins s σ H _ _ _ I r h) fun _ s1 ⟨σ1,H1,I1,q1⟩=>?_)
  exact h2 pins s1 σ1 H1 _ _ Q I1 rr q1
def ID (K:W.Frag) (n:Nat) (t:A8):TG:=fun v σ H Q=>∃ a xs,v=.ref a/\gU K H a xs/\xs.length=n/\t xs σ H Q
theorem E2 {es:List Expr}{k:Nat}{t:A8}{n:Nat} (hc:X.calm=true) (h:uU X es t)
  (hn:(assignEach es X.env).length=n:=by rfl) (hst:(assignEach es X.env).findIdx? (·.1)=none:=by rfl):PG X (.Tuple es k pos) (ID X.K n t):=by
 intro pins s σ H v u Q I r hw
 obtain ⟨a,xs,e1,hq,hl,hw⟩:=hw
 subst e1
 cases r
 obtain ⟨its,rv,ht,hz⟩:=I.tuple hq
 refine assign_Tuple_tuple (I.ok.hd hc) ht (by simp [hn,<- hl,rv.length]) hst fun h' hx=>?_
 have I1:aO X pins σ H { s with heap:=h' }:=I.kept (t':=s.toks) fun b o e=>hx b o (Jy (Jv e)) e
 exact h pins _ σ H xs _ Q I1 (by simpa using rv) hw
def IE (to ti:TE) (t:D5):TG:=fun v σ H Q=>to σ H fun o H1=>ti σ H1 fun i H2=>t o i v H2 fun H3=>Q σ H3
theorem E3 {o i:Expr}{to ti:TE}{t:D5} (ho:PE X o to) (hi:PE X i ti) (hs:GN X t)
  (ha : ∀ v, assign (.Subscript o i pos) X.env v = (do
   let ov <- holding [v] (eval o X.env)
   let iv <- holding [v,ov] (eval i X.env)
   standAt pos
   holding [v,ov,iv] (setItem ov iv v)
   release [v,ov,iv] []):=by intro _;rfl):PG X (.Subscript o i pos) (IE to ti t):=by
 intro pins s σ H v u Q I r h
 rw [ha]
 refine JT (JU (dS (ho pins s σ H _ I h) fun ov s1 ⟨x,H1,I1,r1,q1⟩=>?_))
 refine JT (JU (dS (hi pins s1 σ H1 _ I1 q1) fun iv s2 ⟨y,H2,I2,r2,q2⟩=>?_))
 refine JT (JV (JT (JU (dS (hs pins s2 σ H2 x y v ov iv u _ I2 r1 r2 r q2) fun _ s3 ⟨H3,I3,q3⟩=>?_))))
 exact wpAny_release ⟨σ,H3,I3,q3⟩
def yr (te:TE) (g:TG):TS:=fun D σ H=>te σ H fun x H1=>g x σ H1 D.nx
theorem EZ {tg e:Expr}{te:TE}{g:TG} (he:PE X e te) (hg:PG X tg g) (hs:swapsWithSole [tg] e pos.line X.env=pure false:=by rfl) (hw:swappedStores [tg] e X.env=pure none:=by rfl)
  (h1:(assignEach [tg] X.env).map (·.2)=[assign tg X.env]:=by rfl):PS X (.Assign [tg] e pos) (yr te g):=by
 intro pins s σ H D I h
 refine wpAny_Assign_stores (dS (he pins s σ H _ I h) fun v s1 ⟨x,H1,I1,r1,q1⟩=>?_) hs hw
 rw [h1]
 exact dS (hg pins s1 σ H1 x v _ I1 r1 q1) fun _ s2 q=>q
theorem EV {i:Nat}{x:Str}{e:Expr}{te:TE}{pos':Pos} (hN:X.N.Nodup) (hi:X.N[i]?=some x) (hx:xa X.env.scope x) (he:PE X e te) (hs:swapsWith e (some (.Name x pos')) pos.line X.env=pure false:=by rfl) (hf:X.fn x=true\/X.env.scope.names.lookup x=some .local:=by first | exact .inl rfl | exact .inr rfl | assumption) :
  PS X (.Assign [.Name x pos'] e pos) (yr te (tx i)):=by
 intro pins s σ H D I h
 refine wpAny_Assign_Name (dS (he pins s σ H _ I h) fun v s1 ⟨y,H1,I1,r1,q1⟩=>?_) hs
 exact lG I1 hN hi hx r1 (fun s2 I2=>⟨_,H1,I2,q1⟩) hf
def Io (i:Nat) (te:TE) (ti:Gn):TS:=fun D σ H=>∃ x,σ[i]?=some (some x)/\te σ H fun y H1=>ti x y H1 fun z H2=>D.nx (σ.set i (some z)) H2
theorem EY {i:Nat}{x:Str}{e:Expr}{te:TE}{op:Operator}{ti:Gn}{pos':Pos} (hN:X.N.Nodup) (hi:X.N[i]?=some x) (hx:xa X.env.scope x) (he:PE X e te) (ho:HN X op ti) (hf:X.fn x=true\/X.env.scope.names.lookup x=some .local:=by first | exact .inl rfl | exact .inr rfl | assumption) :
  PS X (.AugAssign (.Name x pos') op e pos) (Io i te ti):=by
 intro pins s σ H D I h
 obtain ⟨v,e1,h⟩:=h
 obtain ⟨m,hn,hl⟩:=I.loc
 have vis:HL X.env.scope x:=by rcases hx with k | k;exact .inl k;exact .inr (.inl k)
 obtain ⟨u,r,l⟩:=hl i x v hi e1 vis
 refine wpAny_AugAssign_Name ?_
 have go:wpAny (model X.prog X.w) X.A (eval e X.env) (fun w s₂=>wpAny (model X.prog X.w) X.A (inplaceOp op u w) (fun r s₃=>wpAny (model X.prog X.w) X.A (storeName X.env x r) (fun _=>SP X pins D .next) X.xe s₃) X.xe s₂) X.xe s:=by
  refine dS (he pins s σ H _ I h) fun w s1 ⟨y,H1,I1,r1,q1⟩=>?_
  refine dS (ho pins s1 σ H1 v y u w _ I1 r r1 q1) fun z s2 ⟨zv,H2,I2,r2,q2⟩=>?_
  exact lG I2 hN hi hx r2 (fun s3 I3=>⟨_,H2,I3,q2⟩) hf
 rcases l with ⟨hk,hm⟩ | ⟨hk,c,hc,hcell⟩
 ·exact wpAny_loadName_local I.ok.kind hk hn hm go
 ·rcases hk with hk | hk
  ·exact wpAny_loadName_cell I.ok.kind hk hc hcell go
  ·rcases hx with k | k
   ·have : X.env.scope.names.lookup x = some .free := hk
    rw [k] at this;cases this
   ·have : X.env.scope.names.lookup x = some .free := hk
    rw [k] at this;cases this
def Ji (f:Int->Int->Int):Gn:=fun x y H Q=>∃ i j,x=.int i/\y=.int j/\Q (.int (f i j)) H
theorem FU:HN X .Add (Ji fun i j=>i+j):=by
 intro pins s σ H x y v u Q I r1 r2 h
 obtain ⟨i,j,e1,e2,q⟩:=h
 subst e1;subst e2
 obtain ⟨t,rfl⟩:=r1
 obtain ⟨t',rfl⟩:=r2
 exact iadd_int ⟨.int _,H,I.tok _,⟨_,rfl⟩,q⟩
end
section
variable {X:Cx}{pos:Pos}
def Ej (c:TT) (tb:TS):TS:=fun D σ H=>∃ W:Nat->St->Hp->Prop,(∃ m,W m σ H)/\∀ m σ H,W m σ H ->
 c σ H fun b H1=>if b=true then ∃ N:St->Hp->Prop,(∀ σ' H',N σ' H'->∃ m',m'<m/\W m' σ' H')/\tb { D with nx:=N,ct:=N,bk:=D.nx } σ H1 else D.nx σ H1
theorem Ad {c:Expr}{body:List Stmt}{tc:TT}{tb:TS} (hp:PassesOwn (model X.prog X.w) X.A X.env X.xe) (hc:PT X c tc) (hb:iO X body tb):PS X (.While c body [] pos) (Ej tc tb):=by
 intro pins s σ H D I h
 obtain ⟨W,⟨m0,w0⟩,turn⟩:=h
 refine wpAny_While (codeAny_whileLoop (fun n s'=>∃ σ' H',aO X pins σ' H' s'/\W n σ' H') ?_ m0 ⟨σ,H,I,w0⟩)
 rintro n s1 ⟨σ1,H1,I1,w1⟩
 refine JW hp (dS (hc pins s1 σ1 H1 _ I1 (turn n σ1 H1 w1)) fun b s2 ⟨H2,I2,q2⟩=>?_)
 cases b with
 | true=>
  obtain ⟨N,hN,q2⟩:=q2
  rw [Js rfl]
  refine JW hp (dS (hb pins s2 σ1 H2 _ I2 q2) fun f s3 q3=>?_)
  cases f with
  | next=>
   obtain ⟨σ3,H3,I3,n3⟩:=q3
   obtain ⟨m',hm,w3⟩:=hN σ3 H3 n3
   exact ⟨m',hm,σ3,H3,I3,w3⟩
  | cont=>
   obtain ⟨σ3,H3,I3,n3⟩:=q3
   obtain ⟨m',hm,w3⟩:=hN σ3 H3 n3
   exact ⟨m',hm,σ3,H3,I3,w3⟩
  | brk=>exact q3
  | ret v=>exact q3
 | false=>
  rw [Jt JX]
  exact JS ⟨σ1,H2,I2,q2⟩
end
structure It where
 go:Nat->Hp->Prop
 yld:Nat->Hp->V->Hp->Prop
 stop:Nat->Hp->Prop
def nD (X:Cx) (pins:List (Addr × Obj)) (H:Hp) (b:Addr):Prop:=
 H b=none/\b≠X.env.locals/\b ∉ X.fs/\(b∈X.ex\/X.s₀.heap.objs.size<=b)/\(∀ x c,X.env.cells.lookup x=some c->c≠b)/\∀ p∈X.pn++pins,p.1≠b
theorem aO.fpOk {X:Cx}{pins:List (Addr × Obj)}{σ:St}{H H':Hp}{s:Shared}{b:Addr} (I:aO X pins σ H s) (hb:s.heap.objs.size<=b) (hn:H' b=none):nD X pins H' b:=by
 refine ⟨hn,JY (Jw I.lt hb),I.nofs hb,.inr (JB I.sz hb),fun x c e z=>?_,fun p hp z=>?_⟩
 ·obtain ⟨v, q⟩ := I.cell x c e
  exact absurd (Jw q.lt (by rw [z];exact hb)) (Jx _)
 ·exact absurd (Jw (Jv (I.pin p hp).1) (by rw [z];exact hb)) (Jx _)
structure yA (P:Program) (w:World) (K:W.Frag) (tg:Expr) (J:It) (fp:List Addr) (it:Addr) (tn:Nat->Heap->Prop):Prop where
 mem:it∈fp
 obj:∀ i h,tn i h->∀ b∈fp,∃ o,h.get? b=some o/\∀ v,o.data≠.cell v
 keep:∀ i h h',tn i h->(∀ b∈fp,∀ o,h.get? b=some o->h'.get? b=some o)->tn i h'
 item:∀ (X:Cx),X.prog=P->X.w=w->X.K=K->X.calm=true->∀ (i:Nat) (pins:List (Addr × Obj)) (s:Shared) (σ:St) (H:Hp) (E:Value->Shared->Prop),aO X pins σ H s->(∀ b∈fp,nD X pins H b)->tn i s.heap->J.go i H ->
  wpAny (model P w) X.A (pyNext (.ref it)) (fun r s1=>∃ u,r=some u /\
   wpAny (model P w) X.A (letOwnedTupleGo tg (.ref it) u) (fun _ s2=>∃ x H',aO X pins σ H' s2/\bL x u/\J.yld i H x H'/\tn (i+1) s2.heap/\∀ b∈fp,H' b=none) E s1) E s
 done:∀ (X:Cx),X.prog=P->X.w=w->X.K=K->X.calm=true->∀ (i:Nat) (pins:List (Addr × Obj)) (s:Shared) (σ:St) (H:Hp) (E:Value->Shared->Prop),aO X pins σ H s->(∀ b∈fp,nD X pins H b)->tn i s.heap->J.stop i H ->
  wpAny (model P w) X.A (pyNext (.ref it)) (fun r s1=>r=none/\aO X pins σ H s1) E s
 self:∀ (A:Around) (i:Nat) (s:Shared) (Q:Value->Shared->Prop) (E:Value->Shared->Prop),tn i s.heap->Q (.ref it) s->wpAny (model P w) A (pyIter (.ref it)) Q E s
abbrev TI:=St->Hp->(It->Hp->Prop)->Prop
def IV (X:Cx) (pins:List (Addr × Obj)) (σ:St) (tg:Expr) (R:It->Hp->Prop) (itv:Value) (s2:Shared):Prop:=
 ∃ (it:Addr) (fp:List Addr) (tn:Nat->Heap->Prop) (J:It) (H':Hp),itv=.ref it/\aO X pins σ H' s2/\yA X.prog X.w X.K tg J fp it tn/\tn 0 s2.heap/\(∀ b∈fp,nD X pins H' b)/\R J H'
def PI (X:Cx) (tg iter:Expr) (wi:TI):Prop:=
 ∀ (pins:List (Addr × Obj)) (s:Shared) (σ:St) (H:Hp) (R:It->Hp->Prop),aO X pins σ H s->wi σ H R ->
  wpAny (model X.prog X.w) X.A (eval iter X.env) (fun v s1=>wpAny (model X.prog X.w) X.A (pyIter v) (IV X pins σ tg R) X.xe s1) X.xe s
theorem yW {M:Model}{A:Around}{E:Value->Shared->Prop}{s:Shared}{tg:Expr}{it:Addr}{u:Value}{o:Obj}{n:String}{vs:Array Value}{Q:Unit->Shared->Prop} (ho:s.heap.get? it=some o) (hc:o.cls=.type n) (hd:o.data=.fields vs)
  (hn:["enumerate", "zip", "dict_itemiterator", "dict_reverseitemiterator", "odict_iterator", "itertools.zip_longest", "itertools.pairwise"].contains n=false) (hQ:Q () s):wpAny M A (letOwnedTupleGo tg (.ref it) u) Q E s:=by
 unfold letOwnedTupleGo
 cases tg <;> first
  | exact JZ hQ
  | (cases u <;> first
    | exact JZ hQ
    | (refine JT (J0 ho ?_)
       rw [hc,hd]
       show wpAny M A (if (["enumerate", "zip", "dict_itemiterator", "dict_reverseitemiterator", "odict_iterator", "itertools.zip_longest", "itertools.pairwise"].contains n && vs[0]? == some (rawInt _))=true then _ else _) Q E s
       rw [Jt (by intro h;rw [hn,Bool.false_and] at h;cases h)]
       exact JZ hQ))
def HQ (K:W.Frag) (a:Addr):It:=
 ⟨fun i H=>∃ xs x,hX K H a xs/\xs[i]?=some x,fun i H x H'=>H'=H/\∀ xs,hX K H a xs->xs[i]?=some x,fun i H=>∃ xs,hX K H a xs/\xs.length<=i⟩
def HY (K:W.Frag) (a:Addr):It:=
 ⟨fun i H=>∃ xs x,gU K H a xs/\xs[i]?=some x,fun i H x H'=>H'=H/\∀ xs,gU K H a xs->xs[i]?=some x,fun i H=>∃ xs,gU K H a xs/\xs.length<=i⟩
def Gi (lo:Int) (n:Nat):It:=⟨fun i _=>i<n,fun i H x H'=>H'=H/\x=.int (lo+i),fun i _=>n<=i⟩
theorem xl {P:Program}{w:World}{K:W.Frag}{tg:Expr} (a it:Addr):yA P w K tg (HQ K a) [it] it (fun i h=>h.IsListIter it a i) where
 mem:=by simp
 obj:=fun i h st b hb=>by
  have e:b=it:=by simpa using hb
  subst e
  obtain ⟨o,e,c,d⟩:=st
  exact ⟨o,e,fun v z=>by rw [d] at z;cases z⟩
 keep:=fun i h h' st k=>st.at fun o e=>k it (by simp) o e
 item:=by
  intro X hP hw hK hc i pins s σ H E I hf st hg
  subst hP hw hK
  obtain ⟨xs,x,hq,hx⟩:=hg
  obtain ⟨its,rv,p,hz⟩:=I.list hq
  obtain ⟨u,hu,ru⟩:=rv.get hx
  obtain ⟨f0,f1,f2,f3,f4,f5⟩:=hf it (by simp)
  refine wpAny_pyNext_list_item st p.isList (x:=u) (by simpa using hu) fun h' st' sb=>?_
  have I1:aO X pins σ H { s with heap:=h' }:=I.turned (t':=s.toks) (fun b o hb e=>(sb.2 b hb).trans e) f0 f1 f3 f4 f5
  obtain ⟨o,e,c,d⟩:=id st'
  exact ⟨u,rfl,yW (s:={ s with heap:=h' }) e c d (by decide) ⟨x,H,I1,ru,⟨rfl,fun ys hy=>by rw [I.list_inj hy hq];exact hx⟩,st',fun b hb=>(hf b hb).1⟩⟩
 done:=by
  intro X hP hw hK hc i pins s σ H E I hf st hg
  subst hP hw hK
  obtain ⟨xs,hq,hx⟩:=hg
  obtain ⟨its,rv,p,hz⟩:=I.list hq
  obtain ⟨f0,f1,f2,f3,f4,f5⟩:=hf it (by simp)
  have hl:=rv.length
  exact wpAny_pyNext_list_end (I.ok.hd hc) st p.isList (by simp;omega) fun h' eb=>⟨rfl,I.turned (t':=s.toks) (fun b o hb e=>eb b o hb e) f0 f1 f3 f4 f5⟩
 self:=fun _ _ _ _ _ st h=>wpAny_pyIter_listiter st h
theorem vk {P:Program}{w:World}{K:W.Frag}{tg:Expr} (a it:Addr):yA P w K tg (HY K a) [it] it (fun i h=>h.IsTupleIter it a i) where
 mem:=by simp
 obj:=fun i h st b hb=>by
  have e:b=it:=by simpa using hb
  subst e
  obtain ⟨o,e,c,d⟩:=st
  exact ⟨o,e,fun v z=>by rw [d] at z;cases z⟩
 keep:=fun i h h' st k=>st.at fun o e=>k it (by simp) o e
 item:=by
  intro X hP hw hK hc i pins s σ H E I hf st hg
  subst hP hw hK
  obtain ⟨xs,x,hq,hx⟩:=hg
  obtain ⟨its,rv,p,hz⟩:=I.tuple hq
  obtain ⟨u,hu,ru⟩:=rv.get hx
  obtain ⟨f0,f1,f2,f3,f4,f5⟩:=hf it (by simp)
  refine wpAny_pyNext_tuple_item st (show s.heap.IsTuple a its.toArray from p) (x:=u) (by simpa using hu) fun h' st' sb=>?_
  have I1:aO X pins σ H { s with heap:=h' }:=I.turned (t':=s.toks) (fun b o hb e=>(sb.2 b hb).trans e) f0 f1 f3 f4 f5
  obtain ⟨o,e,c,d⟩:=id st'
  exact ⟨u,rfl,yW (s:={ s with heap:=h' }) e c d (by decide) ⟨x,H,I1,ru,⟨rfl,fun ys hy=>by rw [I.tuple_inj hy hq];exact hx⟩,st',fun b hb=>(hf b hb).1⟩⟩
 done:=by
  intro X hP hw hK hc i pins s σ H E I hf st hg
  subst hP hw hK
  obtain ⟨xs,hq,hx⟩:=hg
  obtain ⟨its,rv,p,hz⟩:=I.tuple hq
  obtain ⟨f0,f1,f2,f3,f4,f5⟩:=hf it (by simp)
  have hl:=rv.length
  exact wpAny_pyNext_tuple_end (I.ok.hd hc) st (show s.heap.IsTuple a its.toArray from p) (by simp;omega) fun h' eb=>⟨rfl,I.turned (t':=s.toks) (fun b o hb e=>eb b o hb e) f0 f1 f3 f4 f5⟩
 self:=fun _ _ _ _ _ st h=>wpAny_pyIter_tupleiter st h
theorem vm {P:Program}{w:World}{K:W.Frag}{tg:Expr} (it:Addr) (lo:Int) (n:Nat):yA P w K tg (Gi lo n) [it] it (fun i h=>IsRangeIter h it (lo+(i:Nat) * 1) ((n:Int) - (i:Nat)) 1) where
 mem:=by simp
 obj:=fun i h st b hb=>by
  have e:b=it:=by simpa using hb
  subst e
  exact ⟨_,st,fun v z=>by
   have z':Data.fields _=Data.cell v:=z
   cases z'⟩
 keep:=fun i h h' st k=>k it (by simp) _ st
 item:=by
  intro X hP hw hK hc i pins s σ H E I hf st hg
  subst hP hw hK
  obtain ⟨f0,f1,f2,f3,f4,f5⟩:=hf it (by simp)
  have W:=Walks.range (prog:=X.prog) (w:=X.w) (I.ok.hd hc) it lo 1 n
  refine W.item i s _ _ hg st fun v h' tk hv st' kk=>?_
  obtain ⟨t,rfl⟩:=hv
  have I1:aO X pins σ H { s with heap:=h',toks:=tk }:=I.turned (fun b o hb e=>kk b o (by simpa using hb) e) f0 f1 f3 f4 f5
  refine ⟨_,rfl,yW (s:={ s with heap:=h',toks:=tk }) (n:="range_iterator") st' rfl rfl (by decide) ⟨.int (lo+i),H,I1,⟨t,?_⟩,⟨rfl,rfl⟩,st',fun b hb=>(hf b hb).1⟩⟩
  rw [Int.mul_one]
 done:=by
  intro X hP hw hK hc i pins s σ H E I hf st hg
  subst hP hw hK
  obtain ⟨f0,f1,f2,f3,f4,f5⟩:=hf it (by simp)
  exact wpAny_pyNext_range_end (I.ok.hd hc) st (by have:n<=i:=hg;omega) fun h' eb=>⟨rfl,I.turned (t':=s.toks) (fun b o hb e=>eb b o hb e) f0 f1 f3 f4 f5⟩
 self:=fun _ _ _ _ _ st h=>wpAny_pyIter_rangeiter st h
end L2
namespace L2
open PySem PySem.Spec PyProof.Rows
section
variable {X:Cx}{tg:Expr}
theorem tW {pins:List (Addr × Obj)}{σ:St}{H:Hp}{s:Shared}{R:It->Hp->Prop}{E:Value->Shared->Prop}{lo hi:Int}{t u v:Tok}{tk:Nat} (I:aO X pins σ H s) (h1:-(2 ^ 62)<=lo) (h2:lo<2 ^ 62) (h3:-(2 ^ 62)<=hi) (h4:hi<2 ^ 62)
  (q:R (Gi lo (hi - lo).toNat) H):wpAny (model X.prog X.w) X.A (pyIter (.ref s.heap.objs.size)) (IV X pins σ tg R) E { s with heap:=s.heap.push { cls:=.type "range",data:=.fields #[.int lo t,.int hi u,.int 1 v] },toks:=tk }:=by
 refine wpAny_pyIter_range (IsRange.new ..) (small_one h1 h2 h3 h4) ?_
 have I1:aO X pins σ H { s with heap:=s.heap.push { cls:=.type "range",data:=.fields #[.int lo t,.int hi u,.int 1 v] },toks:=tk }:=I.kept fun b o e=>J1 _ e
 refine ⟨(s.heap.push { cls:=.type "range",data:=.fields #[.int lo t,.int hi u,.int 1 v] }).objs.size,[(s.heap.push { cls:=.type "range",data:=.fields #[.int lo t,.int hi u,.int 1 v] }).objs.size],_,_,H,rfl,
  I1.kept (t':=tk) fun b o e=>J1 _ e,vm _ lo (hi - lo).toNat,?_,fun b hb=>?_,q⟩
 ·have e1 : lo + ((0 : Nat) : Int) * 1 = lo := by simp
  have e2:(((hi - lo).toNat:Nat):Int) - ((0:Nat):Int)=Builtin.Range.rangeSize lo hi 1:=by rw [rangeSize_one];split <;> omega
  show IsRangeIter _ _ (lo+((0:Nat):Int) * 1) ((((hi - lo).toNat:Nat):Int) - ((0:Nat):Int)) 1
  rw [e1,e2]
  exact J2 _ rfl
 ·have e : b = (s.heap.push { cls := .type "range", data := .fields #[.int lo t, .int hi u, .int 1 v] }).objs.size := by simpa using hb
  subst e
  exact I1.fpOk (J3 _) (I1.hok.fresh (J3 _))
def Hw (ta:TA):TI:=fun σ H R=>ta σ H fun vs H1=>∃ j:Int,vs=[.int j]/\-(2 ^ 62)<=j/\j<2 ^ 62/\R (Gi 0 j.toNat) H1
def Hv (ta:TA):TI:=fun σ H R=>ta σ H fun vs H1=>∃ i j:Int,vs=[.int i,.int j]/\(-(2 ^ 62)<=i/\i<2 ^ 62/\-(2 ^ 62)<=j/\j<2 ^ 62)/\R (Gi i (j - i).toNat) H1
theorem xI {a:Expr}{ta:TA}{p pos:Pos} (hg:Gl X "range") (hm:X.mg "range" = none) (ha:PA X [a] ta) (hs:starEach [a] X.env=[(false,eval a X.env)]:=by rfl):PI X tg (.Call (.Name "range" p) [a] [] pos) (Hw ta):=by
 intro pins s σ H R I h
 refine Call_ (mx I hg hm boot_range (J4 (dS (ha pos pins s σ H _ I h) fun us s1 ⟨vs,H1,I1,r1,q1⟩=>?_) hs rfl))
 obtain ⟨j,e,q1,q2,q⟩:=q1
 subst e
 cases r1 with
 | cons r rr=>
  cases rr
  obtain ⟨t,rfl⟩:=r
  exact call_range_1 (tW I1 (by omega) (by omega) q1 q2 (by simpa using q))
theorem xH {a b:Expr}{ta:TA}{p pos:Pos} (hg:Gl X "range") (hm:X.mg "range" = none) (ha:PA X [a,b] ta) (hs:starEach [a,b] X.env=[(false,eval a X.env),(false,eval b X.env)]:=by rfl) (hs2:starEach [b] X.env=[(false,eval b X.env)]:=by rfl) :
  PI X tg (.Call (.Name "range" p) [a,b] [] pos) (Hv ta):=by
 intro pins s σ H R I h
 refine Call_ (mx I hg hm boot_range (J4 (dS (ha pos pins s σ H _ I h) fun us s1 ⟨vs,H1,I1,r1,q1⟩=>?_) (by rw [hs,hs2]) (by rw [hs2];rfl)))
 obtain ⟨i,j,e,⟨q1,q2,q3,q4⟩,q⟩:=q1
 subst e
 cases r1 with
 | cons r rr=>
  cases rr with
  | cons r' rr=>
   cases rr
   obtain ⟨t,rfl⟩:=r
   obtain ⟨t',rfl⟩:=r'
   exact call_range_2 (tW I1 q1 q2 q3 q4 q)
def Im (wi:TI) (g:TG) (tb:TS):TS:=fun D σ H=>wi σ H fun J H1=>∃ W:Nat->Nat->St->Hp->Prop,(∃ m,W 0 m σ H1)/\∀ i m σ H,W i m σ H ->
 (J.stop i H/\D.nx σ H)\/(J.go i H/\∃ N:St->Hp->Prop,(∀ σ' H',N σ' H'->∃ m',m'<m/\W (i+1) m' σ' H')/\∀ x H',J.yld i H x H'->g x σ H' fun σ2 H2=>tb { D with nx:=N,ct:=N,bk:=D.nx } σ2 H2)
def oF (fp:List Addr) (h:Heap):List (Addr × Obj):=fp.filterMap fun b=>(h.get? b).map fun o=>(b,o)
theorem jm {fp:List Addr}{h:Heap}{b:Addr}{o:Obj} (hb:b∈fp) (e:h.get? b=some o):(b,o)∈oF fp h:=J6.mpr ⟨b,hb,by rw [e];rfl⟩
theorem xP {fp:List Addr}{h:Heap}{p:Addr × Obj} (hp:p∈oF fp h):p.1∈fp/\h.get? p.1=some p.2:=by
 obtain ⟨b,hb,e⟩:=J6.mp hp
 cases q:h.get? b with
 | none=>rw [q] at e;cases e
 | some o=>
  rw [q] at e
  have e':(b,o)=p:=Ju e
  subst e'
  exact ⟨hb,q⟩
theorem aO.pinned {pins:List (Addr × Obj)}{σ:St}{H:Hp}{s:Shared}{fp:List Addr} (I:aO X pins σ H s) (hf:∀ b∈fp,nD X pins H b) (ho:∀ b∈fp,∃ o,s.heap.get? b=some o/\∀ v,o.data≠.cell v):aO X (pins++oF fp s.heap) σ H s:=
 I.pins_of fun p hp=>(JI.mp hp).elim (fun z=>I.pin p (J7 _ z)) fun z=>by
  obtain ⟨hb,e⟩:=xP z
  obtain ⟨f0,f1,f2,_⟩:=hf p.1 hb
  obtain ⟨o,e',d⟩:=ho p.1 hb
  rw [e] at e';cases e'
  exact ⟨e,f0,f1,f2,d⟩
theorem aO.unpinned {pins pl:List (Addr × Obj)}{σ:St}{H:Hp}{s:Shared} (I:aO X (pins++pl) σ H s):aO X pins σ H s:=I.pins_of fun p hp=>I.pin p (J7 _ (JJ _ hp))
theorem EX {iter:Expr}{body:List Stmt}{wi:TI}{g:TG}{tb:TS}{pos:Pos} (hp:PassesOwn (model X.prog X.w) X.A X.env X.xe) (hc:X.calm=true) (hi:PI X tg iter wi) (hg:PG X tg g) (hb:iO X body tb)
  (hs:∀ x,foldedSetIterable iter X.env x=pure x:=by intro _;rfl):PS X (.For tg iter body [] pos) (Im wi g tb):=by
 intro pins s σ H D I h
 refine wpAny_For (dS (hi pins s σ H _ I h) fun v s1 h1=>dS h1 fun itv s2 h2=>?_) hs
 obtain ⟨it,fp,tn,J,H2,e,I2,T,st2,f2,W,⟨m0,w0⟩,turn⟩:=h2
 subst e
 have stat:∀ {H':Hp},(∀ b∈fp,H' b=none)->∀ b∈fp,nD X pins H' b:=fun hn b hb=>⟨hn b hb,(f2 b hb).2⟩
 refine codeAny_forLoop_any (fun n s'=>∃ i σ' H',aO X pins σ' H' s'/\tn i s'.heap/\(∀ b∈fp,H' b=none)/\W i n σ' H') ?_ m0 ⟨0,σ,H2,I2,st2,fun b hb=>(f2 b hb).1,w0⟩
 rintro n s3 ⟨i,σ3,H3,I3,st3,fr3,w3⟩
 rcases turn i n σ3 H3 w3 with ⟨stop,qn⟩ | ⟨go,N,hN,step⟩
 ·refine JW hp (dS (T.done X rfl rfl rfl hc i pins s3 σ3 H3 X.xe I3 (stat fr3) st3 stop) fun r s4 ⟨hr, I4⟩ => ?_)
  subst hr
  exact JS ⟨σ3,H3,I4,qn⟩
 ·refine JW hp (dS (T.item X rfl rfl rfl hc i pins s3 σ3 H3 X.xe I3 (stat fr3) st3 go) fun r s4 ⟨u, hr, h4⟩ => ?_)
  subst hr
  refine JW hp (dS h4 fun _ s5 ⟨x,H5,I5,r5,y5,st5,fr5⟩=>?_)
  have I5':=I5.pinned (stat fr5) (T.obj _ _ st5)
  refine JW hp (dS (hg _ s5 σ3 H5 x u _ I5' r5 (step x H5 y5)) fun _ s6 ⟨σ6,H6,I6,q6⟩=>?_)
  refine JW hp (dS (hb _ s6 σ6 H6 _ I6 q6) fun f s7 q7=>?_)
  have again:∀ {σ7:St}{H7:Hp},aO X (pins++oF fp s5.heap) σ7 H7 s7->N σ7 H7->∃ m,m<n/\∃ i σ' H',aO X pins σ' H' s7/\tn i s7.heap/\(∀ b∈fp,H' b=none)/\W i m σ' H':=fun {σ7 H7} I7 n7=>by
   obtain ⟨m',hm,w7⟩:=hN σ7 H7 n7
   refine ⟨m',hm,i+1,σ7,H7,I7.unpinned,T.keep _ _ _ st5 fun b hb o e=>(I7.pin (b,o) (J7 _ (J7 _ (jm hb e)))).1,fun b hb=>?_,w7⟩
   obtain ⟨o,e,d⟩:=T.obj _ _ st5 b hb
   exact (I7.pin (b,o) (J7 _ (J7 _ (jm hb e)))).2.1
  cases f with
  | next=>obtain ⟨σ7,H7,I7,n7⟩:=q7;exact again I7 n7
  | cont=>obtain ⟨σ7,H7,I7,n7⟩:=q7;exact again I7 n7
  | brk=>obtain ⟨σ7,H7,I7,q7⟩:=q7;exact ⟨σ7,H7,I7.unpinned,q7⟩
  | ret v=>obtain ⟨x7,σ7,H7,I7,r7,q7⟩:=q7;exact ⟨x7,σ7,H7,I7.unpinned,r7,q7⟩
end
end L2
namespace L2
open PySem PySem.Spec PyProof.Rows
abbrev R2:=V->V->Hp->VK->Prop
def jz (X:Cx) (f:Value->Value->Sem Value) (r:R2):Prop:=
 ∀ (pins:List (Addr × Obj)) (s:Shared) (σ:St) (H:Hp) (x y:V) (v u:Value) (Q:VK),aO X pins σ H s->bL x v->bL y u->r x y H Q ->
  wpAny (model X.prog X.w) X.A (f v u) (EP X pins σ Q) X.xe s
def HM (X:Cx) (f:Value->Sem Value) (r:V->Hp->VK->Prop):Prop:=
 ∀ (pins:List (Addr × Obj)) (s:Shared) (σ:St) (H:Hp) (x:V) (v:Value) (Q:VK),aO X pins σ H s->bL x v->r x H Q ->
  wpAny (model X.prog X.w) X.A (f v) (EP X pins σ Q) X.xe s
def cI (X:Cx) (f:Value) (r:List V->Hp->VK->Prop):Prop:=
 ∀ (pins:List (Addr × Obj)) (s:Shared) (σ:St) (H:Hp) (xs:List V) (us:List Value) (Q:VK),aO X pins σ H s->bb xs us->r xs H Q ->
  wpAny (model X.prog X.w) X.A (call f us) (EP X pins σ Q) X.xe s
def IK (X:Cx) (r:V->Hp->(Bool->Hp->Prop)->Prop):Prop:=
 ∀ (pins:List (Addr × Obj)) (s:Shared) (σ:St) (H:Hp) (x:V) (v:Value) (Q:Bool->Hp->Prop),aO X pins σ H s->bL x v->r x H Q ->
  wpAny (model X.prog X.w) X.A (truthy v) (TP X pins σ Q) X.xe s
def HH (r:R2) (ta tb:TE):TE:=fun σ H Q=>ta σ H fun x H1=>tb σ H1 fun y H2=>r x y H2 Q
def Jc (r:V->Hp->VK->Prop) (ta:TE):TE:=fun σ H Q=>ta σ H fun x H1=>r x H1 Q
def rI (C:Int->Int->Prop) (g:Int->Int->V):R2:=fun x y H Q=>∃ i j,x=.int i/\y=.int j/\C i j/\Q (g i j) H
def Gm (g:Int->Int->V):R2:=fun x y H Q=>∃ i j,x=.int i/\y=.int j/\Q (g i j) H
def rU (g:Int->V):V->Hp->VK->Prop:=fun x H Q=>∃ i,x=.int i/\Q (g i) H
section
variable {X:Cx}{a b c:Expr}{ta tb tc:TE}{pos:Pos}
theorem D3 (ha:PE X a ta) (hb:PE X b tb) {pins:List (Addr × Obj)}{s:Shared}{σ:St}{H:Hp}{R:V->V->Hp->Prop} (I:aO X pins σ H s)
  (h:ta σ H fun x H1=>tb σ H1 fun y H2=>R x y H2) {Q:Value->Shared->Prop}{f:Value->Value->Sem Value}
  (hf:∀ v u s2 x y H2,aO X pins σ H2 s2->bL x v->bL y u->R x y H2->wpAny (model X.prog X.w) X.A (f v u) Q X.xe s2) :
  wpAny (model X.prog X.w) X.A (eval a X.env) (fun v s₁=>wpAny (model X.prog X.w) X.A (eval b X.env) (fun u s₂=>wpAny (model X.prog X.w) X.A (f v u) Q X.xe s₂) X.xe s₁) X.xe s:=by
 refine dS (ha pins s σ H _ I h) fun v s1 ⟨x,H1,I1,r1,q1⟩=>?_
 refine dS (hb pins s1 σ H1 _ I1 q1) fun u s2 ⟨y,H2,I2,r2,q2⟩=>?_
 exact hf v u s2 x y H2 I2 r1 r2 q2
theorem Hi {op:Operator}{r:R2} (ho:jz X (binaryOp op) r) (ha:PE X a ta) (hb:PE X b tb):PE X (.BinOp a op b pos) (HH r ta tb):=by
 intro pins s σ H Q I h
 exact wpAny_BinOp (D3 ha hb I h fun v u s2 x y H2 I2 rx ry q=>ho pins s2 σ H2 x y v u Q I2 rx ry q)
theorem Hh {op:UnaryOp}{r:V->Hp->VK->Prop} (ho:HM X (unaryOp op) r) (ha:PE X a ta):PE X (.UnaryOp op a pos) (Jc r ta):=by
 intro pins s σ H Q I h
 exact UnaryOp_ (dS (ha pins s σ H _ I h) fun v s1 ⟨x,H1,I1,r1,q1⟩=>ho pins s1 σ H1 x v Q I1 r1 q1)
theorem HI {f:Value->Value->Sem Value}{C:Int->Int->Prop}{g:Int->Int->Int}
  (rule:∀ (i j:Int) (t u:Tok) (s:Shared) (Q:Value->Shared->Prop) (E:Value->Shared->Prop),C i j->Q (.int (g i j) s.toks) { s with toks:=s.toks+1 }->wpAny (model X.prog X.w) X.A (f (.int i t) (.int j u)) Q E s) :
  jz X f (rI C fun i j=>.int (g i j)):=by
 intro pins s σ H x y v u Q I rx ry h
 obtain ⟨i,j,rfl,rfl,hc,q⟩:=h
 obtain ⟨t,rfl⟩:=rx
 obtain ⟨t',rfl⟩:=ry
 exact rule i j t t' s _ _ hc ⟨.int (g i j),H,I.tok _,⟨_,rfl⟩,q⟩
theorem GG {f:Value->Value->Sem Value}{g:Int->Int->Int}
  (rule:∀ (i j:Int) (t u:Tok) (s:Shared) (Q:Value->Shared->Prop) (E:Value->Shared->Prop),Q (.int (g i j) s.toks) { s with toks:=s.toks+1 }->wpAny (model X.prog X.w) X.A (f (.int i t) (.int j u)) Q E s) :
  jz X f (Gm fun i j=>.int (g i j)):=by
 intro pins s σ H x y v u Q I rx ry h
 obtain ⟨i,j,rfl,rfl,q⟩:=h
 obtain ⟨t,rfl⟩:=rx
 obtain ⟨t',rfl⟩:=ry
 exact rule i j t t' s _ _ ⟨.int (g i j),H,I.tok _,⟨_,rfl⟩,q⟩
def Bo (i j:Int):Prop:=0<j/\j<1073741824
def yC (i j:Int):Prop:=0<=j/\j<=1000000/\i.natAbs<2 ^ 64
def rF (i j:Int):Prop:=(-(2 ^ 64)<i/\i<2 ^ 64)\/(-(2 ^ 64)<j/\j<2 ^ 64)
theorem rF.ok {i j:Int} (h:rF i j):IntMulOk i j:=by
 rcases h with ⟨h1,h2⟩ | ⟨h1,h2⟩
 ·exact .of_left (intBits_le_64 h1 h2)
 ·exact .of_right (intBits_le_64 h1 h2)
theorem Fq:jz X (binaryOp .Add) (Gm fun i j=>.int (i+j)):=GG fun _ _ _ _ _ _ _ q=>add_int q
theorem Ff:jz X (binaryOp .Sub) (Gm fun i j=>.int (i - j)):=GG fun _ _ _ _ _ _ _ q=>sub_int q
theorem Fj:jz X (binaryOp .Mult) (rI rF fun i j=>.int (i * j)):=HI fun _ _ _ _ _ _ _ hc q=>mul_int q hc.ok
theorem Cs:jz X (binaryOp .FloorDiv) (rI Bo fun i j=>.int (i / j)):=HI fun i j _ _ _ _ _ hc q=>by
 have h1:(0:Int)<j:=hc.1
 have h2:j<1073741824:=hc.2
 exact floordiv_int (by omega) (by rw [Int.fdiv_eq_ediv_of_nonneg i (by omega)];exact q) (.inl (PyProof.noPylong_small (by omega)))
theorem Fk:jz X (binaryOp .Mod) (rI (fun _ j=>0<j) fun i j=>.int (i % j)):=HI fun i j _ _ _ _ _ hc q=>by
 have h1:(0:Int)<j:=hc
 exact mod_int' (by omega) (by rw [Int.fmod_eq_emod_of_nonneg i (by omega)];exact q)
theorem Fh:jz X (binaryOp .Pow) (rI yC fun i j=>.int (i ^ j.toNat)):=HI fun _ _ _ _ _ _ _ hc q=>pow_int_small hc.1 hc.2.1 hc.2.2 q
theorem Jb {f:Value->Sem Value}{g:Int->Int}
  (rule:∀ (i:Int) (t:Tok) (s:Shared) (Q:Value->Shared->Prop) (E:Value->Shared->Prop),Q (.int (g i) s.toks) { s with toks:=s.toks+1 }->wpAny (model X.prog X.w) X.A (f (.int i t)) Q E s) :
  HM X f (rU fun i=>.int (g i)):=by
 intro pins s σ H x v Q I rx h
 obtain ⟨i,rfl,q⟩:=h
 obtain ⟨t,rfl⟩:=rx
 exact rule i t s _ _ ⟨.int (g i),H,I.tok _,⟨_,rfl⟩,q⟩
theorem Ee:HM X (unaryOp .USub) (rU fun i=>.int (-i)):=Jb fun _ _ _ _ _ q=>neg_int q
end
def Ir:V->V->Bool
 | .non,.non=>true | .non,.int _=>true | .int _,.non=>true | .non,.bl _=>true | .bl _,.non=>true | .non,.str _=>true | .str _,.non=>true
 | .int _,.int _=>true | .bl _,.bl _=>true | .str _,.str _=>true | .byt _,.byt _=>true
 | .int _,.str _=>true | .str _,.int _=>true | .bl _,.str _=>true | .str _,.bl _=>true
 | _,_=>false
def HW:R2:=fun x y H Q=>Ir x y=true/\Q (.bl (!decide (x=y))) H
theorem Dg {i j:Int}:decide (V.int i=V.int j)=(i == j):=by
 rw [J8]
 simp
theorem Gc {i j:Bool}:decide (V.bl i=V.bl j)=(i == j):=by
 rw [J8]
 simp
theorem Df {i j:Str}:decide (V.str i=V.str j)=(i == j):=by
 rw [J8]
 simp
theorem Dh {i j:Array UInt8}:decide (V.byt i=V.byt j)=(i.toList == j.toList):=by
 rw [J8]
 cases i
 cases j
 simp
section
variable {X:Cx}{a b c:Expr}{ta tb tc:TE}{pos:Pos}
theorem dv {pins:List (Addr × Obj)}{σ:St}{H:Hp}{s:Shared}{Q:VK}{k k':Bool} (I:aO X pins σ H s) (q:Q (.bl k) H) (e:k=k'):EP X pins σ Q (.bool k') s:=by
 subst e
 exact ⟨.bl k,H,I,rfl,q⟩
theorem Hn:jz X (compareOp .NotEq) HW:=by
 intro pins s σ H x y v u Q I rx ry h
 obtain ⟨hs,q⟩:=h
 cases x with
 | non=>
  cases rx
  cases y with
  | non=>cases ry;exact PySem.EqNone.ne_none_none (dv I q (by simp))
  | bl j=>cases ry;exact PySem.EqNone.ne_none_bool (dv I q (by simp))
  | int j=>obtain ⟨t',rfl⟩:=ry;exact PySem.EqNone.ne_none_int (dv I q (by simp))
  | str j=>obtain ⟨t',rfl⟩:=ry;exact PySem.EqNone.ne_none_str (dv I q (by simp))
  | _=>exact absurd (show false=true from hs) JX
 | bl i=>
  cases rx
  cases y with
  | non=>cases ry;exact PySem.EqNone.ne_bool_none (dv I q (by simp))
  | bl j=>cases ry;exact ne_bool (dv I q (JR not Gc))
  | str j=>obtain ⟨t',rfl⟩:=ry;exact PySem.EqMixed.ne_bool_str (dv I q (by simp))
  | _=>exact absurd (show false=true from hs) JX
 | int i=>
  obtain ⟨t,rfl⟩:=rx
  cases y with
  | non=>cases ry;exact PySem.EqNone.ne_int_none (dv I q (by simp))
  | int j=>obtain ⟨t',rfl⟩:=ry;exact ne_int (dv I q (JR not Dg))
  | str j=>obtain ⟨t',rfl⟩:=ry;exact PySem.EqMixed.ne_int_str (dv I q (by simp))
  | _=>exact absurd (show false=true from hs) JX
 | str i=>
  obtain ⟨t,rfl⟩:=rx
  cases y with
  | non=>cases ry;exact PySem.EqNone.ne_str_none (dv I q (by simp))
  | bl j=>cases ry;exact PySem.EqMixed.ne_str_bool (dv I q (by simp))
  | int j=>obtain ⟨t',rfl⟩:=ry;exact PySem.EqMixed.ne_str_int (dv I q (by simp))
  | str j=>obtain ⟨t',rfl⟩:=ry;exact ne_str (dv I q (JR not Df))
  | _=>exact absurd (show false=true from hs) JX
 | byt i=>
  obtain ⟨t,rfl⟩:=rx
  cases y with
  | byt j=>obtain ⟨t',rfl⟩:=ry;exact W.ne_bytes (dv I q (JR not Dh))
  | _=>exact absurd (show false=true from hs) JX
 | _=>cases y <;> exact absurd (show false=true from hs) JX
theorem Fl:jz X (compareOp .Is) (fun x y H Q=>y=.non/\Q (.bl (decide (x=.non))) H):=by
 intro pins s σ H x y v u Q I rx ry h
 obtain ⟨rfl,q⟩:=h
 cases ry
 refine is_none_gen (dv I q ?_)
 cases x <;> first
  | (cases rx;rfl)
  | (obtain ⟨t,rfl⟩:=rx;rfl)
theorem Cq:jz X (compareOp .IsNot) (fun x y H Q=>y=.non/\Q (.bl (!decide (x=.non))) H):=by
 intro pins s σ H x y v u Q I rx ry h
 obtain ⟨rfl,q⟩:=h
 cases ry
 refine isnot_none_gen (dv I q ?_)
 cases x <;> first
  | (cases rx;rfl)
  | (obtain ⟨t,rfl⟩:=rx;rfl)
theorem jz.or {f:Value->Value->Sem Value}{r r':R2} (h:jz X f r) (h':jz X f r'):jz X f (fun x y H Q=>r x y H Q\/r' x y H Q):=by
 intro pins s σ H x y v u Q I rx ry q
 rcases q with q | q
 ·exact h pins s σ H x y v u Q I rx ry q
 ·exact h' pins s σ H x y v u Q I rx ry q
theorem Cn {op:CmpOp}{r:R2} (ho:jz X (compareOp op) r) (ha:PE X a ta) (hb:PE X b tb) (hm:behindInMarks op b=false):PE X (.Compare a [op] [b] pos) (HH r ta tb):=by
 intro pins s σ H Q I h
 exact wpAny_Compare1 (D3 ha hb I h fun v u s2 x y H2 I2 rx ry q=>ho pins s2 σ H2 x y v u Q I2 rx ry q) hm
def GU (t:TE):TT:=fun σ H Q=>t σ H fun x H'=>∃ k,x=.bl k/\Q k H'
theorem Cb {op:CmpOp}{r:R2} (ho:jz X (compareOp op) r) (ha:PE X a ta) (hb:PE X b tb) (hm:behindInMarks op b=false):PT X (.Compare a [op] [b] pos) (GU (HH r ta tb)):=by
 intro pins s σ H Q I h
 refine wpAny_isTrue_Compare1 (dS (ha pins s σ H _ I h) fun v s1 ⟨x,H1,I1,r1,q1⟩=>dS (hb pins s1 σ H1 _ I1 q1) fun u s2 ⟨y,H2,I2,r2,q2⟩=>
  dS (ho pins s2 σ H2 x y v u _ I2 r1 r2 q2) fun c s3 ⟨z,H3,I3,r3,k,e,q3⟩=>?_) hm
 subst e
 cases r3
 exact JP ⟨H3,I3,q3⟩
def zc (r r':R2) (ta tb tc:TE):TE:=fun σ H Q=>ta σ H fun x H1=>tb σ H1 fun y H2=>r x y H2 fun z H3=>∃ k,z=.bl k /\
 (if k=true then tc σ H3 fun w' H4=>r' y w' H4 Q else Q (.bl false) H3)
theorem Ak {op op':CmpOp}{r r':R2} (ho:jz X (compareOp op) r) (ho':jz X (compareOp op') r') (ha:PE X a ta) (hb:PE X b tb) (hc:PE X c tc)
  (hm:lastMarks [op,op'] [b,c]=false:=by with_unfolding_all rfl):PE X (.Compare a [op,op'] [b,c] pos) (zc r r' ta tb tc):=by
 intro pins s σ H Q I h
 refine Compare_chain (dS (ha pins s σ H _ I h) fun v s1 ⟨x,H1,I1,r1,q1⟩=>chain_link (dS (hb pins s1 σ H1 _ I1 q1) fun u s2 ⟨y,H2,I2,r2,q2⟩=>
  dS (ho pins s2 σ H2 x y v u _ I2 r1 r2 q2) fun d s3 ⟨z,H3,I3,r3,k,e,q3⟩=>?_)) hm
 subst e
 cases r3
 refine JP ?_
 cases k with
 | false=>exact ite_ff ⟨.bl false,H3,I3,rfl,q3⟩
 | true=>exact ite_tt (chain_last (dS (hc pins s3 σ H3 _ I3 q3) fun w' s4 ⟨z',H4,I4,r4,q4⟩=>ho' pins s4 σ H4 y z' u w' Q I4 r2 r4 q4))
def D4 (K:W.Frag) (x:V) (H:Hp) (k:Bool):Prop:=
 match x with
 | .non=>k=false
 | .bl b=>k=b
 | .int i=>k=(i != 0)
 | .str y=>y.length<=sizeLine/\k=((y.length:Int) != 0)
 | .byt y=>y.size<=sizeLine/\k=((y.size:Int) != 0)
 | .ref p=>(∃ xs,hX K H p xs/\k=!xs.isEmpty)\/(∃ xs,gU K H p xs/\k=!xs.isEmpty)\/∃ kvs,H p=some (.dK kvs)/\k=!kvs.isEmpty
 | _=>False
theorem vD {κ:Type}{kvs:List (κ × V)}{vs:List (κ × Value)} (r:KV kvs vs):(!vs.isEmpty)=!kvs.isEmpty:=by
 cases r <;> rfl
theorem pE {xs:List V}{its:List Value} (r:bb xs its):(!its.toArray.isEmpty)=!xs.isEmpty:=by
 cases r <;> simp
theorem mw:(sizeLine:Nat)<2 ^ 63:=by rw [J9];decide
theorem Eh:IK X (fun x H Q=>∃ k,D4 X.K x H k/\Q k H):=by
 intro pins s σ H x v Q I rx h
 obtain ⟨k,e,q⟩:=h
 have hl:=mw
 have hs:sizeLine=16777216:=J9
 cases x with
 | non=>
  cases rx
  have e':k=false:=e
  subst e'
  exact truthy_none ⟨H,I,q⟩
 | bl b=>
  cases rx
  have e':k=b:=e
  subst e'
  exact JP ⟨H,I,q⟩
 | int i=>
  obtain ⟨t,rfl⟩:=rx
  have e':k=(i != 0):=e
  subst e'
  exact PySem.P.truthy_int ⟨H,I,q⟩
 | str y=>
  obtain ⟨t,rfl⟩:=rx
  obtain ⟨hy,e'⟩:y.length<=sizeLine/\k=((y.length:Int) != 0):=e
  subst e'
  exact PySem.P.truthy_str (by omega) ⟨H,I.tok _,q⟩
 | byt y=>
  obtain ⟨t,rfl⟩:=rx
  obtain ⟨hy,e'⟩:y.size<=sizeLine/\k=((y.size:Int) != 0):=e
  subst e'
  exact W.truthy_bytes (by omega) ⟨H,I.tok _,q⟩
 | ref p=>
  cases rx
  have e':(∃ xs,hX X.K H p xs/\k=!xs.isEmpty)\/(∃ xs,gU X.K H p xs/\k=!xs.isEmpty)\/∃ kvs,H p=some (.dK kvs)/\k=!kvs.isEmpty:=e
  rcases e' with ⟨xs,hx,e'⟩ | ⟨xs,hx,e'⟩ | ⟨kvs,hx,e'⟩
  ·subst e'
   obtain ⟨its,r,pl,hz⟩:=I.list hx
   have hlen:=r.length
   exact wpAny_truthy_list pl.isList (by simp only [Ka];omega) ⟨H,I.tok _,by rw [pE r];exact q⟩
  ·subst e'
   obtain ⟨its,r,pl,hz⟩:=I.tuple hx
   have hlen:=r.length
   exact truthy_tuple pl (by simp only [Ka];omega) ⟨H,I.tok _,by rw [pE r];exact q⟩
  ·subst e'
   obtain ⟨hz,hS,vs,r,m⟩:kvs.length<=sizeLine/\(p == sysModules)=false/\∃ vs,KV kvs vs/\s.heap.DictOf (sd X.prog X.w) p vs:=I.hok p _ hx
   have hlen:kvs.length=vs.length:=Paired.length r
   exact wpAny_truthy_dict hS m (by omega) ⟨H,I.tok _,by rw [vD r];exact q⟩
 | _=>exact (show False from e).elim
theorem Ab (ha:PE X a ta) (he:∀ whole,isTrue a X.env whole=(do let v <- whole;standAt a.pos;holding [v] (truthy v))) :
  PT X a (fun σ H Q=>ta σ H fun x H'=>∃ k,D4 X.K x H' k/\Q k H'):=by
 intro pins s σ H Q I h
 exact isTrue_plain (dS (ha pins s σ H _ I h) fun v s1 ⟨x,H1,I1,r1,q1⟩=>Eh pins s1 σ H1 x v Q I1 r1 q1) (he _)
theorem vy:jz X (binaryOp .Add) (fun x y H Q=>∃ i j,x=.str i/\y=.str j/\i.length+j.length<=sizeLine/\Q (.str (i++j)) H):=by
 intro pins s σ H x y v u Q I rx ry h
 obtain ⟨i,j,rfl,rfl,hz,q⟩:=h
 obtain ⟨t,rfl⟩:=rx
 obtain ⟨t',rfl⟩:=ry
 exact add_str (fun t' tk=>⟨.str (i++j),H,I.tok _,⟨_,rfl⟩,q⟩) hz
theorem gC {x:V}{us:List Value} (r:bb [x] us):∃ u,us=[u]/\bL x u:=by
 cases r with
 | cons r1 r2=>cases r2;exact ⟨_,rfl,r1⟩
theorem yF {x y:V}{us:List Value} (r:bb [x,y] us):∃ u w',us=[u,w']/\bL x u/\bL y w':=by
 cases r with
 | cons r1 r2=>
  cases r2 with
  | cons r3 r4=>cases r4;exact ⟨_,_,rfl,r1,r3⟩
theorem yh (hc:X.calm=true):cI X (.builtin "max") (fun xs H Q=>∃ i j,xs=[.int i,.int j]/\Q (.int (if j > i then j else i)) H):=by
 intro pins s σ H xs us Q I r h
 obtain ⟨i,j,rfl,q⟩:=h
 obtain ⟨u,w',rfl,⟨t,rfl⟩,⟨t',rfl⟩⟩:=yF r
 refine max_two_ints (I.ok.hd hc) fun h' tk k=>⟨_,H,I.kept k,?_,q⟩
 by_cases hj:j > i
 ·rw [Js hj,Js hj];exact ⟨_,rfl⟩
 ·rw [Jt hj,Jt hj];exact ⟨_,rfl⟩
theorem yf (hc:X.calm=true):cI X (.builtin "min") (fun xs H Q=>∃ i j,xs=[.int i,.int j]/\Q (.int (if j<i then j else i)) H):=by
 intro pins s σ H xs us Q I r h
 obtain ⟨i,j,rfl,q⟩:=h
 obtain ⟨u,w',rfl,⟨t,rfl⟩,⟨t',rfl⟩⟩:=yF r
 refine min_two_ints (I.ok.hd hc) fun h' tk k=>⟨_,H,I.kept k,?_,q⟩
 by_cases hj:j<i
 ·rw [Js hj,Js hj];exact ⟨_,rfl⟩
 ·rw [Jt hj,Jt hj];exact ⟨_,rfl⟩
theorem yl:cI X (.type "int") (fun xs H Q=>(∃ i,xs=[.int i]/\Q (.int i) H)\/∃ k,xs=[.bl k]/\Q (.int (if k then 1 else 0)) H):=by
 intro pins s σ H xs us Q I r h
 rcases h with ⟨i,rfl,q⟩ | ⟨k,rfl,q⟩
 ·obtain ⟨u, rfl, t, rfl⟩ := gC r
  exact call_int_int ⟨.int i,H,I,⟨_,rfl⟩,q⟩
 ·obtain ⟨u, rfl, r1⟩ := gC r
  cases r1
  exact call_int_bool ⟨.int (if k then 1 else 0),H,I.tok _,⟨_,rfl⟩,q⟩
def D6 (K:W.Frag) (x:V) (H:Hp) (n:Nat):Prop:=
 match x with
 | .str y=>y.length<=sizeLine/\n=y.length
 | .byt y=>y.size<=sizeLine/\n=y.size
 | .ref p=>(∃ xs,hX K H p xs/\n=xs.length)\/∃ xs,gU K H p xs/\n=xs.length
 | _=>False
theorem AV:cI X (.builtin "len") (fun xs H Q=>∃ x n,xs=[x]/\D6 X.K x H n/\Q (.int n) H):=by
 intro pins s σ H xs us Q I r h
 obtain ⟨x,n,rfl,e,q⟩:=h
 obtain ⟨u,rfl,rx⟩:=gC r
 have hl:=mw
 have hs:sizeLine=16777216:=J9
 cases x with
 | str y=>
  obtain ⟨t,rfl⟩:=rx
  obtain ⟨hy,e'⟩:y.length<=sizeLine/\n=y.length:=e
  subst e'
  exact len_str (by omega) ⟨.int _,H,I.tok _,⟨_,rfl⟩,q⟩
 | byt y=>
  obtain ⟨t,rfl⟩:=rx
  obtain ⟨hy,e'⟩:y.size<=sizeLine/\n=y.size:=e
  subst e'
  exact W.len_bytes (by omega) ⟨.int _,H,I.tok _,⟨_,rfl⟩,q⟩
 | ref p=>
  cases rx
  have e':(∃ xs,hX X.K H p xs/\n=xs.length)\/∃ xs,gU X.K H p xs/\n=xs.length:=e
  rcases e' with ⟨xs,hx,e'⟩ | ⟨xs,hx,e'⟩
  ·subst e'
   obtain ⟨its,r',pl,hz⟩:=I.list hx
   have hlen:=r'.length
   exact Calls.call_len_list pl.isList (by simp only [Ka];omega) ⟨.int xs.length,H,I.tok _,⟨_,by simp only [Ka];rw [hlen]⟩,q⟩
  ·subst e'
   obtain ⟨its,r',pl,hz⟩:=I.tuple hx
   have hlen:=r'.length
   exact len_tuple pl (by simp only [Ka];omega) ⟨.int xs.length,H,I.tok _,⟨_,by simp only [Ka];rw [hlen]⟩,q⟩
 | _=>exact (show False from e).elim
end
end L2
namespace L2
open PySem PySem.Spec PyProof.Rows
structure Jl (h:Heap) (x dx C:Addr) (mA:Str->Option Value):Prop where
 obj:h.get? x=some (W.instObj C dx)
 ns:h.Ns1 dx mA
 ne:dx≠x
section
variable {prog:Program}{w:World}{A:Around}{E:Value->Shared->Prop}{s:Shared}{K:W.Frag}{x dx C f:Addr}{mA:Str->Option Value}{name:Str}{v:Value}
end
section
variable {P:Program}{w:World}{H H':Hp}{h h':Heap}{a C dx:Addr}{fs fs':List (Str × V)}
end
structure Jk (K:W.Frag) (C:Addr):Prop where
 pg:W.plainGet K C Str.empty=true
 hd:W.hasDictIn K C=true
 po:W.plainOver K C=true
 sa:W.findIn K (.ref C) "__setattr__" = some (some (.builtin "object.__setattr__"))
structure Jo (K:W.Frag) (C:Addr) (f:Str) (v:V) (u:Value):Prop where
 at_:W.findIn K (.ref C) f=some (some u)
 rel:bL v u
 get:W.specialIn K u "__get__" = some none
 cp:W.copiedNames.contains f=false
structure Jm (K:W.Frag) (C:Addr) (m:Str) (f:Addr):Prop where
 at_:W.findIn K (.ref C) m=some (some (.ref f))
 fn:W.isFn K (.ref f)=true
 kp:W.keepIn K (.ref f)=true
section
variable {X:Cx}{pins:List (Addr × Obj)}{σ:St}{H:Hp}{s:Shared}{a C dx:Addr}{fs:List (Str × V)}{f:Str}{v:V}{A:Around}{E:Value->Shared->Prop}
end
section
variable {X:Cx}{o e value:Expr}{f:Str}{pos pos' tpos:Pos}{ta tv:TE}
end
section
variable {X:Cx}{pins:List (Addr × Obj)}{σ:St}{H:Hp}{s:Shared}{A:Around}{E:Value->Shared->Prop}{Q:Value->Shared->Prop}{c:Value}{b:Bool}
inductive oj (K:W.Frag) (H:Hp):V->Value->Prop where
 | non:oj K H .non (.type "NoneType")
 | bl (x:Bool):oj K H (.bl x) (.type "bool")
 | int (i:Int):oj K H (.int i) (.type "int")
 | str (x:Str):oj K H (.str x) (.type "str")
 | flt (x:UInt64):oj K H (.flt x) (.type "float")
 | lst {a:Addr}{xs:List V} (e:H a=some (.lst xs)):oj K H (.ref a) (.type "list")
 | frz {a:Addr}{o:Obj}{xs:List V} (e:H a=some (.frz o (.lst xs))):oj K H (.ref a) (.type "list")
 | tup {a:Addr}{xs:List V} (e:H a=some (.tup xs)):oj K H (.ref a) (.type "tuple")
 | dK {a:Addr}{kvs:List (rl × V)} (e:H a=some (.dK kvs)):oj K H (.ref a) (.type "dict")
 | dT {a:Addr}{kvs:List (List rl × V)} (e:H a=some (.dT kvs)):oj K H (.ref a) (.type "dict")
 | ins {a C dx:Addr}{fs:List (Str × V)} (e:H a=some (.ins C dx fs)) (cl:Jk K C) (ha:W.findIn K (.ref C) "__class__" = some (some (.builtin "object.__class__")))
   (hn:W.specialIn K (.builtin "object.__class__") "__get__" = some (some (.builtin "getset_descriptor.__get__"))) (htk:W.takesIn K (.builtin "object.__class__")=some true)
   (hm:W.mroIn K C (.type "object")=some true):oj K H (.ref a) (.ref C)
end
end L2
namespace L2
open PySem PySem.Spec PyProof.Rows
structure fm (k:Nat) (A:Around):Prop where
 hd:A.handled=none
 dp:A.depth+3 * k+5<recursionLimit
 un:A.units+16 * k+200<cLine
 gd:A.guards=some []
theorem fm.mono {j k:Nat}{A:Around} (r:fm k A) (h:j<=k):fm j A:=⟨r.hd,by have:=r.dp;omega,by have:=r.un;omega,r.gd⟩
theorem fm.deeper {k:Nat}{A:Around} (r:fm (k+1) A) (env:Env):fm k (A.deeper env):=
 ⟨r.hd,by have:=r.dp;show A.depth+1+3 * k+5<_;omega,by have:=r.un;show A.units+3+16 * k+200<_;omega,r.gd⟩
theorem fm.depth {k:Nat}{A:Around} (r:fm k A):A.depth<recursionLimit:=by have:=r.dp;omega
theorem fm.units {k:Nat}{A:Around} (r:fm k A):A.units+64<cLine:=by have:=r.un;omega
def Ij:TA:=fun _ H Q=>Q [] H
def G1 (ta:TE) (tr:TA):TA:=fun σ H Q=>ta σ H fun x H1=>tr σ H1 fun xs H2=>Q (x::xs) H2
section
variable {X:Cx}{e:Expr}{es:List Expr}{te:TE}{t:TA}{pos:Pos}
theorem oG:PA X [] Ij:=fun _ _ _ _ H Q I h=>Calls.spliced_nil ⟨[],H,I,.nil,h⟩
theorem iD (ha:PE X e te) (hr:PA X es t) (hs:starEach (e::es) X.env=(false,eval e X.env)::starEach es X.env:=by rfl):PA X (e::es) (G1 te t):=by
 intro pos pins s σ H Q I h
 rw [hs]
 show wpAny _ _ (spliced ((false,eval e X.env)::backTo pos (starEach es X.env))) _ _ s
 refine Calls.spliced_cons (dS (ha pins s σ H _ I h) fun u s1 ⟨x,H1,I1,r1,q1⟩=>?_)
 exact dS (hr pos pins s1 σ H1 _ I1 q1) fun us s2 ⟨xs,H2,I2,r2,q2⟩=>⟨x::xs,H2,I2,.cons r1 r2,q2⟩
def Ie (t:TA):TE:=fun σ H Q=>t σ H fun xs H1=>xs.length<=sizeLine/\∀ p,H1 p=none->Q (.ref p) (cK H1 p (.tup xs))
def Ik (t:TA):TE:=fun σ H Q=>t σ H fun xs H1=>xs.length<=sizeLine/\∀ p,H1 p=none->Q (.ref p) (cK H1 p (.lst xs))
theorem E5 {x1} (h:PA X es t):PE X (.Tuple es x1 pos) (Ie t):=by
 intro pins s σ H Q I hq
 refine wpAny_Tuple_spliced (dS (h pos pins s σ H _ I hq) fun us s1 ⟨xs,H1,I1,r,z,q⟩=>⟨by rw [<- r.length];exact z,?_⟩)
 have hf:H1 s1.heap.objs.size=none:=I1.hok.fresh (J3 _)
 refine ⟨.ref s1.heap.objs.size,cK H1 s1.heap.objs.size (.tup xs),I1.laid (t':=s1.toks) (fun b u e=>J1 _ e) (J3 _) ?_,rfl,q _ hf⟩
 exact ⟨z,us,r,⟨_,J2 _ rfl,rfl,_,rfl⟩⟩
theorem Fb (h:PA X es t):PE X (.List es pos) (Ik t):=by
 intro pins s σ H Q I hq
 refine wpAny_List_spliced (dS (h pos pins s σ H _ I hq) fun us s1 ⟨xs,H1,I1,r,z,q⟩=>⟨by rw [<- r.length];exact z,?_⟩)
 have hf:H1 s1.heap.objs.size=none:=I1.hok.fresh (J3 _)
 refine ⟨.ref s1.heap.objs.size,cK H1 s1.heap.objs.size (.lst xs),I1.laid (t':=s1.toks) (fun b u e=>J1 _ e) (J3 _) ?_,rfl,q _ hf⟩
 exact ⟨z,us,0,r,J2 _ rfl⟩
end
abbrev Sp:=List V->Hp->VK->XK->Prop
abbrev sP:=List Env->Hp->Shared->XK->Value->Shared->Prop
structure xh (P:Program) (w:World) (K:W.Frag) (mg:Str->Option Value) (base:Heap) (A:Around) (outer:List Env) (s:Shared) (H:Hp):Prop where
 frames:A.frames=some outer
 mod:Mod K mg base
 bs:∀ b o,base.get? b=some o->s.heap.get? b=some o/\H b=none
 bsz:base.objs.size<=s.heap.objs.size
 funs:s.heap.FunFrames base outer
 frf:∀ b∈mY outer,H b=none
 hok:mf P w H s.heap
 bare:AllBare s.gens
def CE (outer:List Env) (P:Program) (w:World) (H:Hp) (s:Shared) (Q:VK) (u:Value) (s':Shared):Prop:=
 ∃ v H',s'.os=s.os/\AllBare s'.gens/\Un (mY outer) [] H H' s.heap s'.heap/\mf P w H' s'.heap/\bL v u/\Q v H'
def CR (CX:sP) (outer:List Env) (P:Program) (w:World) (H:Hp) (s:Shared) (Q:VK) (E:XK) (r:Result) (s':Shared):Prop:=
 match r with
 | .ok (.ret u)=>CE outer P w H s Q u s'
 | .ok _=>False
 | .error e=>CX outer H s E e s'
structure om (P:Program) (w:World) (K:W.Frag) (mg:Str->Option Value) (base:Heap) (CX:sP) (k:Nat) (f:Addr) (fd:FuncData) (ps:List Str) (sp:Sp):Prop where
 len:∀ vs H Q E,sp vs H Q E->vs.length=ps.length
 run:∀ (A:Around) (outer:List Env) (s:Shared) (H:Hp) (args:Args) (us:List Value) (vs:List V) (Q:VK) (E:XK),fm k A->xh P w K mg base A outer s H->BindsTo s fd args (ps.zip us)->bb vs us->sp vs H Q E ->
  codeAny (model P w) A (.call (.ref f) args) (CR CX outer P w H s Q E) s
section
variable {X:Cx}{pins:List (Addr × Obj)}{σ:St}{H:Hp}{s s':Shared}
theorem aO.env0 (I:aO X pins σ H s):xh X.prog X.w X.K X.mg X.base X.A X.stack s H:=
 ⟨I.ok.frames,I.ok.mod,I.bs,JB I.ok.bsz I.sz,I.stack,I.stkFree,I.hok,I.bare⟩
theorem aO.after {Q:VK}{u:Value} (I:aO X pins σ H s) (h:CE X.stack X.prog X.w H s Q u s'):EP X pins σ Q u s':=by
 obtain ⟨v,H',os,bare,un,hok,r,q⟩:=h
 obtain ⟨hh,g,d,t,os'⟩:=s'
 obtain rfl:os'=s.os:=os
 exact ⟨v,H',I.call (h':=hh) (g':=g) (d':=d) (t':=t) (ch:=[]) un hok bare (fun b z=>absurd z (by simp)),r,q⟩
end
def Dr (sp:Sp) (dvs:List V) (E:XK) (t:TA):TE:=fun σ H Q=>t σ H fun vs H1=>sp (vs++dvs) H1 Q E
def gF (K:W.Frag) (fd:FuncData) (ps:List Str) (ds:List Value):Prop:=
 ∀ (s:Shared) (us:List Value),K.In s.heap->(us++ds).length=ps.length->BindsTo s fd ⟨us,[]⟩ (ps.zip (us++ds))
theorem gF.all {K:W.Frag}{fd:FuncData}{ps:List Str} (h:∀ us:List Value,us.length=ps.length->bindArgs fd ⟨us,[]⟩=pure (ps.zip us)):gF K fd ps []:=fun s us _ hl=>by
 rw [Kb] at hl ⊢
 exact .of_eq (h us hl)
def jg (CX:sP) (X:Cx) (E:XK):Prop:=∀ (pins:List (Addr × Obj)) (σ:St) (H:Hp) (s:Shared) (e:Value) (s':Shared),aO X pins σ H s->CX X.stack H s E e s'->X.xe e s'
section
variable {X:Cx}{CX:sP}{k:Nat}{f C:Addr}{fd:FuncData}{ps:List Str}{sp:Sp}{dvs:List V}{ds:List Value}{E:XK}{x m:Str}{p pos apos:Pos}{e o:Expr}{es:List Expr}{ta:TE}{t:TA}
theorem EL {pins:List (Addr × Obj)}{σ:St}{H:Hp}{s:Shared}{Q:VK}{us:List Value}{vs:List V} (F:om X.prog X.w X.K X.mg X.base CX k f fd ps sp) (hr:fm k X.A) (hb:gF X.K fd ps ds) (hd:bb dvs ds) (hx:jg CX X E)
  (I:aO X pins σ H s) (r:bb vs us) (h:sp (vs++dvs) H Q E):wpAny (model X.prog X.w) X.A (call (.ref f) us) (EP X pins σ Q) X.xe s:=by
 have r2:bb (vs++dvs) (us++ds):=r.append hd
 have hl:(us++ds).length=ps.length:=by rw [<- r2.length];exact F.len _ _ _ _ h
 refine wpAny_call (Kc (F.run X.A X.stack s H ⟨us,[]⟩ (us++ds) (vs++dvs) Q E hr I.env0 (hb s us I.kIn hl) r2 h) fun r s' hq=>?_)
 cases r with
 | error e=>exact hx pins σ H s e s' I hq
 | ok fl=>
  cases fl with
  | ret u=>exact I.after hq
  | next=>exact False.elim hq
  | brk=>exact False.elim hq
  | cont=>exact False.elim hq
theorem nW (F:om X.prog X.w X.K X.mg X.base CX k f fd ps sp) (hr:fm k X.A) (hg:Gl X x) (hm:X.mg x=some (.ref f)) (hk:W.keepIn X.K (.ref f)=true) (hb:gF X.K fd ps ds) (hd:bb dvs ds) (hx:jg CX X E)
  (ha:PA X (e::es) t) (hdb:(x == ("__debug__" : Str))=false:=by decide) (he:starEach (e::es) X.env=(false,eval e X.env)::starEach es X.env:=by rfl) (hpl:(backTo pos (starEach es X.env)).any (·.1)=false:=by rfl) :
  PE X (.Call (.Name x p) (e::es) [] pos) (Dr sp dvs E t):=by
 intro pins s σ H Q I h
 refine Kd (lC I hg hm ?_ hdb)
 refine W.callWith_K (h₀:=X.base) I.ok.mod.kin hk (dS (ha pos pins s σ H _ I h) fun us s1 ⟨vs,H1,I1,r,q⟩=>⟨I1.kIn,?_⟩) he hpl
 exact EL F hr hb hd hx I1 r q
structure Mk (K:W.Frag) (C f:Addr):Prop where
 makes:W.makesIn K C=true
 init:W.findIn K (.ref C) "__init__" = some (some (.ref f))
 fn:W.isFn K (.ref f)=true
 kp:W.keepIn K (.ref C)=true
end
section
variable {X:Cx}{CX:sP}{k:Nat}{f C:Addr}{fd:FuncData}{ps ks:List Str}{sp:Sp}{E:XK}{x m:Str}{p pos apos kpos:Pos}{e o:Expr}{es:List Expr}{kws:List Keyword}{te ta:TE}{t tk:TA}{nm:Option Str}
structure IP (K:W.Frag) (fd:FuncData) (ps ks:List Str) (g:List Value->List Value->List Value) (gV:List V->List V->List V):Prop where
 to:∀ (s:Shared) (us ws:List Value),K.In s.heap->(g us ws).length=ps.length->BindsTo s fd ⟨us,ks.zip ws⟩ (ps.zip (g us ws))
 rel:∀ {vs:List V}{us:List Value}{zs:List V}{ws:List Value},bb vs us->bb zs ws->bb (gV vs zs) (g us ws)
variable {g:List Value->List Value->List Value}{gV:List V->List V->List V}
end
structure aS (N P:List Str) (sc:Scope):Prop where
 kind:sc.kind=.function
 co:sc.isCoroutine=false
 gen:sc.isGenerator=false
 nd:N.Nodup
 pre:N.take P.length=P
 par:∀ x∈P,sc.names.lookup x=some .local\/sc.names.lookup x=some .cell
 nofree:∀ y∈sc.names,y.2≠.free
theorem qY {kindOf:Str->Option NameKind}{x:Str}:∀ {binds:List (Str × Value)}{m:Str->Option Value},(∀ v,(x,v) ∉ binds)->bindL kindOf binds m x=m x
 | [],_,_=>rfl
 | (n,v)::r,m,h=>by
  unfold bindL
  rw [qY fun w hw=>h w (JF _ hw)]
  split
  ·have : x ≠ n := by rintro rfl; exact h v JE
   simp [this]
  ·rfl
theorem qZ {kindOf:Str->Option NameKind}{x:Str}:∀ {binds:List (Str × Value)}{m:Str->Option Value},(∀ v,(x,v) ∉ binds)->bindC kindOf binds m x=m x
 | [],_,_=>rfl
 | (n,v)::r,m,h=>by
  unfold bindC
  rw [qZ fun w hw=>h w (JF _ hw)]
  split
  ·rfl
  ·have : x ≠ n := by rintro rfl; exact h v JE
   simp [this]
theorem mQ {kindOf:Str->Option NameKind}{x:Str}{v:Value}:∀ {P:List Str}{vs:List Value}{i:Nat}{m:Str->Option Value},P.Nodup->P[i]?=some x->vs[i]?=some v->kindOf x=some .local ->
  bindL kindOf (P.zip vs) m x=some v
 | [],_,_,_,_,h,_,_=>by simp at h
 | _::_,[],_,_,_,_,h,_=>by simp at h
 | p::P,w::vs,0,m,nd,h1,h2,hk=>by
  simp at h1 h2;subst h1;subst h2
  show bindL kindOf ((p,w)::P.zip vs) m p=_
  unfold bindL
  rw [qY fun v hv=>(Ke.mp nd).1 (Kf hv).1,Js hk]
  simp
 | p::P,w::vs,i+1,m,nd,h1,h2,hk=>by
  show bindL kindOf ((p,w)::P.zip vs) m x=_
  unfold bindL
  exact mQ (i:=i) (Ke.mp nd).2 (by simpa using h1) (by simpa using h2) hk
theorem mR {kindOf:Str->Option NameKind}{x:Str}{v:Value}:∀ {P:List Str}{vs:List Value}{i:Nat}{m:Str->Option Value},P.Nodup->P[i]?=some x->vs[i]?=some v->kindOf x≠some .local ->
  bindC kindOf (P.zip vs) m x=some v
 | [],_,_,_,_,h,_,_=>by simp at h
 | _::_,[],_,_,_,_,h,_=>by simp at h
 | p::P,w::vs,0,m,nd,h1,h2,hk=>by
  simp at h1 h2;subst h1;subst h2
  show bindC kindOf ((p,w)::P.zip vs) m p=_
  unfold bindC
  rw [qZ fun v hv=>(Ke.mp nd).1 (Kf hv).1,Jt hk]
  simp
 | p::P,w::vs,i+1,m,nd,h1,h2,hk=>by
  show bindC kindOf ((p,w)::P.zip vs) m x=_
  unfold bindC
  exact mR (i:=i) (Ke.mp nd).2 (by simpa using h1) (by simpa using h2) hk
def start (N:List Str) (vs:List V):St:=vs.map some++List.replicate (N.length - vs.length) none
def oi (CX:sP) (P:Program) (w:World) (K:W.Frag) (mg:Str->Option Value) (base:Heap) (N:List Str) (qual:Str) (scope:Scope) (f:Addr) (cd:Value) (A:Around) (outer:List Env) (s:Shared) (H:Hp) (E:XK):Cx where
 prog:=P
 w:=w
 K:=K
 mg:=mg
 base:=base
 A:=A.deeper (envOfC qual scope s.heap.objs.size f cd)
 N:=N
 s₀:=s
 H₀:=H
 env:=envOfC qual scope s.heap.objs.size f cd
 outer:=outer
 stack:=envOfC qual scope s.heap.objs.size f cd::outer
 ex:=[]
 calm:=true
 fn:=fun _=>true
 pn:=[]
 xe:=fun e s'=>wpAny (model P w) (A.deeper (envOfC qual scope s.heap.objs.size f cd)) (leaving (envOfC qual scope s.heap.objs.size f cd) e) (fun _ s''=>CX outer H s E e s'') (fun e' s''=>CX outer H s E e' s'') s'
theorem lO {sc:Scope}{n:Nat}{x:Str} (h:sc.names.lookup x=some .cell):∃ c,(cellsFrom n sc.names []).lookup x=some c:=by
 have q:=W.cellsFrom_some sc.names n [] (.inl h)
 exact Kg.mp q
theorem xY {CX:sP}{P:Program}{w:World}{K:W.Frag}{mg:Str->Option Value}{base:Heap}{N ps:List Str}{qual:Str}{scope:Scope}{f:Addr}{cd:Value}{A:Around}{outer:List Env}{s s1:Shared}{H:Hp}{E:XK}{us:List Value}{vs:List V}
  (S:aS N ps scope) (hd:A.handled=none) (e0:xh P w K mg base A outer s H) (hl:vs.length=ps.length) (r:bb vs us)
  (x:InCallC s s.heap.objs.size (bindL (envOfC qual scope s.heap.objs.size f cd).kindOf (ps.zip us) fun _=>none) (cellsFrom (s.heap.objs.size+1) scope.names []) (bindC (envOfC qual scope s.heap.objs.size f cd).kindOf (ps.zip us) fun _=>none) s1) :
  aO (oi CX P w K mg base N qual scope f cd A outer s H E) [] (start N vs) H s1:=by
 have hpl:ps.length<=N.length:=by have:=JR List.length S.pre;rw [Kh] at this;omega
 obtain ⟨h1,tk,rfl,hk⟩:=x.done
 have noA:∀ b:Addr,b ∉ (oi CX P w K mg base N qual scope f cd A outer s H E).ex:=fun b z=>absurd (show b∈([]:List Addr) from z) (by simp)
 refine ⟨⟨e0.mod,S.kind,rfl,rfl,J3 _,fun y z c h1 h2=>?_,fun y hy=>?_,fun y c _ h=>?_,fun _=>hd,Around.frames_deeper e0.frames,.inr ⟨rfl,rfl⟩,fun b z=>absurd z (noA b),e0.bs,e0.bsz,fun b _ _=>noA b,fun b z=>absurd z (noA b),e0.funs,e0.frf⟩,
  rfl,e0.bare,Un.kept hk,⟨_,x.toInCall.ns,fun i y v h1 h2 h3=>?_⟩,fun y c h=>⟨_,x.cell y c h⟩,e0.hok.fresh (J3 _),fun y c h=>?_,fun p hp=>absurd (show p∈([]:List (Addr × Obj)) from hp) (by simp),e0.hok.kept hk,?_⟩
 ·exact name_of_addr x.apart (Ki h1) (Ki h2)
 ·have hy : scope.names.lookup y = some .cell \/ scope.names.lookup y = some .free := hy
  rcases hy with hy | hy
  ·exact lO hy
  ·exact absurd rfl (S.nofree _ (Ki hy))
 ·exact JC (x.above y c (Ki h))
 ·have hi:i<vs.length:=by
   unfold start at h2
   by_cases hi:i<vs.length
   ·exact hi
   ·rw [Kj (by simpa using hi)] at h2
    rw [Kk] at h2
    split at h2 <;> cases h2
  have ha:vs[i]?=some v:=by
   unfold start at h2
   rw [Kl (by simpa using hi),Km] at h2
   cases e:vs[i]? with
   | none=>rw [e] at h2;cases h2
   | some a=>rw [e] at h2;cases h2;rfl
  obtain ⟨u,hu,rv⟩:=r.get ha
  have hp:ps[i]?=some y:=by
   rw [<- S.pre,Kn (by omega)];exact h1
  have ndP:ps.Nodup:=by rw [<- S.pre];exact S.nd.sublist (List.take_sublist _ _)
  refine ⟨u,rv,?_⟩
  rcases S.par y (Ko hp) with k | k
  ·exact .inl ⟨k,mQ ndP hp hu k⟩
  ·obtain ⟨c, e⟩ := lO (n := s.heap.objs.size + 1) k
   refine .inr ⟨.inl k,c,e,?_⟩
   have q:=x.cell y c e
   rw [mR ndP hp hu (by show scope.names.lookup y≠_;rw [k];decide)] at q
   exact q
 ·exact e0.hok.fresh (JC (x.above y c (Ki h)))
 ·unfold start
  show _=N.length
  rw [Kq,Kr,List.length_replicate]
  omega
theorem DG {CX:sP}{P:Program}{w:World}{K:W.Frag}{mg:Str->Option Value}{base:Heap}{k:Nat}{f:Addr}{name qual:Str}{params:Arguments}{body:List Stmt}{scope:Scope}{dV kV doc pm cdv ct oc:Value}{an od:Option Addr}
  {osl:Array (Option Value)}{N ps:List Str}{sp:Sp} (lk:K.lookup f=some ⟨oc,od,.func (W.fnOf name qual params body scope dV kV doc pm an cdv ct),osl⟩) (hcd:W.codeIn K cdv qual=true) (S:aS N ps scope)
  (len:∀ vs H Q E,sp vs H Q E->vs.length=ps.length)
  (hbody : ∀ (A : Around) (outer : List Env) (s : Shared) (H : Hp) (vs : List V) (Q : VK) (E : XK), fm k (A.deeper (envOfC qual scope s.heap.objs.size f cdv)) -> sp vs H Q E ->
   ∃ t,iO (oi CX P w K mg base N qual scope f cdv A outer s H E) body t/\t { nx:=fun _ H'=>Q .non H',rt:=Q } (start N vs) H) :
  om P w K mg base CX (k+1) f (W.fnOf name qual params body scope dV kV doc pm an cdv ct) ps sp:=by
 refine ⟨len,fun A outer s H args us vs Q E hr e0 hb r hsp=>?_⟩
 have hl:=len _ _ _ _ hsp
 have KX:K.In s.heap:=e0.mod.kin.keeps fun b o e=>(e0.bs b o e).1
 have lim:s.heap.NoLimit:=e0.mod.nolimit.keeps fun b o e=>(e0.bs b o e).1
 have hkind:∀ y∈ps.zip us,scope.names.lookup y.1=some .local\/(scope.names.lookup y.1=some .cell/\((cellsFrom (s.heap.objs.size+1) scope.names []).lookup y.1).isSome=true):=fun ⟨n,v⟩ hy=>by
  rcases S.par n (Kf hy).1 with q | q
  ·exact .inl q
  ·exact .inr ⟨q,W.cellsFrom_some _ _ _ (.inl q)⟩
 refine codeAny_call_function hr.depth (KX _ _ lk) rfl S.co S.gen rfl (W.codeRec_of KX hcd) (hb _ _ _ _ ?_)
 refine wpAny_newFunctionEnv_cells S.kind hkind fun env he s1 x=>?_
 subst he
 refine ⟨lim.keeps x.toInCall.keep,codeAny_func ?_⟩
 obtain ⟨t,ht,hq⟩:=hbody A outer s H vs Q E (hr.deeper _) hsp
 have I:aO (oi CX P w K mg base N qual scope f cdv A outer s H E) [] (start N vs) H s1:=xY S hr.hd e0 hl r x
 refine JO (ht [] s1 (start N vs) H _ I hq) (fun fl s' hs=>?_) fun e s' hs=>hs
 have fin:∀ {σ':St}{H':Hp}{v:V}{u:Value},aO (oi CX P w K mg base N qual scope f cdv A outer s H E) [] σ' H' s'->bL v u->Q v H'->CE outer P w H s Q u s':=
  fun {σ' H' v u} J rv q=>⟨v,H',J.os,J.bare,J.base,J.hok,rv,q⟩
 cases fl with
 | ret u=>
  obtain ⟨v,σ',H',J,rv,q⟩:=hs
  exact fin J rv q
 | next=>
  obtain ⟨σ',H',J,q⟩:=hs
  exact fin (v:=V.non) (u:=Value.none) J rfl q
 | brk=>
  obtain ⟨_,_,_,q⟩:=hs
  exact False.elim q
 | cont=>
  obtain ⟨_,_,_,q⟩:=hs
  exact False.elim q
end L2
namespace L2
open PySem PySem.Spec PyProof.Rows
section
variable {X:Cx}{x:Str}{p pos:Pos}{e:Expr}{es:List Expr}{t:TA}{id T:String}{r:List V->Hp->VK->Prop}
def IR (r:List V->Hp->VK->Prop) (t:TA):TE:=fun σ H Q=>t σ H fun vs H1=>r vs H1 Q
theorem lK (hc:cI X (.builtin id) r) (hg:Gl X x) (hm:X.mg x=none) (hv:bootBuiltins x=some (.builtin id)) (ha:PA X (e::es) t) (hn:x ≠ "__name__" := by decide) (hdb:(x == ("__debug__" : Str))=false:=by decide)
  (he:starEach (e::es) X.env=(false,eval e X.env)::starEach es X.env:=by rfl) (hpl:(backTo pos (starEach es X.env)).any (·.1)=false:=by rfl):PE X (.Call (.Name x p) (e::es) [] pos) (IR r t):=by
 intro pins s σ H Q I h
 refine Kd (mx I hg hm hv ?_ hn hdb)
 exact PyProof.Rows.callWith_builtin1 (dS (ha pos pins s σ H _ I h) fun us s1 ⟨vs,H1,I1,r1,q1⟩=>hc pins s1 σ H1 vs us Q I1 r1 q1) he hpl
theorem qF (hc:cI X (.type T) r) (hg:Gl X x) (hm:X.mg x=none) (hv:bootBuiltins x=some (.type T)) (ha:PA X (e::es) t) (hn:x ≠ "__name__" := by decide) (hdb:(x == ("__debug__" : Str))=false:=by decide)
  (he:starEach (e::es) X.env=(false,eval e X.env)::starEach es X.env:=by rfl) (hpl:(backTo pos (starEach es X.env)).any (·.1)=false:=by rfl):PE X (.Call (.Name x p) (e::es) [] pos) (IR r t):=by
 intro pins s σ H Q I h
 refine Kd (mx I hg hm hv ?_ hn hdb)
 exact J4 (dS (ha pos pins s σ H _ I h) fun us s1 ⟨vs,H1,I1,r1,q1⟩=>hc pins s1 σ H1 vs us Q I1 r1 q1) he hpl
end
end L2
namespace HT
open PySem PyProof.Rows
section
open PySem.SeqAt
open PySem.AutoSeq1 (wpAny_loadPart')
open PySem.MeetsSeq PySem.MeetsSeq2 PySem.MeetsSeq3
end
section
variable {prog:Program}{w:World}{A:Around}{E:Value->Shared->Prop}{s:Shared}
theorem cat_tup {t b:Addr}{vs ws:List Value}{Q:Value->Shared->Prop} (ht:IsTup s.heap t vs.toArray) (hb:IsTup s.heap b ws.toArray) (hv:vs≠[])
  (h1:ws=[]->Q (.ref t) s) (h2:ws≠[]->Q (.ref s.heap.objs.size) { s with heap:=s.heap.push { cls:=.type "tuple",data:=.seq (vs++ws).toArray } })
  (hsz:vs.length+ws.length<=sizeLine):wpAny (model prog w) A (binaryOp .Add (.ref t) (.ref b)) Q E s:=by
 obtain ⟨⟨cls,dd,data,sl⟩,ho,hc,n,hd⟩:=id ht
 obtain ⟨⟨cls2,dd2,data2,sl2⟩,ho2,hc2,n2,hd2⟩:=id hb
 simp only at hc hd hc2 hd2
 subst hc hd hc2 hd2
 have e:vs.toArray++ws.toArray=(vs++ws).toArray:=by simp
 by_cases hw:ws=[]
 ·exact concat_meets ⟨_,ho,rfl⟩ ⟨_,ho2,rfl⟩ Ks seq_tuple_add Kt Ku (Kv _ _)
   (tuple_addW1 t b vs.toArray ws.toArray n n2 dd dd2 sl sl2 (by simpa using hv) (by simp [hw])) ⟨ho,ho2,h1 hw⟩
 ·refine concat_meets ⟨_,ho,rfl⟩ ⟨_,ho2,rfl⟩ Ks seq_tuple_add Kt Ku (Kv _ _)
   (tuple_addW2 t b vs.toArray ws.toArray n n2 dd dd2 sl sl2 (by simpa using hv) (by simpa using hw) (by rw [Ka,Ka];exact hsz)) ⟨ho,ho2,?_⟩
  rw [e]
  exact h2 hw
def sIx (n d:Nat):Option Int->Nat
 | none=>d
 | some v=>if v<0 then (v+(n:Int)).toNat else min v.toNat n
theorem sIx_none (n d:Nat):sIx n d none=d:=rfl
theorem sIx_nat (n d k:Nat):sIx n d (some (k:Int))=min k n:=by
 show (if (k:Int)<0 then ((k:Int)+(n:Int)).toNat else min (k:Int).toNat n)=min k n
 rw [Jt (by omega),Kw]
theorem EK (n d:Nat) (hd:d<=n) (o:Option Int):sIx n d o<=n:=by
 cases o with
 | none=>exact hd
 | some v=>
  show (if v<0 then (v+(n:Int)).toNat else min v.toNat n)<=n
  by_cases hv:v<0
  ·rw [Js hv];omega
  ·rw [Jt hv];exact Kx _ _
theorem wW (v:Int) (n d:Nat):(if v<0 then max (v+(n:Int)) 0 else min v (n:Int))=((sIx n d (some v):Nat):Int):=by
 show (if v<0 then max (v+(n:Int)) 0 else min v (n:Int))=(((if v<0 then (v+(n:Int)).toNat else min v.toNat n):Nat):Int)
 by_cases hv:v<0
 ·simp only [Js hv];omega
 ·simp only [Jt hv];omega
theorem vT (lo hi:Option Int) (n:Nat):Builtin.Slice.sliceAdjust lo hi 1 (n:Int)=(((sIx n 0 lo:Nat):Int),((sIx n n hi:Nat):Int)):=by
 have h1:¬ ((1:Int)<0):=by omega
 unfold Builtin.Slice.sliceAdjust
 simp only [h1,Ky]
 refine Prod.ext ?_ ?_
 ·cases lo with
  | none=>rfl
  | some v=>exact wW v n 0
 ·cases hi with
  | none=>rfl
  | some v=>exact wW v n n
theorem vw (i j:Nat):Builtin.Slice.slicePlaces (i:Int) (j:Int) 1=j - i:=by
 unfold Builtin.Slice.slicePlaces
 have h1:(1:Int) > 0:=by omega
 simp only [h1,KA,Int.ediv_one]
 split <;> omega
theorem pB {v:Value}{o:Option Int}{Q:Option Int->Shared->Prop} (p:IsPart v o) (h:Q o s):wpAny (model prog w) A (Builtin.Slice.slicePartIndex v) Q E s:=by
 cases p with
 | none=>exact slicePart_none h
 | int i t=>exact slicePart_int h
theorem sliceApplied_gen {sl:Addr}{vl vu:Value}{lo hi:Option Int}{n:Nat}{Q:Int × Int × Nat->Shared->Prop} (hs:s.heap.IsSliceOf sl vl vu .none) (pl:IsPart vl lo) (pu:IsPart vu hi)
  (h:Q (((sIx n 0 lo:Nat):Int),1,sIx n n hi - sIx n 0 lo) s):wpAny (model prog w) A (Builtin.Slice.sliceApplied (.ref sl) (pure (n:Int))) Q E s:=by
 obtain ⟨os,hos,hcs,hds⟩:=id hs
 unfold Builtin.Slice.sliceApplied Builtin.Slice.sliceFields
 refine JT (JT (wpAny_field hos hds (x:=vl) rfl (JT (wpAny_field hos hds (x:=vu) rfl (JT (wpAny_field hos hds (x:=.none) rfl (JZ ?_)))))))
 refine JT (slicePart_none ?_)
 show wpAny _ _ (if ((1:Int) == 0)=true then _ else _) _ _ s
 rw [Jt (by decide)]
 refine JT (pB pl (JT (pB pu (JT (JZ ?_)))))
 show wpAny _ _ (match Builtin.Slice.sliceAdjust lo hi 1 (n:Int) with | (lo,hi)=>pure (lo,(1:Int),Builtin.Slice.slicePlaces lo hi 1)) _ _ s
 rw [vT lo hi n]
 show wpAny _ _ (pure (((sIx n 0 lo:Nat):Int),(1:Int),Builtin.Slice.slicePlaces ((sIx n 0 lo:Nat):Int) ((sIx n n hi:Nat):Int) 1)) _ _ s
 rw [vw]
 exact JZ h
theorem Af (xs:Array Value) (i k:Nat):((List.range k).filterMap fun (m:Nat)=>xs[((i:Int)+(m:Int) * 1).toNat]?).toArray=((xs.toList.drop i).take k).toArray:=by
 have e:(fun (m:Nat)=>xs[((i:Int)+(m:Int) * 1).toNat]?)=fun m=>xs[i+m]?:=by
  funext m
  have:((i:Int)+(m:Int) * 1).toNat=i+m:=by omega
  rw [this]
 rw [e]
 have:=pick_run xs i k
 rw [List.filterMap_map] at this
 have e2:((fun x=>xs[x]?) ∘ fun x=>i+x)=fun m=>xs[i+m]?:=rfl
 rw [e2] at this
 rw [this]
theorem getItem_tuple_cut {t sl:Addr}{items:Array Value}{vl vu:Value}{lo hi:Option Int}{Q:Value->Shared->Prop} (ht:IsTup s.heap t items) (hs:s.heap.IsSliceOf sl vl vu .none) (pl:IsPart vl lo) (pu:IsPart vu hi)
  (hw:¬ (sIx items.size 0 lo=0/\sIx items.size items.size hi=items.size))
  (h:Q (.ref s.heap.objs.size) { s with heap:=s.heap.push { cls:=.type "tuple",data:=.seq ((items.toList.drop (sIx items.size 0 lo)).take (sIx items.size items.size hi - sIx items.size 0 lo)).toArray } })
  (hsz:items.size<=sizeLine):wpAny (model prog w) A (getItem (.ref t) (.ref sl)) Q E s:=by
 have htake:sizeOk (.seq ((items.toList.drop (sIx items.size 0 lo)).take (sIx items.size items.size hi - sIx items.size 0 lo)).toArray):=by
  show ((items.toList.drop (sIx items.size 0 lo)).take (sIx items.size items.size hi - sIx items.size 0 lo)).toArray.size<=sizeLine
  rw [Ka,Kh,KB,JQ]
  omega
 have hj:sIx items.size items.size hi<=items.size:=EK _ _ (J3 _) hi
 obtain ⟨os,hos,hcs,hds⟩:=id hs
 have hTs:s.TypeIs (.ref sl) "slice" := ⟨os,hos,hcs⟩
 unfold getItem
 try with_reducible refine JU ?_
 first | refine JT (JZ ?_) | skip
 refine JT (wpAny_sequenceKey ht.typeIs (by decide) ?_)
 refine JT (KC (name:=Str.ofString "__getitem__") ht.typeIs KD
  (KE KD ht.typeIs entry_tuple_getitem ?_ (args_tuple_getitem _ _)))
 show wpAny _ _ (Builtin.Tuple.tupleItemsOf (.ref t) >>= _) _ _ s
 refine JT (tupleItemsOf_ ht ?_)
 refine JT (KG hTs ?_)
 rw [Js (by decide)]
 refine JT (sliceApplied_gen hs pl pu ?_)
 have hno:¬ ((((sIx items.size 0 lo:Nat):Int) == 0 && (1:Int) == 1 && (sIx items.size items.size hi - sIx items.size 0 lo) == items.size)=true):=by
  intro q
  rw [KH,KH] at q
  have q1:((sIx items.size 0 lo:Nat):Int)=0:=eq_of_beq q.1.1
  have q2:sIx items.size items.size hi - sIx items.size 0 lo=items.size:=eq_of_beq q.2
  exact hw ⟨by omega,by omega⟩
 show wpAny _ _ (if (((sIx items.size 0 lo:Nat):Int) == 0 && (1:Int) == 1 && (sIx items.size items.size hi - sIx items.size 0 lo) == items.size)=true then _ else _) _ _ s
 rw [Jt hno,Af]
 first
  | exact JT (m:=Builtin.Tuple.tupleExact _) (KJ (JZ ⟨_,rfl,JZ h⟩) htake)
  | exact JT (m:=Builtin.Tuple.tupleExact _) (KJ (JT (JZ (JZ ⟨_,rfl,JZ h⟩))) htake)
  | exact JT (JT (m:=Builtin.Tuple.tupleExact _) (KJ (JZ (JZ ⟨_,rfl,JZ h⟩)) htake))
  | exact JT (JT (m:=Builtin.Tuple.tupleExact _) (KJ (JZ ⟨_,rfl,JZ h⟩) htake))
end
end HT
namespace L2
open PySem PySem.Spec PyProof.Rows
abbrev TO:=St->Hp->(Option Int->Hp->Prop)->Prop
def PO (X:Cx) (e:Option Expr) (t:TO):Prop:=
 ∀ (pins:List (Addr × Obj)) (s:Shared) (σ:St) (H:Hp) (Q:Option Int->Hp->Prop),aO X pins σ H s->t σ H Q ->
  wpAny (model X.prog X.w) X.A (evalPart e X.env) (fun u s'=>∃ o H',aO X pins σ H' s'/\IsPart u o/\Q o H') X.xe s
def Bw:TO:=fun _ H Q=>Q none H
def GX (t:TE):TO:=fun σ H Q=>t σ H fun x H1=>∃ i,x=.int i/\Q (some i) H1
theorem eO {ns:List Int}:∀ {us:List Value},bb (ns.map V.int) us->IntsAre us ns:=by
 induction ns with
 | nil=>intro us r;rw [KL] at r;cases r;exact .nil
 | cons n ns ih=>
  intro us r
  rw [KM] at r
  cases r with
  | cons r1 r2=>
   obtain ⟨t,e⟩:=r1
   subst e
   exact .cons n t (ih r2)
section
variable {X:Cx}{e:Expr}{te:TE}{lo hi:Option Expr}{tl th:TO}{pos p2:Pos}
theorem Ci:PO X none Bw:=by
 intro pins s σ H Q I h
 rw [evalPart_none]
 exact JZ ⟨none,H,I,.none,h⟩
theorem Cg (h:PE X e te):PO X (some e) (GX te):=by
 intro pins s σ H Q I hw
 rw [evalPart_some]
 refine dS (h pins s σ H _ I hw) fun u s1 ⟨x,H1,I1,r1,q1⟩=>?_
 obtain ⟨i,rfl,q⟩:=q1
 obtain ⟨t,rfl⟩:=r1
 exact ⟨some i,H1,I1,.int i t,q⟩
def A9 (X:Cx) (r:V->Option Int->Option Int->Hp->VK->Prop):Prop:=
 ∀ (pins:List (Addr × Obj)) (s:Shared) (σ:St) (H:Hp) (x:V) (v vl vu:Value) (lo hi:Option Int) (sl:Addr) (Q:VK),aO X pins σ H s->bL x v->s.heap.IsSliceOf sl vl vu .none->IsPart vl lo->IsPart vu hi->r x lo hi H Q ->
  ∃ T id,typeLookup (.type T) "__getitem__" = pure (some (.builtin id))/\s.TypeIs v T/\wpAny (model X.prog X.w) X.A (getItem v (.ref sl)) (EP X pins σ Q) X.xe s
theorem A9.or {r r':V->Option Int->Option Int->Hp->VK->Prop} (h:A9 X r) (h':A9 X r'):A9 X (fun x lo hi H Q=>r x lo hi H Q\/r' x lo hi H Q):=by
 intro pins s σ H x v vl vu lo hi sl Q I rx hs pl pu q
 rcases q with q | q
 ·exact h pins s σ H x v vl vu lo hi sl Q I rx hs pl pu q
 ·exact h' pins s σ H x v vl vu lo hi sl Q I rx hs pl pu q
def Jd (r:V->Option Int->Option Int->Hp->VK->Prop) (te:TE) (tl th:TO):TE:=fun σ H Q=>te σ H fun x H1=>tl σ H1 fun l H2=>th σ H2 fun u H3=>r x l u H3 Q
theorem Ah {r:V->Option Int->Option Int->Hp->VK->Prop} (hr:A9 X r) (he:PE X e te) (hl:PO X lo tl) (hu:PO X hi th):PE X (.Subscript e (.Slice lo hi none p2) pos) (Jd r te tl th):=by
 intro pins s σ H Q I h
 refine Subscript_ (dS (he pins s σ H _ I h) fun v s1 ⟨x,H1,I1,r1,q1⟩=>?_)
 refine wpAny_Slice (dS (hl pins s1 σ H1 _ I1 q1) fun vl s2 ⟨l,H2,I2,pl,q2⟩=>dS (hu pins s2 σ H2 _ I2 q2) fun vu s3 ⟨u,H3,I3,pu,q3⟩=>?_)
 rw [evalPart_none]
 refine JZ ?_
 have I4:aO X pins σ H3 { s3 with heap:=s3.heap.push { cls:=.type "slice",data:=.fields #[vl,vu,.none] } }:=I3.kept (t':=s3.toks) fun b ob q=>J1 _ q
 obtain ⟨T,id,hT,ht,hg⟩:=hr pins { s3 with heap:=s3.heap.push { cls:=.type "slice",data:=.fields #[vl,vu,.none] } } σ H3 x v vl vu l u s3.heap.objs.size Q I4 r1 (Heap.IsSliceOf.new ..) pl pu q3
 show wpAny (model X.prog X.w) X.A (subscriptTail e (.Slice lo hi none p2) v (.ref s3.heap.objs.size)) (EP X pins σ Q) X.xe { s3 with heap:=s3.heap.push { cls:=.type "slice",data:=.fields #[vl,vu,.none] } }
 exact tail_any (ops:=[.ref s3.heap.objs.size,v]) ht hT hg (by with_unfolding_all rfl)
def sW (xs:List V) (lo hi:Option Int):List V:=(xs.drop (HT.sIx xs.length 0 lo)).take (HT.sIx xs.length xs.length hi - HT.sIx xs.length 0 lo)
theorem nk (xs:List V) (lo hi:Option Int):(sW xs lo hi).length<=xs.length:=by
 unfold sW
 rw [Kh,KB]
 omega
def Gw (K:W.Frag):V->Option Int->Option Int->Hp->VK->Prop:=fun x lo hi H Q=>∃ a xs,x=.ref a/\gU K H a xs /\
 ¬ (HT.sIx xs.length 0 lo=0/\HT.sIx xs.length xs.length hi=xs.length)/\∀ p,H p=none->Q (.ref p) (cK H p (.tup (sW xs lo hi)))
theorem Ey:A9 X (Gw X.K):=by
 intro pins s σ H x v vl vu lo hi sl Q I rx hs pl pu h
 obtain ⟨a,xs,rfl,hx,hw,q⟩:=h
 cases rx
 obtain ⟨its,r,ht,hz⟩:=I.tuple hx
 have hlen:its.toArray.size=xs.length:=by rw [Ka];exact r.length.symm
 refine ⟨"tuple",_,KD.lookup,ht.typeIs,?_⟩
 refine HT.getItem_tuple_cut ht hs pl pu (by rw [hlen];exact hw) ?_ (by rw [hlen];exact hz)
 rw [hlen]
 refine ⟨.ref s.heap.objs.size,_,I.laid (t':=s.toks) (o:=.tup (sW xs lo hi)) (fun b ob q=>J1 _ q) (J3 _) ?_,rfl,q _ (I.hok.fresh (J3 _))⟩
 exact ⟨JB (nk xs lo hi) hz,_,(r.drop (HT.sIx xs.length 0 lo)).take (HT.sIx xs.length xs.length hi - HT.sIx xs.length 0 lo),IsTup.new _ _⟩
def He (K:W.Frag):R2:=fun x y H Q=>∃ a b xs ys,x=.ref a/\y=.ref b/\gU K H a xs/\gU K H b ys/\xs≠[]/\xs.length+ys.length<=sizeLine /\
 (ys=[]->Q (.ref a) H)/\(ys≠[]->∀ p,H p=none->Q (.ref p) (cK H p (.tup (xs++ys))))
theorem bb.nil_iff {xs:List V}{us:List Value} (r:bb xs us):us=[]↔xs=[]:=by
 cases r with
 | nil=>simp
 | cons _ _=>simp
theorem Cu:jz X (binaryOp .Add) (He X.K):=by
 intro pins s σ H x y v u Q I rx ry h
 obtain ⟨a,b,xs,ys,rfl,rfl,ha,hb,hx,hz,q1,q2⟩:=h
 cases rx
 cases ry
 obtain ⟨its,r1,p1,_⟩:=I.tuple ha
 obtain ⟨its2,r2,p2,_⟩:=I.tuple hb
 refine HT.cat_tup p1 p2 (fun z=>hx (r1.nil_iff.mp z)) (fun z=>⟨.ref a,H,I,rfl,q1 (r2.nil_iff.mp z)⟩) (fun z=>?_) (by rw [<- r1.length,<- r2.length];exact hz)
 refine ⟨.ref s.heap.objs.size,_,I.laid (t':=s.toks) (o:=.tup (xs++ys)) (fun b ob q=>J1 _ q) (J3 _) ?_,rfl,q2 (fun w=>z (r2.nil_iff.mpr w)) _ (I.hok.fresh (J3 _))⟩
 exact ⟨by rw [Kq];exact hz,_,r1.append r2,IsTup.new _ _⟩
end
end L2
namespace L2
open PySem PySem.Spec PyProof.Rows
def vV (n:Nat) (i:Int):Option Nat:=if 0<=i then (if i<n then some i.toNat else none) else if -(n:Int)<=i then some (i+n).toNat else none
def atI {α:Type} (xs:List α) (i:Int):Option α:=(vV xs.length i).bind fun j=>xs[j]?
theorem se {n:Nat}{i:Int}{j:Nat} (h:vV n i=some j):seqIndex? i n=some j/\j<n/\-(n:Int)<=i/\i<n:=by
 unfold vV at h
 by_cases h0:0<=i
 ·rw [Js h0] at h
  by_cases h1:i<n
  ·rw [Js h1] at h
   have e:i.toNat=j:=Ju h
   exact ⟨by rw [seqIndex_of h0 h1,e],by omega,by omega,h1⟩
  ·rw [Jt h1] at h;cases h
 ·rw [Jt h0] at h
  by_cases h1:-(n:Int)<=i
  ·rw [Js h1] at h
   have e:(i+n).toNat=j:=Ju h
   exact ⟨by rw [seqIndex_neg (by omega) h1,e],by omega,h1,by omega⟩
  ·rw [Jt h1] at h;cases h
theorem su {α:Type}{xs:List α}{i:Int}{v:α} (h:atI xs i=some v):∃ j,seqIndex? i xs.length=some j/\xs[j]?=some v/\j<xs.length/\-(xs.length:Int)<=i/\i<xs.length:=by
 unfold atI at h
 cases e:vV xs.length i with
 | none=>rw [e] at h;cases h
 | some j=>
  rw [e] at h
  obtain ⟨h1,h2,h3,h4⟩:=se e
  exact ⟨j,h1,h,h2,h3,h4⟩
theorem sr {α:Type}{xs:List α}{j:Nat}{v:α} (h:xs[j]?=some v):atI xs (j:Int)=some v:=by
 have hj:j<xs.length:=(JK.mp h).1
 have e:vV xs.length (j:Int)=some j:=by
  unfold vV
  rw [Js (by omega),Js (by omega)];simp
 unfold atI;rw [e];exact h
def sy (b:Expr):Prop:=∀ o i,subscripted b false o i=operate [o,i] (getItem o i)
def Bb (X:Cx) (r:R2):Prop:=
 ∀ (value slice:Expr) (pins:List (Addr × Obj)) (s:Shared) (σ:St) (H:Hp) (x y:V) (v u:Value) (Q:VK),aO X pins σ H s->bL x v->bL y u->r x y H Q ->
  subscripted slice false v u=operate [v,u] (getItem v u)->wpAny (model X.prog X.w) X.A (subscriptTail value slice v u) (EP X pins σ Q) X.xe s
def IX (X:Cx) (id:String) (r:V->List V->Hp->VK->Prop):Prop:=
 ∀ (pins:List (Addr × Obj)) (s:Shared) (σ:St) (H:Hp) (x:V) (xs:List V) (v:Value) (us:List Value) (Q:VK),aO X pins σ H s->bL x v->bb xs us->r x xs H Q ->
  wpAny (model X.prog X.w) X.A (call (.builtin id) (v::us)) (EP X pins σ Q) X.xe s
section
variable {X:Cx}{a b:Expr}{ta tb:TE}{pos:Pos}
theorem Bb.or {r r':R2} (h:Bb X r) (h':Bb X r'):Bb X (fun x y H Q=>r x y H Q\/r' x y H Q):=by
 intro value slice pins s σ H x y v u Q I rx ry q hs
 rcases q with q | q
 ·exact h value slice pins s σ H x y v u Q I rx ry q hs
 ·exact h' value slice pins s σ H x y v u Q I rx ry q hs
theorem Hj {r:R2} (hr:Bb X r) (ha:PE X a ta) (hb:PE X b tb) (hs:sy b):PE X (.Subscript a b pos) (HH r ta tb):=by
 intro pins s σ H Q I h
 exact Subscript_ (D3 ha hb I h fun v u s2 x y H2 I2 rx ry q=>hr a b pins s2 σ H2 x y v u Q I2 rx ry q (hs _ _))
def GC (K:W.Frag):R2:=fun x y H Q=>∃ p xs i v,x=.ref p/\y=.int i/\hX K H p xs/\atI xs i=some v/\Q v H
def GA (K:W.Frag):R2:=fun x y H Q=>∃ p xs i v,x=.ref p/\y=.int i/\gU K H p xs/\atI xs i=some v/\Q v H
def GB:R2:=fun x y H Q=>∃ z i c,x=.str z/\y=.int i/\z.length<=sizeLine/\atI z.cps.toList i=some c/\Q (.str ⟨#[c]⟩) H
theorem CU:Bb X (GC X.K):=by
 intro value slice pins s σ H x y v u Q I rx ry h hs
 obtain ⟨p,xs,i,z,rfl,rfl,hq,he,q⟩:=h
 cases rx
 obtain ⟨t,rfl⟩:=ry
 obtain ⟨its,r,pl,hz⟩:=I.list hq
 obtain ⟨j,h1,h2,h3,h4,h5⟩:=su he
 obtain ⟨w,ew,rw'⟩:=r.get h2
 have hl:=r.length
 have hn:=mw
 have fin:EP X pins σ Q w s:=⟨z,H,I,rw',q⟩
 by_cases h0:0<=i
 ·have hj:i.toNat=j:=by
   rw [seqIndex_of h0 h5] at h1
   exact Ju h1
  exact item_listR pl.isList h0 (by omega) (by rw [hj];simpa using ew) fin hs
 ·have hj:(i+(its.toArray.size:Int)).toNat=j:=by
   rw [seqIndex_neg (by omega) h4] at h1
   rw [Ka,<- hl]
   exact Ju h1
  exact subscriptTail_builtinR (x:=w) pl.isList.typeIs slot_list_getitem.lookup
   (wpAny_getItem_list_neg (Q:=fun r s'=>r=w/\EP X pins σ Q r s') pl.isList (by omega) (by rw [Ka] <;> omega) (by omega) (by rw [hj];simpa using ew) ⟨rfl,fin⟩) hs
theorem FN:Bb X (GA X.K):=by
 intro value slice pins s σ H x y v u Q I rx ry h hs
 obtain ⟨p,xs,i,z,rfl,rfl,hq,he,q⟩:=h
 cases rx
 obtain ⟨t,rfl⟩:=ry
 obtain ⟨its,r,pl,hz⟩:=I.tuple hq
 obtain ⟨j,h1,h2,h3,h4,h5⟩:=su he
 obtain ⟨w,ew,rw'⟩:=r.get h2
 have hl:=r.length
 have hn:=mw
 have fin:EP X pins σ Q w s:=⟨z,H,I,rw',q⟩
 exact subscriptTail_builtinR (x:=w) pl.typeIs slot_tuple_getitem.lookup
  (getItem_tuple (j:=j) (Q:=fun r s'=>r=w/\EP X pins σ Q r s') pl (by omega) (by omega) (by rw [Ka,<- hl];exact h1) (by simpa using ew) ⟨rfl,fin⟩) hs
theorem FO:Bb X GB:=by
 intro value slice pins s σ H x y v u Q I rx ry h hs
 obtain ⟨z,i,c,rfl,rfl,hz,he,q⟩:=h
 obtain ⟨t,rfl⟩:=rx
 obtain ⟨t',rfl⟩:=ry
 obtain ⟨j,h1,h2,h3,h4,h5⟩:=su he
 have hl:z.cps.toList.length=z.length:=by simp [Str.length]
 rw [hl] at h1 h4 h5
 have hn:=mw
 exact tail_any (typeIs_str s z t) slot_str_getitem.lookup (getItem_str (c:=c) (by
  have e1:decide (i < -(2 ^ 63:Int))=false:=Jq (by omega)
  have e2:decide (i ≥ 2 ^ 63)=false:=Jq (by omega)
  rw [e1,e2,Bool.or_false]) (by rw [h1];simpa using h2) ⟨.str ⟨#[c]⟩,H,I.tok _,⟨_,rfl⟩,q⟩) hs
def IS (K:W.Frag):R2:=fun x y H Q=>GC K x y H Q\/GA K x y H Q\/GB x y H Q
theorem FP:Bb X (IS X.K):=CU.or (FN.or FO)
theorem vB (its:List Value) (n j:Nat) (u:Value):Obj.mapSeq (·.setIfInBounds j u) { cls:=.type "list",data:=.seq its.toArray n }={ cls:=.type "list",data:=.seq (its.set j u).toArray n }:=by
 simp [Obj.mapSeq]
theorem aO.lst {pins:List (Addr × Obj)}{σ:St}{H:Hp}{s:Shared}{p:Addr}{xs:List V} (I:aO X pins σ H s) (h:H p=some (.lst xs)) :
  ∃ (its:List Value) (n:Nat),bb xs its/\s.heap.get? p=some { cls:=.type "list",data:=.seq its.toArray n }/\xs.length<=sizeLine:=by
 obtain ⟨z,its,n,r,e⟩:=I.hok p _ h
 exact ⟨its,n,r,e,z⟩
theorem aO.lstUpd {pins:List (Addr × Obj)}{σ:St}{H:Hp}{s:Shared}{p:Addr}{xs ys:List V}{its its':List Value}{n n':Nat}{f:Obj->Obj} (I:aO X pins σ H s) (h:H p=some (.lst xs))
  (ho:s.heap.get? p=some { cls:=.type "list",data:=.seq its.toArray n }) (hf:f { cls:=.type "list",data:=.seq its.toArray n }={ cls:=.type "list",data:=.seq its'.toArray n' }) (r:bb ys its') (hz:ys.length<=sizeLine) (t:Nat) :
  aO X pins σ (cK H p (.lst ys)) { s with heap:=s.heap.update p f,toks:=t }:=by
 have e:(s.heap.update p f).get? p=some { cls:=.type "list",data:=.seq its'.toArray n' }:=by
  rw [KN f ho (by rw [hf] <;> rfl),hf]
 refine I.write (x:=p) (e:=p) (by rw [h];trivial) (.inl rfl) (fun b u hb q=>(Heap.get?_update_other _ _ (JH hb)).trans q) ⟨_,e⟩ ?_
 exact ⟨hz,its',n',r,e⟩
def Dt:V->V->V->Hp->(Hp->Prop)->Prop:=fun o i v H Q=>∃ p xs k j,o=.ref p/\i=.int k/\H p=some (.lst xs)/\vV xs.length k=some j/\Q (cK H p (.lst (xs.set j v)))
theorem zT:GN X Dt:=by
 intro pins s σ H o i v ov iv u Q I ro ri rv h
 obtain ⟨p,xs,k,j,rfl,rfl,hp,hj,q⟩:=h
 cases ro
 obtain ⟨t,rfl⟩:=ri
 obtain ⟨its,n,r,ho,hz⟩:=I.lst hp
 obtain ⟨h1,h2,h3,h4⟩:=se hj
 have hl:=r.length
 have hn:=mw
 have I':aO X pins σ (cK H p (.lst (xs.set j v))) { s with heap:=s.heap.update p (Obj.mapSeq (·.setIfInBounds j u)) }:=
  I.lstUpd hp ho (vB its n j u) (r.set rv j) (by rw [KO];exact hz) s.toks
 by_cases h0:0<=k
 ·have hk:k.toNat=j:=by
   rw [seqIndex_of h0 h4] at h1
   exact Ju h1
  exact W.ki_setAt ho h0 (by omega) (by rw [Ka,<- hl];exact h4) (by rw [hk];exact ⟨_,I',q⟩)
 ·have hk:(k+(its.toArray.size:Int)).toNat=j:=by
   rw [seqIndex_neg (by omega) h3] at h1
   rw [Ka,<- hl]
   exact Ju h1
  exact W.ki_setBack ho (by omega) (by rw [Ka,<- hl];exact h3) (by omega) (by rw [hk];exact ⟨_,I',q⟩)
theorem sD (lo hi:Option Int) (n:Nat):(sliceBounds lo hi none n).1=((HT.sIx n 0 lo:Nat):Int)/\(sliceBounds lo hi none n).2.1=((HT.sIx n n hi:Nat):Int)/\(sliceBounds lo hi none n).2.2=1:=by
 refine ⟨?_,?_,rfl⟩
 ·cases lo with
  | none=>simp [sliceBounds,HT.sIx]
  | some i=>
   simp only [sliceBounds,HT.sIx,Option.getD_none,show (1:Int) > 0 by decide,KA]
   by_cases h:i<0
   ·simp only [h,KA] <;> omega
   ·simp only [h,Ky] <;> omega
 ·cases hi with
  | none=>simp [sliceBounds,HT.sIx]
  | some i=>
   simp only [sliceBounds,HT.sIx,Option.getD_none,show (1:Int) > 0 by decide,KA]
   by_cases h:i<0
   ·simp only [h,KA] <;> omega
   ·simp only [h,Ky] <;> omega
theorem p9 (its:List Value) (lo hi:Option Int):slicePick its.toArray lo hi none=((its.drop (HT.sIx its.length 0 lo)).take (HT.sIx its.length its.length hi - HT.sIx its.length 0 lo)).toArray:=by
 obtain ⟨h1,h2,h3⟩:=sD lo hi its.toArray.size
 unfold slicePick
 rw [h1,h2,h3]
 simp only [sliceRange_one,pick_run,Ka] <;> rfl
def Gx (K:W.Frag):V->Option Int->Option Int->Hp->VK->Prop:=fun x lo hi H Q=>∃ a xs,x=.ref a/\hX K H a xs/\∀ p,H p=none->Q (.ref p) (cK H p (.lst (sW xs lo hi)))
theorem BP:A9 X (Gx X.K):=by
 intro pins s σ H x v vl vu lo hi sl Q I rx hs pl pu h
 obtain ⟨a,xs,rfl,hx,q⟩:=h
 cases rx
 obtain ⟨its,r,ht,hz⟩:=I.list hx
 have hlen:=r.length
 refine ⟨"list",_,slot_list_getitem.lookup,ht.isList.typeIs,?_⟩
 refine wpAny_getItem_list_slice ht.isList hs pl pu .none (by simp) ?_ (by rw [Ka] <;> omega)
 rw [p9,<- hlen]
 refine ⟨.ref s.heap.objs.size,_,I.laid (t':=s.toks) (o:=.lst (sW xs lo hi)) (fun b ob q=>J1 _ q) (J3 _) ?_,rfl,q _ (I.hok.fresh (J3 _))⟩
 exact ⟨JB (nk xs lo hi) hz,_,0,(r.drop (HT.sIx xs.length 0 lo)).take (HT.sIx xs.length xs.length hi - HT.sIx xs.length 0 lo),J2 _ rfl⟩
def jH:V->Bool
 | .non=>true
 | .bl _=>true
 | .int _=>true
 | .str _=>true
 | _=>false
def vW:V->V->Bool
 | .non,.non=>true
 | .bl a,.bl b=>a == b
 | .bl a,.int b=>(if a then 1 else 0) == b
 | .int a,.bl b=>a == (if b then 1 else 0)
 | .int a,.int b=>a == b
 | .str a,.str b=>a == b
 | _,_=>false
theorem F7 {A:Around}{s:Shared}{y x:V}{u v:Value} (ry:bL y u) (rx:bL x v) (fy:jH y=true) (fx:jH x=true):SeqAt.EqAt A s u v (vW y x):=by
 cases y with
 | non=>
  cases ry
  cases x with
  | non=>cases rx;exact SeqAt.EqAt.same _
  | bl b=>cases rx;exact SeqAt.EqAt.none_bool b
  | int b=>obtain ⟨t,rfl⟩:=rx;exact SeqAt.EqAt.none_int b t
  | str b=>obtain ⟨t,rfl⟩:=rx;exact SeqAt.EqAt.none_str b t
  | _=>exact absurd (show false=true from fx) JX
 | bl a=>
  cases ry
  cases x with
  | non=>cases rx;exact SeqAt.EqAt.bool_none a
  | bl b=>cases rx;exact SeqAt.EqAt.bool_bool a b
  | int b=>obtain ⟨t,rfl⟩:=rx;exact SeqAt.EqAt.bool_int a b t
  | str b=>obtain ⟨t,rfl⟩:=rx;exact SeqAt.EqAt.bool_str a b t
  | _=>exact absurd (show false=true from fx) JX
 | int a=>
  obtain ⟨t',rfl⟩:=ry
  cases x with
  | non=>cases rx;exact SeqAt.EqAt.int_none a t'
  | bl b=>cases rx;exact SeqAt.EqAt.int_bool a t' b
  | int b=>obtain ⟨t,rfl⟩:=rx;exact SeqAt.EqAt.int_int a t' b t
  | str b=>obtain ⟨t,rfl⟩:=rx;exact SeqAt.EqAt.int_str a t' b t
  | _=>exact absurd (show false=true from fx) JX
 | str a=>
  obtain ⟨t',rfl⟩:=ry
  cases x with
  | non=>cases rx;exact SeqAt.EqAt.str_none a t'
  | bl b=>cases rx;exact SeqAt.EqAt.str_bool a t' b
  | int b=>obtain ⟨t,rfl⟩:=rx;exact SeqAt.EqAt.str_int a t' b t
  | str b=>obtain ⟨t,rfl⟩:=rx;exact SeqAt.EqAt.str_str a t' b t
  | _=>exact absurd (show false=true from fx) JX
 | _=>exact absurd (show false=true from fy) JX
def DU (x:V) (u:Value):Bool:=match u with
 | .none=>vW .non x
 | .bool b=>vW (.bl b) x
 | .int i _=>vW (.int i) x
 | .str z _=>vW (.str z) x
 | _=>false
theorem vd {x y:V}{u:Value} (r:bL y u) (f:jH y=true):DU x u=vW y x:=by
 cases y with
 | non=>cases r;rfl
 | bl b=>cases r;rfl
 | int i=>obtain ⟨t,rfl⟩:=r;rfl
 | str z=>obtain ⟨t,rfl⟩:=r;rfl
 | _=>exact absurd (show false=true from f) JX
theorem oX {A:Around}{s:Shared}{x:V}{v:Value} (rx:bL x v) (fx:jH x=true):∀ {xs:List V}{us:List Value},bb xs us->xs.all jH=true->∀ u∈us,SeqAt.EqAt A s u v (DU x u)
 | _,_,.nil,_=>fun u hu=>by cases hu
 | y::xs,u::us,.cons r t,f=>fun u' hu=>by
  rw [List.all_cons,KH] at f
  rcases JG.mp hu with rfl | hu
  ·rw [vd r f.1];exact F7 r rx f.1 fx
  ·exact oX rx fx t f.2 u' hu
theorem cI.or {f:Value}{r r':List V->Hp->VK->Prop} (h:cI X f r) (h':cI X f r'):cI X f (fun xs H Q=>r xs H Q\/r' xs H Q):=by
 intro pins s σ H xs us Q I rs q
 rcases q with q | q
 ·exact h pins s σ H xs us Q I rs q
 ·exact h' pins s σ H xs us Q I rs q
theorem ql:cI X (.type "tuple") (fun xs H Q=>∃ p ys,xs=[.ref p]/\((hX X.K H p ys/\∀ l,H l=none->Q (.ref l) (cK H l (.tup ys)))\/(gU X.K H p ys/\Q (.ref p) H))):=by
 intro pins s σ H xs us Q I r h
 obtain ⟨p,ys,rfl,h⟩:=h
 obtain ⟨u,rfl,rx⟩:=gC r
 cases rx
 rcases h with ⟨hq,q⟩ | ⟨hq,q⟩
 ·obtain ⟨its, r', pl, hz⟩ := I.list hq
  have hlen:=r'.length
  refine call_tuple_list pl.isList (fun h' kp=>?_) (by simp only [Ka] <;> omega)
  have I1:aO X pins σ H { s with heap:=h' }:=I.kept (t':=s.toks) kp
  have I2:aO X pins σ (cK H h'.objs.size (.tup ys)) { s with heap:=h'.push { cls:=.type "tuple",data:=.seq its.toArray } }:=
   I1.laid (t':=s.toks) (fun b o e=>J1 _ e) (J3 _) (show dU X.prog X.w _ _ _ (.tup ys) from ⟨hz,its,r',IsTup.new _ _⟩)
  exact ⟨.ref h'.objs.size,_,I2,rfl,q _ (I1.hok.fresh (J3 _))⟩
 ·obtain ⟨its, r', pl, hz⟩ := I.tuple hq
  exact call_tuple_same pl ⟨.ref p,H,I,rfl,q⟩
def HU (K:W.Frag) (T:String) (x:V) (H:Hp):Prop:=match x with
 | .str _=>T = "str"
 | .int _=>T = "int"
 | .ref p=>(T = "list" /\ ∃ xs,hX K H p xs)\/(T = "tuple" /\ ∃ o,K.lookup p=some o/\o.cls=.type "tuple" /\ o.dict=none) \/
   (T = "dict" /\ ((∃ kvs,H p=some (.dK kvs))\/∃ kvs,H p=some (.dT kvs)))\/(T = "set" /\ ∃ S n,H p=some (.set S n))
 | _=>False
theorem Ef {pins:List (Addr × Obj)}{σ:St}{H:Hp}{s:Shared}{T:String}{x:V}{v:Value} (I:aO X pins σ H s) (r:bL x v) (ty:HU X.K T x H) :
  s.TypeIs v T/\∀ a,v=.ref a->∃ ob,s.heap.get? a=some ob/\ob.dict=none:=by
 cases x with
 | str z=>
  obtain ⟨t,rfl⟩:=r
  cases (show T = "str" from ty)
  exact ⟨typeIs_str s z t,fun _ e=>nomatch e⟩
 | int i=>
  obtain ⟨t,rfl⟩:=r
  cases (show T = "int" from ty)
  exact ⟨typeIs_int s i t,fun _ e=>nomatch e⟩
 | ref p=>
  cases r
  rcases ty with ⟨rfl,xs,hq⟩ | ⟨rfl,o,hk,hc,hd⟩ | ⟨rfl,hk⟩ | ⟨rfl,S,n,hk⟩
  ·obtain ⟨its, _, pl, _⟩ := I.list hq
   refine ⟨pl.isList.typeIs,fun a e=>?_⟩
   cases e
   obtain ⟨o,n,e,c,hd,_⟩:=pl
   exact ⟨o,e,hd⟩
  ·refine ⟨⟨o, I.kIn p o hk, hc⟩, fun a e => ?_⟩
   cases e
   exact ⟨o,I.kIn _ o hk,hd⟩
  ·have z:∃ o,s.heap.get? p=some o/\o.ExactDict:=by
    rcases hk with ⟨kvs,hk⟩ | ⟨kvs,hk⟩
    ·obtain ⟨_, _, _, _, o, _, _, e, ex, _⟩ := I.hok p _ hk
     exact ⟨o,e,ex⟩
    ·obtain ⟨_, _, _, _, o, _, _, e, ex, _⟩ := I.hok p _ hk
     exact ⟨o,e,ex⟩
   obtain ⟨o,e,ex⟩:=z
   refine ⟨⟨o,e,ex.1⟩,fun a e2=>?_⟩
   cases e2
   exact ⟨o,e,ex.2.1⟩
  ·obtain ⟨o, _, _, _, e, ex, _⟩ := I.hok p _ hk
   refine ⟨⟨o,e,ex.1⟩,fun a e2=>?_⟩
   cases e2
   exact ⟨o,e,ex.2.1⟩
 | _=>exact False.elim ty
def Jg (K:W.Frag) (T:String) (r:V->List V->Hp->VK->Prop) (to:TE) (t:TA):TE:=fun σ H Q=>to σ H fun x H1=>HU K T x H1/\t σ H1 fun xs H2=>r x xs H2 Q
variable {o e:Expr}{es:List Expr}{to:TE}{t:TA}{name:Str}{apos cpos:Pos}{T id:String}{r:V->List V->Hp->VK->Prop}
theorem Hk (pa:PlainAttrs T) (slot:Slot T name id) (hty:typeOf (.builtin id)=pure (.type "method_descriptor")) (hm:IX X id r) (ho:PE X o to) (ha:PA X (e::es) t)
  (hbase:attributeBase o name X.env (eval o X.env)=eval o X.env:=by rfl)
  (hfew : ((backTo cpos (starEach (e :: es) X.env)).all (fun x => !x.1) && (backToKw cpos (keywordEach [] X.env)).all (fun x => x.1.isSome)
   && decide ((e::es).length+([]:List Keyword).length+(if ([]:List Keyword).isEmpty then 0 else 1)<30))=true:=by rfl)
  (hline:(apos.endLine == cpos.line)=true:=by rfl) (hs:starEach (e::es) X.env=(false,eval e X.env)::starEach es X.env:=by rfl) (hplain:(backTo cpos (starEach es X.env)).any (·.1)=false:=by rfl) :
  PE X (.Call (.Attribute o name apos) (e::es) [] cpos) (Jg X.K T r to t):=by
 intro pins s σ H Q I h
 refine wpAny_Call_method_late hbase hfew hline rfl (dS (ho pins s σ H _ I h) fun v s1 ⟨x,H1,I1,r1,ty,q1⟩=>?_)
 obtain ⟨h1,h2⟩:=Ef I1 r1 ty
 refine ⟨T,id,pa,slot,hty,h1,h2,?_⟩
 have hA:=ha cpos pins s1 σ H1 _ I1 q1
 rw [hs] at hA ⊢
 refine Calls.callWith_builtin (by show (false || (backTo cpos (starEach es X.env)).any (·.1))=false;rw [hplain] <;> rfl) (Calls.evalArgs_plain ?_)
 exact dS hA fun us s2 ⟨vs,H2,I2,r2,q2⟩=>hm pins s2 σ H2 x vs v us Q I2 r1 r2 q2
end
end L2
namespace L2
open PySem PySem.Spec PyProof.Rows
def Gr (X:Cx) (id:String) (r:V->List V->Hp->VK->Prop):Prop:=
 ∀ (pins:List (Addr × Obj)) (s:Shared) (σ:St) (H:Hp) (x:V) (xs:List V) (v:Value) (us:List Value) (Q:VK),aO X pins σ H s->bL x v->bb xs us->r x xs H Q ->
  wpAny (model X.prog X.w) X.A (call (.builtin id) (v::us)) (EP X pins σ Q) X.xe s
theorem bb.one:∀ {x:V}{us:List Value},bb [x] us->∃ u,us=[u]/\bL x u
 | _,_,.cons r .nil=>⟨_,rfl,r⟩
theorem bb.eraseIdx:∀ {xs:List V}{us:List Value} (i:Nat),bb xs us->bb (xs.eraseIdx i) (us.eraseIdx i)
 | _,_,_,.nil=>.nil
 | _,_,0,.cons _ t=>t
 | _,_,i+1,.cons r t=>.cons r (bb.eraseIdx i t)
theorem bb.rep {xs:List V}{us:List Value} (h:bb xs us):∀ k:Nat,bb (List.replicate k xs).flatten (List.replicate k us).flatten
 | 0=>.nil
 | k+1=>by
  rw [KQ,KQ,KR,KR]
  exact bb.append h (bb.rep h k)
theorem qK {α:Type}:∀ (l:List α) (i:Nat),(l.eraseIdx i).length<=l.length
 | [],_=>J3 _
 | _::_,0=>Nat.le_succ _
 | _::r,i+1=>Nat.succ_le_succ (qK r i)
theorem qT (its:List Value):∀ (k:Nat) (acc:List Value),
  List.foldl (fun x1 x2=>x1++x2) acc.toArray (List.replicate k its.toArray)=(acc++(List.replicate k its).flatten).toArray
 | 0,acc=>by simp
 | k+1,acc=>by
  have e:acc.toArray++its.toArray=(acc++its).toArray:=by simp
  have e2:(acc++its)++(List.replicate k its).flatten=acc++(List.replicate (k+1) its).flatten:=by
   rw [KQ,KR,KS]
  rw [<- e2,<- qT its k (acc++its),<- e,KQ,KU]
section
variable {X:Cx}{pins:List (Addr × Obj)}{σ:St}{H:Hp}{s:Shared}{l b:Addr}{xs ys zs:List V}
theorem aO.lset {its its':List Value}{n:Nat}{f:Array Value->Array Value}{t':Nat} (I:aO X pins σ H s) (hH:H l=some (.lst xs))
  (e:s.heap.get? l=some { cls:=.type "list",data:=.seq its.toArray n }) (hf:f its.toArray=its'.toArray) (hv:bb ys its') (hz:ys.length<=sizeLine) :
  aO X pins σ (cK H l (.lst ys)) { s with heap:=s.heap.update l (Obj.mapSeq f),toks:=t' }:=by
 have q:=PySem.IsL.update e f
 rw [hf] at q
 refine I.write (x:=l) (e:=l) (by rw [hH];exact trivial) (.inl rfl) (fun b' u hb hu=>(Heap.get?_update_other s.heap (Obj.mapSeq f) (JH hb)).trans hu) ⟨_,q⟩ ?_
 exact ⟨hz,its',_,hv,q⟩
theorem aO.lnew {its:List Value}{t':Nat} (I:aO X pins σ H s) (hv:bb ys its) (hz:ys.length<=sizeLine) :
  aO X pins σ (cK H s.heap.objs.size (.lst ys)) { s with heap:=s.heap.push { cls:=.type "list",data:=.seq its.toArray },toks:=t' }:=
 I.laid (fun _ _ q=>J1 _ q) (J3 _) ⟨hz,its,0,hv,J2 _ rfl⟩
theorem aO.fresh (I:aO X pins σ H s):H s.heap.objs.size=none:=I.hok.fresh (J3 _)
theorem aO.lstM (I:aO X pins σ H s) (hH:H l=some (.lst xs)):xs.length<=sizeLine/\∃ (its:List Value) (n:Nat),bb xs its/\xs.length=its.length/\s.heap.get? l=some { cls:=.type "list",data:=.seq its.toArray n }:=by
 obtain ⟨z,its,n,r,e⟩:=I.hok l _ hH
 exact ⟨z,its,n,r,r.length,e⟩
theorem t6 {n:Nat} (h:n<=sizeLine):Builtin.List.listTooLong n=false:=by
 unfold Builtin.List.listTooLong
 exact Jq (by omega)
end
section
variable {X:Cx}
def B7:V->List V->Hp->VK->Prop:=fun x vs H Q=>∃ l xs y,x=.ref l/\vs=[y]/\H l=some (.lst xs)/\xs.length<sizeLine/\Q .non (cK H l (.lst (xs++[y])))
theorem xU:Gr X "list.append" B7:=by
 intro pins s σ H x vs v us Q I rx rv h
 obtain ⟨l,xs,y,rfl,rfl,hH,hz,q⟩:=h
 cases rx
 obtain ⟨u,rfl,ru⟩:=rv.one
 obtain ⟨z,its,n,r,hl,e⟩:=I.lstM hH
 refine KW F.slot_list_append ⟨_,e,rfl⟩ F.entry_list_append (F.args_list_append_2 _ _) (PySem.list_append l its.toArray n u (by rw [Ka];omega)) ⟨e,?_⟩
 refine ⟨.non,_,I.lset (its':=its++[u]) hH e (by simp) (r.append (.cons ru .nil)) ?_,rfl,q⟩
 rw [Kq,KY]
 omega
def zl:V->List V->Hp->VK->Prop:=fun x vs H Q=>∃ l xs i k y,x=.ref l/\vs=[.int i]/\H l=some (.lst xs)/\-(2 ^ 63)<=i/\i<2 ^ 63/\seqIndex? i xs.length=some k/\xs[k]?=some y/\Q y (cK H l (.lst (xs.eraseIdx k)))
theorem Ax:Gr X "list.pop" zl:=by
 intro pins s σ H x vs v us Q I rx rv h
 obtain ⟨l,xs,i,k,y,rfl,rfl,hH,h1,h2,hk,hy,q⟩:=h
 cases rx
 obtain ⟨u,rfl,ru⟩:=rv.one
 obtain ⟨t,rfl⟩:=ru
 obtain ⟨z,its,n,r,hl,e⟩:=I.lstM hH
 obtain ⟨w,hw,rw'⟩:=r.get hy
 refine KW F.slot_list_pop ⟨_,e,rfl⟩ F.entry_list_pop (F.args_list_pop_2 _ _)
  (MeetsSeq.list_pop_at l its.toArray n i t k w (fitsIndex_both h1 h2) (by rw [Ka,<- hl];exact hk) (by rw [<- KZ];exact hw) (by rw [Ka];omega)) ⟨e,?_⟩
 refine ⟨y,_,I.lset (its':=its.eraseIdx k) hH e ?_ (r.eraseIdx k) ?_,rw',q⟩
 ·show its.toArray.eraseIdxIfInBounds k = (its.eraseIdx k).toArray
  rw [List.eraseIdxIfInBounds_toArray]
 ·have := qK xs k
  omega
def GF:R2:=fun x y H Q=>∃ l b xs zs,x=.ref l/\y=.ref b/\H l=some (.lst xs)/\H b=some (.lst zs)/\xs.length+zs.length<=sizeLine/\∀ p,H p=none->Q (.ref p) (cK H p (.lst (xs++zs)))
theorem Fp:jz X (binaryOp .Add) GF:=by
 intro pins s σ H x y v u Q I rx ry h
 obtain ⟨l,b,xs,zs,rfl,rfl,hH,hB,hz,q⟩:=h
 cases rx
 cases ry
 obtain ⟨z,its,n,r,hl,e⟩:=I.lstM hH
 obtain ⟨z2,its2,n2,r2,hl2,e2⟩:=I.lstM hB
 refine PySem.P.add_list e e2 ?_ (by rw [Ka,Ka];omega)
 have ea:its.toArray++its2.toArray=(its++its2).toArray:=by simp
 rw [ea]
 exact ⟨.ref _,_,I.lnew (t':=s.toks) (r.append r2) (by rw [Kq];omega),rfl,q _ I.fresh⟩
def Gz:R2:=fun x y H Q=>∃ l k xs,x=.ref l/\y=.int k/\H l=some (.lst xs)/\-(2 ^ 63)<=k/\k<2 ^ 63/\xs.length * k.toNat<=sizeLine /\
 ∀ p,H p=none->Q (.ref p) (cK H p (.lst (List.replicate k.toNat xs).flatten))
theorem CQ {α:Type} (xs:List α) (k:Nat):(List.replicate k xs).flatten.length=k * xs.length:=by
 induction k with
 | zero=>simp
 | succ k ih=>rw [KQ,KR,Kq,ih,Nat.succ_mul,Nat.add_comm]
theorem Fg:jz X (binaryOp .Mult) Gz:=by
 intro pins s σ H x y v u Q I rx ry h
 obtain ⟨l,k,xs,rfl,rfl,hH,h1,h2,hz,q⟩:=h
 cases rx
 obtain ⟨t,rfl⟩:=ry
 obtain ⟨z,its,n,r,hl,e⟩:=I.lstM hH
 have hlen:its.toArray.size * k.toNat<=sizeLine:=by rw [Ka,<- hl];exact hz
 have hcap:¬ its.toArray.size * k.toNat > (2 ^ 63 - 1) / 8:=by
  have:(sizeLine:Nat)<=(2 ^ 63 - 1) / 8:=by decide
  omega
 have hfit:¬ (!Builtin.List.listFitsIndex k)=true:=by
  rw [fitsIndex_both h1 h2]
  exact JX
 have hlong:¬ Builtin.List.listTooLong (its.toArray.size * k.toNat)=true:=by
  rw [t6 hlen]
  exact JX
 have hnew:List.foldl (fun x1 x2=>x1++x2) #[] (List.replicate (if its.toArray.isEmpty=true then 0 else k.toNat) its.toArray)=(List.replicate k.toNat its).flatten.toArray:=by
  have f0:∀ m:Nat,List.foldl (fun x1 x2=>x1++x2) #[] (List.replicate m its.toArray)=(List.replicate m its).flatten.toArray:=fun m=>by
   have:=qT its m []
   rw [K0] at this
   exact this
  rw [f0]
  cases its with
  | nil=>simp
  | cons a r'=>rw [Jt (by simp)]
 refine wpAny_binaryOp_repeat_ref (T:="list") (U:="int") (by decide) ⟨_,e,rfl⟩ (fun s'=>typeIs_int s' k t) noFill_list_mul F.fills_int_mul F.slot_int_rmul repeat_list F.slot_int_index.lookup
  (KW F.slot_int_rmul (typeIs_int s k t) F.entry_int_rmul (F.args_int_rmul_2 _ _) (int___rmul___int_list k t l its.toArray n)
   ⟨e,rfl,⟨_,e,rfl⟩,KW F.slot_list_mul ⟨_,e,rfl⟩ F.entry_list_mul (F.args_list_mul_2 _ _) (AutoListH.list___mul___list_int_3 l its.toArray n k t hfit hcap hlong) ⟨e,?_⟩⟩)
 rw [hnew]
 exact ⟨.ref _,_,I.lnew (t':=s.toks) (r.rep k.toNat) (by rw [CQ,Nat.mul_comm];exact hz),rfl,q _ I.fresh⟩
end
section
variable {prog:Program}{w:World}{A:Around}{E:Value->Shared->Prop}{s:Shared}
end
section
variable {X:Cx}
end
end L2
namespace Att
open PySem PySem.W PySem.Calls PyProof.Rows
theorem nQ {P:Params}{h:Heap}:∀ (ns:List Int) (vs:List Value),WellAll P h vs (ns.map WData.int)->IntsAre vs ns:=by
 intro ns
 induction ns with
 | nil=>
  intro vs w
  rw [KL] at w
  cases w
  exact .nil
 | cons n ns ih=>
  intro vs w
  rw [KM] at w
  cases w with
  | cons a b=>
   cases a
   exact .cons _ _ (ih _ b)
theorem xC {l:OpenLaw}{n:Nat} (hn:l.most=some n) {P:Params}{h:Heap}{args:List WData}{vals:List Value}
  (hpre:l.row.toRowW.claim.pre args=true) (hwl:WellAll P h vals args) :
  ∃ a vs ns,vals=[Value.ref a]/\args=[WData.list (ns.map WData.int)]/\h.get? a=some { cls:=.type "list",data:=.seq vs.toArray }/\IntsAre vs ns/\ns.length<=n:=by
 have hsh:WShape.hasAll [] args [.list .int]=true:=(pre_splitW hpre).1
 have hc:l.pre.holds [] { args:=args }=true:=(pre_splitW hpre).2
 obtain ⟨d,r,rfl,h1,h2⟩:=hasAllW_cons hsh
 obtain rfl:=hasAllW_nil h2
 obtain ⟨xs,rfl,h3⟩:=hasW_list h1
 obtain ⟨ns,rfl⟩:=items_int h3
 have hlen:ns.length<=n:=by
  unfold OpenLaw.pre at hc
  have h4:(WTm.not (.lt (.lit (.int (n:Int))) (.len (.arg 0)))).holds [] { args:=[.list (ns.map .int)] }=true:=by
   have h4:=(holds_andW hc).1
   rw [hn] at h4
   exact h4
  have h5:=condW_of h4 (w_not (w_lt w_lit (w_len_list (w_arg rfl))))
  rw [Kr] at h5
  refine Nat.le_of_not_lt fun q=>?_
  have q':(n:Int)<((ns.length:Nat):Int):=by omega
  first
   | (rw [K1 q'] at h5;exact absurd h5 (by decide))
   | (simp at h5;omega)
 cases hwl with
 | cons w1 w2=>
  cases w2
  cases w1 with
  | list ho hall=>exact ⟨_,_,ns,rfl,rfl,ho,nQ ns _ hall,hlen⟩
theorem xG (l:OpenLaw) (args:List WData):l.row.toRowW.claim.post args (.bool true) args=true:=
 postW_of (r:=l.row.toRowW) (X:=(true == true))
  (show WShape.has [] (.bool true) .bool=true by first | rfl | decide | simp [WShape.has,WShape.arms,WShape.armsAll])
  (show (WTm.eq .res (.lit (.bool true))).value [] { args:=args,res:=some (.bool true),after:=args }=some (.bool (true == true)) from w_eq_bool (w_res rfl) w_lit) rfl
theorem attach_call {l:OpenLaw}{n:Nat}{q:Program}{loose:List Str}{XP:(Str->Option Value)->Heap->Prop}{YP:World->Heap->Prop}{d:DefRec}
  (hn:l.most=some n) (hdf:d.params.defaults=[])
  (call : ∀ (w : World) (s₀ s₁ : Shared) (mg mb : Str -> Option Value) (fa : Addr) (o : Obj) (pm cd doc : Value) (a : Addr) (vs : List Value) (ns : List Int),
   Ground q loose [] XP w s₀ mg mb s₁.heap->YP w s₁.heap ->
   s₁.heap.get? fa=some o->o.data=.func (docDef d.name d.params d.body d.scope pm cd doc)->s₁.heap.CodeRec cd d.name->mg d.name=some (.ref fa) ->
   s₁.heap.get? a=some { cls:=.type "list",data:=.seq vs.toArray }->IntsAre vs ns->ns.length<=n->s₁.gens=#[] ->
   codeAny (model l.prog w) callerA (.call (.ref fa) ⟨[.ref a],[]⟩) (fun r s'=>r=.ok (.ret (.bool true))/\OldK s₁.heap s'.heap/\s'.os=s₁.os/\AllBare s'.gens) s₁) :
  WalkO q loose XP YP l.row.toRowW d [] (fun f vs=>PySem.call f vs):=by
 intro w s₀ s₁ mg mb G Y fa o pm cd doc dV kV ho hd hcd hD hmg hg args vals as hpre hlay hrd hwl hlo
 obtain rfl:dV=.none:=Dflts.none hD hdf
 obtain rfl:kV=.none:=Dflts.noKw hD
 obtain ⟨a,vs,ns,rfl,rfl,hobj,hints,hlen⟩:=xC hn hpre hwl
 refine enter_call (Kc (call w s₀ s₁ mg mb fa o pm cd doc a vs ns G Y ho (fd_plain hd) hcd hmg hobj hints hlen hg) fun r s' hq=>?_)
 obtain ⟨rfl,h2,h3,h4⟩:=hq
 exact ⟨.inl ⟨.bool true,.bool true,[],rfl,fun _=>rfl,.bool true,xG l _,fun _=>⟨List.Pairwise.nil,fun _ hm=>(nomatch hm)⟩⟩,h2,h3,h4⟩
section
variable {prog:Program}{w:World}{A:Around}{E:Value->Shared->Prop}{s:Shared}{K:Frag}
end
end Att
namespace L2
open PySem PySem.Spec PyProof.Rows
theorem qy:∀ {vs:List Value}{ns:List Int},IntsAre vs ns->bb (ns.map V.int) vs
 | _,_,.nil=>.nil
 | _,_,.cons n t h=>.cons ⟨t,rfl⟩ (qy h)
def Bl (H:Hp):Prop:=∀ b,H b=none\/∃ o xs,H b=some (.frz o (.lst xs))
theorem AB {P:Program}{w:World}{K:W.Frag}{mg mb:Str->Option Value}{CX:sP}{k:Nat}{fa a:Addr}{fd:FuncData}{x:Str}{sp:Sp}{s₁:Shared}{vs:List Value}{ns:List Int}
  (KX:K.In s₁.heap) (hns:s₁.heap.Ns mainGlobals mg) (hb:s₁.heap.Ns builtinsNs mb) (hbb:∀ x:Str,x ≠ "__name__" -> mb x=bootBuiltins x) (hlim:s₁.heap.NoLimit) (hg:s₁.gens=#[])
  (ha:s₁.heap.get? a=some { cls:=.type "list",data:=.seq vs.toArray }) (hi:IntsAre vs ns) (hl:ns.length<=sizeLine) (hr:fm k callerA)
  (F:∀ base:Heap,K.In base->base.Ns mainGlobals mg->om P w K mg base CX k fa fd [x] sp) (hbind:∀ (s:Shared) (u:Value),BindsTo s fd ⟨[u],[]⟩ [(x,u)])
  (hsp:∀ H:Hp,Bl H->hX K H a (ns.map V.int)->sp [.ref a] H (fun v _=>v=.bl true) fun _ _ _=>False)
  (hCX:∀ H e s',CX [] H s₁ (fun _ _ _=>False) e s'->False) :
  codeAny (model P w) callerA (.call (.ref fa) ⟨[.ref a],[]⟩) (fun r s'=>r=.ok (.ret (.bool true))/\OldK s₁.heap s'.heap/\s'.os=s₁.os/\AllBare s'.gens) s₁:=by
 have rv:=qy hi
 have lenV:=hi.length
 have core:∀ H:Hp,Bl H->hX K H a (ns.map V.int)->mf P w H s₁.heap->(∀ b,H b≠none->b=a)->(H a≠none->K.lookup a=none) ->
   codeAny (model P w) callerA (.call (.ref fa) ⟨[.ref a],[]⟩) (fun r s'=>r=.ok (.ret (.bool true))/\OldK s₁.heap s'.heap/\s'.os=s₁.os/\AllBare s'.gens) s₁:=by
  intro H hO hS hok hA hK
  have base_of:∀ {b:Addr}{o:Obj},s₁.heap.get? b=some o->H b=none->(rB s₁.heap H).get? b=some o:=fun e n=>AF e n
  have noA:∀ {b:Addr}{o:Obj}{es:Array DictEntry}{ep:Nat},s₁.heap.get? b=some o->o.data=.dict es ep->H b=none:=fun {b o es ep} e d=>by
   cases q:H b with
   | none=>rfl
   | some u=>
    have e':b=a:=hA b (by rw [q];simp)
    subst e'
    rw [ha] at e;cases e
    have d':Data.seq vs.toArray _=Data.dict es ep:=d
    cases d'
  have nsK:∀ {b:Addr}{m:Str->Option Value},s₁.heap.Ns b m->(rB s₁.heap H).Ns b m:=fun {b m} ⟨o,es,ep,e,d,r⟩=>⟨o,es,ep,base_of e (noA e d),d,r⟩
  have hKb:K.In (rB s₁.heap H):=fun b o e=>base_of (KX b o e) (by
   cases q:H b with
   | none=>rfl
   | some u=>
    have e':b=a:=hA b (by rw [q];simp)
    subst e'
    rw [hK (by rw [q];simp)] at e;cases e)
  have hM:Mod K mg (rB s₁.heap H):=⟨hKb,nsK hns,⟨mb,nsK hb,hbb⟩,let ⟨mc,h1,h2⟩:=hlim;⟨mc,nsK h1,h2⟩⟩
  have e0:xh P w K mg (rB s₁.heap H) callerA [] s₁ H:=⟨rfl,hM,fun b o e=>CD e,Nat.le_of_eq (x4 _ _),trivial,fun b hb=>absurd (show b∈([]:List Addr) from hb) (by simp),hok,.of_eq hg⟩
  refine Kc ((F _ hKb (nsK hns)).run callerA [] s₁ H ⟨[.ref a],[]⟩ [.ref a] [.ref a] _ _ hr e0 (hbind s₁ (.ref a)) (.cons rfl .nil) (hsp H hO hS)) fun r s' h=>?_
  cases r with
  | error e=>exact (hCX H e s' h).elim
  | ok fl=>
   cases fl with
   | next=>exact False.elim h
   | brk=>exact False.elim h
   | cont=>exact False.elim h
   | ret u=>
    obtain ⟨v,H',os,bare,un,hok',r',q⟩:=h
    have q':v=.bl true:=q
    subst q'
    obtain rfl:u=Value.bool true:=r'
    refine ⟨rfl,OldK.of_keep fun b o e=>?_,os,bare⟩
    cases q:H b with
    | none=>exact un.keep b o e q (by intro z;exact absurd (show b∈([]:List Addr) from z) (by simp)) (by simp)
    | some u=>
     rcases hO b with z | ⟨ob,xs,z⟩
     ·rw [q] at z;cases z
     ·have z2 := un.frzs b ob _ z
      obtain ⟨e1,_⟩:=hok b _ z
      obtain ⟨e2,_⟩:=hok' b _ z2
      rw [e] at e1;cases e1
      exact e2
 cases hk:K.lookup a with
 | some o=>
  have e:=KX a o hk
  rw [ha] at e
  cases e
  refine core (fun _=>none) (fun _=>.inl rfl) (.inr ⟨_,vs.toArray,_,hk,rfl,rfl,rfl,by rw [Ka,lenV];exact hl,by simpa using rv⟩) (fun b u z=>by have z':(none:Option HO)=some u:=z;cases z') (fun b z=>absurd rfl z) fun z=>absurd rfl z
 | none=>
  refine core (fun b=>if b=a then some (.frz { cls:=.type "list",data:=.seq vs.toArray } (.lst (ns.map V.int))) else none) (fun b=>?_) (.inl (.inr ⟨{ cls:=.type "list",data:=.seq vs.toArray },Js rfl⟩)) (fun b u z=>?_) (fun b z=>?_) fun _=>hk
  ·by_cases hb : b = a
   ·exact .inr ⟨_,_,Js hb⟩
   ·exact .inl (Jt hb)
  ·by_cases hb : b = a
   ·have z' := (Js hb).symm.trans z
    cases z'
    subst hb
    exact ⟨ha,by rw [Kr];exact hl,vs,_,rv,ha⟩
   ·have z' := (Jt hb).symm.trans z
    cases z'
  ·by_cases hb : b = a
   ·exact hb
   ·exact absurd (Jt hb) z
end L2
namespace L2
open PySem PySem.Spec PyProof.Rows
theorem walk_of {l:W.OpenLaw}{n k:Nat}{q:Program}{loose:List Str}{XP:(Str->Option Value)->Heap->Prop}{YP:World->Heap->Prop}{d:DefRec}{K:Params->W.Frag}{CX:World->sP}{sp:World->Sp}{x:Str}
  (hn:l.most=some n) (hn2:n<=sizeLine) (hdf:d.params.defaults=[]) (hr:fm k callerA)
  (hY:∀ (w:World) (h:Heap),YP w h->(K w.params).In h)
  (F : ∀ (w : World) (mg : Str -> Option Value) (fa : Addr) (h : Heap), (K w.params).In h -> h.Ns mainGlobals mg -> mg d.name = some (.ref fa) ->
   ∃ fd:FuncData,(∀ (s:Shared) (u:Value),BindsTo s fd ⟨[u],[]⟩ [(x,u)]) /\
    ∀ base:Heap,(K w.params).In base->base.Ns mainGlobals mg->om l.prog w (K w.params) mg base (CX w) k fa fd [x] (sp w))
  (hsp:∀ (w:World) (H:Hp) (a:Addr) (ns:List Int),ns.length<=n->Bl H->hX (K w.params) H a (ns.map V.int)->sp w [.ref a] H (fun v _=>v=.bl true) fun _ _ _=>False)
  (hCX:∀ (w:World) (H:Hp) (s:Shared) (e:Value) (s':Shared),CX w [] H s (fun _ _ _=>False) e s'->False) :
  W.WalkO q loose XP YP l.row.toRowW d [] (fun f vs=>PySem.call f vs):=by
 refine Att.attach_call hn hdf fun w s₀ s₁ mg mb fa o pm cd doc a vs ns G Y ho hd hcd hmg hobj hints hlen hg=>?_
 have KX:=hY w _ Y
 obtain ⟨fd,hb,hF⟩:=F w mg fa _ KX G.T.g hmg
 exact AB KX G.T.g G.T.b G.T.builtins G.T.nolimit hg hobj hints (JB hlen hn2) hr hF hb (fun H hO hS=>hsp w H a ns hlen hO hS) fun H e s'=>hCX w H s₁ e s'
end L2
namespace L2
open PySem PySem.Spec PyProof.Rows
def dO (s:Stmt):Arguments:=match s with
 | .FunctionDef _ a _ _ _ _ _ _ _ _=>a
 | _=>{ posonlyargs:=[],args:=[],vararg:=none,kwonlyargs:=[],kw_defaults:=[],kwarg:=none,defaults:=[] }
def bY (s:Stmt):List Stmt:=match s with
 | .FunctionDef _ _ b _ _ _ _ _ _ _=>b
 | _=>[]
def au (s:Stmt):Scope:=match s with
 | .FunctionDef _ _ _ _ _ _ sc _ _ _=>sc
 | _=>{ kind:=.function,names:=[],isGenerator:=false,isCoroutine:=false }
abbrev uW:sP:=fun _ _ _ _ _ _=>False
abbrev E0:XK:=fun _ _ _=>False
theorem yQ {X:Cx}:jg uW X E0:=fun _ _ _ _ _ _ _ h=>h.elim
structure iz (K:W.Frag) (x qual:Str) (st:Stmt) (f:Addr) (fd:FuncData):Prop where
 ex:∃ (oc:Value) (od:Option Addr) (kV doc pm:Value) (an:Option Addr) (cdv ct:Value) (osl:Array (Option Value)),
  fd=W.fnOf x qual (dO st) (bY st) (au st) .none kV doc pm an cdv ct/\K.lookup f=some ⟨oc,od,.func fd,osl⟩/\W.codeIn K cdv qual=true
 kp:W.keepIn K (.ref f)=true
section
variable {P:Program}{w:World}{K:W.Frag}{mg:Str->Option Value}{base:Heap}
theorem iz.ok {x qual:Str}{st:Stmt}{f:Addr}{fd:FuncData}{N ps:List Str}{k:Nat}{sp:Sp} (F:iz K x qual st f fd) (S:aS N ps (au st)) (len:∀ vs H Q E,sp vs H Q E->vs.length=ps.length)
  (hbody : ∀ (cdv : Value) (A : Around) (outer : List Env) (s : Shared) (H : Hp) (vs : List V) (Q : VK) (E : XK), fm k (A.deeper (envOfC qual (au st) s.heap.objs.size f cdv)) -> sp vs H Q E ->
   ∃ t,iO (oi uW P w K mg base N qual (au st) f cdv A outer s H E).nox (bY st) t/\t { nx:=fun _ H'=>Q .non H',rt:=Q } (start N vs) H):om P w K mg base uW (k+1) f fd ps sp:=by
 obtain ⟨oc,od,kV,doc,pm,an,cdv,ct,osl,rfl,lk,hcd⟩:=F.ex
 refine DG lk hcd S len fun A outer s H vs Q E hr hsp=>?_
 obtain ⟨t,h,q⟩:=hbody cdv A outer s H vs Q E hr hsp
 exact ⟨t,h.nox,q⟩
theorem iz.binds {x qual:Str}{st:Stmt}{f:Addr}{fd:FuncData}{ps:List Str} (F:iz K x qual st f fd)
  (h:∀ (kV doc pm:Value) (an:Option Addr) (cdv ct:Value) (us:List Value),us.length=ps.length->bindArgs (W.fnOf x qual (dO st) (bY st) (au st) .none kV doc pm an cdv ct) ⟨us,[]⟩=pure (ps.zip us)):gF K fd ps []:=by
 obtain ⟨oc,od,kV,doc,pm,an,cdv,ct,osl,rfl,lk,hcd⟩:=F.ex
 exact .all (h kV doc pm an cdv ct)
theorem FZ {x qual:Str}{st:Stmt}{f:Addr}{oc:Value}{od an:Option Addr}{osl:Array (Option Value)}{kV doc pm cdv ct:Value} (l:K.lookup f=some ⟨oc,od,.func (W.fnOf x qual (dO st) (bY st) (au st) .none kV doc pm an cdv ct),osl⟩)
  (c:W.codeIn K cdv qual=true) (k:W.keepIn K (.ref f)=true):iz K x qual st f (W.fnOf x qual (dO st) (bY st) (au st) .none kV doc pm an cdv ct):=⟨⟨oc,od,kV,doc,pm,an,cdv,ct,osl,rfl,l,c⟩,k⟩
end
section
variable {X:Cx}
end
theorem IA {A B:Prop} (h:B):if false=true then A else B:=by
 rw [Jt JX]
 exact h
theorem Iz {A B:Prop} (h:A):if true=true then A else B:=by
 rw [Js rfl]
 exact h
end L2
namespace Lw
open PySem PySem.Spec PyProof.Rows L2
def top (i:Nat):Stmt:=PySem.Challenge.pw_rootwebs_k03_far_stars_and_steps.main.body.getD i (.Pass ⟨0,0,0,0⟩)
abbrev iI:Stmt:=top 11
abbrev dR:Stmt:=top 12
abbrev iK:Stmt:=top 13
abbrev fK:Stmt:=top 16
abbrev cP:Stmt:=top 19
abbrev fG:Stmt:=top 18
abbrev kb:Stmt:=top 17
abbrev jl:Stmt:=top 20
abbrev fF:Stmt:=top 21
abbrev iH:Stmt:=top 22
abbrev gv:Stmt:=top 23
abbrev iJ:Stmt:=top 24
abbrev eE:Stmt:=top 26
abbrev g6:Stmt:=top 27
abbrev fM:Stmt:=top 28
abbrev g7:Stmt:=top 29
abbrev gw:Stmt:=top 30
abbrev eD:Stmt:=top 31
abbrev dg:Stmt:=top 32
abbrev cQ:Stmt:=top 33
abbrev gH:Stmt:=top 34
abbrev d7:Stmt:=top 35
abbrev ba:Stmt:=top 36
abbrev fL:Stmt:=top 37
abbrev g5:Stmt:=top 38
abbrev bF:Stmt:=top 39
abbrev kP:Stmt:=top 40
noncomputable def en (P:Params) (n:Str) (t:Tok) (v:Value):DictEntry:=⟨PyData.keyHash P n,.str n t,v⟩
noncomputable def fo (n:Str) (st:Stmt) (m:Str) (t:Tok) (c:Addr):Obj:=⟨.type "function",none,.func (W.fnOf n n (dO st) (bY st) (au st) .none .none .none (.str m t) none (.ref c) .none),#[]⟩
noncomputable def co (n:Str) (t:Tok) (l k i:Int) (a:Addr) (p:Bool) (u:Nat):Obj:=⟨.type "code",none,.fields #[.str n t,.str n (t+1),.str "/claim/cut.py" (t+2),.int l 0,.int k 0,.int 0 0,.int 0 0,.int 3 0,.ref a,.bool true,.int i 0,.ref (a+1),.none,bif p then .ref (a+2) else .none,bif p then .ref (a+3) else .none,.ref (bif p then a+4 else a+2),.int u 0,.int l 0,.str "/claim/cut.py" (u+1)],#[]⟩
noncomputable def Kz (P:Params):W.Frag:=[(3,⟨.type "dict",none,.dict #[en P "__name__" 165 (.str "law_rootwebs_k03_far_stars_and_steps" 459),en P "__doc__" 166 .none,en P "__package__" 167 .none,en P "__loader__" 168 (.builtin "__main__.__loader__#opaque"),en P "__spec__" 169 .none,en P "__annotations__" 170 (.ref 6),en P "__builtins__" 171 (.ref 4),en P "__file__" 173 (.str "/claim/cut.py" 172),en P "__cached__" 174 .none,en P "RootError" 206 (.ref 24),en P "NoPlace" 222 (.ref 37),en P "NoNumber" 238 (.ref 49),en P "NoLine" 254 (.ref 61),en P "NoRoot" 270 (.ref 73),en P "NoTree" 286 (.ref 85),en P "NoWeb" 311 (.ref 104),en P "NoText" 336 (.ref 123),en P "TooGreat" 363 (.ref 142),en P "is_whole" 372 (.ref 151),en P "is_whole_from" 381 (.ref 158),en P "is_place" 389 (.ref 165),en P "MOST_STEPS" 393 (.int 6 392),en P "check_place" 401 (.ref 172),en P "far_of" 410 (.ref 179),en P "fars_from" 416 (.ref 184),en P "next_places" 422 (.ref 189),en P "star_of" 430 (.ref 196),en P "steps_web" 436 (.ref 201),en P "two_step" 443 (.ref 208),en P "still_from" 451 (.ref 215),en P "is_still" 458 (.ref 222),en P "_law_cell_at" 468 (.ref 229),en P "_law_next" 475 (.ref 236),en P "_law_pen_of" 483 (.ref 243),en P "_law_draw" 492 (.ref 250),en P "_law_whole" 499 (.ref 257),en P "_law_kind_of" 507 (.ref 264),en P "_law_named" 513 (.ref 269),en P "_law_names_by" 519 (.ref 274),en P "_law_far" 525 (.ref 279),en P "_law_steps" 531 (.ref 284),en P "_law_sparse_by" 537 (.ref 289),en P "_law_web_by" 549 (.ref 296),en P "_law_told" 560 (.ref 303),en P "_law_right" 566 (.ref 308),en P "law" 577 (.ref 315)] 46,#[]⟩),
 (23,⟨.type "dict",none,.dict #[en P "__module__" 196 (.str "rootwebs.errors" 187),en P "__firstlineno__" 200 (.int 2 199),en P "__static_attributes__" 201 (.ref 22),en P "__weakref__" 203 (.ref 25),en P "__doc__" 204 .none] 3,#[]⟩),
 (24,⟨.type "type",none,.cls ⟨"RootError",[(.type "ValueError")],[(.ref 24),(.type "ValueError"),(.type "Exception"),(.type "BaseException"),(.type "object")],23, "RootError",true,[],[(.ref 37),(.ref 49),(.ref 61),(.ref 73),(.ref 85),(.ref 104),(.ref 123),(.ref 142)],false,none,false⟩,#[some (.ref 15),none,some (.str "RootError" 189),some (.str "RootError" 197),some (.builtin "ValueError.__new__"),some (.bool true)]⟩),
 (36,⟨.type "dict",none,.dict #[en P "__module__" 214 (.str "rootwebs.errors" 187),en P "__firstlineno__" 218 (.int 4 217),en P "__static_attributes__" 219 (.ref 35),en P "__doc__" 220 .none] 2,#[]⟩),
 (37,⟨.type "type",none,.cls ⟨"NoPlace",[(.ref 24)],[(.ref 37),(.ref 24),(.type "ValueError"),(.type "Exception"),(.type "BaseException"),(.type "object")],36, "NoPlace",true,[],[],false,none,false⟩,#[some (.ref 28),none,some (.str "NoPlace" 207),some (.str "NoPlace" 215),some (.builtin "ValueError.__new__"),some (.bool true)]⟩),
 (48,⟨.type "dict",none,.dict #[en P "__module__" 230 (.str "rootwebs.errors" 187),en P "__firstlineno__" 234 (.int 6 233),en P "__static_attributes__" 235 (.ref 47),en P "__doc__" 236 .none] 2,#[]⟩),
 (49,⟨.type "type",none,.cls ⟨"NoNumber",[(.ref 24)],[(.ref 49),(.ref 24),(.type "ValueError"),(.type "Exception"),(.type "BaseException"),(.type "object")],48, "NoNumber",true,[],[],false,none,false⟩,#[some (.ref 40),none,some (.str "NoNumber" 223),some (.str "NoNumber" 231),some (.builtin "ValueError.__new__"),some (.bool true)]⟩),
 (60,⟨.type "dict",none,.dict #[en P "__module__" 246 (.str "rootwebs.errors" 187),en P "__firstlineno__" 250 (.int 8 249),en P "__static_attributes__" 251 (.ref 59),en P "__doc__" 252 .none] 2,#[]⟩),
 (61,⟨.type "type",none,.cls ⟨"NoLine",[(.ref 24)],[(.ref 61),(.ref 24),(.type "ValueError"),(.type "Exception"),(.type "BaseException"),(.type "object")],60, "NoLine",true,[],[],false,none,false⟩,#[some (.ref 52),none,some (.str "NoLine" 239),some (.str "NoLine" 247),some (.builtin "ValueError.__new__"),some (.bool true)]⟩),
 (72,⟨.type "dict",none,.dict #[en P "__module__" 262 (.str "rootwebs.errors" 187),en P "__firstlineno__" 266 (.int 10 265),en P "__static_attributes__" 267 (.ref 71),en P "__doc__" 268 .none] 2,#[]⟩),
 (73,⟨.type "type",none,.cls ⟨"NoRoot",[(.ref 24)],[(.ref 73),(.ref 24),(.type "ValueError"),(.type "Exception"),(.type "BaseException"),(.type "object")],72, "NoRoot",true,[],[],false,none,false⟩,#[some (.ref 64),none,some (.str "NoRoot" 255),some (.str "NoRoot" 263),some (.builtin "ValueError.__new__"),some (.bool true)]⟩),
 (84,⟨.type "dict",none,.dict #[en P "__module__" 278 (.str "rootwebs.errors" 187),en P "__firstlineno__" 282 (.int 12 281),en P "__static_attributes__" 283 (.ref 83),en P "__doc__" 284 .none] 2,#[]⟩),
 (85,⟨.type "type",none,.cls ⟨"NoTree",[(.ref 24)],[(.ref 85),(.ref 24),(.type "ValueError"),(.type "Exception"),(.type "BaseException"),(.type "object")],84, "NoTree",true,[],[],false,none,false⟩,#[some (.ref 76),none,some (.str "NoTree" 271),some (.str "NoTree" 279),some (.builtin "ValueError.__new__"),some (.bool true)]⟩),
 (103,⟨.type "dict",none,.dict #[en P "__module__" 294 (.str "rootwebs.errors" 187),en P "__firstlineno__" 298 (.int 14 297),en P "__init__" 306 (.ref 101),en P "__static_attributes__" 308 (.ref 102),en P "__doc__" 309 .none] 2,#[]⟩),
 (104,⟨.type "type",none,.cls ⟨"NoWeb",[(.ref 24)],[(.ref 104),(.ref 24),(.type "ValueError"),(.type "Exception"),(.type "BaseException"),(.type "object")],103, "NoWeb",true,[],[],false,none,false⟩,#[some (.ref 88),none,some (.str "NoWeb" 287),some (.str "NoWeb" 295),some (.builtin "ValueError.__new__"),some (.bool true)]⟩),
 (122,⟨.type "dict",none,.dict #[en P "__module__" 319 (.str "rootwebs.errors" 187),en P "__firstlineno__" 323 (.int 18 322),en P "__init__" 331 (.ref 120),en P "__static_attributes__" 333 (.ref 121),en P "__doc__" 334 .none] 2,#[]⟩),
 (123,⟨.type "type",none,.cls ⟨"NoText",[(.ref 24)],[(.ref 123),(.ref 24),(.type "ValueError"),(.type "Exception"),(.type "BaseException"),(.type "object")],122, "NoText",true,[],[],false,none,false⟩,#[some (.ref 107),none,some (.str "NoText" 312),some (.str "NoText" 320),some (.builtin "ValueError.__new__"),some (.bool true)]⟩),
 (141,⟨.type "dict",none,.dict #[en P "__module__" 344 (.str "rootwebs.errors" 187),en P "__firstlineno__" 348 (.int 22 347),en P "__init__" 357 (.ref 139),en P "__static_attributes__" 360 (.ref 140),en P "__doc__" 361 .none] 2,#[]⟩),
 (142,⟨.type "type",none,.cls ⟨"TooGreat",[(.ref 24)],[(.ref 142),(.ref 24),(.type "ValueError"),(.type "Exception"),(.type "BaseException"),(.type "object")],141, "TooGreat",true,[],[],false,none,false⟩,#[some (.ref 126),none,some (.str "TooGreat" 337),some (.str "TooGreat" 345),some (.builtin "ValueError.__new__"),some (.bool true)]⟩),
 (150,co "is_whole" 366 28 1 181 145 true 370),
 (151,fo "is_whole" iI "rootwebs.kinds" 364 150),
 (157,co "is_whole_from" 373 30 3 181 152 true 379),
 (158,fo "is_whole_from" dR "rootwebs.kinds" 364 157),
 (164,co "is_place" 382 32 2 181 159 true 387),
 (165,fo "is_place" iK "rootwebs.kinds" 364 164),
 (171,co "check_place" 394 36 2 181 166 true 399),
 (172,fo "check_place" fK "rootwebs.webs" 390 171),
 (178,co "far_of" 402 39 3 181 173 true 408),
 (179,fo "far_of" kb "rootwebs.webs" 390 178),
 (183,co "fars_from" 411 43 2 181 180 false 414),
 (184,fo "fars_from" fG "rootwebs.webs" 390 183),
 (188,co "next_places" 417 55 2 181 185 false 420),
 (189,fo "next_places" cP "rootwebs.webs" 390 188),
 (195,co "star_of" 423 57 2 181 190 true 428),
 (196,fo "star_of" jl "rootwebs.webs" 390 195),
 (200,co "steps_web" 431 60 2 181 197 false 434),
 (201,fo "steps_web" fF "rootwebs.webs" 390 200),
 (207,co "two_step" 437 69 1 181 202 true 441),
 (208,fo "two_step" iH "rootwebs.webs" 390 207),
 (214,co "still_from" 444 71 1 181 209 true 449),
 (215,fo "still_from" gv "rootwebs.webs" 390 214),
 (221,co "is_still" 452 76 1 181 216 true 456),
 (222,fo "is_still" iJ "rootwebs.webs" 390 221),
 (228,co "_law_cell_at" 461 79 2 181 223 true 466),
 (229,fo "_law_cell_at" eE "law_rootwebs_k03_far_stars_and_steps" 459 228),
 (235,co "_law_next" 469 83 1 181 230 true 473),
 (236,fo "_law_next" g6 "law_rootwebs_k03_far_stars_and_steps" 459 235),
 (242,co "_law_pen_of" 476 86 1 181 237 true 481),
 (243,fo "_law_pen_of" fM "law_rootwebs_k03_far_stars_and_steps" 459 242),
 (249,co "_law_draw" 484 89 2 181 244 true 490),
 (250,fo "_law_draw" g7 "law_rootwebs_k03_far_stars_and_steps" 459 249),
 (256,co "_law_whole" 493 96 1 181 251 true 497),
 (257,fo "_law_whole" gw "law_rootwebs_k03_far_stars_and_steps" 459 256),
 (263,co "_law_kind_of" 500 98 1 181 258 true 505),
 (264,fo "_law_kind_of" eD "law_rootwebs_k03_far_stars_and_steps" 459 263),
 (268,co "_law_named" 508 104 2 181 265 false 511),
 (269,fo "_law_named" dg "law_rootwebs_k03_far_stars_and_steps" 459 268),
 (273,co "_law_names_by" 514 107 2 181 270 false 517),
 (274,fo "_law_names_by" cQ "law_rootwebs_k03_far_stars_and_steps" 459 273),
 (278,co "_law_far" 520 110 1 181 275 false 523),
 (279,fo "_law_far" gH "law_rootwebs_k03_far_stars_and_steps" 459 278),
 (283,co "_law_steps" 526 121 2 181 280 false 529),
 (284,fo "_law_steps" d7 "law_rootwebs_k03_far_stars_and_steps" 459 283),
 (288,co "_law_sparse_by" 532 127 1 181 285 false 535),
 (289,fo "_law_sparse_by" ba "law_rootwebs_k03_far_stars_and_steps" 459 288),
 (295,co "_law_web_by" 538 146 1 181 290 true 547),
 (296,fo "_law_web_by" fL "law_rootwebs_k03_far_stars_and_steps" 459 295),
 (302,co "_law_told" 550 159 4 181 297 true 558),
 (303,fo "_law_told" g5 "law_rootwebs_k03_far_stars_and_steps" 459 302),
 (307,co "_law_right" 561 166 1 181 304 false 564),
 (308,fo "_law_right" bF "law_rootwebs_k03_far_stars_and_steps" 459 307),
 (314,co "law" 567 181 1 181 309 true 575),
 (315,fo "law" kP "law_rootwebs_k03_far_stars_and_steps" 459 314)]
noncomputable def Qz:Program:=W.view PySem.Challenge.pw_rootwebs_k03_far_stars_and_steps [1,2,3,4,5,6,7,8,9,11,12,13,15,16,17,18,19,20,21,22,23,24,26,27,28,29,30,31,32,33,34,35,36,37,38,39,40]
noncomputable abbrev Hz:W.Hook:=W.kHook Kz [3,23,24,36,37,48,49,60,61,72,73,84,85,103,104,122,123,141,142,150,151,157,158,164,165,171,172,178,179,183,184,188,189,195,196,200,201,207,208,214,215,221,222,228,229,235,236,242,243,249,250,256,257,263,264,268,269,273,274,278,279,283,284,288,289,295,296,302,303,307,308,314,315] fun _=>by kernel_rfl
theorem D7:PySem.Challenge.rw_rootwebs_k03_far_stars_and_steps.wellSaid=true:=by kernel_rfl
noncomputable abbrev Xz (s:Shared):Bool:=W.xlAt Qz [] s && W.recOk (W.RowW.records (W.OpenRow.toRowW (W.OpenLaw.row PySem.Challenge.rw_rootwebs_k03_far_stars_and_steps))) s
theorem D8:W.LeftO PySem.Challenge.rw_rootwebs_k03_far_stars_and_steps.row.prog Qz [] Xz (W.Hook.obs Hz) (W.Hook.val Hz) 5756:=fun w=>by kernel_rfl
end Lw
namespace L2
open PySem PySem.Spec PyProof.Rows
theorem eF {x:Str}:∀ {names:List (Str × NameKind)}{k:NameKind},names.lookup x=some k->(x,k)∈names
 | [],_,h=>by simp at h
 | (n,j)::r,k,h=>by
  rw [K2] at h
  cases hx:x == n with
  | true=>
   rw [hx] at h
   have e:x=n:=eq_of_beq hx
   cases h
   rw [e];exact JE
  | false=>rw [hx] at h;exact JF _ (eF h)
theorem jY {env:Env}{x:Str}:∀ {names:List (Str × NameKind)},
  (names.map fun (n, k) => if (k == NameKind.free && env.scope.kind == .function && env.kindOf n == some .cell) then (n, NameKind.cell) else (n, k)).lookup x =
   (names.lookup x).map fun k=>if (k == NameKind.free && env.scope.kind == .function && env.kindOf x == some .cell) then NameKind.cell else k
 | []=>rfl
 | (n,k)::r=>by
  have ih:=jY (env:=env) (x:=x) (names:=r)
  rw [KM]
  show List.lookup x ((if (k == NameKind.free && env.scope.kind == .function && env.kindOf n == some .cell)=true then (n,NameKind.cell) else (n,k))::_)=_
  cases hx:x == n with
  | true=>
   have e:x=n:=eq_of_beq hx
   subst e
   by_cases hc:(k == NameKind.free && env.scope.kind == .function && env.kindOf x == some .cell)=true
   ·rw [Js hc,K2,hx,K2,hx];show some NameKind.cell=some (if _ then _ else _);rw [Js hc]
   ·rw [Jt hc,K2,hx,K2,hx];show some k=some (if _ then _ else _);rw [Jt hc]
  | false=>
   by_cases hc:(k == NameKind.free && env.scope.kind == .function && env.kindOf n == some .cell)=true
   ·rw [Js hc,K2,hx,K2,hx];exact ih
   ·rw [Jt hc,K2,hx,K2,hx];exact ih
theorem kU {env:Env}{f:Str × NameKind->List (Str × Addr)->Sem (ForInStep (List (Str × Addr)))}
  (h1:∀ n c acc,env.cells.lookup n=some c->f (n,.free) acc=pure (.yield ((n,c)::acc))) (h2:∀ n k acc,k≠.free->f (n,k) acc=pure (.yield acc)) :
  ∀ (names:List (Str × NameKind)) (acc:List (Str × Addr)),(∀ y∈names,y.2=.free->∃ c,env.cells.lookup y.1=some c)->(∀ x c,acc.lookup x=some c->env.cells.lookup x=some c) ->
   ∃ cl,forIn names acc f=(pure cl:Sem (List (Str × Addr)))/\(∀ x c,cl.lookup x=some c->env.cells.lookup x=some c)/\(∀ x,(acc.lookup x).isSome=true->(cl.lookup x).isSome=true)/\(∀ y∈names,y.2=.free->(cl.lookup y.1).isSome=true)
 | [],acc,_,ha=>⟨acc,rfl,ha,fun _ h=>h,fun y hy=>by simp at hy⟩
 | (n,k)::r,acc,hn,ha=>by
  by_cases hk:k=.free
  ·subst hk
   obtain ⟨c,hc⟩:=hn (n,.free) JE rfl
   obtain ⟨cl,e1,e2,e3,e4⟩:=kU h1 h2 r ((n,c)::acc) (fun y hy=>hn y (JF _ hy)) (fun x d h=>by
    rw [K2] at h
    cases hx:x == n with
    | true=>rw [hx] at h;cases h;rw [eq_of_beq hx];exact hc
    | false=>rw [hx] at h;exact ha x d h)
   refine ⟨cl,?_,e2,fun x h=>e3 x ?_,fun y hy hf=>?_⟩
   ·rw [List.forIn_cons,h1 n c acc hc];exact e1
   ·rw [K2];cases hx:x == n <;> simp [h]
   ·rcases JG.mp hy with z | z
    ·subst z;exact e3 n (by simp [K2])
    ·exact e4 y z hf
  ·obtain ⟨cl, e1, e2, e3, e4⟩ := kU h1 h2 r acc (fun y hy => hn y (JF _ hy)) ha
   refine ⟨cl,?_,e2,e3,fun y hy hf=>?_⟩
   ·rw [List.forIn_cons,h2 n k acc hk];exact e1
   ·rcases JG.mp hy with z | z
    ·subst z;exact absurd hf hk
    ·exact e4 y z hf
theorem uL {env:Env}{n:Str}{c:Addr} (h:env.cells.lookup n=some c):cellOf env n=pure c:=by
 unfold cellOf;rw [h]
def wb (env:Env) (x:Str × NameKind) (r:List (Str × Addr)):Sem (ForInStep (List (Str × Addr))):=
 match x with | (name,kind)=>if kind == .free then do let c <- cellOf env name;pure (.yield ((name,c)::r)) else pure (.yield r)
theorem vK {scope:Scope}{env:Env} (hn:∀ y∈scope.names,y.2=.free->∃ c,env.cells.lookup y.1=some c) :
  ∃ cl,closureFor scope env=pure cl/\(∀ x c,cl.lookup x=some c->env.cells.lookup x=some c)/\(∀ y∈scope.names,y.2=.free->(cl.lookup y.1).isSome=true):=by
 obtain ⟨cl,e1,e2,_,e4⟩:=kU (env:=env) (f:=wb env)
  (fun n c acc h=>by unfold wb;simp only [K3,KA];rw [uL h];rfl)
  (fun n k acc h => by
   unfold wb
   have:(k == NameKind.free)=false:=by simpa using h
   simp only [this,K4,Ky]) scope.names [] hn (fun x c h=>by simp at h)
 refine ⟨cl,?_,e2,e4⟩
 show (forIn scope.names [] (wb env) >>= fun s=>pure s)=pure cl
 rw [e1];rfl
def jC (X:Cx) (Nc:List Str) (scope:Scope) (cl:List (Str × Addr)) (C:Addr) (s:Shared) (H:Hp) (fp:List Addr):Cx where
 prog:=X.prog
 w:=X.w
 K:=X.K
 mg:=X.mg
 base:=X.base
 A:=X.A
 N:=Nc
 s₀:=s
 H₀:=H
 env:=compEnvC scope (cellsFrom (C+1) scope.names cl) C X.env
 outer:=X.stack
 stack:=X.stack
 ex:=fp
 fn:=fun x=>scope.names.lookup x == some .cell
 calm:=X.calm
 pn:=[]
 xe:=fun _ _=>False
def oC (cap:List (Option Nat)) (σ:St):St:=cap.map fun o=>o.bind fun j=>(σ[j]?).join
def fV (N:List Str) (env:Env) (scope:Scope):List Str->List (Option Nat)->Bool
 | [],[]=>true
 | _::Nc,none::cap=>fV N env scope Nc cap
 | x::Nc,some j::cap=>(N[j]? == some x) && (scope.names.lookup x == some .free) && fV N env scope Nc cap
 | _,_=>false
theorem mO {N:List Str}{env:Env}{scope:Scope}:∀ {Nc:List Str}{cap:List (Option Nat)},fV N env scope Nc cap=true->cap.length=Nc.length
 | [],[],_=>rfl
 | [],_::_,h=>by simp [fV] at h
 | _::_,[],h=>by simp [fV] at h
 | _::Nc,none::cap,h=>by rw [K5,K5,mO (Nc:=Nc) (cap:=cap) h]
 | x::Nc,some j::cap,h=>by
  have h':fV N env scope Nc cap=true:=by unfold fV at h;simp only [KH] at h;exact h.2
  rw [K5,K5,mO h']
theorem ph {N:List Str}{env:Env}{scope:Scope}:∀ {Nc:List Str}{cap:List (Option Nat)}{i j:Nat}{x:Str},fV N env scope Nc cap=true->cap[i]?=some (some j)->Nc[i]?=some x->N[j]?=some x/\scope.names.lookup x=some .free
 | [],_,_,_,_,_,_,e=>by simp at e
 | _::_,[],_,_,_,h,_,_=>by simp [fV] at h
 | y::Nc,none::cap,0,j,x,h,e,_=>by simp at e
 | y::Nc,some k::cap,0,j,x,h,e,e2=>by
  simp at e e2;subst e;subst e2
  unfold fV at h;simp only [KH] at h
  exact ⟨eq_of_beq h.1.1,eq_of_beq h.1.2⟩
 | y::Nc,none::cap,i+1,j,x,h,e,e2=>ph (Nc:=Nc) (cap:=cap) (i:=i) h (by simpa using e) (by simpa using e2)
 | y::Nc,some k::cap,i+1,j,x,h,e,e2=>by
  have h':fV N env scope Nc cap=true:=by unfold fV at h;simp only [KH] at h;exact h.2
  exact ph (Nc:=Nc) (cap:=cap) (i:=i) h' (by simpa using e) (by simpa using e2)
structure cw (N:List Str) (env:Env) (scope:Scope) (Nc:List Str) (cap:List (Option Nat)):Prop where
 kind:scope.kind=.function
 nd:∀ y∈scope.names,scope.names.lookup y.1=some y.2
 free:∀ y∈scope.names,y.2=.free->env.kindOf y.1=some .cell\/env.kindOf y.1=some .free
 cap:fV N env scope Nc cap=true
theorem kh {n0:Nat}{x:Str}{c:Addr}:∀ {names:List (Str × NameKind)}{cl:List (Str × Addr)}{n:Nat},n0<=n->((x,NameKind.cell)∈names\/∃ c',cl.lookup x=some c'/\n0<=c')->(cellsFrom n names cl).lookup x=some c->n0<=c
 | [],cl,n,_,h,e=>by
  rcases h with z | ⟨c',z1,z2⟩
  ·simp at z
  ·have e' : cl.lookup x = some c := e
   rw [z1] at e';cases e';exact z2
 | (y,k)::r,cl,n,hn,h,e=>by
  unfold cellsFrom at e
  split at e
  ·rename_i hk
   refine kh (n:=n+1) (by omega) ?_ e
   cases hx:x == y with
   | true=>exact .inr ⟨n,by rw [K2,hx],hn⟩
   | false=>
    rcases h with z | ⟨c',z1,z2⟩
    ·rcases JG.mp z with q | q
     ·have : x = y := JR Prod.fst q
      rw [this] at hx;simp at hx
     ·exact .inl q
    ·exact .inr ⟨c',by rw [K2,hx];exact z1,z2⟩
  ·rename_i hk
   refine kh hn ?_ e
   rcases h with z | z
   ·rcases JG.mp z with q | q
    ·have : k = .cell := (JR Prod.snd q).symm
     exact absurd (by rw [this];rfl) hk
    ·exact .inl q
   ·exact .inr z
theorem i8 {x:Str}:∀ {names:List (Str × NameKind)}{cl:List (Str × Addr)}{n:Nat},(x,NameKind.cell) ∉ names->(cellsFrom n names cl).lookup x=cl.lookup x
 | [],cl,n,_=>rfl
 | (y,k)::r,cl,n,hn=>by
  unfold cellsFrom
  have hr:(x,NameKind.cell) ∉ r:=fun z=>hn (JF _ z)
  split
  ·rename_i hk
   rw [i8 hr,K2]
   cases hx:x == y with
   | true=>exact absurd (by rw [eq_of_beq hx,(eq_of_beq hk:k=.cell)];exact JE) hn
   | false=>rfl
  ·exact i8 hr
theorem mM {n0:Nat}:∀ {names:List (Str × NameKind)}{cl:List (Str × Addr)}{n:Nat},n0<=n->(∀ x y c,cl.lookup x=some c->cl.lookup y=some c->n0<=c->x=y)->(∀ x c,cl.lookup x=some c->c<n) ->
  ∀ x y c,(cellsFrom n names cl).lookup x=some c->(cellsFrom n names cl).lookup y=some c->n0<=c->x=y
 | [],cl,n,_,h,_=>h
 | (z,k)::r,cl,n,hn,h,hb=>by
  unfold cellsFrom
  split
  ·refine mM (n := n + 1) (by omega) (fun x y c e1 e2 hc => ?_) (fun x c e => ?_)
   ·rw [K2] at e1 e2
    cases hx:x == z with
    | true=>
     cases hy:y == z with
     | true=>rw [eq_of_beq hx,eq_of_beq hy]
     | false=>
      rw [hx] at e1;rw [hy] at e2
      cases e1
      exact absurd (hb y _ e2) (Jx _)
    | false=>
     cases hy:y == z with
     | true=>
      rw [hx] at e1;rw [hy] at e2
      cases e2
      exact absurd (hb x _ e1) (Jx _)
     | false=>rw [hx] at e1;rw [hy] at e2;exact h x y c e1 e2 hc
   ·rw [K2] at e
    cases hx:x == z with
    | true=>rw [hx] at e;cases e;exact K6 _
    | false=>rw [hx] at e;exact K7 (hb x c e)
  ·exact mM hn h hb
theorem jU {x:Str}{c:Addr}:∀ {names:List (Str × NameKind)}{cl:List (Str × Addr)}{h:Heap},(cellsFrom h.objs.size names cl).lookup x=some c->cl.lookup x=some c\/(pushCells h names).IsCell c none
 | [],cl,h,e=>.inl e
 | (y,k)::r,cl,h,e=>by
  unfold cellsFrom at e
  unfold pushCells
  split at e
  ·rename_i hk
   rw [Js hk]
   have e':(cellsFrom (h.push { cls:=.type "cell",data:=.cell none }).objs.size r ((y,h.objs.size)::cl)).lookup x=some c:=by rw [K8];exact e
   rcases jU e' with q | q
   ·rw [K2] at q
    cases hx:x == y with
    | true=>
     rw [hx] at q;cases q
     exact .inr ⟨_,K9 _ _ _ _ (J2 _ rfl),rfl⟩
    | false=>rw [hx] at q;exact .inl q
   ·exact .inr q
  ·rename_i hk
   rw [Jt hk]
   exact jU e
theorem xZ {X:Cx}{pins:List (Addr × Obj)}{σ:St}{H:Hp}{s:Shared}{h':Heap}{t':Nat}{fp:List Addr}{Nc:List Str}{scope:Scope}{cl:List (Str × Addr)}{cap:List (Option Nat)}
  (I:aO X pins σ H s) (hf:∀ b∈fp,nD X pins H b) (hfs:∀ b∈fp,b<s.heap.objs.size) (S:cw X.N X.env scope Nc cap)
  (hcl:∀ x c,cl.lookup x=some c->X.env.cells.lookup x=some c) (hall:∀ y∈scope.names,y.2=.free->(cl.lookup y.1).isSome=true)
  (hn:h'.Ns s.heap.objs.size (fun _=>none)) (hk:∀ b o,s.heap.get? b=some o->h'.get? b=some o) (hce:∀ x c,(cellsFrom (s.heap.objs.size+1) scope.names cl).lookup x=some c->cl.lookup x=some c\/h'.IsCell c none) :
  aO (jC X Nc scope cl s.heap.objs.size s H fp) [] (oC cap σ) H { s with heap:=h',toks:=t' }:=by
 have hrl:∀ x,(jC X Nc scope cl s.heap.objs.size s H fp).env.kindOf x=(scope.names.lookup x).map fun k=>if (k == NameKind.free && X.env.scope.kind == .function && X.env.kindOf x == some .cell) then NameKind.cell else k:=fun x=>jY
 have hcf:∀ x,((jC X Nc scope cl s.heap.objs.size s H fp).env.kindOf x=some .cell\/(jC X Nc scope cl s.heap.objs.size s H fp).env.kindOf x=some .free)->scope.names.lookup x=some .free\/scope.names.lookup x=some .cell:=fun x hx=>by
  rw [hrl] at hx
  cases e:scope.names.lookup x with
  | none=>rw [e] at hx;rcases hx with z | z <;> cases z
  | some k=>
   rw [e] at hx
   by_cases hkf:k=.free
   ·rw [hkf];exact .inl rfl
   ·have : (k == NameKind.free) = false := by simpa using hkf
    simp only [this,Bool.false_and,Option.map_some] at hx
    rcases hx with z | z
    ·have z' : k = .cell := by simpa using z
     rw [z'];exact .inr rfl
    ·have z' : k = .free := by simpa using z
     exact absurd z' hkf
 have hclx:∀ x,scope.names.lookup x=some .free->∃ c,cl.lookup x=some c:=fun x e=>Kg.mp (hall (x,.free) (eF e) rfl)
 have hcb:∀ x c,cl.lookup x=some c->c<s.heap.objs.size:=fun x c e=>by
  obtain ⟨v,q⟩:=I.cell x c (hcl x c e)
  exact q.lt
 have hcell:∀ x c,(cellsFrom (s.heap.objs.size+1) scope.names cl).lookup x=some c->(cl.lookup x=some c/\c<s.heap.objs.size)\/(s.heap.objs.size+1<=c/\h'.IsCell c none):=fun x c e=>by
  by_cases hm:(x,NameKind.cell)∈scope.names
  ·have h1 := kh (J3 _) (.inl hm) e
   rcases hce x c e with z | z
   ·have := hcb x c z
    exact absurd (Jw (K7 this) h1) (Jx _)
   ·exact .inr ⟨h1,z⟩
  ·rw [i8 hm] at e
   exact .inl ⟨e,hcb x c e⟩
 have hinj:∀ x y c,(cellsFrom (s.heap.objs.size+1) scope.names cl).lookup x=some c->(cellsFrom (s.heap.objs.size+1) scope.names cl).lookup y=some c->x=y:=fun x y c e1 e2=>by
  rcases hcell x c e1 with ⟨a1,a2⟩ | ⟨a1,a2⟩
  ·rcases hcell y c e2 with ⟨b1, b2⟩ | ⟨b1, b2⟩
   ·exact I.ok.inj x y c (hcl x c a1) (hcl y c b1)
   ·exact absurd (Jw (K7 a2) b1) (Jx _)
  ·exact mM (J3 _) (fun x y c q _ hc=>absurd (Jw (K7 (hcb x c q)) hc) (Jx _)) (fun x c q=>K7 (hcb x c q)) x y c e1 e2 a1
 refine ⟨⟨I.ok.mod,S.kind,I.ok.glob,I.ok.blt,J3 _,fun x y c e1 e2=>hinj x y c e1 e2,fun x hx=>?_,fun x c e e2=>?_,I.ok.hd,I.ok.frames,.inl rfl,
  fun b hb=>⟨Jy (hfs b hb),fun x c e=>?_⟩,I.bs,JB I.ok.bsz I.sz,fun b o e hb=>?_,fun b hb z=>?_,I.stack,I.stkFree⟩,
  rfl,I.bare,Un.kept hk,⟨_,hn,fun i x v e1 e2 e3=>?_⟩,fun x c e=>?_,I.hok.fresh (J3 _),fun x c e=>?_,fun p hp=>absurd (show p∈([]:List (Addr × Obj)) from hp) (by simp),I.hok.kept hk,?_⟩
 ·rcases hcf x hx with q | q
  ·by_cases hm : (x, NameKind.cell) ∈ scope.names
   ·rcases Kg.mp (W.cellsFrom_some scope.names (s.heap.objs.size + 1) cl (.inl (S.nd (x, .cell) hm))) with ⟨c, e⟩
    exact ⟨c,e⟩
   ·obtain ⟨c, e⟩ := hclx x q
    exact ⟨c,(i8 hm).trans e⟩
  ·obtain ⟨c, e⟩ := Kg.mp (W.cellsFrom_some scope.names (s.heap.objs.size + 1) cl (.inl q))
   exact ⟨c,e⟩
 ·have hm : (x, NameKind.cell) ∈ scope.names := eF (eq_of_beq (show (scope.names.lookup x == some .cell) = true from e))
  exact Nat.le_of_succ_le (kh (J3 _) (.inl hm) e2)
 ·rcases hcell x c e with ⟨a1, a2⟩ | ⟨a1, a2⟩
  ·exact (hf b hb).2.2.2.2.1 x c (hcl x c a1)
  ·exact fun z=>absurd (Jw (K7 (hfs b hb)) (by rw [<- z];exact a1)) (Jx _)
 ·rcases (hf b hb).2.2.2.1 with z | z
  ·exact I.ok.noex b o e z
  ·exact absurd (Jw (Jw (Jv e) I.ok.bsz) z) (Jx _)
 ·rcases JG.mp (I.stkSub b z) with q | q
  ·exact (hf b hb).2.1 q
  ·exact (hf b hb).2.2.1 q
 ·have e2':∃ j,cap[i]?=some (some j)/\σ[j]?=some (some v):=by
   unfold oC at e2
   rw [Km] at e2
   cases hc:cap[i]? with
   | none=>rw [hc] at e2;cases e2
   | some o=>
    rw [hc] at e2
    cases o with
    | none=>cases e2
    | some j=>
     refine ⟨j,rfl,?_⟩
     simp only [Option.map_some,La] at e2
     cases hj:σ[j]? with
     | none=>rw [hj] at e2;cases e2
     | some q=>
      rw [hj] at e2
      simp only [Option.join_some] at e2
      rw [Ju e2]
  obtain ⟨j,hj,hv⟩:=e2'
  obtain ⟨hN,hx⟩:=ph S.cap hj e1
  have hkx:=S.free (x,.free) (eF hx) rfl
  obtain ⟨m,hm,hl⟩:=I.loc
  obtain ⟨u,r,l⟩:=hl j x v hN hv (hkx.elim (fun z=>.inr (.inl z)) (fun z=>.inr (.inr z)))
  refine ⟨u,r,.inr ⟨?_,?_⟩⟩
  ·rw [hrl, hx]
   show some (if _ then _ else _)=_\/some (if _ then _ else _)=_
   by_cases hc:(NameKind.free == NameKind.free && X.env.scope.kind == .function && X.env.kindOf x == some .cell)=true
   ·rw [Js hc];exact .inl rfl
   ·rw [Jt hc];exact .inr rfl
  ·obtain ⟨c, ec⟩ := hclx x hx
   have hm:(x,NameKind.cell) ∉ scope.names:=fun z=>by
    have:=S.nd (x,.cell) z
    rw [hx] at this;cases this
   refine ⟨c,(i8 hm).trans ec,?_⟩
   rcases l with ⟨k,_⟩ | ⟨k,c',ec',z⟩
   ·rcases hkx with q | q <;> (rw [k] at q;cases q)
   ·have q := hcl x c ec
    rw [ec'] at q;cases q
    obtain ⟨o,ho,hd⟩:=z
    exact ⟨o,hk _ o ho,hd⟩
 ·rcases hcell x c e with ⟨a1, a2⟩ | ⟨a1, a2⟩
  ·obtain ⟨v, o, ho, hd⟩ := I.cell x c (hcl x c a1)
   exact ⟨v,o,hk _ o ho,hd⟩
  ·exact ⟨none,a2⟩
 ·rcases hcell x c e with ⟨a1, a2⟩ | ⟨a1, a2⟩
  ·exact I.freeC x c (hcl x c a1)
  ·exact I.hok.fresh (Nat.le_of_succ_le a1)
 ·show (cap.map _).length = Nc.length
  rw [Kr,mO S.cap]
abbrev yp:Value->Shared->Prop:=fun _ _=>False
def rW (ifs:List Expr) (env:Env):Sem Bool:=forIn ifs true fun c r=>if r=true then do let ok <- isTrue c env (eval c env);pure (ForInStep.yield ok) else pure (ForInStep.yield r)
def uP (X:Cx) (ifs:List Expr) (t:TT):Prop:=
 ∀ (pins:List (Addr × Obj)) (s:Shared) (σ:St) (H:Hp) (Q:Bool->Hp->Prop),aO X pins σ H s->t σ H Q->wpAny (model X.prog X.w) X.A (rW ifs X.env) (TP X pins σ Q) X.xe s
def GT:TT:=fun _ H Q=>Q true H
theorem Ca {X:Cx}:uP X [] GT:=fun _ _ _ H _ I h=>JZ ⟨H,I,h⟩
theorem B9 {X:Cx}{c:Expr}{t:TT} (h:PT X c t):uP X [c] t:=fun pins s σ H Q I q=>wpAny_tests_one (h pins s σ H Q I q)
def F9 (e:Expr) (acc:Value) (env:Env):Sem Unit:=match e with
 | .ListComp elt _ _ _=>do let _ <- call (.builtin "list.append") [acc,<- eval elt env]
 | .SetComp elt _ _ _=>do let v <- eval elt env;standAt elt.pos;let _ <- call (.builtin "set.add") [acc,v]
 | _=>unsupported "internal:not-a-comprehension"
def oH:Expr->Bool
 | .ListComp ..=>true
 | .SetComp ..=>true
 | _=>false
def m8 (M:Model) (A:Around) (e:Expr) (k:Nat) (acc:Value) (env:Env) (C:Shared->Prop) (E:Value->Shared->Prop) (s:Shared):Prop:=match (clausesOf e)[k]? with
 | some g=>wpAny M A (eval g.iter env) (fun x s1=>wpAny M A (foldedSetIterable g.iter env x) (fun x s2=>wpAny M A (pyIter x) (fun it s3=>
   codeAny M A (.compStart e k it acc env) (fun r s4=>(∃ f,r=.ok f)/\C s4) s3) E s2) E s1) E s
 | none=>wpAny M A (F9 e acc env) (fun _ s1=>C s1) E s
theorem uq {M:Model}{A:Around}{e:Expr}{k:Nat}{acc:Value}{env:Env}{C C':Shared->Prop}{E:Value->Shared->Prop}{s:Shared} (hC:∀ s,C s->C' s) (h:m8 M A e k acc env C yp s):m8 M A e k acc env C' E s:=by
 unfold m8 at h ⊢
 split at h
 ·exact JO h (fun _ _ h=>JO h (fun _ _ h=>JO h (fun _ _ h=>Kc h fun _ _ h=>⟨h.1,hC _ h.2⟩) fun _ _ z=>z.elim) fun _ _ z=>z.elim) fun _ _ z=>z.elim
 ·exact JO h (fun _ _ h=>hC _ h) fun _ _ z=>z.elim
theorem Bp {M:Model}{A:Around}{E:Value->Shared->Prop}{s:Shared}{e:Expr}{d:Nat}{g:Comprehension}{it acc:Value}{env:Env}{Q:Fin->Shared->Prop} (he:oH e=true) (hz:∀ g∈clausesOf e,g.is_async=0) (hg:(clausesOf e)[d]?=some g)
  (h : wpAny M A (pyNext it) (fun r s₁ => match r with
   | none=>Q (.done .next) s₁
   | some v=>wpAny M A (letOwnedTupleGo g.target it v) (fun _ s₁'=>wpAny M A (assign g.target env v) (fun _ s₂=>wpAny M A (rW g.ifs env) (fun ok s₃=>
     if ok=true then m8 M A e (d+1) acc env (fun s₄=>wpAny M A (again (.compLoop e d it acc env)) Q E s₄) E s₃ else wpAny M A (again (.compLoop e d it acc env)) Q E s₃) E s₂) E s₁') E s₁) E s) :
  wpAny M A (compTurn e d it acc env) Q E s:=by
 have h0:=hz g (Ko hg)
 have h1:∀ g',(clausesOf e)[d+1]?=some g'->g'.is_async=0:=fun g' h=>hz g' (Ko h)
 unfold compTurn
 cases e <;> first
  | exact absurd (show false=true from he) JX
  | (rename_i elt gens sc pos
     have hg':gens[d]?=some g:=hg
     have h1':∀ g',gens[d+1]?=some g'->g'.is_async=0:=h1
     dsimp only
     rw [hg']
     dsimp only
     rw [h0]
     refine JT (JV ?_)
     show wpAny M A (pyNext it >>= _) Q E s
     refine JT (JO h (fun r s₁ h₁=>?_) fun _ _ z=>z)
     cases r with
     | none=>exact JZ h₁
     | some v=>
      refine JT (JO h₁ (fun _ s₁' h₁'=>?_) fun _ _ z=>z)
      refine JT (JO h₁' (fun _ s₂ h₂=>?_) fun _ _ z=>z)
      refine JT (JO h₂ (fun ok s₃ h₃=>?_) fun _ _ z=>z)
      cases ok with
      | false=>exact h₃
      | true=>
       simp only [KA] at h₃ ⊢
       unfold m8 at h₃
       dsimp only [clausesOf] at h₃
       cases e2:gens[d+1]? with
       | none=>
        rw [e2] at h₃
        exact JT h₃
       | some g'=>
        rw [e2] at h₃
        have e3:=h1' g' e2
        simp only [e3]
        refine JT (JO h₃ (fun x s₄ h₄=>?_) fun _ _ z=>z)
        refine JT (JV ?_)
        show wpAny M A (foldedSetIterable g'.iter env x >>= _) Q E s₄
        refine JT (JO h₄ (fun x s₅ h₅=>?_) fun _ _ z=>z)
        refine JT (JU ?_)
        show wpAny M A (pyIter x) _ E s₅
        refine JO h₅ (fun it' s₆ h₆=>?_) fun _ _ z=>z
        refine JT (wpAny_runOwn (Kc h₆ fun r s₇ h₇=>?_))
        obtain ⟨⟨f,rfl⟩,hc⟩:=h₇
        exact hc)
section
variable {prog:Program}{w:World}{A:Around}{R:Result->Shared->Prop}{s:Shared}
theorem xo {e:Expr}{k:Nat}{g:Comprehension}{it acc:Value}{env:Env} (he:oH e=true) (hz:∀ g∈clausesOf e,g.is_async=0) (hg:(clausesOf e)[k]?=some g)
  (h0:codeAny (model prog w) A (.compLoop e k it acc env) R s) (h:wpAny (model prog w) A (pyIter it) (fun it' s'=>codeAny (model prog w) A (.compLoop e k it' acc env) R s') yp s) :
  codeAny (model prog w) A (.compStart e k it acc env) R s:=by
 have ha:=hz g (Ko hg)
 cases e <;> first
  | exact absurd (show false=true from he) JX
  | (refine Lb ?_
     show wpAny _ _ ((compStart _ k it acc env).onRaise (fun x=>do noteFrame x env;standAt theWindowsPlace)) _ _ s
     refine wpAny_notedAt ?_
     unfold compStart
     rw [hg]
     have e1:((some g).elim false fun x=>x.is_async != 0)=false:=by show (g.is_async != 0)=false;rw [ha];rfl
     rw [e1]
     simp only [K4,Ky]
     refine JT (Lc (wpAny_ite ?_))
     split
     ·exact JZ (And.intro rfl h0)
     ·refine JT (Ld ?_)
      refine JT (JV ?_)
      exact JT (JO h (fun it' s' h'=>JZ (And.intro rfl h')) fun _ _ z=>z.elim))
theorem xV {e:Expr}{d:Nat}{g:Comprehension}{it acc:Value}{env:Env} (he:oH e=true) (hz:∀ g∈clausesOf e,g.is_async=0) (hg:(clausesOf e)[d]?=some g) (I:Nat->Shared->Prop)
  (turn : ∀ n s, I n s -> wpAny (model prog w) A (pyNext it) (fun r s₁ => match r with
   | none=>R (.ok .next) s₁
   | some v=>wpAny (model prog w) A (letOwnedTupleGo g.target it v) (fun _ s₁'=>wpAny (model prog w) A (assign g.target env v) (fun _ s₂=>
     wpAny (model prog w) A (rW g.ifs env) (fun ok s₃=>
      if ok=true then m8 (model prog w) A e (d+1) acc env (fun s₅=>∃ m,m<n/\I m s₅) yp s₃
      else ∃ m,m<n/\I m s₃) yp s₂) yp s₁') yp s₁) yp s)
  (n:Nat) (h:I n s):codeAny (model prog w) A (.compLoop e d it acc env) R s:=by
 refine codeAny_loop (by cases e <;> first | exact absurd (show false=true from he) JX | rfl) I (fun n s hI=>?_) n h
 cases e <;> first
  | exact absurd (show false=true from he) JX
  | (show wpAny _ A ((compTurn _ d it acc env).onRaise (fun x => do noteFrame x env; theTreesLotGoes x)) _ _ s
     refine wpAny_noted (Bp he hz hg (JO (turn n s hI) (fun r s₁ h₁=>?_) fun _ _ z=>z.elim))
     cases r with
     | none=>exact h₁
     | some v=>
      refine JO h₁ (fun _ s₂ h₂=>JO h₂ (fun _ s₃ h₃=>JO h₃ (fun ok s₄ h₄=>?_) fun _ _ z=>z.elim) fun _ _ z=>z.elim) fun _ _ z=>z.elim
      cases ok with
      | false=>exact JZ ⟨rfl,h₄⟩
      | true=>
       simp only [KA] at h₄ ⊢
       exact uq (fun s₅ h₅=>JZ ⟨rfl,h₅⟩) h₄)
end
abbrev DV:=St->Hp->(St->Hp->Prop)->Prop
def Gq (X:Cx) (e:Expr) (k:Nat) (acc:Addr) (t:DV):Prop:=
 ∀ (pins:List (Addr × Obj)) (s:Shared) (σ:St) (H:Hp) (N:St->Hp->Prop),aO X pins σ H s->t σ H N->m8 (model X.prog X.w) X.A e k (.ref acc) X.env (fun s'=>∃ σ' H',aO X pins σ' H' s'/\N σ' H') yp s
def IQ (J:It) (g:TG) (tt:TT) (tb:DV) (N:St->Hp->Prop) (σ:St) (H:Hp):Prop:=∃ W:Nat->Nat->St->Hp->Prop,(∃ m,W 0 m σ H)/\∀ i m σ1 H,W i m σ1 H ->
 (J.stop i H/\N σ1 H)\/(J.go i H/\∃ N':St->Hp->Prop,(∀ σ' H',N' σ' H'->∃ m',m'<m/\W (i+1) m' σ' H')/\∀ x H',J.yld i H x H'->g x σ1 H' fun σ2 H2=>tt σ2 H2 fun b H3=>if b=true then tb σ2 H3 N' else N' σ2 H3)
section
variable {X:Cx}{e:Expr}{d:Nat}{cl:Comprehension}{g:TG}{tt:TT}{tb:DV}{acc:Addr}
theorem uK {J:It}{fp:List Addr}{it:Addr}{tn:Nat->Heap->Prop}{pins:List (Addr × Obj)}{N:St->Hp->Prop}{σ:St}{H:Hp}{s:Shared} (he:oH e=true) (hz:∀ g∈clausesOf e,g.is_async=0) (hg:(clausesOf e)[d]?=some cl) (hxe:X.xe=yp) (hc:X.calm=true)
  (T:yA X.prog X.w X.K cl.target J fp it tn) (hgc:PG X cl.target g) (htc:uP X cl.ifs tt) (hb:Gq X e (d+1) acc tb) (I:aO X pins σ H s) (st:tn 0 s.heap) (fr:∀ b∈fp,nD X pins H b) (h:IQ J g tt tb N σ H) :
  codeAny (model X.prog X.w) X.A (.compLoop e d (.ref it) (.ref acc) X.env) (fun r s'=>r=.ok .next/\∃ σ' H',aO X pins σ' H' s'/\N σ' H') s:=by
 obtain ⟨W,⟨m0,w0⟩,turn⟩:=h
 have stat:∀ {H':Hp},(∀ b∈fp,H' b=none)->∀ b∈fp,nD X pins H' b:=fun hn b hb=>⟨hn b hb,(fr b hb).2⟩
 refine xV he hz hg (fun n s'=>∃ i σ' H',aO X pins σ' H' s'/\tn i s'.heap/\(∀ b∈fp,H' b=none)/\W i n σ' H') ?_ m0 ⟨0,_,_,I,st,fun b hb=>(fr b hb).1,w0⟩
 rintro n s5 ⟨i,σ5,H5,I5,st5,fr5,w5⟩
 rcases turn i n σ5 H5 w5 with ⟨stop,qn⟩ | ⟨go,N',hN,step⟩
 ·refine dS (T.done X rfl rfl rfl hc i pins s5 σ5 H5 yp I5 (stat fr5) st5 stop) fun r s6 ⟨hr, I6⟩ => ?_
  subst hr
  exact ⟨rfl,_,_,I6,qn⟩
 ·refine dS (T.item X rfl rfl rfl hc i pins s5 σ5 H5 yp I5 (stat fr5) st5 go) fun r s6 ⟨u, hr, h6⟩ => ?_
  subst hr
  refine dS h6 fun _ s7 ⟨x,H7,I7,r7,y7,st7,fr7⟩=>?_
  have I7':=I7.pinned (stat fr7) (T.obj _ _ st7)
  have z1:=hgc _ s7 σ5 H7 x u _ I7' r7 (step x H7 y7)
  rw [hxe] at z1
  refine dS z1 fun _ s8 ⟨σ8,H8,I8,q8⟩=>?_
  have z2:=htc _ s8 σ8 H8 _ I8 q8
  rw [hxe] at z2
  refine dS z2 fun b s9 ⟨H9,I9,q9⟩=>?_
  have again:∀ {σa:St}{Ha:Hp}{sa:Shared},aO X (pins++oF fp s7.heap) σa Ha sa->N' σa Ha->∃ m,m<n/\∃ i σ' H',aO X pins σ' H' sa/\tn i sa.heap/\(∀ b∈fp,H' b=none)/\W i m σ' H':=fun {σa Ha sa} Ia na=>by
   obtain ⟨m',hm,wa⟩:=hN σa Ha na
   refine ⟨m',hm,i+1,σa,Ha,Ia.unpinned,T.keep _ _ _ st7 fun b hb o e=>(Ia.pin (b,o) (J7 _ (J7 _ (jm hb e)))).1,fun b hb=>?_,wa⟩
   obtain ⟨o,e,d⟩:=T.obj _ _ st7 b hb
   exact (Ia.pin (b,o) (J7 _ (J7 _ (jm hb e)))).2.1
  cases b with
  | false=>
   rw [Jt JX] at q9 ⊢
   exact again I9 q9
  | true=>
   rw [Js rfl] at q9 ⊢
   exact uq (fun s' ⟨σ',H',I',n'⟩=>again I' n') (hb _ s9 σ8 H9 _ I9 q9)
def Dq (te:TE) (acc:Addr):DV:=fun σ H N=>te σ H fun y H4=>∃ ys,H4 acc=some (.lst ys)/\ys.length<sizeLine/\N σ (cK H4 acc (.lst (ys++[y])))
theorem tY {te:TE}{elt:Expr}{gens:List Comprehension}{scope:Scope}{pos:Pos} (hg:gens[d]?=none) (hxe:X.xe=yp) (hel:PE X elt te):Gq X (.ListComp elt gens scope pos) d acc (Dq te acc):=by
 intro pins s σ H N I h
 unfold m8
 show (match gens[d]? with | some g=>_ | none=>_:Prop)
 rw [hg]
 show wpAny _ _ (do let _ <- call (.builtin "list.append") [.ref acc,<- eval elt X.env]) _ _ _
 have z:=hel pins s σ H _ I h
 rw [hxe] at z
 refine JT (dS z fun v10 s10 ⟨y,H10,I10,r10,ys,hy,hz,nn⟩=>?_)
 have z4:=xU (X:=X) pins s10 σ H10 (.ref acc) [y] (.ref acc) [v10] (fun _ H'=>N σ H') I10 rfl (.cons r10 .nil) ⟨_,ys,y,rfl,rfl,hy,hz,nn⟩
 rw [hxe] at z4
 exact JT (dS z4 fun v11 s11 ⟨y',H11,I11,r11,n11⟩=>JZ ⟨_,_,I11,n11⟩)
end
theorem AN {M:Model}{A:Around}{E:Value->Shared->Prop}{s:Shared}{scope:Scope}{cl:List (Str × Addr)}{env:Env}{Q:Env->Shared->Prop}
  (hQ : ∀ h', h'.Ns s.heap.objs.size (fun _ => none) -> (∀ b o, s.heap.get? b = some o -> h'.get? b = some o) -> (∀ x c, (cellsFrom (s.heap.objs.size + 1) scope.names cl).lookup x = some c -> cl.lookup x = some c \/ h'.IsCell c none) ->
   ∀ cenv:Env,({ cenv with scope:=relabel scope env }:Env)=compEnvC scope (cellsFrom (s.heap.objs.size+1) scope.names cl) s.heap.objs.size env->cenv.locals=s.heap.objs.size->Q cenv { s with heap:=h' }) :
  wpAny M A (newFunctionEnv scope env.globals cl [] env.qual none .none (some env)) Q E s:=by
 simp only [newFunctionEnv,Option.isSome_some,KA]
 refine JT (wpAny_alloc ?_)
 refine JT (wpAny_layCells _ (fun name kind cells=>by cases hkc:kind == NameKind.cell <;> simp [hkc]) _ _ _ _ ?_)
 have hsz:(s.heap.push { cls:=.type "dict",data:=.dict #[] }).objs.size=s.heap.objs.size+1:=K8 ..
 refine JT (JZ (JZ ?_))
 show Q _ { s with heap:=pushCells (s.heap.push { cls:=.type "dict",data:=.dict #[] }) scope.names }
 refine hQ _ ((Heap.Ns.new s.heap (.type "dict")).keeps (K9 _ _)) (fun b o e=>K9 _ _ b o (J1 _ e)) (fun x c e=>?_) _ ?_ rfl
 ·rw [<- hsz] at e
  exact jU e
 ·show _ = _
  unfold compEnvC
  rw [<- hsz]
def rJ (o0:Addr->HO) (wi:TI) (cap:List (Option Nat)) (g:TG) (tt:TT) (tb:Addr->DV):TE:=fun σ H Q=>wi σ H fun J H1=>∀ acc,H1 acc=none->IQ J g tt (tb acc) (fun _ H'=>Q (.ref acc) H') (oC cap σ) (cK H1 acc (o0 acc))
def yI (wi:TI) (cap:List (Option Nat)) (g:TG) (tt:TT) (te:TE):TE:=rJ (fun _=>.lst []) wi cap g tt (Dq te)
def IY (X:Cx) (newAcc:Sem Value) (o0:Addr->HO):Prop:=∀ (pins:List (Addr × Obj)) (s:Shared) (σ:St) (H:Hp) (Q:Value->Shared->Prop),aO X pins σ H s ->
 (∀ s',aO X pins σ (cK H s.heap.objs.size (o0 s.heap.objs.size)) s'->(∀ b o,s.heap.get? b=some o->s'.heap.get? b=some o)->s.heap.objs.size<s'.heap.objs.size->Q (.ref s.heap.objs.size) s')->wpAny (model X.prog X.w) X.A newAcc Q X.xe s
theorem t8 {X:Cx}:IY X (newList []) (fun _=>.lst []):=fun pins s σ H Q I h=>
 KJ (h _ (I.lnew (t':=s.toks) (ys:=[]) (its:=[]) .nil (Le _)) (fun b o e=>J1 _ e) (by rw [K8];exact K6 _))
section
variable {X:Cx}{e:Expr}{cl0:Comprehension}{rest:List Comprehension}{scope:Scope}{Nc:List Str}{cap:List (Option Nat)}{wi:TI}{g:TG}{tt:TT}{tb:Addr->DV}{pos':Pos}{o0:Addr->HO}{newAcc:Sem Value}
theorem qX {use:Option (Value->Sem Unit)}{pins:List (Addr × Obj)}{s:Shared}{σ:St}{H:Hp}{Q:VK}{QQ:Value->Shared->Prop}
  (he:oH e=true) (hz:∀ g∈clausesOf e,g.is_async=0) (hcl0:clausesOf e=cl0::rest) (hmk:IY X newAcc o0)
  (hc:X.calm=true) (S:cw X.N X.env scope Nc cap) (hi:PI X cl0.target cl0.iter wi)
  (hg:∀ cl C s H fp,PG (jC X Nc scope cl C s H fp) cl0.target g) (ht:∀ cl C s H fp,uP (jC X Nc scope cl C s H fp) cl0.ifs tt) (hb:∀ cl C s H fp acc,Gq (jC X Nc scope cl C s H fp) e 1 acc (tb acc))
  (I:aO X pins σ H s) (h:rJ o0 wi cap g tt tb σ H Q)
  (hfin:∀ C acc s' H',aO X pins σ H' s'->nD X pins H' C->(∃ m,s'.heap.Ns C m)->Q (.ref acc) H'->compPost (model X.prog X.w) X.A X.xe use QQ (.ref acc) C (.ok .next) s')
  (hs:∀ x,foldedSetIterable cl0.iter X.env x=pure x) :
  wpAny (model X.prog X.w) X.A (comprehension e scope X.env pos' newAcc false (eval cl0.iter X.env) use) QQ X.xe s:=by
 obtain ⟨cl,hclos,hcl,hall⟩:=vK (scope:=scope) (env:=X.env) (fun y hy hf=>I.ok.has y.1 (S.free y hy hf))
 have hg0:(clausesOf e)[0]?=some cl0:=by rw [hcl0];rfl
 refine wpAny_comprehension_free hcl0 hs hclos S.kind (fun x hx e=>by rw [S.nd x hx,e]) ?_
 refine dS (hi pins s σ H _ I h) fun v s1 h1=>dS h1 fun itv s2 h2=>?_
 obtain ⟨it,fp,tn,J,H2,e',I2,T,st2,f2,rd⟩:=h2
 subst e'
 have rd:=rd _ I2.fresh
 refine hmk pins s2 σ H2 _ I2 fun s3 I3 hk3 hsz3=>?_
 have st3:tn 0 s3.heap:=T.keep _ _ _ st2 fun b _ o e=>hk3 b o e
 have fpn:∀ b∈fp,b≠s2.heap.objs.size:=fun b hb=>by
  obtain ⟨o,eo,_⟩:=T.obj _ _ st2 b hb
  exact Jy (Jv eo)
 have f3:∀ b∈fp,nD X pins (cK H2 s2.heap.objs.size (o0 s2.heap.objs.size)) b:=fun b hb=>⟨by rw [bt (fpn b hb)];exact (f2 b hb).1,(f2 b hb).2⟩
 have hfs:∀ b∈fp,b<s3.heap.objs.size:=fun b hb=>by
  obtain ⟨o,eo,_⟩:=T.obj _ _ st3 b hb
  exact Jv eo
 refine AN fun h1 hns1 hk1 hce cenv ecenv elc=>?_
 rw [ecenv]
 have IB:aO (jC X Nc scope cl s3.heap.objs.size s3 (cK H2 s2.heap.objs.size (o0 s2.heap.objs.size)) fp) [] (oC cap σ) (cK H2 s2.heap.objs.size (o0 s2.heap.objs.size)) { s3 with heap:=h1,toks:=s3.toks }:=
  xZ I3 f3 hfs S hcl hall hns1 hk1 hce
 have stB:tn 0 h1:=T.keep _ _ _ st3 fun b _ o e=>hk1 b o e
 rw [elc]
 have frB:∀ b∈fp,nD (jC X Nc scope cl s3.heap.objs.size s3 (cK H2 s2.heap.objs.size (o0 s2.heap.objs.size)) fp) [] (cK H2 s2.heap.objs.size (o0 s2.heap.objs.size)) b:=fun b hb=>
  ⟨(f3 b hb).1,(IB.ok.exf b hb).1,IB.ok.exfs b hb,.inl hb,(IB.ok.exf b hb).2,fun p hp=>absurd (show p∈([]:List (Addr × Obj)) from hp) (by simp)⟩
 have loop:=uK (X:=jC X Nc scope cl s3.heap.objs.size s3 (cK H2 s2.heap.objs.size (o0 s2.heap.objs.size)) fp) he hz hg0 rfl hc T (hg _ _ _ _ _) (ht _ _ _ _ _) (hb _ _ _ _ _ _) IB stB frB rd
 have fin:∀ r s',(r=.ok .next/\∃ σ' H',aO (jC X Nc scope cl s3.heap.objs.size s3 (cK H2 s2.heap.objs.size (o0 s2.heap.objs.size)) fp) [] σ' H' s'/\Q (.ref s2.heap.objs.size) H')->compPost (model X.prog X.w) X.A X.xe use QQ (.ref s2.heap.objs.size) s3.heap.objs.size r s':=by
  rintro r s' ⟨rfl,σ',H',J',q⟩
  have I5:aO X pins σ H' s':=I3.call' (ch:=fp) J'.os J'.base J'.hok J'.bare fun b hbf=>⟨(f3 b hbf).2.2.2.1,(f3 b hbf).2.1,(f3 b hbf).2.2.2.2.1,(f3 b hbf).2.2.2.2.2⟩
  obtain ⟨mm,hnn,_⟩:=J'.loc
  exact hfin _ _ s' H' I5 (I3.fpOk (J3 _) J'.free) ⟨mm,hnn⟩ q
 exact xo he hz hg0 (Kc loop fin) (T.self _ 0 _ _ _ stB (Kc loop fin))
variable {elt:Expr}{pos:Pos}
theorem Aj (hc:X.calm=true) (hz:∀ g∈cl0::rest,g.is_async=0) (S:cw X.N X.env scope Nc cap) (hi:PI X cl0.target cl0.iter wi)
  (hg:∀ cl C s H fp,PG (jC X Nc scope cl C s H fp) cl0.target g) (ht:∀ cl C s H fp,uP (jC X Nc scope cl C s H fp) cl0.ifs tt) (hb:∀ cl C s H fp acc,Gq (jC X Nc scope cl C s H fp) (.ListComp elt (cl0::rest) scope pos) 1 acc (tb acc))
  (hs:∀ x,foldedSetIterable cl0.iter X.env x=pure x):PE X (.ListComp elt (cl0::rest) scope pos) (rJ (fun _=>.lst []) wi cap g tt tb):=by
 intro pins s σ H Q I h
 have h0:=hz cl0 JE
 obtain ⟨tg0,it0,if0,as0⟩:=cl0
 have h0':as0=0:=h0
 subst h0'
 rw [arm_eval_ListComp]
 refine qX (e:=.ListComp elt (_::rest) scope pos) (Q:=Q) rfl hz rfl t8 hc S hi hg ht hb I h (fun C acc s' H' I' hf hn q=>?_) hs
 obtain ⟨m,hn⟩:=hn
 refine ⟨m,hn,fun h' sb=>⟨.ref acc,H',?_,rfl,q⟩⟩
 exact I'.turned (t':=s'.toks) (it:=C) (fun b o hb e=>(sb.2 b hb).trans e) hf.1 hf.2.1 hf.2.2.2.1 hf.2.2.2.2.1 hf.2.2.2.2.2
theorem Ae {i:Nat}{x:Str}{pos1:Pos}{pos2:Pos} (hc:X.calm=true) (hz:∀ g∈cl0::rest,g.is_async=0) (hN:X.N.Nodup) (hix:X.N[i]?=some x) (hx:X.env.scope.names.lookup x=some .local) (S:cw X.N X.env scope Nc cap) (hi:PI X cl0.target cl0.iter wi)
  (hg:∀ cl C s H fp,PG (jC X Nc scope cl C s H fp) cl0.target g) (ht:∀ cl C s H fp,uP (jC X Nc scope cl C s H fp) cl0.ifs tt) (hb:∀ cl C s H fp acc,Gq (jC X Nc scope cl C s H fp) (.ListComp elt (cl0::rest) scope pos) 1 acc (tb acc))
  (hsw:swapsWith (.ListComp elt (cl0::rest) scope pos) (some (.Name x pos1)) pos2.line X.env=pure true) (hs:∀ x,foldedSetIterable cl0.iter X.env x=pure x) :
  PS X (.Assign [.Name x pos1] (.ListComp elt (cl0::rest) scope pos) pos2) (yr (rJ (fun _=>.lst []) wi cap g tt tb) (tx i)):=by
 intro pins s σ H D I h
 have h0:=hz cl0 JE
 obtain ⟨tg0,it0,if0,as0⟩:=cl0
 have h0':as0=0:=h0
 subst h0'
 rw [exec_Assign_Name_used _ _ _ _ hsw]
 refine JT (JV (JT ?_))
 show wpAny _ X.A (do let _ <- comprehension (.ListComp elt (⟨tg0,it0,if0,0⟩::rest) scope pos) scope X.env _ (newList []) false (eval it0 X.env) (some (assign (.Name x pos1) X.env))) _ _ s
 refine JT (JO (qX (e:=.ListComp elt (_::rest) scope pos) (use:=some (assign (.Name x pos1) X.env)) (Q:=fun v H1=>D.nx (σ.set i (some v)) H1) (QQ:=fun _ s'=>SP X pins D .next s') rfl hz rfl t8 hc S hi hg ht hb I h (fun C acc s' H' I' hf hn q=>?_) hs)
  (fun _ s' hq=>JZ (JZ hq)) fun _ _ e=>e)
 obtain ⟨m,hn⟩:=hn
 show wpAny _ X.A (assign (.Name x pos1) X.env (.ref acc)) _ _ _
 refine wpAny_assign_Name (qA I' hN hix (.inl hx) (show bL (.ref acc) (.ref acc) from rfl) (fun s'' I'' hsb=>?_) (.inr hx))
 obtain ⟨a,sb,ha⟩:=hsb
 have hCa:C≠a:=by
  rcases ha with z | z
  ·rw [z];exact hf.2.1
  ·exact fun e=>hf.2.2.2.2.1 x a z e.symm
 refine ⟨m,hn.sameBut sb hCa,fun h' sb'=>⟨_,H',?_,q⟩⟩
 exact I''.turned (t':=s''.toks) (it:=C) (fun b o hb e=>(sb'.2 b hb).trans e) hf.1 hf.2.1 hf.2.2.2.1 hf.2.2.2.2.1 hf.2.2.2.2.2
variable {tg iter:Expr}{ifs:List Expr}{te:TE}
theorem qH:∀ g∈([⟨tg,iter,ifs,0⟩]:List Comprehension),g.is_async=0:=fun g hg=>by rw [Lf.mp hg]
theorem Cm (hc:X.calm=true) (S:cw X.N X.env scope Nc cap) (hi:PI X tg iter wi)
  (hg:∀ cl C s H fp,PG (jC X Nc scope cl C s H fp) tg g) (ht:∀ cl C s H fp,uP (jC X Nc scope cl C s H fp) ifs tt) (he:∀ cl C s H fp,PE (jC X Nc scope cl C s H fp) elt te)
  (hs:∀ x,foldedSetIterable iter X.env x=pure x:=by intro _;rfl):PE X (.ListComp elt [⟨tg,iter,ifs,0⟩] scope pos) (yI wi cap g tt te):=
 Aj (cl0:=⟨tg,iter,ifs,0⟩) hc qH S hi hg ht (fun cl C s H fp acc=>tY rfl rfl (he cl C s H fp)) hs
theorem Ce {i:Nat}{x:Str}{pos1:Pos}{pos2:Pos} (hc:X.calm=true) (hN:X.N.Nodup) (hix:X.N[i]?=some x) (hx:X.env.scope.names.lookup x=some .local) (S:cw X.N X.env scope Nc cap) (hi:PI X tg iter wi)
  (hg:∀ cl C s H fp,PG (jC X Nc scope cl C s H fp) tg g) (ht:∀ cl C s H fp,uP (jC X Nc scope cl C s H fp) ifs tt) (he:∀ cl C s H fp,PE (jC X Nc scope cl C s H fp) elt te)
  (hsw:swapsWith (.ListComp elt [⟨tg,iter,ifs,0⟩] scope pos) (some (.Name x pos1)) pos2.line X.env=pure true) (hs:∀ x,foldedSetIterable iter X.env x=pure x:=by intro _;rfl) :
  PS X (.Assign [.Name x pos1] (.ListComp elt [⟨tg,iter,ifs,0⟩] scope pos) pos2) (yr (yI wi cap g tt te) (tx i)):=
 Ae (cl0:=⟨tg,iter,ifs,0⟩) hc qH hN hix hx S hi hg ht (fun cl C s H fp acc=>tY rfl rfl (he cl C s H fp)) hsw hs
end
end L2
namespace RS
open PySem PySem.W PyProof.Rows
open AutoSeq1 (wpAny_loadPart')
section
variable {prog:Program}{w:World}{A:Around}{E:Value->Shared->Prop}{s:Shared}
end
section
variable {prog:Program}{w:World}{A:Around}{E:Value->Shared->Prop}{s:Shared}
end
end RS
namespace L2
open PySem PySem.Spec PyProof.Rows RS
section
variable {X:Cx}{tg:Expr}
end
end L2
namespace RS
open PySem
def w8 (mask:Nat):Nat->Nat->Nat->List Nat
 | 0,_,_=>[]
 | n+1,i,pe=>(List.range (SetTable.runEnd mask i+1 - i)).map (i+·)++w8 mask n (SetTable.leap mask i pe).1 (SetTable.leap mask i pe).2
def cx (mask:Nat) (h:Int):List Nat:=w8 mask (SetTable.turns mask) (SetTable.bits h % (mask+1)) (SetTable.bits h)
def ie (t:SetTable):Nat->SetTable.Probe->List Nat
 | 0,_=>[]
 | n+1,p=>p.j::ie t n (t.advance p)
def lA (mask i pe:Nat) (d:Option Nat):SetTable.Probe:={ j:=i,more:=SetTable.runEnd mask i - i,i,perturb:=pe,dummy:=d }
theorem tK (t:SetTable):∀ (m n:Nat) (p:SetTable.Probe),p.more=m ->
  ie t (m+1+n) p=(List.range (m+1)).map (p.j+·)++ie t n (lA t.mask (SetTable.leap t.mask p.i p.perturb).1 (SetTable.leap t.mask p.i p.perturb).2 p.dummy)
 | 0,n,p,h=>by
  have e:0+1+n=n+1:=by omega
  rw [e]
  show p.j::ie t n (t.advance p)=_
  have ea:t.advance p=lA t.mask (SetTable.leap t.mask p.i p.perturb).1 (SetTable.leap t.mask p.i p.perturb).2 p.dummy:=by
   unfold SetTable.advance
   rw [Jt (by omega)]
   rfl
  rw [ea]
  simp
 | m+1,n,p,h=>by
  have e:m+1+1+n=(m+1+n)+1:=by omega
  rw [e]
  show p.j::ie t (m+1+n) (t.advance p)=_
  have ea:t.advance p={ p with j:=p.j+1,more:=p.more - 1 }:=by
   unfold SetTable.advance
   rw [Js (by omega)]
  rw [ea,tK t m n { p with j:=p.j+1,more:=p.more - 1 } (by show p.more - 1=m;omega)]
  rw [Lg (n:=m+1),KM,Lh]
  show p.j::((List.range (m+1)).map (p.j+1+·)++_)=(p.j+0)::(List.map _ _)++_
  rw [Nat.add_zero]
  show p.j::(_++_)=p.j::(_++_)
  congr 2
  apply Li
  intro a _
  show p.j+1+a=p.j+(a+1)
  omega
theorem zf (mask i:Nat):i<=SetTable.runEnd mask i/\SetTable.runEnd mask i<=i+9:=by
 unfold SetTable.runEnd;split <;> omega
theorem oO (t:SetTable):∀ (n i pe:Nat) (d:Option Nat),ie t (w8 t.mask n i pe).length (lA t.mask i pe d)=w8 t.mask n i pe
 | 0,_,_,_=>rfl
 | n+1,i,pe,d=>by
  have hr:=zf t.mask i
  show ie t ((List.range (SetTable.runEnd t.mask i+1 - i)).map (i+·)++_).length _=_
  rw [Kq,Kr,Lj]
  have e:SetTable.runEnd t.mask i+1 - i=(SetTable.runEnd t.mask i - i)+1:=by omega
  rw [e,tK t (SetTable.runEnd t.mask i - i) _ (lA t.mask i pe d) rfl]
  show _++ie t (w8 t.mask n (SetTable.leap t.mask i pe).1 (SetTable.leap t.mask i pe).2).length (lA t.mask (SetTable.leap t.mask i pe).1 (SetTable.leap t.mask i pe).2 d)=_
  rw [oO t n]
  show _=(List.range (SetTable.runEnd t.mask i+1 - i)).map (i+·)++_
  rw [e];rfl
theorem rX (mask:Nat):∀ (n i pe:Nat),(w8 mask n i pe).length<=10 * n
 | 0,_,_=>Le _
 | n+1,i,pe=>by
  have hr:=zf mask i
  have ih:=rX mask n (SetTable.leap mask i pe).1 (SetTable.leap mask i pe).2
  show ((List.range (SetTable.runEnd mask i+1 - i)).map (i+·)++_).length<=_
  rw [Kq,Kr,Lj]
  omega
theorem sf (t:SetTable) (hashAt:Nat->Int) (h:Int):∀ (pre:List Nat) (j:Nat) (post:List Nat) (fuel:Nat) (p:SetTable.Probe),ie t (pre.length+1+post.length) p=pre++j::post->pre.length<fuel->p.dummy=none ->
  (∀ k∈pre,∃ i,t.slot k=.live i/\hashAt i≠h) ->
  (t.slot j=.empty->SetTable.probe.go t hashAt h fuel p=some (.empty j none))/\(∀ i,t.slot j=.live i->hashAt i=h->∃ nx,SetTable.probe.go t hashAt h fuel p=some (.candidate j i nx))
 | [],j,post,0,p,_,hf,_,_=>by simp at hf
 | [],j,post,fuel+1,p,hw,_,hd,_=>by
  have ew:ie t (([]:List Nat).length+1+post.length) p=p.j::ie t post.length (t.advance p):=by
   rw [Lk,show 0+1+post.length=post.length+1 from by omega];rfl
  rw [ew,K0] at hw
  have ej:p.j=j:=(Ll hw).1
  refine ⟨fun he=>?_,fun i hl hh=>?_⟩
  ·show (match t.slot p.j with | .empty => _ | .dummy => _ | .live i => _) = _
   rw [ej,he,hd]
  ·refine ⟨t.advance p, ?_⟩
   show (match t.slot p.j with | .empty=>_ | .dummy=>_ | .live i=>_)=_
   rw [ej,hl]
   show (if (hashAt i == h)=true then _ else _)=_
   rw [Js (by simpa using hh)]
 | x::pre,j,post,0,p,_,hf,_,_=>by simp at hf
 | x::pre,j,post,fuel+1,p,hw,hf,hd,hp=>by
  have ew:ie t ((x::pre).length+1+post.length) p=p.j::ie t (pre.length+1+post.length) (t.advance p):=by
   rw [K5,show pre.length+1+1+post.length=(pre.length+1+post.length)+1 from by omega];rfl
  rw [ew,Lm] at hw
  have ej:p.j=x:=(Ll hw).1
  have er:=(Ll hw).2
  obtain ⟨i,hl,hne⟩:=hp x JE
  have hda:(t.advance p).dummy=none:=by
   unfold SetTable.advance
   split
   ·exact hd
   ·exact hd
  have ih:=sf t hashAt h pre j post fuel (t.advance p) er (by rw [K5] at hf;omega) hda (fun k hk=>hp k (JF _ hk))
  have eg:SetTable.probe.go t hashAt h (fuel+1) p=SetTable.probe.go t hashAt h fuel (t.advance p):=by
   show (match t.slot p.j with | .empty=>_ | .dummy=>_ | .live i=>_)=_
   rw [ej,hl]
   show (if (hashAt i == h)=true then _ else _)=_
   rw [Jt (by simpa using hne)]
  rw [eg]
  exact ih
def A3 (xs:List Nat):Prop:=xs.Pairwise (·<·)
theorem pk (xs:Array Nat) (j:Nat):∀ (fuel lo hi:Nat),lo<=hi->hi<=xs.size->hi - lo<=fuel->(∀ i k,i<k->k<xs.size->xs.getD i j<xs.getD k j)->(∀ i,i<lo->xs.getD i j<j)->(∀ i,hi<=i->i<xs.size->j<=xs.getD i j) ->
  let b:=SetTable.below.go xs j fuel lo hi
  b<=xs.size/\(∀ i,i<b->xs.getD i j<j)/\(∀ i,b<=i->i<xs.size->j<=xs.getD i j)
 | 0,lo,hi,h1,h2,h3,hr,ha,hb=>by
  have e:lo=hi:=by omega
  subst e
  exact ⟨h2,ha,hb⟩
 | fuel+1,lo,hi,h1,h2,h3,hr,ha,hb=>by
  by_cases hlt:lo<hi
  ·simp only [SetTable.below.go, hlt, KA]
   by_cases hc:xs.getD ((lo+hi) / 2) j<j
   ·rw [Js hc]
    refine pk xs j fuel _ hi (by omega) h2 (by omega) hr (fun i hi'=>?_) hb
    by_cases e:i=(lo+hi) / 2
    ·rw [e];exact hc
    ·have := hr i ((lo + hi) / 2) (by omega) (by omega)
     omega
   ·rw [Jt hc]
    refine pk xs j fuel lo _ (by omega) (by omega) (by omega) hr ha (fun i hi' hs=>?_)
    by_cases e:i=(lo+hi) / 2
    ·rw [e];omega
    ·have := hr ((lo + hi) / 2) i (by omega) hs
     omega
  ·have e : lo = hi := by omega
   subst e
   simp only [SetTable.below.go,hlt,Ky]
   exact ⟨h2,ha,hb⟩
theorem rY {xs:Array Nat} (h:A3 xs.toList) (j:Nat):∀ i k,i<k->k<xs.size->xs.getD i j<xs.getD k j:=fun i k hik hk=>by
 have hi:i<xs.size:=by omega
 have:=List.pairwise_iff_getElem.mp h i k (by simpa using hi) (by simpa using hk) hik
 simpa [Array.getD,hi,hk] using this
theorem kW {xs:Array Nat} (h:A3 xs.toList) (j:Nat):SetTable.below xs j<=xs.size/\(∀ i,i<SetTable.below xs j->xs.getD i j<j)/\(∀ i,SetTable.below xs j<=i->i<xs.size->j<=xs.getD i j):=
 pk xs j xs.size 0 xs.size (Le _) (J3 _) (by omega) (rY h j) (fun i hi=>by omega) (fun i h1 h2=>by omega)
theorem ym {xs:Array Nat} (h:A3 xs.toList) {i j:Nat} (e:xs[i]?=some j):SetTable.below xs j=i:=by
 obtain ⟨h1,h2,h3⟩:=kW h j
 have hi:i<xs.size:=by
  rcases Ln.mp e with ⟨q,_⟩;exact q
 have ei:xs.getD i j=j:=by
  rcases Ln.mp e with ⟨q,z⟩
  simp [Array.getD,hi,z]
 by_cases hlt:SetTable.below xs j<i
 ·have a := h3 (SetTable.below xs j) (J3 _) (by omega)
  have b:=rY h j (SetTable.below xs j) i hlt hi
  omega
 ·by_cases hgt : i < SetTable.below xs j
  ·have:=h2 i hgt;omega
  ·omega
theorem jv {α:Type} (xs:Array α) (p:Nat) (x:α):(SetTable.insertAt xs p x).toList=xs.toList.take p++x::xs.toList.drop p:=by
 unfold SetTable.insertAt
 simp [Lo]
theorem jn {α:Type} (p:α->Prop):∀ (l:List α),(∃ x∈l,p x)->∃ pre x post,l=pre++x::post/\p x/\∀ y∈pre,¬ p y
 | [],h=>by obtain ⟨x,hx,_⟩:=h;simp at hx
 | a::l,h=>by
  by_cases ha:p a
  ·exact ⟨[],a,l,rfl,ha,fun y hy=>by simp at hy⟩
  ·obtain ⟨x, hx, px⟩ := h
   rcases JG.mp hx with z | z
   ·rw [z] at px;exact absurd px ha
   ·obtain ⟨pre, y, post, e, py, hp⟩ := jn p l ⟨x, z, px⟩
    refine ⟨a::pre,y,post,by rw [e];rfl,py,fun w hw=>?_⟩
    rcases JG.mp hw with q | q
    ·rw [q];exact ha
    ·exact hp w q
structure qo (t:SetTable) (es:Array (Int × Value)) (Z:List (Nat × Int × Value)):Prop where
 place:t.place.toList=Z.map (·.1)
 ents:es.toList=Z.map (·.2)
 ris:A3 (Z.map (·.1))
 top:∀ z∈Z,z.1<=t.mask
 dum:t.dummies=#[]
 reach:∀ z∈Z,∃ pre post,cx t.mask z.2.1=pre++z.1::post/\∀ k∈pre,k∈Z.map (·.1)
theorem qo.size {t:SetTable}{es:Array (Int × Value)}{Z:List (Nat × Int × Value)} (T:qo t es Z):t.place.size=Z.length/\es.size=Z.length:=by
 have a:=JR List.length T.place
 have b:=JR List.length T.ents
 simp at a b
 exact ⟨a,b⟩
theorem qo.fill {t:SetTable}{es:Array (Int × Value)}{Z:List (Nat × Int × Value)} (T:qo t es Z):t.fill=Z.length:=by
 unfold SetTable.fill;rw [T.size.1,T.dum];rfl
theorem qO (j:Nat):SetTable.has #[] j=false:=by
 unfold SetTable.has;simp
theorem qo.slot_empty {t:SetTable}{es:Array (Int × Value)}{Z:List (Nat × Int × Value)} (T:qo t es Z) {j:Nat} (h:j ∉ Z.map (·.1)):t.slot j=.empty:=by
 unfold SetTable.slot
 have hn:¬ (t.place[SetTable.below t.place j]? == some j)=true:=by
  intro e
  have e':t.place[SetTable.below t.place j]?=some j:=by simpa using e
  apply h
  rw [<- T.place]
  rw [<- KZ] at e'
  exact Ko e'
 simp only [hn,T.dum,qO]
 rfl
theorem qo.slot_live {t:SetTable}{es:Array (Int × Value)}{Z:List (Nat × Int × Value)} (T:qo t es Z) {i:Nat}{z:Nat × Int × Value} (h:Z[i]?=some z):t.slot z.1=.live i:=by
 have e:t.place[i]?=some z.1:=by
  rw [<- KZ,T.place,Km,h];rfl
 have r:A3 t.place.toList:=by rw [T.place];exact T.ris
 have eb:=ym r e
 unfold SetTable.slot
 have hc:(t.place[SetTable.below t.place z.1]? == some z.1)=true:=by rw [eb,e];simp
 simp only [hc,KA]
 rw [eb]
theorem qo.hashAt {t:SetTable}{es:Array (Int × Value)}{Z:List (Nat × Int × Value)} (T:qo t es Z) {i:Nat}{z:Nat × Int × Value} (h:Z[i]?=some z):es[i]?=some z.2:=by
 rw [<- KZ,T.ents,Km,h];rfl
theorem i0 {α:Type}:∀ {l1 l2:List α},l1.Nodup->(∀ x∈l1,x∈l2)->l1.length<=l2.length
 | [],_,_,_=>Le _
 | a::r,l2,hn,hs=>by
  obtain ⟨s,t,e⟩:=List.append_of_mem (hs a JE)
  have hn':=Ke.mp hn
  have ih:=i0 (l1:=r) (l2:=s++t) hn'.2 (fun x hx=>by
   have hx2:=hs x (JF _ hx)
   rw [e] at hx2
   rcases JI.mp hx2 with q | q
   ·exact JJ _ q
   ·rcases JG.mp q with q | q
    ·rw [q] at hx;exact absurd hx hn'.1
    ·exact J7 _ q)
  rw [e,Kq,K5,K5]
  rw [Kq] at ih
  omega
theorem wj (mask:Nat):∀ (n i pe:Nat),i<=mask->∀ j∈w8 mask n i pe,j<=mask
 | 0,_,_,_,j,h=>by simp [w8] at h
 | n+1,i,pe,hi,j,h=>by
  rcases JI.mp h with q | q
  ·obtain ⟨k, hk, e⟩ := Lp.mp q
   have hk':=JA.mp hk
   have:SetTable.runEnd mask i<=mask:=by unfold SetTable.runEnd;split <;> omega
   have e':i+k=j:=e
   omega
  ·refine wj mask n _ _ ?_ j q
   show (i * 5+1+pe / 32) % (mask+1)<=mask
   exact Nat.le_of_lt_succ (Nat.mod_lt _ (Nat.succ_pos mask))
theorem i6 {mask:Nat}{h:Int}{j:Nat} (e:j∈cx mask h):j<=mask:=by
 refine wj mask _ _ _ ?_ j e
 exact Nat.le_of_lt_succ (Nat.mod_lt _ (Nat.succ_pos mask))
theorem qQ {m:Nat}{l:List Nat} (h:l.length<=m):∃ j,j<=m/\j ∉ l:=by
 refine Lq fun hn=>?_
 have hall:∀ j∈List.range (m+1),j∈l:=fun j hj=>by
  refine Lq fun hj'=>hn ⟨j,?_,hj'⟩
  have:=JA.mp hj;omega
 have:=i0 (Lr (n:=m+1)) hall
 rw [Lj] at this
 omega
theorem qo.search {t:SetTable}{es:Array (Int × Value)}{Z:List (Nat × Int × Value)} (T:qo t es Z) {h:Int} (cov:∀ j,j<=t.mask->j∈cx t.mask h) (hz:Z.length<=t.mask) (hA:Nat->Int) (hAe:∀ i z,Z[i]?=some z->hA i=z.2.1) :
  (∃ i z nx,Z[i]?=some z/\z.2.1=h/\t.probe hA h (t.probeStart h)=some (.candidate z.1 i nx)) \/
  ((∀ z∈Z,z.2.1≠h)/\∃ j pre post,t.probe hA h (t.probeStart h)=some (.empty j none)/\j<=t.mask/\j ∉ Z.map (·.1)/\cx t.mask h=pre++j::post/\∀ k∈pre,k∈Z.map (·.1)):=by
 obtain ⟨j0,hj0,hn0⟩:=qQ (m:=t.mask) (l:=Z.map (·.1)) (by rw [Kr];exact hz)
 obtain ⟨pre,j,post,e,hs,hp⟩:=jn (fun j=>j ∉ Z.map (·.1)\/∃ z∈Z,z.1=j/\z.2.1=h) (cx t.mask h) ⟨j0,cov j0 hj0,.inl hn0⟩
 have hw:ie t (pre.length+1+post.length) (t.probeStart h)=pre++j::post:=by
  have q:=oO t (SetTable.turns t.mask) (SetTable.bits h % (t.mask+1)) (SetTable.bits h) none
  have el:(w8 t.mask (SetTable.turns t.mask) (SetTable.bits h % (t.mask+1)) (SetTable.bits h)).length=pre.length+1+post.length:=by
   show (cx t.mask h).length=_
   rw [e,Kq,K5];omega
  rw [el] at q
  exact q.trans e
 have hlen:pre.length<10 * SetTable.turns t.mask:=by
  have q:=rX t.mask (SetTable.turns t.mask) (SetTable.bits h % (t.mask+1)) (SetTable.bits h)
  have el:(w8 t.mask (SetTable.turns t.mask) (SetTable.bits h % (t.mask+1)) (SetTable.bits h)).length=pre.length+1+post.length:=by
   show (cx t.mask h).length=_
   rw [e,Kq,K5];omega
  omega
 have occ:∀ k∈pre,k∈Z.map (·.1):=fun k hk=>by
  refine Lq fun q=>hp k hk (.inl q)
 have hpre:∀ k∈pre,∃ i,t.slot k=.live i/\hA i≠h:=fun k hk=>by
  obtain ⟨z,hzm,ez⟩:=Lp.mp (occ k hk)
  obtain ⟨i,hi⟩:=Ls hzm
  refine ⟨i,ez ▸ T.slot_live hi,fun q=>hp k hk (.inr ⟨z,hzm,ez,?_⟩)⟩
  rw [<- hAe i z hi];exact q
 obtain ⟨g1,g2⟩:=sf t hA h pre j post (10 * SetTable.turns t.mask) (t.probeStart h) hw hlen rfl hpre
 by_cases hany:∃ z∈Z,z.2.1=h
 ·obtain ⟨z, hzm, ez⟩ := hany
  obtain ⟨pz,qz,ezz,hoz⟩:=T.reach z hzm
  rw [ez] at ezz
  have hjo:j∈Z.map (·.1):=by
   have e2:pre++j::post=pz++z.1::qz:=by rw [<- e,<- ezz]
   rcases List.append_eq_append_iff.mp e2 with ⟨a,h1,h2⟩ | ⟨c,h1,h2⟩
   ·cases a with
    | nil=>
     simp only [K0] at h2
     rw [(Ll h2).1];exact Lu hzm
    | cons x a=>
     rw [Lm] at h2
     have:j∈pz:=by rw [h1,(Ll h2).1];simp
     exact hoz j this
   ·cases c with
    | nil=>
     simp only [K0] at h2
     rw [<- (Ll h2).1];exact Lu hzm
    | cons x c=>
     rw [Lm] at h2
     have:z.1∈pre:=by rw [h1,(Ll h2).1];simp
     exact absurd (.inr ⟨z,hzm,rfl,ez⟩) (hp z.1 this)
  rcases hs with q | ⟨z',hz',e1,e2⟩
  ·exact absurd hjo q
  ·obtain ⟨i, hi⟩ := Ls hz'
   obtain ⟨nx,en⟩:=g2 i (e1 ▸ T.slot_live hi) (by rw [hAe i z' hi];exact e2)
   exact .inl ⟨i,z',nx,hi,e2,by rw [e1];exact en⟩
 ·have hno : ∀ z ∈ Z, z.2.1 ≠ h := fun z hz' e' => hany ⟨z, hz', e'⟩
  rcases hs with q | ⟨z',hz',e1,e2⟩
  ·have hjm : j <= t.mask := i6 (h := h) (by rw [e]; simp)
   exact .inr ⟨hno,j,pre,post,g1 (T.slot_empty q),hjm,q,e,occ⟩
  ·exact absurd e2 (hno z' hz')
theorem vv {l:List Nat}{j p:Nat} (h:A3 l) (h1:∀ x∈l.take p,x<j) (h2:∀ x∈l.drop p,j<x):A3 (l.take p++j::l.drop p):=by
 unfold A3 at *
 have h':(l.take p++l.drop p).Pairwise (·<·):=by rw [Lx];exact h
 rw [List.pairwise_append] at h' ⊢
 refine ⟨h'.1,Ly.mpr ⟨fun x hx=>h2 x hx,h'.2.1⟩,fun a ha b hb=>?_⟩
 rcases JG.mp hb with q | q
 ·rw [q];exact h1 a ha
 ·exact h'.2.2 a ha b q
theorem qo.put {t:SetTable}{es:Array (Int × Value)}{Z:List (Nat × Int × Value)} (T:qo t es Z) {j:Nat}{h:Int}{x:Value}{pre post:List Nat} (hj:j<=t.mask) (hn:j ∉ Z.map (·.1)) (e:cx t.mask h=pre++j::post) (hp:∀ k∈pre,k∈Z.map (·.1)) :
  ∃ Z',qo (t.put j).1 (SetTable.insertAt es (t.put j).2 (h,x)) Z'/\Z'.Perm ((j,h,x)::Z)/\(t.put j).1={ t with place:=SetTable.insertAt t.place (SetTable.below t.place j) j }:=by
 have e1:(t.put j).1={ t with place:=SetTable.insertAt t.place (SetTable.below t.place j) j }:=by
  unfold SetTable.put
  simp only [T.dum,qO]
  rw [Jt JX]
 have e2:(t.put j).2=SetTable.below t.place j:=rfl
 have r:A3 t.place.toList:=by rw [T.place];exact T.ris
 obtain ⟨b1,b2,b3⟩:=kW r j
 generalize hb:SetTable.below t.place j=p at *
 refine ⟨Z.take p++(j,h,x)::Z.drop p,⟨?_,?_,?_,fun z hz=>?_,by rw [e1];exact T.dum,fun z hz=>?_⟩,?_,e1⟩
 ·rw [e1]
  show (SetTable.insertAt t.place p j).toList=_
  rw [jv,T.place,Lz,KM,LA,LB]
 ·rw [e2,jv,T.ents,Lz,KM,LA,LB]
 ·rw [Lz, KM, LA, LB]
  have hlen:t.place.size=(Z.map (·.1)).length:=by rw [<- T.place];simp
  refine vv T.ris (fun y hy=>?_) (fun y hy=>?_)
  ·obtain ⟨i, hi⟩ := Ls hy
   rw [List.getElem?_take] at hi
   split at hi
   ·rename_i hlt
    have q:=b2 i hlt
    rw [<- T.place,KZ] at hi
    simp only [LC,hi,LD] at q
    exact q
   ·cases hi
  ·obtain ⟨i, hi⟩ := Ls hy
   rw [LF] at hi
   have hmem:y∈Z.map (·.1):=Ko hi
   rw [<- T.place,KZ] at hi
   have hlt:p+i<t.place.size:=(Ln.mp hi).1
   have q:=b3 (p+i) (by omega) hlt
   simp only [LC,hi,LD] at q
   have:y≠j:=fun ey=>hn (ey ▸ hmem)
   omega
 ·rw [e1]
  show z.1<=t.mask
  rcases JI.mp hz with q | q
  ·exact T.top z (LG q)
  ·rcases JG.mp q with q | q
   ·rw [q];exact hj
   ·exact T.top z (List.mem_of_mem_drop q)
 ·rw [e1]
  show ∃ pre post,cx t.mask z.2.1=pre++z.1::post/\_
  have sub:∀ k∈Z.map (·.1),k∈(Z.take p++(j,h,x)::Z.drop p).map (·.1):=fun k hk=>by
   rw [<- Lx p Z,Lz] at hk
   rw [Lz,KM]
   rcases JI.mp hk with q | q
   ·exact JJ _ q
   ·exact J7 _ (JF _ q)
  have old:∀ z∈Z,∃ pre post,cx t.mask z.2.1=pre++z.1::post/\∀ k∈pre,k∈(Z.take p++(j,h,x)::Z.drop p).map (·.1):=fun z hz=>by
   obtain ⟨a,b,c,d⟩:=T.reach z hz
   exact ⟨a,b,c,fun k hk=>sub k (d k hk)⟩
  rcases JI.mp hz with q | q
  ·exact old z (LG q)
  ·rcases JG.mp q with q | q
   ·rw [q];exact ⟨pre,post,e,fun k hk=>sub k (hp k hk)⟩
   ·exact old z (List.mem_of_mem_drop q)
 ·have q : (Z.take p ++ (j, h, x) :: Z.drop p).Perm ((j, h, x) :: (Z.take p ++ Z.drop p)) := List.perm_middle
  rw [Lx] at q
  exact q
theorem qR (mask:Nat) (owner:Array (Option Nat)):∀ (n i pe:Nat),
  SetTable.layClean.free mask owner n i pe=(w8 mask n i pe).find? fun j=>(owner.getD j (some 0)).isNone
 | 0,_,_=>rfl
 | n+1,i,pe=>by
  show (match (List.range (SetTable.runEnd mask i+1 - i)).find? fun k=>(owner.getD (i+k) (some 0)).isNone with | some k=>_ | none=>_)=_
  show _=((List.range (SetTable.runEnd mask i+1 - i)).map (i+·)++w8 mask n (SetTable.leap mask i pe).1 (SetTable.leap mask i pe).2).find? _
  rw [List.find?_append,List.find?_map,<- qR mask owner n]
  have ec:((fun j=>(owner.getD j (some 0)).isNone) ∘ fun x=>i+x)=fun k=>(owner.getD (i+k) (some 0)).isNone:=rfl
  rw [ec]
  cases (List.range (SetTable.runEnd mask i+1 - i)).find? fun k=>(owner.getD (i+k) (some 0)).isNone with
  | some k=>rfl
  | none=>rfl
structure DW (mask:Nat) (hs:List Int) (owner:Array (Option Nat)):Prop where
 size:owner.size=mask+1
 all:∀ (i:Nat) (h:Int),hs[i]?=some h->∃ j:Nat,j<=mask/\owner[j]?=some (some i)/\∃ pre post,cx mask h=pre++j::post/\∀ k∈pre,∃ i':Nat,owner[k]?=some (some i')
 lt:∀ (j i:Nat),owner[j]?=some (some i)->i<hs.length
 inj:∀ (j j' i:Nat),owner[j]?=some (some i)->owner[j']?=some (some i)->j=j'
theorem Cp (mask:Nat):DW mask [] (Array.replicate (mask+1) none):=by
 have hno:∀ (j i:Nat),(Array.replicate (mask+1) (none:Option Nat))[j]?≠some (some i):=fun j i e=>by
  rw [Array.getElem?_replicate] at e
  split at e <;> cases e
 exact ⟨by simp,fun i h e=>by simp at e,fun j i e=>absurd e (hno j i),fun j j' i e=>absurd e (hno j i)⟩
theorem An {mask:Nat}{hs:List Int}{owner:Array (Option Nat)} (O:DW mask hs owner) (hl:hs.length<=mask):∃ j,j<=mask/\owner[j]?=some none:=by
 refine Lq fun hn=>?_
 have hall:∀ j,j<=mask->∃ i,owner[j]?=some (some i):=fun j hj=>by
  have hs':j<owner.size:=by rw [O.size];omega
  cases e:owner[j]? with
  | none=>rw [LH] at e;omega
  | some o=>
   cases o with
   | none=>exact absurd ⟨j,hj,e⟩ hn
   | some i=>exact ⟨i,rfl⟩
 have key:∀ n,n<=mask+1->∃ l:List Nat,l.length=n/\l.Nodup/\(∀ i∈l,i<hs.length)/\∀ i∈l,∃ j,j<n/\owner[j]?=some (some i):=by
  intro n
  induction n with
  | zero=>exact fun _=>⟨[],rfl,LI,fun _ h=>by simp at h,fun _ h=>by simp at h⟩
  | succ n ih=>
   intro hn'
   obtain ⟨l,h1,h2,h3,h4⟩:=ih (by omega)
   obtain ⟨i,hi⟩:=hall n (by omega)
   refine ⟨i::l,by rw [K5,h1],Ke.mpr ⟨fun hm=>?_,h2⟩,fun x hx=>?_,fun x hx=>?_⟩
   ·obtain ⟨j, hj, ej⟩ := h4 i hm
    have:=O.inj j n i ej hi
    omega
   ·rcases JG.mp hx with q | q
    ·rw [q];exact O.lt n i hi
    ·exact h3 x q
   ·rcases JG.mp hx with q | q
    ·rw [q];exact ⟨n,by omega,hi⟩
    ·obtain ⟨j, hj, ej⟩ := h4 x q
     exact ⟨j,by omega,ej⟩
 obtain ⟨l,h1,h2,h3,_⟩:=key (mask+1) (J3 _)
 have:=i0 h2 (l2:=List.range hs.length) (fun x hx=>JA.mpr (h3 x hx))
 rw [Lj,h1] at this
 omega
theorem Am {mask:Nat}{hs:List Int}{owner:Array (Option Nat)}{h:Int} (O:DW mask hs owner) (hl:hs.length<=mask) (cov:∀ j,j<=mask->j∈cx mask h) :
  ∃ j,SetTable.layClean.free mask owner (SetTable.turns mask) (SetTable.bits h % (mask+1)) (SetTable.bits h)=some j/\DW mask (hs++[h]) (owner.setIfInBounds j (some hs.length)):=by
 obtain ⟨j0,hj0,e0⟩:=An O hl
 have none_iff:∀ j,((owner.getD j (some 0)).isNone=true)↔owner[j]?=some none:=fun j=>by
  rw [LC]
  cases owner[j]? with
  | none=>simp
  | some o=>cases o <;> simp
 obtain ⟨pre,j,post,e,hs',hp⟩:=jn (fun j=>owner[j]?=some none) (cx mask h) ⟨j0,cov j0 hj0,e0⟩
 have hjm:j<=mask:=i6 (h:=h) (by rw [e];simp)
 have hjs:j<owner.size:=by rw [O.size];omega
 have hocc:∀ k∈pre,∃ i',owner[k]?=some (some i'):=fun k hk=>by
  have hkm:k<=mask:=i6 (h:=h) (by rw [e];simp [hk])
  cases q:owner[k]? with
  | none=>
   rw [LH,O.size] at q
   omega
  | some o=>
   cases o with
   | none=>exact absurd q (hp k hk)
   | some i=>exact ⟨i,rfl⟩
 have hset:∀ k,(owner.setIfInBounds j (some hs.length))[k]?=if j=k then some (some hs.length) else owner[k]?:=fun k=>by
  rw [Array.getElem?_setIfInBounds]
  by_cases q:j=k
  ·rw [Js q,Js q,Js hjs]
  ·rw [Jt q,Jt q]
 have keep:∀ k i',owner[k]?=some (some i')->(owner.setIfInBounds j (some hs.length))[k]?=some (some i'):=fun k i' q=>by
  rw [hset,Jt]
  ·exact q
  ·intro ej;rw [<- ej,hs'] at q;cases q
 refine ⟨j,?_,by simp [O.size],fun i h' ei=>?_,fun k i ei=>?_,fun k k' i e1 e2=>?_⟩
 ·rw [qR]
  show (cx mask h).find? _=some j
  rw [e,List.find?_append]
  have e1:pre.find? (fun j=>(owner.getD j (some 0)).isNone)=none:=by
   rw [List.find?_eq_none]
   intro k hk q
   exact hp k hk ((none_iff k).mp q)
  simp only [e1,Option.none_or,List.find?_cons,(none_iff j).mpr hs']
 ·by_cases hi : i < hs.length
  ·rw [Kl hi] at ei
   obtain ⟨j',a1,a2,pr,po,a3,a4⟩:=O.all i h' ei
   exact ⟨j',a1,keep j' i a2,pr,po,a3,fun k hk=>(a4 k hk).elim fun i' q=>⟨i',keep k i' q⟩⟩
  ·have hi':i=hs.length:=by
    have:=(JK.mp ei).1
    simp at this;omega
   subst hi'
   rw [Kj (J3 _),Nat.sub_self] at ei
   have eh:h=h':=by simpa using ei
   subst eh
   exact ⟨j,hjm,by rw [hset,Js rfl],pre,post,e,fun k hk=>(hocc k hk).elim fun i' q=>⟨i',keep k i' q⟩⟩
 ·rw [hset] at ei
  rw [Kq,KY]
  split at ei
  ·cases ei;omega
  ·have:=O.lt k i ei;omega
 ·rw [hset] at e1 e2
  split at e1
  ·rename_i q1
   cases e1
   split at e2
   ·rename_i q2;rw [<- q1,q2]
   ·have:=O.lt k' _ e2;omega
  ·split at e2
   ·cases e2
    have:=O.lt k _ e1;omega
   ·exact O.inj k k' i e1 e2
theorem tZ {mask:Nat}:∀ (hs0 hs1:List Int) (owner:Array (Option Nat)),DW mask hs0 owner->hs0.length+hs1.length<=mask+1->(∀ h∈hs1,∀ j,j<=mask->j∈cx mask h) ->
  ∃ owner',hs1.foldl (fun (acc:Option (Array (Option Nat) × Nat)) h=>do
   let (owner,k) <- acc
   let j <- SetTable.layClean.free mask owner (SetTable.turns mask) (SetTable.bits h % (mask+1)) (SetTable.bits h)
   pure (owner.setIfInBounds j (some k),k+1)) (some (owner,hs0.length))=some (owner',(hs0++hs1).length)/\DW mask (hs0++hs1) owner'
 | hs0,[],owner,O,_,_=>⟨owner,by simp,by simpa using O⟩
 | hs0,h::hs1,owner,O,hl,cov=>by
  rw [K5] at hl
  obtain ⟨j,ej,O'⟩:=Am (h:=h) O (by omega) (cov h JE)
  obtain ⟨ow,e1,e2⟩:=tZ (hs0++[h]) hs1 _ O' (by rw [Kq,KY];omega) (fun x hx=>cov x (JF _ hx))
  rw [KS,List.singleton_append] at e1 e2
  refine ⟨ow,?_,e2⟩
  rw [KU]
  show List.foldl _ ((SetTable.layClean.free mask owner (SetTable.turns mask) (SetTable.bits h % (mask+1)) (SetTable.bits h)).bind fun j=>some (owner.setIfInBounds j (some hs0.length),hs0.length+1)) hs1=_
  rw [ej]
  show List.foldl _ (some (owner.setIfInBounds j (some hs0.length),hs0.length+1)) hs1=_
  rw [Kq,KY] at e1
  exact e1
theorem tX {α:Type}:∀ l:List α,(List.range l.length).filterMap (fun i=>l[i]?)=l
 | []=>rfl
 | a::l=>by
  rw [K5,Lg,JD]
  show a::List.filterMap _ _=_
  rw [List.filterMap_map]
  show a::List.filterMap (fun i=>l[i]?) _=_
  rw [tX l]
theorem CS {mask:Nat}{hs:List Int} (hl:hs.length<=mask+1) (cov:∀ h∈hs,∀ j,j<=mask->j∈cx mask h):∃ owner,SetTable.layClean mask hs.toArray=some owner/\DW mask hs owner:=by
 obtain ⟨ow,e1,e2⟩:=tZ [] hs _ (Cp mask) (by rw [Lk,Nat.zero_add];exact hl) cov
 refine ⟨ow,?_,by simpa using e2⟩
 unfold SetTable.layClean
 rw [List.foldl_toArray']
 ·show Option.map (·.1) (hs.foldl _ (some (Array.replicate (mask + 1) none, ([] : List Int).length))) = _
  rw [e1];rfl
 ·simp
theorem pC {t:SetTable}{es:Array (Int × Value)}{wanted mask:Nat} (hm:SetTable.sizeAbove wanted - 1=mask) (hl:es.size<=mask) (cov:∀ e∈es.toList,∀ j,j<=mask->j∈cx mask e.1) :
  ∃ t' order Z',t.relaid (es.map (·.1)) wanted=some (t',order)/\qo t' (order.filterMap (es[·]?)) Z'/\(Z'.map (·.2)).Perm es.toList/\t'.mask=mask/\t'.led=t.led/\t'.plain=t.plain/\order.toList.Perm (List.range es.size):=by
 have ea:es.map (·.1)=(es.toList.map (·.1)).toArray:=by rw [<- Array.toList_map]
 obtain ⟨ow,e1,O⟩:=CS (mask:=mask) (hs:=es.toList.map (·.1)) (by simp;omega) (fun h hh=>by
  obtain ⟨e,he,q⟩:=Lp.mp hh
  rw [<- q];exact cov e he)
 let live:List (Nat × Nat):=(List.range (mask+1)).filterMap fun j=>(ow.getD j none).map (j,·)
 have hlive:∀ j i,(j,i)∈live↔(j<=mask/\ow[j]?=some (some i)):=fun j i=>by
  simp only [live,J6,JA]
  constructor
  ·rintro ⟨k, hk, q⟩
   rw [LC] at q
   cases e:ow[k]? with
   | none=>rw [e] at q;cases q
   | some o=>
    rw [e] at q
    cases o with
    | none=>cases q
    | some i'=>
     simp only [LD,Option.map_some,Option.some.injEq,Prod.mk.injEq] at q
     obtain ⟨q1,q2⟩:=q
     subst q1;subst q2
     exact ⟨by omega,e⟩
  ·rintro ⟨hj, e⟩
   refine ⟨j,by omega,?_⟩
   rw [LC,e];rfl
 have hfst:(live.map (·.1)).Pairwise (·<·):=by
  have gen:∀ (l:List Nat),l.Pairwise (·<·)->((l.filterMap fun j=>(ow.getD j none).map (j,·)).map (·.1)).Pairwise (·<·)/\∀ x∈((l.filterMap fun j=>(ow.getD j none).map (j,·)).map (·.1)),x∈l:=by
   intro l
   induction l with
   | nil=>intro _;exact ⟨List.Pairwise.nil,fun x hx=>by simp at hx⟩
   | cons a l ih=>
    intro hp
    obtain ⟨h1,h2⟩:=Ly.mp hp
    obtain ⟨i1,i2⟩:=ih h2
    rw [JD]
    cases q:(ow.getD a none).map (a,·) with
    | none=>exact ⟨i1,fun x hx=>JF _ (i2 x hx)⟩
    | some p=>
     have ep:p.1=a:=by
      cases hq:ow.getD a none with
      | none=>rw [hq] at q;cases q
      | some i=>rw [hq] at q;cases q;rfl
     show (p.1::List.map _ _).Pairwise _/\∀ x∈p.1::List.map _ _,x∈a::l
     rw [ep]
     exact ⟨Ly.mpr ⟨fun x hx=>h1 x (i2 x hx),i1⟩,fun x hx=>by
      rcases JG.mp hx with z | z
      ·rw [z];exact JE
      ·exact JF _ (i2 x z)⟩
  exact (gen _ LJ).1
 have hnd:live.Nodup:=by
  have:=hfst.imp (fun h=>Jy h)
  exact List.Pairwise.of_map (·.1) (fun a b h e=>h (by rw [e])) this
 have hsz:∀ j i,(j,i)∈live->i<es.size:=fun j i h=>by
  have:=O.lt j i ((hlive j i).mp h).2
  simpa using this
 have hsnd:(live.map (·.2)).Perm (List.range es.size):=by
  refine (LK ?_ Lr).mpr fun i=>?_
  ·refine List.Pairwise.map _ (fun a b h => ?_) (List.Pairwise.and_mem.mp hnd)
   obtain ⟨ha,hb,hne⟩:=h
   intro e
   have q1:=((hlive a.1 a.2).mp ha).2
   have q2:=((hlive b.1 b.2).mp hb).2
   rw [<- e] at q2
   exact hne (Prod.ext (O.inj _ _ _ q1 q2) e)
  ·rw [JA, Lp]
   constructor
   ·rintro ⟨p,hp,e⟩;rw [<- e];exact hsz p.1 p.2 hp
   ·intro hi
    obtain ⟨j,hj,q,_⟩:=O.all i (es[i].1) (by rw [Km,KZ,LL hi];rfl)
    exact ⟨(j,i),(hlive j i).mpr ⟨hj,q⟩,rfl⟩
 let Z':List (Nat × Int × Value):=live.filterMap fun p=>(es[p.2]?).map fun e=>(p.1,e)
 have hZ1:Z'.map (·.1)=live.map (·.1):=by
  have gen:∀ l:List (Nat × Nat),(∀ p∈l,p.2<es.size)->(l.filterMap fun p=>(es[p.2]?).map fun e=>(p.1,e)).map (·.1)=l.map (·.1):=by
   intro l
   induction l with
   | nil=>intro _;rfl
   | cons p l ih=>
    intro h
    rw [JD,LL (h p JE)]
    show p.1::List.map _ _=p.1::List.map _ _
    rw [ih fun q hq=>h q (JF _ hq)]
  exact gen live fun p hp=>hsz p.1 p.2 hp
 have hZ2:Z'.map (·.2)=(live.map (·.2)).filterMap (es[·]?):=by
  have gen:∀ l:List (Nat × Nat),(l.filterMap fun p=>(es[p.2]?).map fun e=>(p.1,e)).map (·.2)=(l.map (·.2)).filterMap (es[·]?):=by
   intro l
   induction l with
   | nil=>rfl
   | cons p l ih=>
    rw [JD,KM,JD]
    cases es[p.2]? with
    | none=>exact ih
    | some e=>show e::List.map _ _=e::_;rw [ih]
  exact gen live
 have hes:(List.range es.size).filterMap (es[·]?)=es.toList:=by
  have q:=tX es.toList
  rw [JQ] at q
  simpa only [KZ] using q
 refine ⟨{ mask,place:=(live.map (·.1)).toArray,dummies:=#[],finger:=t.finger,led:=t.led,moves:=t.movedTo mask,plain:=t.plain },(live.map (·.2)).toArray,Z',?_,⟨?_,?_,?_,fun z hz=>?_,rfl,fun z hz=>?_⟩,?_,rfl,rfl,rfl,hsnd⟩
 ·unfold SetTable.relaid SetTable.laid
  rw [hm,ea,e1]
  rfl
 ·show (live.map (·.1))=_;rw [hZ1]
 ·rw [hZ2];simp
 ·rw [hZ1];exact hfst
 ·have : z.1 ∈ live.map (·.1) := by rw [<- hZ1]; exact Lu hz
  obtain ⟨p,hp,q⟩:=Lp.mp this
  rw [<- q];exact ((hlive p.1 p.2).mp hp).1
 ·obtain ⟨p, hp, q⟩ := J6.mp hz
  rw [LL (hsz p.1 p.2 hp)] at q
  have ez:z=(p.1,es[p.2]'(hsz p.1 p.2 hp)):=(Ju q).symm
  obtain ⟨hj,ho⟩:=(hlive p.1 p.2).mp hp
  obtain ⟨j,a1,a2,pre,post,a3,a4⟩:=O.all p.2 (es[p.2]'(hsz p.1 p.2 hp)).1 (by rw [Km,KZ,LL (hsz p.1 p.2 hp)];rfl)
  have ejp:j=p.1:=O.inj _ _ _ a2 ho
  refine ⟨pre,post,by rw [ez];rw [ejp] at a3;exact a3,fun k hk=>?_⟩
  obtain ⟨i',hi'⟩:=a4 k hk
  rw [hZ1]
  have hkm:k<=mask:=i6 (h:=(es[p.2]'(hsz p.1 p.2 hp)).1) (by rw [a3];simp [hk])
  exact Lp.mpr ⟨(k,i'),(hlive k i').mpr ⟨hkm,hi'⟩,rfl⟩
 ·rw [hZ2, <- hes]
  exact hsnd.filterMap _
def prs:List (List Int):=((List.range 36).filter fun n=>n / 6<n % 6).map fun n=>[((n / 6:Nat):Int),((n % 6:Nat):Int)]
def hsh (ks:List Int):Int:=reduceHash (Builtin.Tuple.tupleHashOf (ks.map hashInt))
theorem FW {prog:Program}{w:World} (ks:List Int):tupleKeyHash (intKind prog w) ks=hsh ks:=rfl
def D2 (mask:Nat):Bool:=prs.all fun ks=>(List.range (mask+1)).all fun j=>(cx mask (hsh ks)).contains j
theorem II:D2 7=true:=by decide +kernel
theorem DJ:D2 31=true:=by decide +kernel
theorem Ht:(prs.map hsh).Nodup:=by decide +kernel
theorem wA:prs.length=15:=by decide +kernel
theorem ve {mask:Nat} (h:D2 mask=true) {ks:List Int} (hk:ks∈prs):∀ j,j<=mask->j∈cx mask (hsh ks):=fun j hj=>by
 have a:=LM.mp h ks hk
 have b:=LM.mp a j (JA.mpr (by omega))
 simpa using b
theorem FV {l:List (List Int)} (h:(l.map hsh).Nodup) {a b:List Int} (ha:a∈l) (hb:b∈l) (e:hsh a=hsh b):a=b:=by
 induction l with
 | nil=>simp at ha
 | cons c l ih=>
  rw [KM] at h
  obtain ⟨h1,h2⟩:=Ke.mp h
  rcases JG.mp ha with qa | qa <;> rcases JG.mp hb with qb | qb
  ·rw [qa,qb]
  ·exact absurd (by rw [<- qa,e];exact Lu qb) h1
  ·exact absurd (by rw [<- qb,<- e];exact Lu qa) h1
  ·exact ih h2 qa qb
theorem C1 {a b:List Int} (ha:a∈prs) (hb:b∈prs) (e:hsh a=hsh b):a=b:=FV Ht ha hb e
theorem rZ {a b:Int} (h1:0<=a) (h2:a<b) (h3:b<6):[a,b]∈prs:=by
 have key:∀ x:Nat,x<6->∀ y:Nat,y<6->x<y->[(x:Int),(y:Int)]∈prs:=by decide +kernel
 have:=key a.toNat (by omega) b.toNat (by omega) (by omega)
 rw [LN h1,LN (by omega)] at this
 exact this
end RS
namespace RS
open PySem PyProof.Rows
abbrev KP:=List Int × Addr
structure du (w:World) (h:Heap) (a:Addr) (qs:List (Int × Value)) (o:Obj) (es:Array (Int × Value)) (ep:Nat) (t:SetTable) (Z:List (Nat × Int × Value)):Prop where
 ho:h.get? a=some o
 ex:o.ExactSet
 hd:o.data=.set es ep t
 tab:qo t es Z
 plain:t.plain=true
 led:t.led=!w.params.followText "set-order"
 big:(t.mask=7/\Z.length<=4)\/(t.mask=31/\Z.length<=18)
 perm:(Z.map (·.2)).Perm qs
def u3 (p:KP):Int × Value:=(hsh p.1,Value.ref p.2)
def d4 (w:World) (h:Heap) (a:Addr) (ps:List KP):Prop:=∃ o es ep t Z,du w h a (ps.map u3) o es ep t Z/\(∀ p∈ps,p.1∈prs)/\(ps.map (·.1)).Nodup
theorem du.len {w:World}{h:Heap}{a:Addr}{ps:List (Int × Value)}{o es ep t Z} (S:du w h a ps o es ep t Z):Z.length=ps.length:=by
 have:=S.perm.length_eq
 simpa using this
theorem j5 {ps:List KP} (hk:∀ p∈ps,p.1∈prs) (hn:(ps.map (·.1)).Nodup):ps.length<=15:=by
 have:=i0 hn (l2:=prs) (fun x hx=>by obtain ⟨p,hp,e⟩:=Lp.mp hx;rw [<- e];exact hk p hp)
 rw [Kr,wA] at this
 exact this
theorem du.fits {w:World}{h:Heap}{a:Addr}{ps:List (Int × Value)}{o es ep t Z} (S:du w h a ps o es ep t Z):t.fits es.size=true:=by
 unfold SetTable.fits
 rw [S.tab.fill,S.tab.size.1,S.tab.size.2]
 rcases S.big with ⟨h1,h2⟩ | ⟨h1,h2⟩ <;> simp [h1] <;> omega
theorem du.cov {w:World}{h:Heap}{a:Addr}{ps:List (Int × Value)}{o es ep t Z} (S:du w h a ps o es ep t Z) {k:List Int} (hk:k∈prs):∀ j,j<=t.mask->j∈cx t.mask (hsh k):=by
 rcases S.big with ⟨h1,h2⟩ | ⟨h1,h2⟩ <;> rw [h1]
 ·exact ve II hk
 ·exact ve DJ hk
theorem d4.keeps {w:World}{h h':Heap}{a:Addr}{ps:List KP} (S:d4 w h a ps) (k:∀ o,h.get? a=some o->h'.get? a=some o):d4 w h' a ps:=by
 obtain ⟨o,es,ep,t,Z,S,hk,hn⟩:=S
 exact ⟨o,es,ep,t,Z,⟨k o S.ho,S.ex,S.hd,S.tab,S.plain,S.led,S.big,S.perm⟩,hk,hn⟩
section
variable {prog:Program}{w:World}{A:Around}{E:Value->Shared->Prop}{s:Shared}
abbrev Tk (prog:Program) (w:World) (h:Heap) (k:List Int) (r:Addr):Prop:=IsTupleKey (intKind prog w) h k r
theorem items_int {k:List Int}{vs:List Value} (h:ItemsAre (intKind prog w) k vs):∀ v∈vs,∃ i t,v=.int i t:=by
 induction h with
 | nil=>intro v hv;simp at hv
 | @cons k v' ks vs h1 _ ih=>
  intro v hv
  rcases JG.mp hv with q | q
  ·obtain ⟨t, e⟩ := Jp (k := k) (v := v') h1
   exact ⟨k,t,by rw [q,e]⟩
  ·exact ih v q
theorem t4 {k:List Int}{r:Addr}{Q:Bool->Shared->Prop} (hk:Tk prog w s.heap k r) (h:Q false s):wpAny (model prog w) A (ofAClassStatement 8 (.ref r)) Q E s:=by
 have hT:=hk.typeIs
 obtain ⟨o,items,n,ho,hc,hd,hi⟩:=hk
 unfold ofAClassStatement
 refine JT (KG hT ?_)
 dsimp only
 simp only [K3,KA]
 refine JT (JZ ?_)
 simp only [LO,K4,Ky]
 refine JT (wpAny_seqItems ho hd ?_)
 dsimp only
 refine JT ?_
 show wpAny _ _ (forIn items _ _) _ _ s
 rw [<- Array.forIn_toList]
 refine LP _ (fun rest r s'=>r.1=none/\s'=s/\∀ v∈rest,∃ i t,v=.int i t) _ ?_ ?_ _ _ ⟨rfl,rfl,items_int hi⟩
 ·rintro v rest r s' ⟨hr, rfl, hall⟩
  obtain ⟨i,t,e⟩:=hall v JE
  subst e
  unfold ofAClassStatement
  refine JT (JZ ?_)
  simp only [K4,Ky]
  exact JZ ⟨rfl,rfl,fun u hu'=>hall u (JF _ hu')⟩
 ·rintro ⟨r1, r2⟩ s' ⟨hr, rfl, _⟩
  simp only at hr
  subst hr
  exact JZ h
theorem qk {k:List Int}{r:Addr}{Q:Bool->Shared->Prop} (hk:Tk prog w s.heap k r) (h:Q true s):wpAny (model prog w) A (hashByValue 8 (.ref r)) Q E s:=by
 have hT:=hk.typeIs
 obtain ⟨o,items,n,ho,hc,hd,hi⟩:=hk
 unfold hashByValue
 refine JT (wpAny_specialOf hT F.slot_tuple_hash.lookup ?_)
 dsimp only
 refine JT (wpAny_seqItems ho hd ?_)
 refine JT ?_
 show wpAny _ _ (forIn items _ _) _ _ s
 rw [<- Array.forIn_toList]
 refine LP _ (fun rest r s'=>r.1=none/\s'=s/\∀ v∈rest,∃ i t,v=.int i t) _ ?_ ?_ _ _ ⟨rfl,rfl,items_int hi⟩
 ·rintro v rest r s' ⟨hr, rfl, hall⟩
  obtain ⟨i,t,e⟩:=hall v JE
  subst e
  unfold hashByValue
  refine JT (JZ ?_)
  simp only [LO,K4,Ky]
  exact JZ ⟨rfl,rfl,fun u hu'=>hall u (JF _ hu')⟩
 ·rintro ⟨r1, r2⟩ s' ⟨hr, rfl, _⟩
  simp only at hr
  subst hr
  exact JZ h
theorem Au {k:List Int}{r:Addr}{ys:List Value}{Q:Bool->Shared->Prop} (hk:Tk prog w s.heap k r) (hy:∀ y∈ys,∃ k' r',y=.ref r'/\Tk prog w s.heap k' r') (h:Q false s):wpAny (model prog w) A (searchCouldBeSeen (.ref r) ys) Q E s:=by
 unfold searchCouldBeSeen
 refine JT ?_
 refine LP _ (fun rest r' s'=>r'.1=none/\s'=s/\∀ y∈rest,∃ k' r',y=.ref r'/\Tk prog w s.heap k' r') _ ?_ ?_ _ _ ⟨rfl,rfl,hy⟩
 ·rintro v rest q s' ⟨hr, rfl, hall⟩
  obtain ⟨k',r',e,hk'⟩:=hall v JE
  subst e
  have hrest:=fun u hu'=>hall u (JF _ hu')
  dsimp only
  by_cases hv:(r == r' || carriedByValue (Value.ref r) && carriedByValue (Value.ref r'))=true
  ·rw [Js hv]
   exact JZ ⟨rfl,rfl,hrest⟩
  ·rw [Jt hv]
   refine JT (wpAny_eqIsQuiet_tuple hk ?_)
   simp only [LO,K4,Ky]
   refine JT (wpAny_eqIsQuiet_tuple hk' ?_)
   simp only [LO,K4,Ky]
   refine JT (t4 hk ?_)
   simp only [K4,Ky]
   refine JT (t4 hk' ?_)
   simp only [K4,Ky]
   exact JZ ⟨rfl,rfl,hrest⟩
 ·rintro ⟨r1, r2⟩ s' ⟨hr, rfl, _⟩
  simp only at hr
  subst hr
  exact JZ h
end
end RS
namespace RS
open PySem PyProof.Rows
section
variable {prog:Program}{w:World}{A:Around}{E:Value->Shared->Prop}{s:Shared}
theorem zA {h:Heap}{a:Addr}{ps:List KP}{o es ep t Z} (S:du w h a (ps.map u3) o es ep t Z) {z:Nat × Int × Value} (hz:z∈Z):∃ p∈ps,z.2=(hsh p.1,Value.ref p.2):=by
 have:z.2∈Z.map (·.2):=Lu hz
 obtain ⟨p,hp,e⟩:=Lp.mp (S.perm.mem_iff.mp this)
 exact ⟨p,hp,e.symm⟩
theorem F8 {h:Heap}{a:Addr}{ps:List KP}{o es ep t Z} (S:du w h a (ps.map u3) o es ep t Z) {p:KP} (hp:p∈ps):∃ z∈Z,z.2=(hsh p.1,Value.ref p.2):=by
 have:u3 p∈ps.map u3:=Lu hp
 obtain ⟨z,hz,e⟩:=Lp.mp (S.perm.mem_iff.mpr this)
 exact ⟨z,hz,e⟩
theorem xi {a r:Addr}{k:List Int}{ps:List KP}{o es ep t Z}{Q:SetFound->Shared->Prop} (S:du w s.heap a (ps.map u3) o es ep t Z) (hks:∀ p∈ps,p.1∈prs) (hk:k∈prs) (hr:Tk prog w s.heap k r) (hps:∀ p∈ps,Tk prog w s.heap p.1 p.2) (hu:A.units<cLine)
  (h1:k∈ps.map (·.1)->Q (.there none) s)
  (h2:k ∉ ps.map (·.1)->∀ j pre post,j<=t.mask->j ∉ Z.map (·.1)->cx t.mask (hsh k)=pre++j::post->(∀ x∈pre,x∈Z.map (·.1))->Q (.free j false) s) :
  wpAny (model prog w) A (setSearch a (.ref r) (hsh k) true) Q E s:=by
 have hodd:t.gaveWay=false:=by
  unfold SetTable.gaveWay
  rcases S.big with ⟨q,_⟩ | ⟨q,_⟩ <;> rw [q] <;> decide
 have hz:Z.length<=t.mask:=by rcases S.big with ⟨q,q2⟩ | ⟨q,q2⟩ <;> omega
 unfold setSearch setSearchFrom
 refine JT (LQ S.ho S.hd S.fits ?_)
 dsimp only
 rw [hodd]
 simp only [K4,Ky]
 generalize hpr:SetTable.probe t _ (hsh k) (Option.getD none (t.probeStart (hsh k)))=pr
 have key:∀ (hA:Nat->Int) pr,(∀ i z,Z[i]?=some z->hA i=z.2.1)->t.probe hA (hsh k) (t.probeStart (hsh k))=pr ->
   (∃ i z nx,Z[i]?=some z/\z.2.1=hsh k/\pr=some (.candidate z.1 i nx)) \/
   ((∀ z∈Z,z.2.1≠hsh k)/\∃ j pre post,pr=some (.empty j none)/\j<=t.mask/\j ∉ Z.map (·.1)/\cx t.mask (hsh k)=pre++j::post/\∀ x∈pre,x∈Z.map (·.1)):=fun hA pr hAe e=>by
  subst e
  exact S.tab.search (S.cov hk) hz hA hAe
 rcases key _ pr (fun i z hi=>by show (Option.map (·.1) es[i]?).getD 0=_;rw [S.tab.hashAt hi];rfl) hpr with ⟨i,z,nx,hi,ez,e⟩ | ⟨hno,j,pre,post,e,hj,hn,e2,hp⟩
 ·subst e
  dsimp only
  have hzm:z∈Z:=Ko hi
  obtain ⟨p,hp,ep'⟩:=zA S hzm
  have ek:p.1=k:=C1 (hks p hp) hk (by rw [<- ez,ep'])
  have hin:k∈ps.map (·.1):=by rw [<- ek];exact Lu hp
  have rest:wpAny (model prog w) A (do
    let some (_,y):=es[i]? | unsupported "internal:set-entry"
    let equal <- holding [y] (eqBool y (.ref r))
    let (es',_,t') <- setState a
    if true && equal then return SetFound.there none
    let some same:=t'.sameMemory t.moves t.mask | unsupported "set.changed-during-lookup:is-the-new-block-at-the-old-address"
    let still <- match (if same then t'.slot z.1 else .empty) with
     | .live i'=>match es'[i']? with
      | some (_,y')=>do pure (if <- isSame y' y then some i' else none)
      | none=>pure none
     | _=>pure none
    match still with
    | none=>rule "set.search.anew";setSearchFrom a (.ref r) (hsh k) true 99999 none
    | some i'=>if equal then return .there (some i') else setSearchFrom a (.ref r) (hsh k) true 99999 (some nx)) Q E s:=by
   rw [S.tab.hashAt hi,ep']
   dsimp only
   refine JT (JU (wpAny_eqBool_tuple hu (hps p hp) hr ?_))
   refine JT (LQ S.ho S.hd S.fits ?_)
   dsimp only
   rw [ek,K1 rfl]
   simp only [LR,KA]
   exact JZ (h1 hin)
  by_cases hl:(!t.led)=true
  ·rw [Js hl]
   refine JT (Au hr (fun y hy=>?_) ?_)
   ·obtain ⟨e', he', q⟩ := Lp.mp hy
    have he2:e'∈es.toList:=by
     have:=Array.mem_filter.mp (LS.mp he')
     exact LS.mpr this.1
    rw [S.tab.ents] at he2
    obtain ⟨z',hz',q2⟩:=Lp.mp he2
    obtain ⟨p',hp',q3⟩:=zA S hz'
    exact ⟨p'.1,p'.2,by rw [<- q,<- q2,q3],hps p' hp'⟩
   ·simp only [K4, Ky]
    exact rest
  ·rw [Jt hl]
   exact rest
 ·subst e
  dsimp only
  refine JZ (h2 (fun hin=>?_) j pre post hj hn e2 hp)
  obtain ⟨p,hpm,ek⟩:=Lp.mp hin
  obtain ⟨z,hzm,ez⟩:=F8 S hpm
  exact hno z hzm (by rw [ez,<- ek])
end
end RS
namespace RS
open PySem PyProof.Rows
def lg (ps:List KP) (k:List Int) (r:Addr):List KP:=if k∈ps.map (·.1) then ps else ps++[(k,r)]
section
variable {prog:Program}{w:World}{A:Around}{E:Value->Shared->Prop}{s:Shared}
theorem Ea {a r:Addr}{k:List Int}{ps:List KP}{Q:Bool->Shared->Prop} (S:d4 w s.heap a ps) (hk:k∈prs) (hr:Tk prog w s.heap k r) (hps:∀ p∈ps,Tk prog w s.heap p.1 p.2) (hu:A.units<cLine)
  (h:∀ b h',Heap.SameBut a s.heap h'->d4 w h' a (lg ps k r)->Q b { s with heap:=h' }):wpAny (model prog w) A (setAddHashed a (.ref r) (hsh k)) Q E s:=by
 obtain ⟨o,es,ep,t,Z,S,hk0,hn0⟩:=S
 unfold setAddHashed setAddHashedIn
 refine JU (JT (LQ S.ho S.hd S.fits ?_))
 dsimp only
 have hsc:byScan (Value.ref r) es=false:=rfl
 rw [hsc]
 simp only [K4,Ky]
 refine JT (xi S hk0 hk hr hps hu (fun hin=>?_) fun hin j pre post hj hn e hp=>?_)
 ·dsimp only
  refine JZ ?_
  have q:=h false s.heap (Heap.SameBut.refl a s.heap) (by unfold lg;rw [Js hin];exact ⟨o,es,ep,t,Z,S,hk0,hn0⟩)
  cases s;exact q
 ·dsimp only
  refine JT (LQ S.ho S.hd S.fits ?_)
  dsimp only
  obtain ⟨Z',T',hperm,et⟩:=S.tab.put (x:=Value.ref r) hj hn e hp
  have e2:(t.put j).2=SetTable.below t.place j:=rfl
  have hpl:(t.put j).1.plain=true:=by rw [et];exact S.plain
  have hled:(t.put j).1.led=t.led:=by rw [et]
  have hmask:(t.put j).1.mask=t.mask:=by rw [et]
  have hperm':(Z'.map (·.2)).Perm ((ps++[(k,r)]).map u3):=by
   have q1:=hperm.map (·.2)
   refine q1.trans ?_
   rw [KM,Lz]
   refine List.Perm.trans (List.Perm.cons _ S.perm) ?_
   exact (List.perm_append_singleton _ _).symm
  have hkeys:∀ p∈ps++[(k,r)],p.1∈prs:=fun p hp'=>by
   rcases JI.mp hp' with q | q
   ·exact hk0 p q
   ·rw [Lf] at q;rw [q];exact hk
  have hnd:((ps++[(k,r)]).map (·.1)).Nodup:=by
   rw [Lz]
   refine LU.mpr ⟨hn0,by simp,fun x hx y hy=>?_⟩
   simp at hy
   rw [hy];rintro rfl;exact hin hx
  have hlen15:=j5 hkeys hnd
  have hZ':Z'.length=ps.length+1:=by rw [hperm.length_eq,K5,S.len,Kr]
  have hesz:(SetTable.insertAt es (t.put j).2 (hsh k,Value.ref r)).size=Z'.length:=T'.size.2
  have hadd:lg ps k r=ps++[(k,r)]:=by unfold lg;rw [Jt hin]
  rw [hadd] at h
  rw [Kq,KY] at hlen15
  generalize ht1:(t.put j).1=t1 at *
  generalize hes1:SetTable.insertAt es (t.put j).2 (hsh k,Value.ref r)=es1 at *
  have hline:es1.size<=sizeLine:=by rw [hesz,hZ'];exact JB hlen15 (by decide)
  rw [hpl]
  simp only [KA]
  refine JT (qk hr ?_)
  simp only [KA]
  refine JT (LV S.ho S.hd ?_ hline)
  have hg:(s.heap.update a (Obj.putSet es1 t1)).get? a=some { o with data:=.set es1 (ep+1) t1 }:=by
   have:=KN (Obj.putSet es1 t1) S.ho (by rw [LW es1 t1 S.hd];rfl)
   rw [LW es1 t1 S.hd] at this;exact this
  have hsb1:=LX s.heap a (Obj.putSet es1 t1)
  have hfill:t1.fill=ps.length+1:=by rw [T'.fill,hZ']
  by_cases hfull:t1.tooFull=true
  ·simp only [hfull, LY, LR, KA]
   have hm7:t.mask=7/\ps.length=4:=by
    unfold SetTable.tooFull at hfull
    rw [hfill,hmask] at hfull
    have hf:(ps.length+1) * 5 ≥ t.mask * 3:=by simpa using hfull
    have hl:=S.len
    rw [Kr] at hl
    rcases S.big with ⟨q,q2⟩ | ⟨q,q2⟩
    ·rw [q] at hf;exact ⟨q,by omega⟩
    ·rw [q] at hf;omega
   have hes0:es.size=4:=by rw [S.tab.size.2,S.len,Kr,hm7.2]
   have hsz1:es1.size=5:=by rw [hesz,hZ',hm7.2]
   have hgr:SetTable.grown (es.size+1)=20:=by rw [hes0];rfl
   rw [hgr]
   unfold setRelay
   have hfits1:t1.fits es1.size=true:=by
    unfold SetTable.fits
    rw [T'.fill,T'.size.1,hesz,hmask,hm7.1,hZ',hm7.2];rfl
   refine JT (JT (LQ hg rfl hfits1 ?_))
   dsimp only
   rw [Jt (by decide)]
   obtain ⟨t2,order,Z2,er,T2,hp2,hm2,hl2,hpl2,_⟩:=pC (t:=t1) (es:=es1) (wanted:=20) (mask:=31) (by rfl) (by rw [hsz1];decide) (fun e' he'=>by
    rw [T'.ents] at he'
    obtain ⟨p,hp',q⟩:=Lp.mp (hperm'.mem_iff.mp he')
    rw [<- q]
    exact ve DJ (hkeys p hp'))
   rw [er]
   have hZ2:Z2.length=5:=by
    have:=hp2.length_eq
    simp at this
    omega
   have hes2:(order.filterMap (es1[·]?)).size=5:=by rw [T2.size.2,hZ2]
   have hne:((order.filterMap (es1[·]?)).size != es1.size)=false:=by rw [hes2,hsz1];rfl
   refine JT ?_
   show wpAny _ A (if ((order.filterMap (es1[·]?)).size != es1.size)=true then _ else _) _ _ _
   rw [hne]
   simp only [K4,Ky]
   refine JZ ?_
   refine LV hg rfl ?_ (by rw [hes2];decide)
   have hg2:((s.heap.update a (Obj.putSet es1 t1)).update a (Obj.putSet (order.filterMap (es1[·]?)) t2)).get? a=some { o with data:=.set (order.filterMap (es1[·]?)) (ep+1+1) t2 }:=by
    have:=KN (Obj.putSet (order.filterMap (es1[·]?)) t2) hg (by rw [LW _ t2 rfl];rfl)
    rw [LW _ t2 rfl] at this;exact this
   refine JZ ?_
   refine h true _ (hsb1.trans (LX _ a _)) ⟨_,_,_,t2,Z2,⟨hg2,S.ex,rfl,T2,by rw [hpl2];exact hpl,by rw [hl2,hled];exact S.led,.inr ⟨hm2,by omega⟩,?_⟩,hkeys,hnd⟩
   refine hp2.trans ?_
   rw [T'.ents];exact hperm'
  ·have hf : t1.tooFull = false := by simpa using hfull
   simp only [hf,Bool.and_false,K4,Ky]
   refine JZ ?_
   refine h true _ hsb1 ⟨_,_,_,t1,Z',⟨hg,S.ex,rfl,T',hpl,by rw [hled];exact S.led,?_,hperm'⟩,hkeys,hnd⟩
   unfold SetTable.tooFull at hf
   rw [hfill,hmask] at hf
   have hf':¬ ((ps.length+1) * 5 ≥ t.mask * 3):=by simpa using hf
   rw [hmask,hZ']
   rcases S.big with ⟨q,q2⟩ | ⟨q,q2⟩
   ·rw [q] at hf' ⊢;exact .inl ⟨rfl,by omega⟩
   ·rw [q] at hf' ⊢;exact .inr ⟨rfl,by omega⟩
end
def eK (qs:List KP):List KP:=qs.foldl (fun ps p=>lg ps p.1 p.2) []
theorem uM (qs:List KP) (p:KP):eK (qs++[p])=lg (eK qs) p.1 p.2:=by unfold eK;rw [LZ];rfl
theorem AY {ps:List KP}{k:List Int}{r:Addr}{p:KP} (h:p∈lg ps k r):p∈ps\/p=(k,r):=by
 unfold lg at h
 split at h
 ·exact .inl h
 ·rcases JI.mp h with q | q
  ·exact .inl q
  ·exact .inr (Lf.mp q)
theorem nr:∀ {qs ps:List KP}{p:KP},p∈qs.foldl (fun ps p=>lg ps p.1 p.2) ps->p∈ps\/p∈qs
 | [],_,_,h=>.inl h
 | q::qs,ps,p,h=>by
  rw [KU] at h
  rcases nr h with z | z
  ·rcases AY z with z | z
   ·exact .inl z
   ·exact .inr (by rw [z];exact JE)
  ·exact .inr (JF _ z)
theorem kX {qs:List KP}{p:KP} (h:p∈eK qs):p∈qs:=(nr h).elim (fun z=>by simp at z) id
theorem vU {ps:List KP}{k:List Int}{r:Addr} (h:(ps.map (·.1)).Nodup):((lg ps k r).map (·.1)).Nodup:=by
 unfold lg
 split
 ·exact h
 ·rename_i hn
  rw [Lz]
  refine LU.mpr ⟨h,by simp,fun x hx y hy=>?_⟩
  simp at hy
  rw [hy];rintro rfl;exact hn hx
theorem kI:∀ {qs ps:List KP},(ps.map (·.1)).Nodup->((qs.foldl (fun ps p=>lg ps p.1 p.2) ps).map (·.1)).Nodup
 | [],_,h=>h
 | q::qs,ps,h=>by rw [KU];exact kI (vU h)
theorem sL {qs:List KP}:((eK qs).map (·.1)).Nodup:=kI (ps:=[]) LI
def ll (w:World):Bool:=!w.params.followText "set-order"
theorem ni {w:World}{h:Heap}{a:Addr} (e:h.get? a=some { cls:=.type "set",dict:=none,data:=.set #[] 0 (.fresh 0 0 (ll w)) }):d4 w h a []:=
 ⟨_,_,_,_,[],⟨e,⟨rfl,rfl,rfl⟩,rfl,⟨rfl,rfl,List.Pairwise.nil,fun z hz=>by simp at hz,rfl,fun z hz=>by simp at hz⟩,rfl,rfl,.inl ⟨rfl,by decide⟩,List.Perm.nil⟩,fun p hp=>by simp at hp,LI⟩
section
variable {prog:Program}{w:World}{A:Around}{R:Result->Shared->Prop}{I:Addr}{fp wr:List Addr}{G:Array GenState->Array GenState->Prop}{P:Nat->Value->Prop}{St:Nat->Shared->Prop}
structure yD (prog:Program) (w:World) (u:Nat) (S:Addr) (vs:List Value) (J:Nat->Heap->Prop):Prop where
 keep:∀ i h h',(∀ b o,b<=S->h.get? b=some o->h'.get? b=some o)->J i h->J i h'
 add:∀ (A:Around) (i:Nat) (v:Value) (s:Shared) (E:Value->Shared->Prop) (Q:Bool->Shared->Prop),A.units<=u->vs[i]?=some v->J i s.heap ->
  (∀ b h' tk,s.toks<=tk->Heap.SameBut S s.heap h'->J (i+1) h'->Q b { s with heap:=h',toks:=tk })->wpAny (model prog w) A (setAdd S v) Q E s
theorem ua {u:Nat}{vs:List Value}{J:Nat->Heap->Prop} (W:WalksS prog w A.in1 I fp wr G vs.length P St) (S:Addr) (hSf:S ∉ fp) (hwr:∀ b∈wr,S<b) (hP:∀ (i:Nat) v,P i v->vs[i]?=some v) (hJ:yD prog w u S vs J) (hu:A.units+1<=u) :
  ∀ (k i:Nat) (s:Shared),vs.length - i=k->i<=vs.length->St i s->J i s.heap ->
   (∀ s',Moved (S::wr) G s s'->J vs.length s'.heap->R (.ok (.ret .none)) s') ->
   codeAny (model prog w) A (.builtin "set.update.loop" ⟨[.ref S,.ref I],[]⟩) R s:=by
 have hSw:S ∉ wr:=fun h=>hSf (W.sub _ h)
 have hsub:∀ b∈wr,b∈S::wr:=fun b hb=>JF _ hb
 have hle:∀ b,b<=S->b ∉ wr:=fun b hb z=>Jx _ (Jw (hwr b z) hb)
 intro k
 induction k with
 | zero=>
  intro i s ek hi hst hS hR
  have hin:i=vs.length:=by omega
  subst hin
  refine L3 F.entry_set_update_loop ?_
  rw [L4 L5 _]
  show wpAny _ A.in1 (pyNext (.ref I) >>= _) _ _ s
  refine JT (W.done s _ _ hst fun s' hm=>?_)
  show wpAny _ A.in1 (ret Value.none) _ _ s'
  exact JZ (hR s' (hm.mono hsub) (hJ.keep _ _ _ (fun b o hb e=>hm.heap b o (hle b hb) e) hS))
 | succ k ih=>
  intro i s ek hi hst hS hR
  have hlt:i<vs.length:=by omega
  refine L3 F.entry_set_update_loop ?_
  rw [L4 L5 _]
  show wpAny _ A.in1 (pyNext (.ref I) >>= _) _ _ s
  refine JT (W.item i s _ _ hlt hst fun v s' hPv hst' hm=>?_)
  have hv:=hP i v hPv
  have hS':=hJ.keep i _ s'.heap (fun b o hb e=>hm.heap b o (hle b hb) e) hS
  show wpAny _ A.in1 (holding [v] (setAdd S v) >>= _) _ _ s'
  refine JT (JU ?_)
  refine hJ.add A.in1 i v s' _ _ (by show A.units+1<=u;exact hu) hv hS' fun b h' tk ht hsb hS2=>?_
  have hkeep:∀ b o,b≠S->s'.heap.get? b=some o->h'.get? b=some o:=fun b o hb e=>(hsb.2 b hb).trans e
  refine JZ ⟨plainId_quiet L5 _,ih (i+1) _ (by omega) hlt (W.frame _ s' _ _ hst' ht fun b hb o e=>hkeep b o (fun z=>hSf (by rw [<- z];exact hb)) e) hS2 fun s'' hm'' hS''=>?_⟩
  refine hR s'' (Moved.trans W.gtrans ((hm.mono hsub).then_heap ht fun b o hb e=>?_) hm'') hS''
  exact hkeep b o (fun z=>hb (by rw [z];exact JE)) e
end
section
variable {prog:Program}{w:World}{A:Around}{E:Value->Shared->Prop}{s:Shared}
theorem lY (a:Value) {Q1:Value->Shared->Prop}
  (h:Q1 (.ref s.heap.objs.size) { s with heap:=s.heap.push { cls:=.type "set",dict:=none,data:=.set #[] 0 (.fresh 0 0 (ll w)) } }) :
  codeAny (model prog w) A (.call (.builtin "set.__new__") ⟨[.type "set",a],[]⟩) (wants Q1 E) s:=by
 refine Lb ?_
 show wpAny _ A.in1 (do checkBuiltinCall "set.__new__" ⟨[.type "set",a],[]⟩;again (.builtin "set.__new__" ⟨[.type "set",a],[]⟩)) _ _ s
 refine JT (L6 (F.newCall_set_1 a) (JZ ⟨plainId_quiet F.plain_set_new _,L3 F.entry_set_new ?_⟩))
 rw [L4 F.plain_set_new _]
 unfold Builtin.«set.__new__» Builtin.Frozenset.newClass
 have hsub:=sub_set_self
 obtain ⟨hp,g,d,tk,os⟩:=s
 dsimp only
 wp_walk
 refine Lc (JZ ?_)
 dsimp only
 simp only [newObj]
 refine JT (wpAny_alloc (JZ ?_))
 exact JZ h
namespace F
theorem sub_list_set:isSubtype (.type "list") (.type "set")=pure false:=by rw [L7];kernel_rfl
theorem sub_list_frozenset:isSubtype (.type "list") (.type "frozenset")=pure false:=by rw [L7];kernel_rfl
end F
theorem lS {l:Addr}{items:Array Value}{J:Nat->Heap->Prop}{Q:Value->Shared->Prop}
  (hh:A.handled=none) (hl:s.heap.IsList l items) (hJ:yD prog w (A.units+20) s.heap.objs.size items.toList J)
  (h0:∀ h',(∀ b o,s.heap.get? b=some o->h'.get? b=some o)->h'.get? s.heap.objs.size=some { cls:=.type "set",dict:=none,data:=.set #[] 0 (.fresh 0 0 (ll w)) }->J 0 h')
  (h:∀ (h':Heap) (tk:Nat),J items.size h'->(∀ b o,b<s.heap.objs.size->s.heap.get? b=some o->h'.get? b=some o)->Q (.ref s.heap.objs.size) { s with heap:=h',toks:=tk }) :
  wpAny (model prog w) A (call (.type "set") [.ref l]) Q E s:=by
 obtain ⟨c,tl,hmro⟩:=L8.mro
 have hmade:=L8.made
 have hsub:=L8.sub
 refine wpAny_call (Lb ?_)
 show wpAny _ _ (callAny (.type "set") _) _ _ _
 refine JZ ⟨L9 _ (by decide +kernel),L3 PySem.F.entry_type_call ?_⟩
 rw [Around.under_plain (weight_type_call_type "set" [.ref l] []) rfl]
 have h1:=L8.notType
 have h2:=L8.canCreate
 have hct:=PySem.F.typeCall_set_1 (.ref l)
 repeat (any_goals (first | assumption | wp_step))
 refine Kc (lY (.ref l) (E:=E) (Q1:=fun obj s1=>obj=.ref s.heap.objs.size/\s1={ s with heap:=s.heap.push { cls:=.type "set",dict:=none,data:=.set #[] 0 (.fresh 0 0 (ll w)) } }) ⟨rfl,rfl⟩) fun r s1 hr=>?_
 cases r with
 | error e=>exact hr
 | ok fl=>
  cases fl with
  | ret obj=>
   obtain ⟨rfl,rfl⟩:=hr
   generalize hled:ll w=led
   have hS:(s.heap.push { cls:=.type "set",dict:=none,data:=.set #[] 0 (.fresh 0 0 led) }).get? s.heap.objs.size=some { cls:=.type "set",dict:=none,data:=.set #[] 0 (.fresh 0 0 led) }:=J2 _ rfl
   have hTy:Shared.TypeIs { s with heap:=s.heap.push { cls:=.type "set",dict:=none,data:=.set #[] 0 (.fresh 0 0 led) } } (.ref s.heap.objs.size) "set" := ⟨_,hS,rfl⟩
   have hli:=L8.init.lookup
   have hbi:=L8.init.bind (.ref s.heap.objs.size)
   repeat (any_goals (first | assumption | wp_step))
   refine Kc (Ma (R:=wants (fun r s2=>r=.none/\∃ h' tk,s2={ s with heap:=h',toks:=tk }/\J items.size h' /\
     (∀ b o,b<s.heap.objs.size->s.heap.get? b=some o->h'.get? b=some o)) E) L8.init.plain PySem.F.entry_set_init (check_set_init_1 hTy ?_)) fun r2 s2 hr2=>?_
   ·obtain ⟨ol, hol, hcl, nl, hdl⟩ := hl
    obtain ⟨ocls,odict,odata,oslots⟩:=ol
    simp only at hcl hdl
    subst hcl;subst hdl
    have hol':(s.heap.push { cls:=.type "set",dict:=none,data:=.set #[] 0 (.fresh 0 0 led) }).get? l=some { cls:=.type "list",dict:=odict,data:=.seq items nl,slots:=oslots }:=J1 _ hol
    have hsls:=F.sub_list_set
    have hslf:=F.sub_list_frozenset
    have hne:(Value.type "list" == Value.type "dict")=false:=by decide
    have hl1:(s.heap.push { cls:=.type "set",dict:=none,data:=.set #[] 0 (.fresh 0 0 led) }).IsList l items:=⟨_,hol',rfl,nl,rfl⟩
    unfold Builtin.«set.__init__» noKeywords Builtin.Frozenset.updateFrom
    generalize hPI:pyIter=PI
    wp_walk
    subst hPI
    refine Mb hl1 ?_
    refine JT (Mc ?_)
    have hlS:l<s.heap.objs.size:=Jv hol
    have hh3:A.in1.in1.in1.handled=none:=by simp [hh]
    have hneI:l≠(s.heap.push { cls:=.type "set",dict:=none,data:=.set #[] 0 (.fresh 0 0 led) }).objs.size:=by
     rw [K8];exact Jy (K7 hlS)
    have hSf:s.heap.objs.size ∉ [(s.heap.push { cls:=.type "set",dict:=none,data:=.set #[] 0 (.fresh 0 0 led) }).objs.size,l]:=by
     rw [K8];simp only [JG,Lf,Md,Me,not_or]
     exact ⟨Jy (K6 _),JY hlS⟩
    have W:=(Walks.list (prog:=prog) (w:=w) hh3 (s.heap.push { cls:=.type "set",dict:=none,data:=.set #[] 0 (.fresh 0 0 led) }).objs.size l hneI items).toS
    rw [show items.size=items.toList.length by rw [JQ]] at W
    refine ua W s.heap.objs.size hSf (fun b hb=>?_) (fun i v hv=>by rw [KZ];exact hv) hJ (by simp only [Around.in1];omega) (items.toList.length - 0) 0 _ (by omega) (Le _)
     ⟨⟨_,J2 _ rfl,rfl,rfl⟩,?hL⟩ ?hS0 ?hR
    case hL=>
     obtain ⟨o,ho,rest⟩:=hl1
     exact ⟨o,J1 _ ho,rest⟩
    case hS0=>
     refine h0 _ (fun b o e=>J1 _ (J1 _ e)) ?_
     rw [hled]
     exact J1 _ hS
    case hR=>
     intro s' hm hS'
     obtain ⟨h',g',d',tk',os'⟩:=s'
     have eg:g'=s.gens:=hm.gens
     have ed:d'=s.drawn:=hm.drawn
     have eo:os'=s.os:=hm.os
     subst eg;subst ed;subst eo
     show wpAny _ _ _ _ _ _
     refine JZ ?_
     show wpAny _ _ (ret Value.none) _ _ _
     refine JZ ⟨rfl,h',tk',rfl,by rw [JQ] at hS';exact hS',fun b o hb e=>?_⟩
     have hb1:b≠s.heap.objs.size:=Jy hb
     have hb2:b≠(s.heap.push { cls:=.type "set",dict:=none,data:=.set #[] 0 (.fresh 0 0 led) }).objs.size:=by
      rw [K8];exact Jy (K7 hb)
     exact hm.heap b o (by simp only [JG,Lf,Md,Me,not_or];exact ⟨hb1,hb2⟩) (J1 _ (J1 _ e))
    ·rw [K8] at hb
     rw [Lf.mp hb]
     exact K6 _
   ·cases r2 with
    | error e=>exact hr2
    | ok fl2=>
     cases fl2 with
     | ret r=>
      obtain ⟨rfl,h',tk,rfl,hS',hk'⟩:=hr2
      repeat (any_goals (first | assumption | wp_step))
      exact h _ _ hS' hk'
     | _=>exact hr2.elim
  | _=>exact hr.elim
namespace F
theorem sub_tuple_set:isSubtype (.type "tuple") (.type "set")=pure false:=by rw [L7];kernel_rfl
theorem sub_tuple_frozenset:isSubtype (.type "tuple") (.type "frozenset")=pure false:=by rw [L7];kernel_rfl
end F
theorem kG {l:Addr}{items:Array Value}{J:Nat->Heap->Prop}{Q:Value->Shared->Prop}
  (hh:A.handled=none) (hl:s.heap.IsTuple l items) (hJ:yD prog w (A.units+20) s.heap.objs.size items.toList J)
  (h0:∀ h',(∀ b o,s.heap.get? b=some o->h'.get? b=some o)->h'.get? s.heap.objs.size=some { cls:=.type "set",dict:=none,data:=.set #[] 0 (.fresh 0 0 (ll w)) }->J 0 h')
  (h:∀ (h':Heap) (tk:Nat),J items.size h'->(∀ b o,b<s.heap.objs.size->s.heap.get? b=some o->h'.get? b=some o)->Q (.ref s.heap.objs.size) { s with heap:=h',toks:=tk }) :
  wpAny (model prog w) A (call (.type "set") [.ref l]) Q E s:=by
 obtain ⟨c,tl,hmro⟩:=L8.mro
 have hmade:=L8.made
 have hsub:=L8.sub
 refine wpAny_call (Lb ?_)
 show wpAny _ _ (callAny (.type "set") _) _ _ _
 refine JZ ⟨L9 _ (by decide +kernel),L3 PySem.F.entry_type_call ?_⟩
 rw [Around.under_plain (weight_type_call_type "set" [.ref l] []) rfl]
 have h1:=L8.notType
 have h2:=L8.canCreate
 have hct:=PySem.F.typeCall_set_1 (.ref l)
 repeat (any_goals (first | assumption | wp_step))
 refine Kc (lY (.ref l) (E:=E) (Q1:=fun obj s1=>obj=.ref s.heap.objs.size/\s1={ s with heap:=s.heap.push { cls:=.type "set",dict:=none,data:=.set #[] 0 (.fresh 0 0 (ll w)) } }) ⟨rfl,rfl⟩) fun r s1 hr=>?_
 cases r with
 | error e=>exact hr
 | ok fl=>
  cases fl with
  | ret obj=>
   obtain ⟨rfl,rfl⟩:=hr
   generalize hled:ll w=led
   have hS:(s.heap.push { cls:=.type "set",dict:=none,data:=.set #[] 0 (.fresh 0 0 led) }).get? s.heap.objs.size=some { cls:=.type "set",dict:=none,data:=.set #[] 0 (.fresh 0 0 led) }:=J2 _ rfl
   have hTy:Shared.TypeIs { s with heap:=s.heap.push { cls:=.type "set",dict:=none,data:=.set #[] 0 (.fresh 0 0 led) } } (.ref s.heap.objs.size) "set" := ⟨_,hS,rfl⟩
   have hli:=L8.init.lookup
   have hbi:=L8.init.bind (.ref s.heap.objs.size)
   repeat (any_goals (first | assumption | wp_step))
   refine Kc (Ma (R:=wants (fun r s2=>r=.none/\∃ h' tk,s2={ s with heap:=h',toks:=tk }/\J items.size h' /\
     (∀ b o,b<s.heap.objs.size->s.heap.get? b=some o->h'.get? b=some o)) E) L8.init.plain PySem.F.entry_set_init (check_set_init_1 hTy ?_)) fun r2 s2 hr2=>?_
   ·obtain ⟨ol, hol, hcl, nl, hdl⟩ := hl
    obtain ⟨ocls,odict,odata,oslots⟩:=ol
    simp only at hcl hdl
    subst hcl;subst hdl
    have hol':(s.heap.push { cls:=.type "set",dict:=none,data:=.set #[] 0 (.fresh 0 0 led) }).get? l=some { cls:=.type "tuple",dict:=odict,data:=.seq items nl,slots:=oslots }:=J1 _ hol
    have hsls:=F.sub_tuple_set
    have hslf:=F.sub_tuple_frozenset
    have hne:(Value.type "tuple" == Value.type "dict")=false:=by decide
    have hl1:(s.heap.push { cls:=.type "set",dict:=none,data:=.set #[] 0 (.fresh 0 0 led) }).IsTuple l items:=⟨_,hol',rfl,nl,rfl⟩
    unfold Builtin.«set.__init__» noKeywords Builtin.Frozenset.updateFrom
    generalize hPI:pyIter=PI
    wp_walk
    subst hPI
    refine Mf hl1 ?_
    refine JT (Mc ?_)
    have hlS:l<s.heap.objs.size:=Jv hol
    have hh3:A.in1.in1.in1.handled=none:=by simp [hh]
    have hneI:l≠(s.heap.push { cls:=.type "set",dict:=none,data:=.set #[] 0 (.fresh 0 0 led) }).objs.size:=by
     rw [K8];exact Jy (K7 hlS)
    have hSf:s.heap.objs.size ∉ [(s.heap.push { cls:=.type "set",dict:=none,data:=.set #[] 0 (.fresh 0 0 led) }).objs.size,l]:=by
     rw [K8];simp only [JG,Lf,Md,Me,not_or]
     exact ⟨Jy (K6 _),JY hlS⟩
    have W:=(Walks.tuple (prog:=prog) (w:=w) hh3 (s.heap.push { cls:=.type "set",dict:=none,data:=.set #[] 0 (.fresh 0 0 led) }).objs.size l hneI items).toS
    rw [show items.size=items.toList.length by rw [JQ]] at W
    refine ua W s.heap.objs.size hSf (fun b hb=>?_) (fun i v hv=>by rw [KZ];exact hv) hJ (by simp only [Around.in1];omega) (items.toList.length - 0) 0 _ (by omega) (Le _)
     ⟨⟨_,J2 _ rfl,rfl,rfl⟩,?hL⟩ ?hS0 ?hR
    case hL=>
     obtain ⟨o,ho,rest⟩:=hl1
     exact ⟨o,J1 _ ho,rest⟩
    case hS0=>
     refine h0 _ (fun b o e=>J1 _ (J1 _ e)) ?_
     rw [hled]
     exact J1 _ hS
    case hR=>
     intro s' hm hS'
     obtain ⟨h',g',d',tk',os'⟩:=s'
     have eg:g'=s.gens:=hm.gens
     have ed:d'=s.drawn:=hm.drawn
     have eo:os'=s.os:=hm.os
     subst eg;subst ed;subst eo
     show wpAny _ _ _ _ _ _
     refine JZ ?_
     show wpAny _ _ (ret Value.none) _ _ _
     refine JZ ⟨rfl,h',tk',rfl,by rw [JQ] at hS';exact hS',fun b o hb e=>?_⟩
     have hb1:b≠s.heap.objs.size:=Jy hb
     have hb2:b≠(s.heap.push { cls:=.type "set",dict:=none,data:=.set #[] 0 (.fresh 0 0 led) }).objs.size:=by
      rw [K8];exact Jy (K7 hb)
     exact hm.heap b o (by simp only [JG,Lf,Md,Me,not_or];exact ⟨hb1,hb2⟩) (J1 _ (J1 _ e))
    ·rw [K8] at hb
     rw [Lf.mp hb]
     exact K6 _
   ·cases r2 with
    | error e=>exact hr2
    | ok fl2=>
     cases fl2 with
     | ret r=>
      obtain ⟨rfl,h',tk,rfl,hS',hk'⟩:=hr2
      repeat (any_goals (first | assumption | wp_step))
      exact h _ _ hS' hk'
     | _=>exact hr2.elim
  | _=>exact hr.elim
theorem pI {qs:List KP}{S:Addr}{u:Nat} (hk:∀ p∈qs,p.1∈prs) (hS:∀ p∈qs,p.2<S) (hu:u<cLine):yD prog w u S (qs.map fun p=>Value.ref p.2) (fun i h=>d4 w h S (eK (qs.take i))/\∀ p∈qs,Tk prog w h p.1 p.2):=by
 have keepT:∀ {h1 h2:Heap}{q:KP},q∈qs->(∀ b o,b<S->h1.get? b=some o->h2.get? b=some o)->Tk prog w h1 q.1 q.2->Tk prog w h2 q.1 q.2:=fun {h1 h2 q} hq kk t=>by
  obtain ⟨o,items,n,ho,r⟩:=t
  exact ⟨o,items,n,kk _ o (hS q hq) ho,r⟩
 refine ⟨fun i h h' hk' ⟨j1,j2⟩=>⟨j1.keeps fun o e=>hk' S o (J3 _) e,fun p hp=>keepT hp (fun b o hb e=>hk' b o (JC hb) e) (j2 p hp)⟩,fun A i v s E Q hA hv ⟨j1,j2⟩ hQ=>?_⟩
 rw [Km] at hv
 cases e:qs[i]? with
 | none=>rw [e] at hv;cases hv
 | some p=>
  rw [e] at hv
  cases hv
  have hpm:p∈qs:=Ko e
  unfold setAdd
  refine JU ?_
  refine JT (wpAny_pyHash_tuple (by omega) (j2 p hpm) ?_)
  rw [FW]
  refine Ea (s:={ s with toks:=s.toks+(p.1.length+1) }) j1 (hk p hpm) (j2 p hpm) (fun q hq=>j2 q (LG (kX hq))) (by omega) fun b h' hsb hS2=>?_
  have etk:qs.take (i+1)=qs.take i++[p]:=by rw [Mg,e];rfl
  refine hQ b h' _ (Nat.le_add_right _ _) hsb ⟨by rw [etk,uM];exact hS2,fun q hq=>keepT hq (fun b o hb e=>(hsb.2 b (Jy hb)).trans e) (j2 q hq)⟩
theorem zq {qs:List KP} (hT:∀ p∈qs,Tk prog w s.heap p.1 p.2):∀ p∈qs,p.2<s.heap.objs.size:=fun p hp=>by
 obtain ⟨o,_,_,ho,_⟩:=hT p hp
 exact Jv ho
theorem uu {l:Addr}{items:Array Value}{qs:List KP}{Q:Value->Shared->Prop}
  (hh:A.handled=none) (hl:s.heap.IsList l items) (hi:items.toList=qs.map fun p=>Value.ref p.2) (hk:∀ p∈qs,p.1∈prs) (hT:∀ p∈qs,Tk prog w s.heap p.1 p.2) (hu:A.units+20<cLine)
  (h:∀ (h':Heap) (tk:Nat),d4 w h' s.heap.objs.size (eK qs)->(∀ b o,b<s.heap.objs.size->s.heap.get? b=some o->h'.get? b=some o)->Q (.ref s.heap.objs.size) { s with heap:=h',toks:=tk }) :
  wpAny (model prog w) A (call (.type "set") [.ref l]) Q E s:=by
 have hlen:items.size=qs.length:=by rw [<- JQ,hi,Kr]
 refine lS hh hl (hi ▸ pI hk (zq hT) hu) (fun h' k e=>⟨ni e,fun p hp=>?_⟩) fun h' tk ⟨j1,_⟩=>h h' tk ?_
 ·obtain ⟨o, its, n, ho, rest⟩ := hT p hp
  exact ⟨o,its,n,k _ _ ho,rest⟩
 ·rw [hlen, Mh] at j1
  exact j1
theorem sE {l:Addr}{items:Array Value}{qs:List KP}{Q:Value->Shared->Prop}
  (hh:A.handled=none) (hl:s.heap.IsTuple l items) (hi:items.toList=qs.map fun p=>Value.ref p.2) (hk:∀ p∈qs,p.1∈prs) (hT:∀ p∈qs,Tk prog w s.heap p.1 p.2) (hu:A.units+20<cLine)
  (h:∀ (h':Heap) (tk:Nat),d4 w h' s.heap.objs.size (eK qs)->(∀ b o,b<s.heap.objs.size->s.heap.get? b=some o->h'.get? b=some o)->Q (.ref s.heap.objs.size) { s with heap:=h',toks:=tk }) :
  wpAny (model prog w) A (call (.type "set") [.ref l]) Q E s:=by
 have hlen:items.size=qs.length:=by rw [<- JQ,hi,Kr]
 refine kG hh hl (hi ▸ pI hk (zq hT) hu) (fun h' k e=>⟨ni e,fun p hp=>?_⟩) fun h' tk ⟨j1,_⟩=>h h' tk ?_
 ·obtain ⟨o, its, n, ho, rest⟩ := hT p hp
  exact ⟨o,its,n,k _ _ ho,rest⟩
 ·rw [hlen, Mh] at j1
  exact j1
end
end RS
namespace RS
open PySem PySem.W PyProof.Rows
structure d6 (n:Nat) (p:Array Nat):Prop where
 size:p.size=n
 perm:p.toList.Perm (List.range n)
def at' (key:Nat->Int) (p:Array Nat) (k:Nat):Int:=key (p.getD k 0)
def A4 (key:Nat->Int) (p:Array Nat) (m:Nat):Prop:=∀ i j,i<j->j<m->at' key p i<at' key p j
def Bm (key:Nat->Int) (p:Array Nat) (m:Nat):Prop:=∀ i j,i<j->j<m->at' key p j<at' key p i
section
variable {n:Nat}{key:Nat->Int}{cmp:Nat->Nat->(Bool->Shared->Prop)->Shared->Prop}{s:Shared}{p:Array Nat}
theorem d6.lt (g:d6 n p) {k:Nat} (hk:k<n):p.getD k 0<n:=by
 have hs:k<p.size:=by rw [g.size];exact hk
 have:p[k]∈p.toList:=by rw [LS];exact Array.getElem_mem hs
 have:=g.perm.mem_iff.mp this
 rw [JA] at this
 simpa [Array.getD,hs] using this
theorem d6.inj (g:d6 n p) {k k':Nat} (hk:k<n) (hk':k'<n) (e:p.getD k 0=p.getD k' 0):k=k':=by
 have hs:k<p.toList.length:=by rw [JQ,g.size];exact hk
 have hs':k'<p.toList.length:=by rw [JQ,g.size];exact hk'
 have nd:p.toList.Nodup:=g.perm.nodup_iff.mpr Lr
 refine (JL (h₀:=hs) (h₁:=hs') nd).mp ?_
 have h1:k<p.size:=by rw [g.size];exact hk
 have h2:k'<p.size:=by rw [g.size];exact hk'
 simpa [Array.getD,h1,h2] using e
variable (hkey:∀ i j,i<n->j<n->key i=key j->i=j) (hc:∀ i j,i<n->j<n->∀ C:Bool->Shared->Prop,C (decide (key i<key j)) s->cmp i j C s)
include hkey in
theorem y8 (g:d6 n p) {k k':Nat} (hk:k<n) (hk':k'<n) (h:k≠k'):at' key p k≠at' key p k':=fun e=>h (g.inj hk hk' (hkey _ _ (g.lt hk) (g.lt hk') e))
include hkey hc
theorem vh (g:d6 n p):∀ (f m:Nat) (Q:Nat->Shared->Prop),1<=m->m+f<=n->A4 key p m->(∀ m',m<=m'->m'<=m+f->A4 key p m'->(m'=m+f\/at' key p m'<at' key p (m' - 1))->Q m' s)->(kas_asc p f m).kasWp cmp Q s
 | 0,m,Q,h1,h2,ha,hQ=>hQ m (J3 _) (J3 _) ha (.inl rfl)
 | f+1,m,Q,h1,h2,ha,hQ=>by
  show cmp (p.getD m 0) (p.getD (m - 1) 0) _ s
  refine hc _ _ (g.lt (by omega)) (g.lt (by omega)) _ ?_
  by_cases hlt:key (p.getD m 0)<key (p.getD (m - 1) 0)
  ·rw [K1 hlt]; (show (if true = true then _ else _ : KasT _).kasWp cmp _ s); rw [Js rfl]
   exact hQ m (J3 _) (by omega) ha (.inr hlt)
  ·rw [Jq hlt]; (show (if false = true then _ else _ : KasT _).kasWp cmp _ s); rw [Jt JX]
   have hne:=y8 hkey g (k:=m) (k':=m - 1) (by omega) (by omega) (by omega)
   have hgt:at' key p (m - 1)<at' key p m:=by unfold at' at *;omega
   refine vh g f (m+1) Q (by omega) (by omega) (fun i j hij hj=>?_) (fun m' a b c d=>hQ m' (by omega) (by omega) c (d.elim (fun e=>.inl (by omega)) .inr))
   by_cases ej:j=m
   ·subst ej
    by_cases ei:i=j - 1
    ·rw [ei];exact hgt
    ·have:=ha i (j - 1) (by omega) (by omega);omega
   ·exact ha i j hij (by omega)
theorem wV (g:d6 n p):∀ (f m:Nat) (Q:Array Nat × Nat × Nat->Shared->Prop),1<=m->m+f<=n->Bm key p m->(∀ m',m<=m'->m'<=m+f->Bm key p m'->Q (p,m',0) s)->(kas_desc f p m 0).kasWp cmp Q s
 | 0,m,Q,h1,h2,ha,hQ=>hQ m (J3 _) (J3 _) ha
 | f+1,m,Q,h1,h2,ha,hQ=>by
  show cmp (p.getD m 0) (p.getD (m - 1) 0) _ s
  refine hc _ _ (g.lt (by omega)) (g.lt (by omega)) _ ?_
  by_cases hlt:key (p.getD m 0)<key (p.getD (m - 1) 0)
  ·rw [K1 hlt]; (show (if true = true then _ else _ : KasT _).kasWp cmp _ s); rw [Js rfl, Jt (by omega)]
   refine wV g f (m+1) Q (by omega) (by omega) (fun i j hij hj=>?_) (fun m' a b c=>hQ m' (by omega) (by omega) c)
   by_cases ej:j=m
   ·subst ej
    by_cases ei:i=j - 1
    ·rw [ei];exact hlt
    ·have := ha i (j - 1) (by omega) (by omega)
     have:at' key p j<at' key p (j - 1):=hlt
     omega
   ·exact ha i j hij (by omega)
  ·rw [Jq hlt]; (show (if false = true then _ else _ : KasT _).kasWp cmp _ s); rw [Jt JX]
   show cmp (p.getD (m - 1) 0) (p.getD m 0) _ s
   refine hc _ _ (g.lt (by omega)) (g.lt (by omega)) _ ?_
   have hne:=y8 hkey g (k:=m) (k':=m - 1) (by omega) (by omega) (by omega)
   have hgt:key (p.getD (m - 1) 0)<key (p.getD m 0):=by unfold at' at hne;omega
   rw [K1 hgt];(show (if true=true then _ else _:KasT _).kasWp cmp _ s);rw [Js rfl]
   exact hQ m (J3 _) (by omega) ha
omit hkey hc in
theorem oM {p p':Array Nat}{k k':Nat} (h:p[k]?=p'[k']?):at' key p k=at' key p' k':=by
 unfold at'
 rw [LC,LC,h]
omit hkey hc in
theorem qP {p':Array Nat} (g:d6 n p) (h:p'.Perm p) (hs:p'.size=p.size):d6 n p':=⟨hs.trans g.size,(Array.perm_iff_toList_perm.mp h).trans g.perm⟩
omit hkey hc in
theorem B6 (g:d6 n p) {m:Nat} (hm:m<=n) (hd:Bm key p m):d6 n (kas_rev p 0 m)/\A4 key (kas_rev p 0 m) m:=by
 have hs:m<=p.size:=by rw [g.size];exact hm
 refine ⟨qP g (mirror_perm _ _ _ _) (mirror_size _ _ _ _),fun i j hij hj=>?_⟩
 have ei:at' key (kas_rev p 0 m) i=at' key p (0+m - 1 - i):=oM (by unfold kas_rev;rw [getElem?_mirror_all hs,Js ⟨Le _,by omega⟩])
 have ej:at' key (kas_rev p 0 m) j=at' key p (0+m - 1 - j):=oM (by unfold kas_rev;rw [getElem?_mirror_all hs,Js ⟨Le _,by omega⟩])
 rw [ei,ej]
 exact hd _ _ (by omega) (by omega)
theorem zF (g:d6 n p) {m:Nat} (h1:1<=m) (hm:m<=n) (hd:Bm key p m) (Q:Nat × Array Nat->Shared->Prop) (hQ:∀ m' p',d6 n p'->1<=m'->m'<=n->A4 key p' m'->Q (m',p') s):(kas_tail3 m n p).kasWp cmp Q s:=by
 obtain ⟨g',ha⟩:=B6 (key:=key) g hm hd
 unfold kas_tail3
 rw [Mi]
 exact vh hkey hc g' (n - m) m _ h1 (by omega) ha fun m' a b c d=>hQ m' _ g' (by omega) (by omega) c
theorem AS (g:d6 n p) (h2:2<=n) (Q:Nat × Array Nat->Shared->Prop) (hQ:∀ m' p',d6 n p'->1<=m'->m'<=n->A4 key p' m'->Q (m',p') s):(kas_count n p).kasWp cmp Q s:=by
 unfold kas_count
 rw [Mi]
 refine vh hkey hc g (n - 1) 1 _ (J3 _) (by omega) (fun i j hij hj=>by omega) fun m a b c d=>?_
 by_cases e:m=n
 ·rw [Js (by simpa using e)]
  exact hQ m p g a (by omega) c
 ·rw [Jt (by simpa using e)]
  by_cases h1:m > 1
  ·rw [Js h1]
   show cmp (p.getD 0 0) (p.getD (m - 1) 0) _ s
   refine hc _ _ (g.lt (by omega)) (g.lt (by omega)) _ ?_
   have:at' key p 0<at' key p (m - 1):=c 0 (m - 1) (by omega) (by omega)
   rw [K1 (show key (p.getD 0 0)<key (p.getD (m - 1) 0) from this)];(show (if true=true then _ else _:KasT _).kasWp cmp _ s);rw [Js rfl]
   exact hQ m p g a (by omega) c
  ·rw [Jt h1]
   have em:m=1:=by omega
   subst em
   unfold kas_descPart
   rw [Mi]
   have hlt:at' key p 1<at' key p 0:=d.elim (fun e'=>by omega) id
   refine wV hkey hc g (n - (1+1)) (1+1) _ (by omega) (by omega) (fun i j hij hj=>?_) fun m' a' b' c'=>?_
   ·have ei : i = 0 := by omega
    have ej:j=1:=by omega
    rw [ei,ej];exact hlt
   ·show (if (0 : Nat) > 0 then _ else _ : KasT (Nat × Array Nat)).kasWp cmp Q s
    rw [Jt (by omega)]
    exact zF hkey hc g (by omega) (by omega) c' Q hQ
theorem oW (g:d6 n p) {k:Nat} (hk:k<n) (ha:A4 key p k):∀ (f l r:Nat) (Q:Nat->Shared->Prop),l<=r->r<=k->r - l<=f->(∀ i,i<l->at' key p i<at' key p k)->(∀ i,r<=i->i<k->at' key p k<at' key p i) ->
  (∀ l',l'<=k->(∀ i,i<l'->at' key p i<at' key p k)->(∀ i,l'<=i->i<k->at' key p k<at' key p i)->Q l' s)->(kas_place p k f l r).kasWp cmp Q s
 | 0,l,r,Q,h1,h2,h3,ha1,hb1,hQ=>by
  have e:l=r:=by omega
  subst e
  exact hQ l h2 ha1 hb1
 | f+1,l,r,Q,h1,h2,h3,ha1,hb1,hQ=>by
  unfold kas_place
  by_cases e:l ≥ r
  ·rw [Js e]
   have e':l=r:=by omega
   subst e'
   exact hQ l h2 ha1 hb1
  ·rw [Jt e]
   show cmp (p.getD k 0) (p.getD ((l+r) / 2) 0) _ s
   refine hc _ _ (g.lt hk) (g.lt (by omega)) _ ?_
   by_cases hlt:key (p.getD k 0)<key (p.getD ((l+r) / 2) 0)
   ·rw [K1 hlt]; (show (if true = true then _ else _ : KasT _).kasWp cmp _ s); rw [Js rfl]
    refine oW g hk ha f l ((l+r) / 2) Q (by omega) (by omega) (by omega) ha1 (fun i hi hik=>?_) hQ
    by_cases ei:i=(l+r) / 2
    ·rw [ei];exact hlt
    ·have := ha ((l + r) / 2) i (by omega) hik
     have:at' key p k<at' key p ((l+r) / 2):=hlt
     omega
   ·rw [Jq hlt]; (show (if false = true then _ else _ : KasT _).kasWp cmp _ s); rw [Jt JX]
    have hne:=y8 hkey g (k:=k) (k':=(l+r) / 2) hk (by omega) (by omega)
    have hgt:at' key p ((l+r) / 2)<at' key p k:=by unfold at' at *;omega
    refine oW g hk ha f ((l+r) / 2+1) r Q (by omega) h2 (by omega) (fun i hi=>?_) hb1 hQ
    by_cases ei:i=(l+r) / 2
    ·rw [ei];exact hgt
    ·have := ha i ((l + r) / 2) (by omega) (by omega)
     omega
theorem zD:∀ (f:Nat) (p:Array Nat) (k:Nat) (Q:Array Nat->Shared->Prop),d6 n p->k+f=n->A4 key p k->(∀ p',d6 n p'->A4 key p' n->Q p' s)->(kas_bin f p k).kasWp cmp Q s
 | 0,p,k,Q,g,hk,ha,hQ=>by
  have e:k=n:=by omega
  rw [e] at ha
  exact hQ p g ha
 | f+1,p,k,Q,g,hk,ha,hQ=>by
  unfold kas_bin
  rw [Mi]
  refine oW hkey hc g (by omega) ha k 0 k _ (Le _) (J3 _) (by omega) (fun i hi=>by omega) (fun i h1 h2=>by omega) fun l hl ha1 hb1=>?_
  have hs:k<p.size:=by rw [g.size];omega
  refine zD f _ (k+1) Q (qP g (bubble_perm _ _ _) (bubble_size _ _ _)) (by omega) (fun i j hij hj=>?_) hQ
  have hb:∀ x,at' key (bubble p k (k - l)) x=if x=l then at' key p k else if l<x/\x<=k then at' key p (x - 1) else at' key p x:=fun x=>by
   have e:=getElem?_bubble hs (k - l) (by omega) x
   have el:k - (k - l)=l:=by omega
   rw [el] at e
   by_cases e1:x=l
   ·rw [Js e1] at e ⊢;exact oM e
   ·rw [Jt e1] at e ⊢
    by_cases e2:l<x/\x<=k
    ·rw [Js e2] at e ⊢;exact oM e
    ·rw [Jt e2] at e ⊢;exact oM e
  rw [hb i,hb j]
  by_cases i1:i=l
  ·rw [Js i1, Jt (by omega), Js ⟨by omega, by omega⟩]
   exact hb1 (j - 1) (by omega) (by omega)
  ·rw [Jt i1]
   by_cases i2:l<i/\i<=k
   ·rw [Js i2, Jt (by omega), Js ⟨by omega, by omega⟩]
    exact ha (i - 1) (j - 1) (by omega) (by omega)
   ·rw [Jt i2]
    have hi:i<l:=by omega
    by_cases j1:j=l
    ·rw [Js j1];exact ha1 i hi
    ·rw [Jt j1]
     by_cases j2:l<j/\j<=k
     ·rw [Js j2]
      by_cases ej:i=j - 1
      ·omega
      ·exact ha i (j - 1) (by omega) (by omega)
     ·rw [Jt j2];exact ha i j hij (by omega)
theorem BL (h2:2<=n) (Q:Array Nat->Shared->Prop) (hQ:∀ p',d6 n p'->A4 key p' n->Q p' s):(kas_sort n).kasWp cmp Q s:=by
 unfold kas_sort
 rw [Mi]
 have g0:d6 n (List.toArray (List.range n)):=⟨by simp,by simp⟩
 refine AS hkey hc g0 h2 _ fun m p' g h1 hm ha=>?_
 show (if m<n then _ else _:KasT (Array Nat)).kasWp cmp Q s
 by_cases e:m<n
 ·rw [Js e]
  have em:max m 1=m:=by omega
  rw [em]
  exact zD hkey hc (n - m) p' m Q g (by omega) ha hQ
 ·rw [Jt e]
  have em:m=n:=by omega
  rw [em] at ha
  exact hQ p' g ha
end
def nR (k:List Int):Int:=k.getD 0 0 * 6+k.getD 1 0
theorem ff {k:List Int} (h:k∈prs):∃ a b:Int,k=[a,b]/\0<=a/\a<b/\b<6:=by
 have key:∀ k∈prs,0<=k.getD 0 0/\k.getD 0 0<k.getD 1 0/\k.getD 1 0<6/\k=[k.getD 0 0,k.getD 1 0]:=by decide +kernel
 obtain ⟨h1,h2,h3,h4⟩:=key k h
 exact ⟨_,_,h4,h1,h2,h3⟩
theorem De {k k':List Int} (h:k∈prs) (h':k'∈prs) (e:nR k=nR k'):k=k':=by
 obtain ⟨a,b,rfl,h1,h2,h3⟩:=ff h
 obtain ⟨c,d,rfl,h4,h5,h6⟩:=ff h'
 have e':a * 6+b=c * 6+d:=e
 have:a=c:=by omega
 have:b=d:=by omega
 subst_vars;rfl
section
variable {prog:Program}{w:World}{A:Around}{E:Value->Shared->Prop}{s:Shared}
theorem u6 {h:Heap}{a b:Int}{r:Addr} (t:Tk prog w h [a,b] r):∃ o n t1 t2,h.get? r=some o/\o.cls=.type "tuple" /\ o.data=.seq #[.int a t1,.int b t2] n:=by
 obtain ⟨o,items,n,ho,hc,hd,hi⟩:=t
 cases hi':items.toList with
 | nil=>rw [hi'] at hi;cases hi
 | cons v1 r1=>
  rw [hi'] at hi
  cases hi with
  | cons h1 t1=>
   cases t1 with
   | cons h2 t2=>
    cases t2
    obtain ⟨x1,e1⟩:=Jp (k:=a) h1
    obtain ⟨x2,e2⟩:=Jp (k:=b) h2
    have e:items=#[.int a x1,.int b x2]:=by
     apply Array.toList_inj.mp;rw [hi',e1,e2]
    exact ⟨o,n,x1,x2,ho,hc,by rw [hd,e]⟩
theorem Co {x y:Addr}{k k':List Int}{Q:Bool->Shared->Prop} (hx:Tk prog w s.heap k x) (hy:Tk prog w s.heap k' y) (hk:k∈prs) (hk':k'∈prs) (h:Q (decide (nR k<nR k')) s) :
  wpAny (model prog w) A (keyLt' (tuples' true) (.ref x) (.ref y)) Q E s:=by
 obtain ⟨a,b,rfl,h1,h2,h3⟩:=ff hk
 obtain ⟨c,d,rfl,h4,h5,h6⟩:=ff hk'
 obtain ⟨o,n,t1,t2,ho,_,hd⟩:=u6 hx
 obtain ⟨o',n',t1',t2',ho',_,hd'⟩:=u6 hy
 have h':Q (decide (a * 6+b<c * 6+d)) s:=h
 refine kat_lt ho hd ho' hd' ?_
 show KatLex prog w A true (decide (2<2)) Q [(.int a t1,.int c t1'),(.int b t2,.int d t2')] 0 s
 refine kat_cons (Jr ?_)
 by_cases e1:a=c
 ·rw [show (a == c) = true by simpa using e1]
  refine kat_yes (kat_cons (Jr ?_))
  by_cases e2:b=d
  ·rw [show (b == d) = true by simpa using e2]
   refine kat_yes (kat_nil ?_)
   have:decide (a * 6+b<c * 6+d)=decide (2<2):=by rw [Mj];omega
   rw [<- this];exact h'
  ·rw [show (b == d) = false by simpa using e2]
   refine kat_no ?_
   show wpAny _ A (oneLt' false _ _) Q _ s
   refine kat_one _ _ (lt_int ?_)
   have:decide (a * 6+b<c * 6+d)=decide (b<d):=by rw [Mj];omega
   show Q _ s
   rw [<- this];exact h'
 ·rw [show (a == c) = false by simpa using e1]
  refine kat_no ?_
  show wpAny _ A (keyLt' oneType' _ _) Q _ s
  refine kat_lt_int ?_
  have:decide (a * 6+b<c * 6+d)=decide (a<c):=by rw [Mj];omega
  rw [<- this];exact h'
end
def ik (ps:List KP):Prop:=ps.Pairwise fun p q=>nR p.1<nR q.1
def aR (ps:List KP):List Value:=ps.map fun p=>Value.ref p.2
section
variable {prog:Program}{w:World}{A:Around}{E:Value->Shared->Prop}{s:Shared}
theorem wg {h:Heap}:∀ {ps:List KP},(∀ p∈ps,p.1∈prs)->(∀ p∈ps,Tk prog w h p.1 p.2)->∃ fs,KatTups h (aR ps) fs/\fs.length=ps.length/\∀ v∈fs,∃ i t,v=Value.int i t
 | [],_,_=>⟨[],KatTups.nil,rfl,fun v hv=>by simp at hv⟩
 | p::ps,hk,ht=>by
  obtain ⟨fs,h1,h2,h3⟩:=wg (ps:=ps) (fun q hq=>hk q (JF _ hq)) (fun q hq=>ht q (JF _ hq))
  obtain ⟨a,b,e,_⟩:=ff (hk p JE)
  have t:=ht p JE
  rw [e] at t
  obtain ⟨o,n,t1,t2,ho,hc,hd⟩:=u6 t
  refine ⟨.int a t1::fs,KatTups.cons ho hc hd rfl h1,by rw [K5,K5,h2],fun v hv=>?_⟩
  rcases JG.mp hv with q | q
  ·exact ⟨a,t1,q⟩
  ·exact h3 v q
theorem Fe {ps:List KP} (hk:∀ p∈ps,p.1∈prs) (hn:(ps.map (·.1)).Nodup) {p:Array Nat} (g:d6 ps.length p) (ha:A4 (fun i=>nR (ps.getD i ([],0)).1) p ps.length) :
  ∃ out:List KP,(p.toList.map fun i=>(aR ps).getD i Value.none)=aR out/\out.Perm ps/\ik out:=by
 refine ⟨p.toList.map fun i=>ps.getD i ([],0),?_,?_,?_⟩
 ·unfold aR
  rw [Lh]
  refine Li fun i hi=>?_
  have hi':i<ps.length:=JA.mp (g.perm.mem_iff.mp hi)
  simp [Ml,hi']
 ·refine (g.perm.map _).trans ?_
  have:(List.range ps.length).map (fun i=>ps.getD i ([],0))=ps:=by
   apply Mm
   intro i
   rw [Km]
   by_cases hi:i<ps.length
   ·rw [Mn hi];simp [hi]
   ·rw [Mo (by simpa using hi),Mo (by omega)];rfl
  rw [this]
 ·unfold ik
  rw [Mp]
  refine List.pairwise_iff_getElem.mpr fun i j hi hj hij=>?_
  have hi':i<p.size:=by simpa using hi
  have hj':j<p.size:=by simpa using hj
  have:=ha i j hij (by rw [<- g.size];exact hj')
  unfold at' at this
  simpa [Array.getD,hi',hj'] using this
theorem vq {a:Addr}{ps:List KP}{n:Nat}{P:PySem.Fin->Shared->Prop} (ho:s.heap.get? a=some (seqObj "list" (aR ps).toArray n)) (hk:∀ p∈ps,p.1∈prs) (hn:(ps.map (·.1)).Nodup) (hT:∀ p∈ps,Tk prog w s.heap p.1 p.2)
  (h:∀ out:List KP,out.Perm ps->ik out->P (.done (.ret .none)) { s with heap:=sortedHeap s.heap a (aR ps) (aR out).toArray }) :
  wpAny (model prog w) A (Builtin.«list.sort» ⟨[.ref a],[]⟩) P E s:=by
 have hlen:=j5 hk hn
 have hvl:(aR ps).length=ps.length:=by unfold aR;rw [Kr]
 rw [list_sort_plain]
 have hal:a<s.heap.objs.size:=Jv ho
 refine JT (listItems_at ho rfl ?_)
 refine JT (Mq ho rfl ?_ (by rw [Ka,hvl];exact JB hlen (by decide)) (Le _))
 obtain ⟨e1,ho1⟩:∃ e1,(s.heap.update a (Obj.mapSeq fun _=>#[])).get? a=some (seqObj "list" #[] e1):=⟨_,Mr ho (fun _=>#[])⟩
 refine JT (seqEpoch_at ho1 rfl ?_)
 refine JT (wpAny_newTuple ?_)
 refine JT (Ms ?_)
 refine JU ?_
 have ho6:(((s.heap.update a (Obj.mapSeq fun _=>#[])).push (seqObj "tuple" (aR ps).toArray 0)).push (seqObj "list" #[] 0)).get? a=some (seqObj "list" #[] e1):=by
  rw [Heap.get?_push_ne _ _ _ (by rw [Mt,Mu];exact Jy (K7 hal)),Heap.get?_push_ne _ _ _ (by rw [Mu];exact Jy hal)]
  exact ho1
 show wpAny (model prog w) A _ P E { s with heap:=((s.heap.update a (Obj.mapSeq fun _=>#[])).push (seqObj "tuple" (aR ps).toArray 0)).push (seqObj "list" #[] 0) }
 dsimp only
 have hna:∀ p∈ps,p.2≠a:=fun p hp e=>by
  obtain ⟨o,items,m,ho',hc',_⟩:=hT p hp
  rw [e,ho] at ho'
  have:=Ju ho'
  subst this
  exact absurd (show Value.type "list" = Value.type "tuple" from hc') (by decide)
 generalize hS:({ s with heap:=((s.heap.update a (Obj.mapSeq fun _=>#[])).push (seqObj "tuple" (aR ps).toArray 0)).push (seqObj "list" #[] 0) }:Shared)=s1
 have eh1:s1.heap=((s.heap.update a (Obj.mapSeq fun _=>#[])).push (seqObj "tuple" (aR ps).toArray 0)).push (seqObj "list" #[] 0):=by rw [<- hS]
 have hT1:∀ p∈ps,Tk prog w s1.heap p.1 p.2:=fun p hp=>by
  obtain ⟨o,items,m,ho',rest⟩:=hT p hp
  refine ⟨o,items,m,?_,rest⟩
  rw [eh1]
  refine J1 _ (J1 _ ?_)
  rw [Mv _ _ _ _ (hna p hp)]
  exact ho'
 rw [<- eh1] at ho6
 have hfin:∀ out:List KP,out.Perm ps->ik out->P (.done (.ret .none)) { s1 with heap:=s1.heap.update a (Obj.mapSeq fun _=>(aR out).toArray) }:=fun out h1 h2=>by
  have q:=h out h1 h2
  rw [<- hS]
  exact q
 have hszv:(aR ps).toArray.size=ps.length:=by rw [Ka,hvl]
 by_cases h2:(aR ps).toArray.size<2
 ·rw [Js h2, Js h2]
  refine JT (JZ ?_)
  rw [StateT.run_pure]
  refine JT (JZ ?_)
  dsimp only
  refine JT (seqEpoch_at ho6 rfl ?_)
  have eo:(arrOf (SortSt.mk' general' ((aR ps).toArray.zip (aR ps).toArray) #[] 7 none)).map (·.2)=(aR ps).toArray:=by
   show (((aR ps).toArray.zip (aR ps).toArray)).map (·.2)=_
   apply Array.toList_inj.mp
   rw [Array.toList_map,Array.toList_zip]
   exact List.map_snd_zip (J3 _)
  rw [eo]
  refine JT (Mq ho6 rfl ?_ (Le _) (by show (aR ps).toArray.size<=_;rw [hszv];exact JB hlen (by decide)))
  simp only [Mw,K4,Ky]
  refine JZ (hfin ps (List.Perm.refl _) ?_)
  rw [hszv] at h2
  match ps,h2 with
  | [],_=>exact List.Pairwise.nil
  | [_],_=>exact List.pairwise_singleton _ _
  | _::_::_,h=>rw [K5,K5] at h;omega
 ·rw [Jt h2, Jt h2]
  rw [hszv] at h2
  obtain ⟨fs,k1,k2,k3⟩:=wg hk hT1
  refine JT (kat_kind (T:=Value.type "int") k1 (by omega) (fun v hv=>?_) (by rfl) ?_)
  ·obtain ⟨i, t, e⟩ := k3 v hv
   rw [e];exact .now
  ·have et : (Value.type "int" != Value.type "tuple") = true := by decide
   rw [et]
   refine JT (JO (kat_run (ks:=aR ps) (vs:=aR ps) (Q:=fun st' s'=>s'=s1/\failedOf st'=none/\∃ out:List KP,out.Perm ps/\ik out/\(arrOf st').map (·.2)=(aR out).toArray)
    (G:=fun p s'=>s'=s1/\∃ out:List KP,(p.toList.map fun i=>(aR ps).getD i Value.none)=aR out/\out.Perm ps/\ik out) rfl (by rw [hvl];omega) (by rw [hvl];omega) ?_ ?_) ?_ fun _ _ e=>e)
   ·rintro p st' s' hp har hf ⟨e, out, o1, o2, o3⟩
    exact ⟨e,hf,out,o2,o3,by rw [kat_snds rfl har,o1]⟩
   ·rw [hvl]
    refine BL (key:=fun i=>nR (ps.getD i ([],0)).1) (fun i j hi hj e=>?_) (fun i j hi hj C hC=>?_) (by omega) _ (fun p g ha=>⟨rfl,Fe hk hn g ha⟩)
    ·have hi' : ps.getD i ([], 0) = ps[i] := by simp [Ml, hi]
     have hj':ps.getD j ([],0)=ps[j]:=by simp [Ml,hj]
     simp only [hi',hj'] at e
     have e2:=De (hk _ (Mx hi)) (hk _ (Mx hj)) e
     have hil:i<(ps.map (·.1)).length:=by rw [Kr];exact hi
     have hjl:j<(ps.map (·.1)).length:=by rw [Kr];exact hj
     exact (JL (h₀:=hil) (h₁:=hjl) hn).mp (by simpa using e2)
    ·unfold kas_ask
     have gi:(aR ps).getD i Value.none=.ref ps[i].2:=by unfold aR;simp [Ml,hi]
     have gj:(aR ps).getD j Value.none=.ref ps[j].2:=by unfold aR;simp [Ml,hj]
     have hi':ps.getD i ([],0)=ps[i]:=by simp [Ml,hi]
     have hj':ps.getD j ([],0)=ps[j]:=by simp [Ml,hj]
     rw [gi,gj]
     simp only [hi',hj'] at hC
     exact Co (hT1 _ (Mx hi)) (hT1 _ (Mx hj)) (hk _ (Mx hi)) (hk _ (Mx hj)) hC
   ·rintro ⟨⟨⟩, st'⟩ s' ⟨rfl, hf, out, o1, o2, o3⟩
    dsimp only
    refine JT (seqEpoch_at ho6 rfl ?_)
    rw [o3]
    refine JT (Mq ho6 rfl ?_ (Le _) (by show (aR out).toArray.size<=_;rw [Ka];unfold aR;rw [Kr,o1.length_eq];exact JB hlen (by decide)))
    rw [hf]
    simp only [Mw,K4,Ky]
    exact JZ (hfin out o1 o2)
end
end RS
namespace RS
open PySem PySem.W PyProof.Rows
namespace Fx
theorem slot_setiter_next:Slot "set_iterator" "__next__" "set_iterator.__next__" :=
 .of (owner:="set_iterator") (n:="__next__") (by rw [typeLookup_type,builtinLookup_eq_fast];kernel_rfl) (by decide +kernel) (by decide +kernel) (by decide +kernel)
  (by first | exact .inl (by decide +kernel) | exact .inr (by decide +kernel)) (by rw [L7];kernel_rfl)
theorem entry_setiter_next:entryFor table "set_iterator.__next__" = some Builtin.«set_iterator.__next__»:=entryFor_of_fast (by kernel_rfl)
theorem args_setiter_next (a:Value):argsOk "set_iterator.__next__" ⟨[a],[]⟩:=by unfold argsOk;kernel_rfl
theorem entry_set_iter:entryFor table "set.__iter__" = some Builtin.«frozenset.__iter__»:=
 entryFor_alias (id':="frozenset.__iter__") (by kernel_rfl) rfl (by decide +kernel) (by kernel_rfl)
end Fx
def df (h:Heap) (I S:Addr) (i n ep slot:Nat):Prop:=h.get? I=some { cls:=.type "set_iterator",dict:=none,data:=.fields #[.int (slot:Int) 0,.int (i:Int) 0,.ref S,.int (n:Int) 0,.int (ep:Int) 0],slots:=#[] }
def dj (w:World) (S:Addr) (ep:Nat) (es:Array (Int × Value)):List (Int × Value):=if w.params.followText "set-order" then (pickOrder (w.params.setOrder S ep) es).toList else es.toList
def cU (w:World) (Z:List (Nat × Int × Value)) (i:Nat):Nat:=if w.params.followText "set-order" then 0 else if i=0 then 0 else (Z.getD (i - 1) (0,0,.none)).1+1
theorem qE {α:Type} (next:Nat->Nat):∀ (fuel k:Nat) (left:List α) (out:Array α),left.length=fuel->(pickOrder.go next fuel k left out).toList.Perm (out.toList++left)
 | 0,k,left,out,h=>by
  have:left=[]:=List.length_eq_zero_iff.mp h
  subst this
  show out.toList.Perm (out.toList++[])
  rw [Kb]
 | fuel+1,k,left,out,h=>by
  have hlt:next k % left.length<left.length:=Nat.mod_lt _ (by omega)
  show (match left[next k % left.length]? with | some x=>_ | none=>_:Array α).toList.Perm _
  rw [My hlt]
  show (pickOrder.go next fuel (k+1) (left.eraseIdx (next k % left.length)) (out.push left[next k % left.length])).toList.Perm _
  refine (qE next fuel (k+1) _ _ (by rw [List.length_eraseIdx_of_lt hlt];omega)).trans ?_
  rw [Array.toList_push,KS]
  refine List.Perm.append_left _ ?_
  rw [List.singleton_append,List.eraseIdx_eq_take_drop_succ]
  have q:(left.take (next k % left.length)++left[next k % left.length]::left.drop (next k % left.length+1))=left:=by
   rw [List.getElem_cons_drop];exact Lx _ _
  have q2:=(List.perm_middle (a:=left[next k % left.length]) (l₁:=left.take (next k % left.length)) (l₂:=left.drop (next k % left.length+1))).symm
  rw [q] at q2
  exact q2
theorem jN {w:World}{S:Addr}{ep:Nat}{es:Array (Int × Value)}:(dj w S ep es).Perm es.toList:=by
 unfold dj
 split
 ·have := qE (w.params.setOrder S ep) es.size 0 es.toList #[] (by simp)
  simpa [pickOrder] using this
 ·exact List.Perm.refl _
theorem AX {t:SetTable}{es:Array (Int × Value)}{Z:List (Nat × Int × Value)} (T:qo t es Z) {w:World} (hb:w.params.followText "set-order" = false) {i:Nat} (hi:i<=Z.length):SetTable.below t.place (cU w Z i)=i:=by
 have r:A3 t.place.toList:=by rw [T.place];exact T.ris
 obtain ⟨b1,b2,b3⟩:=kW r (cU w Z i)
 have hsz:=T.size.1
 have gz:∀ k,k<Z.length->t.place.getD k (cU w Z i)=(Z.getD k (0,0,.none)).1:=fun k hk=>by
  have e:t.place[k]?=some (Z[k]).1:=by rw [<- KZ,T.place,Km,My hk];rfl
  rw [LC,e,Ml,My hk];rfl
 have hris:∀ a b,a<b->b<Z.length->(Z.getD a (0,0,.none)).1<(Z.getD b (0,0,.none)).1:=fun a b hab hbz=>by
  rw [<- gz a (by omega),<- gz b hbz]
  exact rY r _ a b hab (by omega)
 have hs:cU w Z i=if i=0 then 0 else (Z.getD (i - 1) (0,0,.none)).1+1:=by
  unfold cU;rw [hb,Jt JX]
 by_cases h0:i=0
 ·rw [Js h0] at hs
  rw [hs] at b2 ⊢
  by_cases hz:SetTable.below t.place 0=0
  ·rw [hz,h0]
  ·have:=b2 0 (by omega);omega
 ·rw [Jt h0] at hs
  have hlo:¬ SetTable.below t.place (cU w Z i)<=i - 1:=fun hle=>by
   have:=b3 (i - 1) hle (by omega)
   rw [gz _ (by omega)] at this
   omega
  have hhi:¬ i<SetTable.below t.place (cU w Z i):=fun hlt=>by
   have:=b2 i hlt
   have hiz:i<Z.length:=by omega
   rw [gz i hiz] at this
   have:=hris (i - 1) i (by omega) hiz
   omega
  omega
section
variable {prog:Program}{w:World}{A:Around}{E:Value->Shared->Prop}{s:Shared}
theorem tS {a:Addr}{ps:List (Int × Value)}{o es ep t Z}{i:Nat}{Q:Option (Value × Nat)->Shared->Prop} (S:du w s.heap a ps o es ep t Z) (hi:i<=Z.length)
  (h:Q (((dj w a ep es)[i]?).map fun e=>(e.2,cU w Z (i+1))) s):wpAny (model prog w) A (setNext a (cU w Z i) i ep) Q E s:=by
 unfold setNext
 refine JT (LQ S.ho S.hd S.fits ?_)
 dsimp only
 unfold setsByText
 refine JT (JT (Lc (JZ ?_)))
 cases hb:w.params.followText "set-order" with
 | true=>
  have e1:dj w a ep es=(pickOrder (w.params.setOrder a ep) es).toList:=by unfold dj;rw [hb,Js rfl]
  have e2:∀ j,cU w Z j=0:=fun j=>by unfold cU;rw [hb,Js rfl]
  rw [e1,e2] at h
  show wpAny _ _ (if (w.params.followText "set-order")=true then _ else _) _ _ _
  rw [hb,Js rfl]
  rw [Jt (by simp)]
  refine JT ?_
  unfold setWalk
  refine JT (LQ S.ho S.hd S.fits ?_)
  dsimp only
  unfold setsByText
  refine JT (JT (Lc (JZ ?_)))
  show wpAny _ _ (if (w.params.followText "set-order")=true then _ else _) _ _ _
  rw [hb,Js rfl]
  refine JT (Lc (JZ (JZ ?_)))
  rw [e2,<- KZ]
  exact h
 | false=>
  have e1:dj w a ep es=es.toList:=by unfold dj;rw [hb,Jt JX]
  have hled:t.led=true:=by rw [S.led,hb];rfl
  show wpAny _ _ (if (w.params.followText "set-order")=true then _ else _) _ _ _
  rw [hb,Jt JX]
  have hdr:(!t.plain && decide (es.size > 1))=false:=by rw [S.plain];rfl
  show wpAny _ _ (if (!t.plain && decide (es.size > 1))=true then _ else _) _ _ _
  rw [hdr,Jt JX]
  refine JT ?_
  show wpAny _ _ (if (!t.led && !es.isEmpty)=true then _ else _) _ _ _
  rw [hled]
  simp only [LO,Bool.false_and,K4,Ky]
  refine JZ (JZ ?_)
  rw [AX S.tab hb hi]
  rw [e1,KZ] at h
  by_cases hlt:i<Z.length
  ·have ez : Z[i]? = some Z[i] := My hlt
   have ee:=S.tab.hashAt ez
   have ep':t.place[i]?=some (Z[i]).1:=by rw [<- KZ,S.tab.place,Km,ez];rfl
   rw [ee,ep']
   rw [ee] at h
   have es':cU w Z (i+1)=(Z[i]).1+1:=by
    unfold cU
    rw [hb,Jt JX,Jt (by omega),Nat.add_sub_cancel,Ml,ez];rfl
   rw [es'] at h
   exact h
  ·have : es[i]? = none := by rw [LH, S.tab.size.2]; omega
   rw [this]
   rw [this] at h
   exact h
end
end RS
namespace RS
open PySem PySem.W PyProof.Rows
section
variable {prog:Program}{w:World}{A:Around}{E:Value->Shared->Prop}{s:Shared}
theorem df.typeIs {I S:Addr}{i n ep slot:Nat} (h:df s.heap I S i n ep slot):s.TypeIs (.ref I) "set_iterator" := ⟨_,h,rfl⟩
theorem gb {a:Addr}{ps:List (Int × Value)}{o es ep t Z} (S:du w s.heap a ps o es ep t Z):s.TypeIs (.ref a) "set" := ⟨o,S.ho,S.ex.1⟩
theorem zU {a:Addr}{ps:List (Int × Value)}{o es ep t Z}{Q:Value->Shared->Prop} (S:du w s.heap a ps o es ep t Z)
  (hQ:Q (.ref s.heap.objs.size) { s with heap:=s.heap.push { cls:=.type "set_iterator",data:=.fields #[.int ((0:Nat):Int) 0,.int ((0:Nat):Int) 0,.ref a,.int (Z.length:Int) 0,.int (ep:Int) 0] } }) :
  wpAny (model prog w) A (pyIter (.ref a)) Q E s:=by
 refine wpAny_pyIter_slot (gb S) PySem.F.slot_set_iter (KE PySem.F.slot_set_iter (gb S) Fx.entry_set_iter ?_ (PySem.F.args_set_iter_1 _))
 unfold Builtin.«frozenset.__iter__» Builtin.Frozenset.sizeOf
 refine JT (m:=Builtin.Frozenset.slot0 "__iter__" _) (L6 (a:=a) rfl ?_)
 refine JT (JT (Mz S.ho S.hd S.fits (JZ ?_)))
 unfold setDrawn
 refine JT (JT (LQ S.ho S.hd S.fits ?_))
 dsimp only
 unfold setsByText
 refine JT (JT (Lc (JZ (JZ ?_))))
 have hdr:(!w.params.followText "set-order" && (!t.plain && decide (es.size > 1)))=false:=by rw [S.plain];simp
 show wpAny _ _ (if (!w.params.followText "set-order" && (!t.plain && decide (es.size > 1)))=true then _ else _) _ _ _
 rw [hdr,Jt JX]
 refine JT (JZ ?_)
 refine JT (wpAny_setEpoch_of S.ho S.hd S.fits ?_)
 refine JT (KJ (JZ ⟨_,rfl, "set_iterator",_,⟨_,J2 _ rfl,rfl⟩,Fx.slot_setiter_next.lookup,?_⟩))
 rw [S.tab.size.2]
 exact hQ
theorem zV {I a:Addr}{ps:List (Int × Value)}{o es ep t Z}{i:Nat}{v:Int × Value}{Q:Option Value->Shared->Prop} (S:du w s.heap a ps o es ep t Z) (hit:df s.heap I a i Z.length ep (cU w Z i)) (hv:(dj w a ep es)[i]?=some v)
  (hQ:∀ h',df h' I a (i+1) Z.length ep (cU w Z (i+1))->Heap.SameBut I s.heap h'->Q (some v.2) { s with heap:=h' }):wpAny (model prog w) A (pyNext (.ref I)) Q E s:=by
 have hT:=hit.typeIs
 have hoi:=hit
 unfold df at hoi
 have hil:i<Z.length:=by
  have:=(JK.mp hv).1
  rw [jN.length_eq,JQ,S.tab.size.2] at this
  exact this
 unfold pyNext
 refine JT (wpAny_attempt (KC (name:=Str.ofString "__next__") hT Fx.slot_setiter_next (KE Fx.slot_setiter_next hT Fx.entry_setiter_next ?_ (Fx.args_setiter_next _))))
 unfold Builtin.«set_iterator.__next__»
 refine JT (m:=slotArgs "__next__" 0 _) (L6 (a:=(.ref I,[])) rfl ?_)
 dsimp only
 unfold fieldsOf
 refine JT (JT (J0 hoi ?_))
 refine JZ ?_
 refine JT (Mz S.ho S.hd S.fits ?_)
 rw [S.tab.size.2]
 simp only [Mw,K4,Ky,Kw]
 refine JT (tS S (JC hil) ?_)
 rw [hv]
 dsimp only [Option.map_some]
 refine JT (MC hoi (by simp) fun h1 e1 sb1=>?_)
 refine JT (MC (s:={ s with heap:=h1 }) e1 (by simp) fun h2 e2 sb2=>?_)
 refine JZ ⟨v.2,rfl,JZ (hQ h2 ?_ (sb1.trans sb2))⟩
 unfold df
 rw [e2]
 simp [rawInt]
theorem BS {I a:Addr}{ps:List (Int × Value)}{o es ep t Z}{Q:Option Value->Shared->Prop} (hh:A.handled=none) (S:du w s.heap a ps o es ep t Z) (hit:df s.heap I a Z.length Z.length ep (cU w Z Z.length))
  (hQ:∀ h',Heap.ExtBut I s.heap h'->Q none { s with heap:=h' }):wpAny (model prog w) A (pyNext (.ref I)) Q E s:=by
 have hT:=hit.typeIs
 have hoi:=hit
 unfold df at hoi
 have hv:(dj w a ep es)[Z.length]?=none:=by
  rw [List.getElem?_eq_none_iff,jN.length_eq,JQ,S.tab.size.2]
  exact J3 _
 unfold pyNext
 refine JT (wpAny_attempt (KC (name:=Str.ofString "__next__") hT Fx.slot_setiter_next (KE Fx.slot_setiter_next hT Fx.entry_setiter_next ?_ (Fx.args_setiter_next _))))
 unfold Builtin.«set_iterator.__next__»
 refine JT (m:=slotArgs "__next__" 0 _) (L6 (a:=(.ref I,[])) rfl ?_)
 dsimp only
 unfold fieldsOf
 refine JT (JT (J0 hoi ?_))
 refine JZ ?_
 refine JT (Mz S.ho S.hd S.fits ?_)
 rw [S.tab.size.2]
 simp only [Mw,K4,Ky,Kw]
 refine JT (tS S (J3 _) ?_)
 rw [hv]
 dsimp only [Option.map_none]
 refine JT (MC hoi (by simp) fun h1 e1 sb1=>?_)
 refine JT ?_
 simp only [newExc,newTuple]
 refine JT (KJ ?_ (by size_fits))
 refine JT (m:=firstArgMember _ _) (L6 (a:=Value.none) (by first | rfl | (simp only [firstArgMember];rfl)) ?_)
 refine KJ ?_ (by size_fits)
 simp only [raiseNew]
 refine JT (wpAny_handled ?_)
 rw [show A.in1.handled=none from hh]
 refine JT (JZ (wpAny_throw ?_))
 refine JT (wpAny_isInstance (T:="StopIteration") (b:=true) ⟨_,J2 _ rfl,rfl⟩ isSubtype_stop ?_)
 exact JZ (hQ _ ((sb1.extBut.push _).push _))
end
end RS
namespace RS
open PySem PySem.W PyProof.Rows
namespace Fx
theorem entry_extend_loop:entryFor table "list.extend.loop" = some Builtin.«list.extend.loop»:=entryFor_of_fast (by kernel_rfl)
theorem plain_extend_loop:plainId "list.extend.loop" = true:=by decide +kernel
theorem split_set_len:splitId "set.__len__" = some ("set", "__len__"):=by decide +kernel
end Fx
section
variable {prog:Program}{w:World}{A:Around}{E:Value->Shared->Prop}{s:Shared}
theorem uG {a:Addr}{ps:List (Int × Value)}{o es ep t Z}{Q:Bool->Shared->Prop} (S:du w s.heap a ps o es ep t Z) (h:Q false s):wpAny (model prog w) A (Builtin.List.listLengthHint (.ref a)) Q E s:=by
 unfold Builtin.List.listLengthHint
 refine JT (wpAny_specialOf (gb S) PySem.F.slot_set_len.lookup ?_)
 dsimp only
 rw [Fx.split_set_len]
 dsimp only
 refine JT (wpAny_isInstance (gb S) sub_set_self ?_)
 simp only [LO,K4,Ky]
 rw [Js (by rfl)]
 refine JT (KG (gb S) ?_)
 exact JZ h
theorem uH {R:Result->Shared->Prop}{I a L:Addr}{ps:List (Int × Value)}{o es ep t Z} (hh:A.handled=none) (hIa:I≠a) (hIL:I≠L) (hLa:L≠a) (hz:Z.length<=100) :
  ∀ (k i n:Nat) (s:Shared),Z.length - i=k->i<=Z.length->du w s.heap a ps o es ep t Z->df s.heap I a i Z.length ep (cU w Z i)->s.heap.get? L=some (seqObj "list" (((dj w a ep es).take i).map (·.2)).toArray n) ->
   (∀ h' m,(∀ b u,b≠I->b≠L->s.heap.get? b=some u->h'.get? b=some u)->h'.get? L=some (seqObj "list" ((dj w a ep es).map (·.2)).toArray m)->R (.ok (.ret (.ref L))) { s with heap:=h' }) ->
   codeAny (model prog w) A (.builtin "list.extend.loop" ⟨[.ref L,.ref I,.ref L],[]⟩) R s:=by
 intro k
 induction k with
 | zero=>
  intro i n s ek hi S hit hL hR
  have e:i=Z.length:=by omega
  subst e
  refine L3 Fx.entry_extend_loop ?_
  rw [L4 Fx.plain_extend_loop _]
  show wpAny _ A.in1 (pyNext (.ref I) >>= _) _ _ s
  refine JT (BS (by simpa using hh) S hit fun h' eb=>?_)
  show wpAny _ A.in1 (ret (.ref L)) _ _ _
  refine JZ (hR h' n (fun b u hb _ q=>eb b u hb q) ?_)
  rw [Lo (by rw [jN.length_eq,JQ,S.tab.size.2];exact J3 _)] at hL
  exact eb L _ (JH hIL) hL
 | succ k ih=>
  intro i n s ek hi S hit hL hR
  have hil:i<(dj w a ep es).length:=by rw [jN.length_eq,JQ,S.tab.size.2];omega
  refine L3 Fx.entry_extend_loop ?_
  rw [L4 Fx.plain_extend_loop _]
  show wpAny _ A.in1 (pyNext (.ref I) >>= _) _ _ s
  refine JT (zV S hit (My hil) fun h' hit' sb=>?_)
  have hL':h'.get? L=some (seqObj "list" (((dj w a ep es).take i).map (·.2)).toArray n):=(sb.2 L (JH hIL)).trans hL
  have hsz:(((dj w a ep es).take i).map (·.2)).toArray.size<=100:=by
   rw [Ka,Kr,Kh];omega
  show wpAny _ A.in1 (Builtin.List.listUpdate (.ref L) _ >>= _) _ _ _
  refine JT (Mq (s:={ s with heap:=h' }) hL' rfl ?_ (JB hsz (by decide)) (by rw [Array.size_push];exact JB (Nat.succ_le_succ hsz) (by decide)))
  have hL2:=Mr hL' (·.push ((dj w a ep es)[i]).2)
  have eL:(((dj w a ep es).take i).map (·.2)).toArray.push ((dj w a ep es)[i]).2=(((dj w a ep es).take (i+1)).map (·.2)).toArray:=by
   have q:(dj w a ep es).take (i+1)=(dj w a ep es).take i++[(dj w a ep es)[i]]:=by rw [Mg,My hil];rfl
   rw [q,Lz,List.push_toArray];rfl
  rw [eL] at hL2
  have hsb2:=LX h' L (Obj.mapSeq (·.push ((dj w a ep es)[i]).2))
  refine JZ ⟨plainId_quiet Fx.plain_extend_loop _,ih (i+1) _ _ (by omega) (by omega) ?_ ?_ hL2 fun h'' m kk hm=>?_⟩
  ·refine ⟨?_, S.ex, S.hd, S.tab, S.plain, S.led, S.big, S.perm⟩
   exact (hsb2.2 a (JH hLa)).trans ((sb.2 a (JH hIa)).trans S.ho)
  ·exact (hsb2.2 I hIL).trans hit'
  ·refine hR h'' m (fun b u hb1 hb2 q => kk b u hb1 hb2 ?_) hm
   exact (hsb2.2 b hb2).trans ((sb.2 b hb1).trans q)
theorem lX {α β:Type}{f:α->β}{l m:List β} (h:l.Perm m):∀ ps:List α,m=ps.map f->∃ qs:List α,qs.Perm ps/\l=qs.map f:=by
 induction h with
 | nil=>
  intro ps e
  have:ps=[]:=List.map_eq_nil_iff.mp e.symm
  exact ⟨[],by rw [this],rfl⟩
 | cons x _ ih=>
  intro ps e
  cases ps with
  | nil=>cases e
  | cons p ps=>
   rw [KM] at e
   obtain ⟨qs,h1,h2⟩:=ih ps (Ll e).2
   exact ⟨p::qs,h1.cons p,by rw [KM,<- h2,(Ll e).1]⟩
 | swap x y l=>
  intro ps e
  match ps,e with
  | p::q::r,e=>
   rw [KM,KM] at e
   obtain ⟨e1,e2⟩:=Ll e
   obtain ⟨e2,e3⟩:=Ll e2
   exact ⟨q::p::r,List.Perm.swap _ _ _,by rw [KM,KM,e1,e2,e3]⟩
 | trans _ _ ih1 ih2=>
  intro ps e
  obtain ⟨qs,h1,h2⟩:=ih2 ps e
  obtain ⟨rs,h3,h4⟩:=ih1 qs h2
  exact ⟨rs,h3.trans h1,h4⟩
theorem nq {a:Addr}{ps:List (Int × Value)}{o es ep t Z}{Q:List Value->Shared->Prop} (hh:A.handled=none) (S:du w s.heap a ps o es ep t Z) (hz:Z.length<=100)
  (h:∀ qs:List (Int × Value),qs.Perm ps->∀ h',(∀ b u,s.heap.get? b=some u->h'.get? b=some u)->s.heap.objs.size<=h'.objs.size->Q (qs.map (·.2)) { s with heap:=h' }):wpAny (model prog w) A (collect (.ref a)) Q E s:=by
 have hal:a<s.heap.objs.size:=Jv S.ho
 unfold collect
 refine JT (Mc (L3 entry_proto_collect' ?_))
 show wpAny _ _ (do again (.builtin "list.__iadd__" ⟨[<- newList [],.ref a],[]⟩)) _ _ s
 refine JT (Ms (JZ ⟨L9 _ (by decide +kernel),L3 entry_list_iadd' ?_⟩))
 show wpAny _ _ (Builtin.List.listExtendWith (.ref s.heap.objs.size) (.ref a) (.ref s.heap.objs.size)) _ _ { s with heap:=s.heap.push (seqObj "list" #[] 0) }
 have S1:du w (s.heap.push (seqObj "list" #[] 0)) a ps o es ep t Z:=⟨J1 _ S.ho,S.ex,S.hd,S.tab,S.plain,S.led,S.big,S.perm⟩
 unfold Builtin.List.listExtendWith
 refine JT (KG (gb (s:={ s with heap:=s.heap.push (seqObj "list" #[] 0) }) S1) ?_)
 have hsame:Builtin.List.listSameRef (.ref s.heap.objs.size) (.ref a)=false:=by
  show (s.heap.objs.size == a)=false
  simpa using JY hal
 rw [hsame,Jt (by decide)]
 refine JT (zU (s:={ s with heap:=s.heap.push (seqObj "list" #[] 0) }) S1 ?_)
 dsimp only
 generalize hH:(s.heap.push (seqObj "list" #[] 0)).push { cls:=.type "set_iterator",data:=.fields #[.int ((0:Nat):Int) 0,.int ((0:Nat):Int) 0,.ref a,.int (Z.length:Int) 0,.int (ep:Int) 0] }=H2
 have eI:(s.heap.push (seqObj "list" #[] 0)).objs.size=s.heap.objs.size+1:=by rw [Mt]
 have hk2:∀ b u,s.heap.get? b=some u->H2.get? b=some u:=fun b u q=>by rw [<- hH];exact J1 _ (J1 _ q)
 have S2:du w H2 a ps o es ep t Z:=⟨hk2 a o S.ho,S.ex,S.hd,S.tab,S.plain,S.led,S.big,S.perm⟩
 have hL2:H2.get? s.heap.objs.size=some (seqObj "list" #[] 0):=by rw [<- hH];exact J1 _ (J2 _ rfl)
 have hI2:H2.get? (s.heap.objs.size+1)=some { cls:=.type "set_iterator",data:=.fields #[.int ((0:Nat):Int) 0,.int ((0:Nat):Int) 0,.ref a,.int (Z.length:Int) 0,.int (ep:Int) 0] }:=by
  rw [<- hH,<- eI];exact J2 _ rfl
 rw [eI]
 refine JT (JU (uG (s:={ s with heap:=H2 }) S2 ?_))
 rw [Js (by rfl)]
 refine JT (Ld ?_)
 refine JT ?_
 unfold Builtin.List.listTouch
 refine JT (Mq (s:={ s with heap:=H2 }) hL2 rfl ?_ (Le _) (by decide))
 have hL3:=Mr hL2 (·.push Value.none)
 refine Mq (s:={ s with heap:=H2.update s.heap.objs.size (Obj.mapSeq (·.push Value.none)) }) hL3 rfl ?_ (by decide) (by decide)
 have hL4:=Mr hL3 (·.pop)
 have sb3:=LX H2 s.heap.objs.size (Obj.mapSeq (·.push Value.none))
 have sb4:=(sb3.trans (LX (H2.update s.heap.objs.size (Obj.mapSeq (·.push Value.none))) s.heap.objs.size (Obj.mapSeq (·.pop))))
 generalize hH4:(H2.update s.heap.objs.size (Obj.mapSeq (·.push Value.none))).update s.heap.objs.size (Obj.mapSeq (·.pop))=H4 at hL4 sb4
 have neL:a≠s.heap.objs.size:=Jy hal
 have neI:s.heap.objs.size+1≠s.heap.objs.size:=Nat.succ_ne_self _
 refine JZ ⟨L9 _ (by decide +kernel),?_⟩
 refine uH (by simpa using hh) (JY (K7 hal)) neI (JH neL) hz (Z.length - 0) 0 _ { s with heap:=H4 } (by omega) (Le _)
  ⟨(sb4.2 a neL).trans S2.ho,S.ex,S.hd,S.tab,S.plain,S.led,S.big,S.perm⟩ ?_ (by rw [List.take_zero];exact hL4) fun h' m kk hm=>?_
 ·unfold df
  have e0:cU w Z 0=0:=by unfold cU;split <;> simp
  rw [e0]
  exact (sb4.2 _ neI).trans hI2
 ·dsimp only
  refine JT (J0 hm ?_)
  refine JZ ?_
  have hp:(dj w a ep es).Perm ps:=jN.trans (by rw [S.tab.ents];exact S.perm)
  have fin:=h (dj w a ep es) hp h' fun b u q=>by
   have hb:b<s.heap.objs.size:=Jv q
   exact kk b u (Jy (K7 hb)) (Jy hb) ((sb4.2 b (Jy hb)).trans (hk2 b u q))
  exact fin (JC (Jv hm))
theorem uI {a:Addr}{ps:List KP}{Q:List Value->Shared->Prop} (hh:A.handled=none) (S:d4 w s.heap a ps)
  (h:∀ qs:List KP,qs.Perm ps->∀ h',(∀ b u,s.heap.get? b=some u->h'.get? b=some u)->s.heap.objs.size<=h'.objs.size->Q (aR qs) { s with heap:=h' }):wpAny (model prog w) A (collect (.ref a)) Q E s:=by
 obtain ⟨o,es,ep,t,Z,S,hk,hn⟩:=S
 have h15:=j5 hk hn
 refine nq hh S (by rw [S.len,Kr];omega) fun qs hq h' k1 k2=>?_
 obtain ⟨rs,q1,q2⟩:=lX hq ps rfl
 have q3:qs.map (·.2)=aR rs:=by rw [q2,Lh];rfl
 rw [q3]
 exact h rs q1 h' k1 k2
theorem xu {x:Value}{ps:List KP}{Q:Value->Shared->Prop} (hk:∀ p∈ps,p.1∈prs) (hn:(ps.map (·.1)).Nodup) (hT:∀ p∈ps,Tk prog w s.heap p.1 p.2)
  (hcol:∀ Q':List Value->Shared->Prop,(∀ qs:List KP,qs.Perm ps->∀ h',(∀ b u,s.heap.get? b=some u->h'.get? b=some u)->s.heap.objs.size<=h'.objs.size->Q' (aR qs) { s with heap:=h' })->wpAny (model prog w) A.in1 (collect x) Q' E s)
  (h:∀ out:List KP,out.Perm ps->ik out->∀ h' D,s.heap.objs.size<=D->(∀ b u,s.heap.get? b=some u->h'.get? b=some u)->(∃ n,h'.get? D=some (seqObj "list" (aR out).toArray n))->Q (.ref D) { s with heap:=h' }) :
  wpAny (model prog w) A (call (.builtin "sorted") [x]) Q E s:=by
 refine MD kind_sorted plain_sorted entry_sorted (args_sorted1 _) ?_
 unfold Builtin.«sorted»
 refine JT (m:=checkCount "sorted" 1 1 _) (JZ ?_)
 refine JT (hcol _ fun qs hqs h1 k1 hsz=>?_)
 have hkq:∀ p∈qs,p.1∈prs:=fun p hp=>hk p (hqs.mem_iff.mp hp)
 have hnq:(qs.map (·.1)).Nodup:=(hqs.map _).nodup_iff.mpr hn
 have hlen:=j5 hkq hnq
 have hvl:(aR qs).length<=15:=by unfold aR;rw [Kr];exact hlen
 refine JT (Ms ?_ (JB hvl (by decide)))
 have hoL:(h1.push (seqObj "list" (aR qs).toArray 0)).get? h1.objs.size=some (seqObj "list" (aR qs).toArray 0):=J2 _ rfl
 have hnn:∀ b u,h1.get? b=some u->b≠h1.objs.size:=fun b u q=>Jy (Jv q)
 refine JT (JU (KE slot_list_sort (s:={ s with heap:=h1.push (seqObj "list" (aR qs).toArray 0) }) ⟨_,hoL,rfl⟩ MF ?body (args_list_sort _)))
 case body=>
  refine vq (s:={ s with heap:=h1.push (seqObj "list" (aR qs).toArray 0) }) hoL hkq hnq (fun p hp=>?_) fun out h2 h3=>?_
  ·obtain ⟨o, its, n, ho, rest⟩ := hT p (hqs.mem_iff.mp hp)
   exact ⟨o,its,n,J1 _ (k1 _ _ ho),rest⟩
  ·refine ⟨_, rfl, JZ ⟨_, rfl, h out (h2.trans hqs) h3 _ h1.objs.size hsz (fun b u q => ?_) ?_⟩⟩
   ·have hb := hnn b u (k1 b u q)
    unfold sortedHeap
    rw [Mv _ _ _ _ hb]
    refine J1 _ (J1 _ ?_)
    rw [Mv _ _ _ _ hb]
    exact J1 _ (k1 b u q)
   ·unfold sortedHeap
    have g1:=Mr hoL (fun _=>#[])
    have g2:=J1 (seqObj "list" #[] 0) (J1 (seqObj "tuple" (aR qs).toArray 0) g1)
    exact ⟨_,Mr g2 (fun _=>(aR out).toArray)⟩
theorem vp {a:Addr}{ps:List KP}{Q:Value->Shared->Prop} (hh:A.handled=none) (S:d4 w s.heap a ps) (hT:∀ p∈ps,Tk prog w s.heap p.1 p.2)
  (h:∀ out:List KP,out.Perm ps->ik out->∀ h' D,s.heap.objs.size<=D->(∀ b u,s.heap.get? b=some u->h'.get? b=some u)->(∃ n,h'.get? D=some (seqObj "list" (aR out).toArray n))->Q (.ref D) { s with heap:=h' }) :
  wpAny (model prog w) A (call (.builtin "sorted") [.ref a]) Q E s:=by
 obtain ⟨o,es,ep,t,Z,S0,hk,hn⟩:=id S
 exact xu hk hn hT (fun Q' hq=>uI (by simpa using hh) S hq) h
end
end RS
namespace RS
open PySem PySem.W PyProof.Rows
theorem qo.free {t:SetTable}{es:Array (Int × Value)}{Z:List (Nat × Int × Value)} (T:qo t es Z) {h:Int} (cov:∀ j,j<=t.mask->j∈cx t.mask h) (hz:Z.length<=t.mask) (hA:Nat->Int) (hne:∀ i,hA i≠h) :
  ∃ j pre post,t.probe hA h (t.probeStart h)=some (.empty j none)/\j<=t.mask/\j ∉ Z.map (·.1)/\cx t.mask h=pre++j::post/\∀ k∈pre,k∈Z.map (·.1):=by
 obtain ⟨j0,hj0,hn0⟩:=qQ (m:=t.mask) (l:=Z.map (·.1)) (by rw [Kr];exact hz)
 obtain ⟨pre,j,post,e,hs,hp⟩:=jn (fun j=>j ∉ Z.map (·.1)) (cx t.mask h) ⟨j0,cov j0 hj0,hn0⟩
 have el:(w8 t.mask (SetTable.turns t.mask) (SetTable.bits h % (t.mask+1)) (SetTable.bits h)).length=pre.length+1+post.length:=by
  show (cx t.mask h).length=_
  rw [e,Kq,K5];omega
 have hw:ie t (pre.length+1+post.length) (t.probeStart h)=pre++j::post:=by
  have q:=oO t (SetTable.turns t.mask) (SetTable.bits h % (t.mask+1)) (SetTable.bits h) none
  rw [el] at q
  exact q.trans e
 have hlen:pre.length<10 * SetTable.turns t.mask:=by
  have q:=rX t.mask (SetTable.turns t.mask) (SetTable.bits h % (t.mask+1)) (SetTable.bits h)
  omega
 have occ:∀ k∈pre,k∈Z.map (·.1):=fun k hk=>Lq fun q=>hp k hk q
 have hpre:∀ k∈pre,∃ i,t.slot k=.live i/\hA i≠h:=fun k hk=>by
  obtain ⟨z,hzm,ez⟩:=Lp.mp (occ k hk)
  obtain ⟨i,hi⟩:=Ls hzm
  exact ⟨i,ez ▸ T.slot_live hi,hne i⟩
 obtain ⟨g1,g2⟩:=sf t hA h pre j post (10 * SetTable.turns t.mask) (t.probeStart h) hw hlen rfl hpre
 exact ⟨j,pre,post,g1 (T.slot_empty hs),i6 (h:=h) (by rw [e];simp),hs,e,occ⟩
abbrev KI:=Int × Tok
def yw (p:KI):Int × Value:=(hashInt p.1,Value.int p.1 p.2)
def ins:List Int:=[0,1,2,3,4,5]
theorem CY {i:Int}:i∈ins↔0<=i/\i<6:=by
 unfold ins
 simp only [JG,Md,Me]
 omega
def D1 (mask:Nat):Bool:=ins.all fun k=>(List.range (mask+1)).all fun j=>(cx mask (hashInt k)).contains j
theorem HC:D1 7=true:=by decide +kernel
theorem zB:D1 31=true:=by decide +kernel
theorem sh {mask:Nat} (h:D1 mask=true) {k:Int} (hk:k∈ins):∀ j,j<=mask->j∈cx mask (hashInt k):=fun j hj=>by
 have a:=LM.mp h k hk
 have b:=LM.mp a j (JA.mpr (by omega))
 simpa using b
theorem qN {a b:Int} (ha:a∈ins) (hb:b∈ins) (e:hashInt a=hashInt b):a=b:=by
 have key:∀ x∈ins,∀ y∈ins,hashInt x=hashInt y->x=y:=by decide +kernel
 exact key a ha b hb e
def cN (w:World) (h:Heap) (a:Addr) (ps:List KI):Prop:=∃ o es ep t Z,du w h a (ps.map yw) o es ep t Z/\(∀ p∈ps,p.1∈ins)/\(ps.map (·.1)).Nodup
theorem jO {ps:List KI} (hk:∀ p∈ps,p.1∈ins) (hn:(ps.map (·.1)).Nodup):ps.length<=6:=by
 have:=i0 hn (l2:=ins) (fun x hx=>by obtain ⟨p,hp,e⟩:=Lp.mp hx;rw [<- e];exact hk p hp)
 rw [Kr] at this
 exact this
theorem cN.keeps {w:World}{h h':Heap}{a:Addr}{ps:List KI} (S:cN w h a ps) (k:∀ o,h.get? a=some o->h'.get? a=some o):cN w h' a ps:=by
 obtain ⟨o,es,ep,t,Z,S,hk,hn⟩:=S
 exact ⟨o,es,ep,t,Z,⟨k o S.ho,S.ex,S.hd,S.tab,S.plain,S.led,S.big,S.perm⟩,hk,hn⟩
theorem IH {w:World}{h:Heap}{a:Addr}{ps:List (Int × Value)}{o es ep t Z} (S:du w h a ps o es ep t Z) {k:Int} (hk:k∈ins):∀ j,j<=t.mask->j∈cx t.mask (hashInt k):=by
 rcases S.big with ⟨h1,h2⟩ | ⟨h1,h2⟩ <;> rw [h1]
 ·exact sh HC hk
 ·exact sh zB hk
def sX (ps:List KI) (k:Int) (t:Tok):List KI:=if k∈ps.map (·.1) then ps else ps++[(k,t)]
section
variable {prog:Program}{w:World}{A:Around}{E:Value->Shared->Prop}{s:Shared}
theorem qB {a:Addr}{k:Int}{tk:Tok}{ps0:List (Int × Value)}{o es ep t Z} (S:du w s.heap a ps0 o es ep t Z) {Q:ScanMet->Shared->Prop} :
  ∀ (l:List (Int × Value)) (n:Nat),(∀ e∈l,∃ p:KI,e=yw p/\p.1∈ins)->k∈ins->((∃ e∈l,e.1=hashInt k)->∀ i,Q (.found i) s)->((∀ e∈l,e.1≠hashInt k)->Q .absent s)->wpAny (model prog w) A (setScanFrom a (.int k tk) (hashInt k) true l n) Q E s
 | [],n,_,_,h1,h2=>by
  unfold setScanFrom
  exact JZ (h2 fun e he=>by simp at he)
 | e::l,n,hl,hk,h1,h2=>by
  obtain ⟨p,rfl,hp⟩:=hl e JE
  show wpAny _ _ (setScanFrom a _ _ true ((hashInt p.1,Value.int p.1 p.2)::l) n) _ _ _
  unfold setScanFrom
  by_cases he:hashInt p.1=hashInt k
  ·rw [Js (by simpa using he)]
   have ek:=qN hp hk he
   refine JT (m:=setEpoch a) (wpAny_setEpoch_of S.ho S.hd S.fits ?_)
   refine JT (Jr ?_)
   rw [ek]
   simp only [K3,LR,KA]
   exact JZ (h1 ⟨_,JE,he⟩ _)
  ·rw [Jt (by simpa using he)]
   refine qB S l (n+1) (fun x hx=>hl x (JF _ hx)) hk (fun ⟨x,hx,ex⟩=>h1 ⟨x,JF _ hx,ex⟩) fun hx=>h2 fun x hxm=>?_
   rcases JG.mp hxm with z | z
   ·rw [z];exact he
   ·exact hx x z
theorem Di {a:Addr}{k:Int}{tk:Tok}{ps:List KI}{Q:Bool->Shared->Prop} (S:cN w s.heap a ps) (hk:k∈ins)
  (h:∀ b h',Heap.SameBut a s.heap h'->cN w h' a (sX ps k tk)->Q b { s with heap:=h' }):wpAny (model prog w) A (setAddHashed a (.int k tk) (hashInt k)) Q E s:=by
 obtain ⟨o,es,ep,t,Z,S,hk0,hn0⟩:=S
 have hent:∀ e∈es.toList,∃ p∈ps,e=yw p:=fun e he=>by
  rw [S.tab.ents] at he
  obtain ⟨p,hp,q⟩:=Lp.mp (S.perm.mem_iff.mp he)
  exact ⟨p,hp,q.symm⟩
 have hto:∀ p∈ps,yw p∈es.toList:=fun p hp=>by
  rw [S.tab.ents]
  exact S.perm.mem_iff.mpr (Lu hp)
 have hlen6:=jO hk0 hn0
 have hZl:Z.length=ps.length:=by rw [S.len,Kr]
 have hesz0:es.size=ps.length:=by rw [S.tab.size.2,hZl]
 have hz:Z.length<=t.mask:=by rcases S.big with ⟨q,q2⟩ | ⟨q,q2⟩ <;> omega
 unfold setAddHashed setAddHashedIn
 refine JU (JT (LQ S.ho S.hd S.fits ?_))
 dsimp only
 have hsc:byScan (Value.int k tk) es=true:=by
  unfold byScan
  have h1:decide (es.size<scanBound)=true:=K1 (by rw [hesz0];unfold scanBound;omega)
  have h2:es.all (fun x=>x.2.scannable)=true:=by
   rw [<- Array.all_toList,LM]
   intro e he
   obtain ⟨p,_,rfl⟩:=hent e he
   rfl
  rw [h1,h2];rfl
 rw [hsc]
 simp only [KA]
 refine JT ?_
 unfold setAddByScan
 refine JT (Ld ?_)
 refine JT ?_
 show wpAny _ _ (setScanFrom a (.int k tk) (hashInt k) true es.toList 0) _ _ _
 refine qB S es.toList 0 (fun e he=>by obtain ⟨p,hp,e'⟩:=hent e he;exact ⟨p,e',hk0 p hp⟩) hk (fun hex i=>?_) fun hno=>?_
 ·obtain ⟨e, he, q⟩ := hex
  obtain ⟨p,hp,rfl⟩:=hent e he
  have ek:p.1=k:=qN (hk0 p hp) hk q
  refine JZ (JZ ?_)
  have q:=h false s.heap (Heap.SameBut.refl a s.heap) (by
   unfold sX;rw [Js (by rw [<- ek];exact Lu hp)];exact ⟨o,es,ep,t,Z,S,hk0,hn0⟩)
  cases s;exact q
 ·have hin:k ∉ ps.map (·.1):=fun hx=>by
   obtain ⟨p,hp,e⟩:=Lp.mp hx
   exact hno _ (hto p hp) (by rw [<- e];rfl)
  dsimp only
  obtain ⟨j,pre,post,epr,hj,hn,e,hp⟩:=S.tab.free (IH S hk) hz (fun _=>hashInt k+1) (fun _=>by omega)
  obtain ⟨Z',T',hperm,et⟩:=S.tab.put (x:=Value.int k tk) hj hn e hp
  have hfree:t.freeSlot (hashInt k)=some (j,false):=by
   unfold SetTable.freeSlot;rw [epr];rfl
  have hpl:(t.put j).1.plain=true:=by rw [et];exact S.plain
  have hled:(t.put j).1.led=t.led:=by rw [et]
  have hmask:(t.put j).1.mask=t.mask:=by rw [et]
  have hperm':(Z'.map (·.2)).Perm ((ps++[(k,tk)]).map yw):=by
   refine (hperm.map (·.2)).trans ?_
   rw [KM,Lz]
   refine List.Perm.trans (List.Perm.cons _ S.perm) ?_
   exact (List.perm_append_singleton _ _).symm
  have hkeys:∀ p∈ps++[(k,tk)],p.1∈ins:=fun p hp'=>by
   rcases JI.mp hp' with q | q
   ·exact hk0 p q
   ·rw [Lf] at q;rw [q];exact hk
  have hnd:((ps++[(k,tk)]).map (·.1)).Nodup:=by
   rw [Lz]
   refine LU.mpr ⟨hn0,by simp,fun x hx y hy=>?_⟩
   simp at hy
   rw [hy];rintro rfl;exact hin hx
  have hlen:=jO hkeys hnd
  have hZ':Z'.length=ps.length+1:=by rw [hperm.length_eq,K5,hZl]
  have hesz:(SetTable.insertAt es (t.put j).2 (hashInt k,Value.int k tk)).size=Z'.length:=T'.size.2
  have hadd:sX ps k tk=ps++[(k,tk)]:=by unfold sX;rw [Jt hin]
  rw [hadd] at h
  rw [Kq,KY] at hlen
  have hfit:(t.put j).1.fits (SetTable.insertAt es (t.put j).2 (hashInt k,Value.int k tk)).size=true:=by
   unfold SetTable.fits
   rw [T'.fill,T'.size.1,hesz,hmask]
   rcases S.big with ⟨q,q2⟩ | ⟨q,q2⟩ <;> simp [q] <;> omega
  have hlay:layNew t es (hashInt k) (.int k tk)=(SetTable.insertAt es (t.put j).2 (hashInt k,Value.int k tk),(t.put j).1,false,false):=by
   unfold layNew
   rw [hfree]
   dsimp only
   unfold SetTable.orStandIn
   rw [hfit];rfl
  rw [hlay]
  dsimp only
  generalize ht1:(t.put j).1=t1 at *
  generalize hes1:SetTable.insertAt es (t.put j).2 (hashInt k,Value.int k tk)=es1 at *
  have hline:es1.size<=sizeLine:=by rw [hesz,hZ'];exact JB hlen (by decide)
  refine JT (JZ ?_)
  refine JT (JZ ?_)
  rw [hpl]
  simp only [KA]
  refine JT (m:=hashByValue 8 (.int k tk)) (JZ ?_)
  simp only [KA]
  refine JT (LV S.ho S.hd ?_ hline)
  have hg:(s.heap.update a (Obj.putSet es1 t1)).get? a=some { o with data:=.set es1 (ep+1) t1 }:=by
   have:=KN (Obj.putSet es1 t1) S.ho (by rw [LW es1 t1 S.hd];rfl)
   rw [LW es1 t1 S.hd] at this;exact this
  have hsb1:=LX s.heap a (Obj.putSet es1 t1)
  have hfill:t1.fill=ps.length+1:=by rw [T'.fill,hZ']
  by_cases hfull:t1.tooFull=true
  ·simp only [hfull, LY, LR, KA]
   have hm7:t.mask=7/\ps.length=4:=by
    unfold SetTable.tooFull at hfull
    rw [hfill,hmask] at hfull
    have hf:(ps.length+1) * 5 ≥ t.mask * 3:=by simpa using hfull
    rcases S.big with ⟨q,q2⟩ | ⟨q,q2⟩
    ·rw [q] at hf;exact ⟨q,by omega⟩
    ·rw [q] at hf;omega
   have hsz1:es1.size=5:=by rw [hesz,hZ',hm7.2]
   have hgr:SetTable.grown es1.size=20:=by rw [hsz1];rfl
   rw [hgr]
   obtain ⟨t2,order,Z2,er,T2,hp2,hm2,hl2,hpl2,hord⟩:=pC (t:=t1) (es:=es1) (wanted:=20) (mask:=31) (by rfl) (by rw [hsz1];decide) (fun e' he'=>by
    rw [T'.ents] at he'
    obtain ⟨p,hp',q⟩:=Lp.mp (hperm'.mem_iff.mp he')
    rw [<- q]
    exact sh zB (hkeys p hp'))
   have hZ2:Z2.length=5:=by
    have:=hp2.length_eq
    simp at this
    omega
   have hes2:(order.filterMap (es1[·]?)).size=5:=by rw [T2.size.2,hZ2]
   have hrel:relayAll t1 es1 20=(order.filterMap (es1[·]?),t2,false):=by
    unfold relayAll
    rw [er]
    dsimp only
    have c1:coversAll order es1.size=true:=by
     unfold coversAll
     exact List.isPerm_iff.mpr hord
    have c2:t2.fits (order.filterMap (es1[·]?)).size=true:=by
     unfold SetTable.fits
     rw [T2.fill,T2.size.1,hes2,hm2,hZ2];rfl
    rw [c1,c2];rfl
   rw [hrel]
   dsimp only
   refine JT (JT (JZ (JZ ?_)))
   refine JT (LV hg rfl ?_ (by rw [hes2];decide))
   have hg2:((s.heap.update a (Obj.putSet es1 t1)).update a (Obj.putSet (order.filterMap (es1[·]?)) t2)).get? a=some { o with data:=.set (order.filterMap (es1[·]?)) (ep+1+1) t2 }:=by
    have:=KN (Obj.putSet (order.filterMap (es1[·]?)) t2) hg (by rw [LW _ t2 rfl];rfl)
    rw [LW _ t2 rfl] at this;exact this
   refine JZ (JZ ?_)
   refine h true _ (hsb1.trans (LX _ a _)) ⟨_,_,_,t2,Z2,⟨hg2,S.ex,rfl,T2,by rw [hpl2];exact hpl,by rw [hl2,hled];exact S.led,.inr ⟨hm2,by omega⟩,?_⟩,hkeys,hnd⟩
   refine hp2.trans ?_
   rw [T'.ents];exact hperm'
  ·have hf : t1.tooFull = false := by simpa using hfull
   simp only [hf,Bool.and_false,K4,Ky]
   refine JZ (JZ ?_)
   refine h true _ hsb1 ⟨_,_,_,t1,Z',⟨hg,S.ex,rfl,T',hpl,by rw [hled];exact S.led,?_,hperm'⟩,hkeys,hnd⟩
   unfold SetTable.tooFull at hf
   rw [hfill,hmask] at hf
   have hf':¬ ((ps.length+1) * 5 ≥ t.mask * 3):=by simpa using hf
   rw [hmask,hZ']
   rcases S.big with ⟨q,q2⟩ | ⟨q,q2⟩
   ·rw [q] at hf' ⊢;exact .inl ⟨rfl,by omega⟩
   ·rw [q] at hf' ⊢;exact .inr ⟨rfl,by omega⟩
end
end RS
namespace L2
open PySem PySem.Spec PyProof.Rows
theorem dU.thr {P:Program}{w:World}{H:Hp}{h:Heap}{a:Addr}{o:HO} (x:dU P w H h a o):∃ ob,h.get? a=some ob:=by
 cases o with
 | lst xs=>obtain ⟨_,_,_,_,e⟩:=x;exact ⟨_,e⟩
 | tup xs=>obtain ⟨_,_,_,ob,e,_⟩:=x;exact ⟨_,e⟩
 | dK kvs=>obtain ⟨_,_,_,_,o,_,_,e,_⟩:=x;exact ⟨_,e⟩
 | dT kvs=>obtain ⟨_,_,_,_,o,_,_,e,_⟩:=x;exact ⟨_,e⟩
 | set S n=>obtain ⟨o,_,_,_,e,_⟩:=x;exact ⟨_,e⟩
 | ins C dx fs=>obtain ⟨_,_,_,e,_⟩:=x;exact ⟨_,e⟩
 | own y=>obtain ⟨_,e⟩:=x;exact ⟨_,e⟩
 | xd fs=>obtain ⟨_,⟨_,_,_,e,_⟩,_⟩:=x;exact ⟨_,e⟩
 | rng lo hi=>obtain ⟨_,_,_,e⟩:=x;exact ⟨_,e⟩
 | frz ob u=>obtain ⟨e,_⟩:=x;exact ⟨_,e⟩
 | tbl ps=>exact ⟨_,show h.get? a=some _ from x⟩
 | met f y=>exact ⟨_,show h.get? a=some _ from x⟩
 | ext φ=>obtain ⟨_,⟨_,e⟩,_⟩:=x;exact ⟨_,e⟩
theorem yG {fs:List Addr}{H0 H':Hp}{h0 h1 h' B:Heap} (u:Un fs [] H0 H' h0 h1) (hB:∀ b o,h0.get? b=some o->b ∉ fs->∃ o',B.get? b=some o') (k1:B.StaysIn h1) (k2:B.StaysIn h') (up:h1.UpToSlots h')
  (hf:∀ b∈fs,H0 b=none/\∃ o,h0.get? b=some o/\∀ vs,o.data≠.fields vs):Un fs [] H0 H' h0 h' where
 keep:=fun b o e n hb hx=>by
  obtain ⟨o',q⟩:=hB b o e hb
  have q1:=k1 b o' q
  rw [u.keep b o e n hb hx] at q1
  cases q1
  exact k2 b o q
 slot:=fun b o e n hb hx=>by
  obtain ⟨sl,q⟩:=u.slot b o e n hb hx
  obtain ⟨_,o1,e1,nf⟩:=hf b hb
  rw [e] at e1
  cases e1
  obtain ⟨sl',q'⟩:=up b _ q nf
  exact ⟨sl',q'⟩
 free:=u.free
 there:=fun b o e hx=>by
  by_cases hb:b∈fs
  ·obtain ⟨n, o1, e1, nf⟩ := hf b hb
   rw [e] at e1
   cases e1
   obtain ⟨sl,q⟩:=u.slot b o e n hb hx
   obtain ⟨sl',q'⟩:=up b _ q nf
   exact ⟨_,q'⟩
  ·obtain ⟨o', q⟩ := hB b o e hb
   exact ⟨o',k2 b o' q⟩
 tups:=u.tups
 frzs:=u.frzs
 tbls:=u.tbls
def Gj (P:Program) (w:World):sP:=fun outer H s E e s'=>
 ∃ ea C a0 B H',e=.ref ea/\s'.os=s.os/\AllBare s'.gens/\Un (mY outer) [] H H' s.heap s'.heap/\mf P w H' B/\Heap.FlyingW B outer ea (.ref C) a0 s'.heap/\H' ea=none /\
  (∀ b o,s.heap.get? b=some o->b ∉ mY outer->∃ o',B.get? b=some o')/\E (.ref C) (some ea) H'
section
variable {P:Program}{w:World}{K:W.Frag}{mg:Str->Option Value}{base:Heap}{N:List Str}{qual:Str}{scope:Scope}{f:Addr}{cdv:Value}{A:Around}{outer:List Env}{s0:Shared}{H0:Hp}{E:XK}
abbrev A0 (P:Program) (w:World) (K:W.Frag) (mg:Str->Option Value) (base:Heap) (N:List Str) (qual:Str) (scope:Scope) (f:Addr) (cdv:Value) (A:Around) (outer:List Env) (s0:Shared) (H0:Hp) (E:XK):Cx:=oi (Gj P w) P w K mg base N qual scope f cdv A outer s0 H0 E
theorem C3 {b:Addr} (hb:b∈mY (envOfC qual scope s0.heap.objs.size f cdv::outer)):b=s0.heap.objs.size\/b∈mY outer:=by
 obtain ⟨env,he,hf⟩:=J6.mp hb
 rcases JG.mp he with rfl | he
 ·exact .inl (Ju hf).symm
 ·exact .inr (J6.mpr ⟨env,he,hf⟩)
theorem nj {pins:List (Addr × Obj)}{σ:St}{H:Hp}{s:Shared} (I:aO (A0 P w K mg base N qual scope f cdv A outer s0 H0 E) pins σ H s) {b:Addr}{o:Obj} (e:s0.heap.get? b=some o) (hb:b ∉ mY outer) :
  (∃ o',s.heap.get? b=some o')/\b ∉ mY (envOfC qual scope s0.heap.objs.size f cdv::outer):=
 ⟨I.base.there b o e (fun z => by cases z), fun z => by
  rcases C3 z with z | z
  ·exact absurd (Jv e) (by rw [z];exact Jx _)
  ·exact hb z⟩
theorem qS {pins:List (Addr × Obj)}{σ:St}{H:Hp}{s:Shared} (I:aO (A0 P w K mg base N qual scope f cdv A outer s0 H0 E) pins σ H s):∀ b∈mY outer,H0 b=none/\∃ o,s0.heap.get? b=some o/\∀ vs,o.data≠.fields vs:=
 fun b hb=>⟨I.ok.frf b hb,(I.ok.funs.mem hb).2⟩
theorem yP:jg (Gj P w) (A0 P w K mg base N qual scope f cdv A outer s0 H0 E) E:=by
 intro pins σ H s e s' I hc
 obtain ⟨ea,C,a0,B,H',rfl,os,bare,un,hok,fl,hn,bk,q⟩:=hc
 have J:=I.call' os un (hok.kept fl.1) bare (ch:=[]) (fun b z=>absurd z (by simp))
 have hB:∀ b o,s0.heap.get? b=some o->b ∉ mY outer->∃ o',B.get? b=some o':=fun b o e hb=>by
  obtain ⟨⟨o1,e1⟩,nb⟩:=nj I e hb
  exact bk b o1 e1 nb
 refine wpAny_leaves_onW I.ok.frames rfl fl fun h' fl' up=>?_
 exact ⟨ea,C,a0,B,H',rfl,J.os,bare,yG J.base hB fl.1 fl'.1 up (qS I),hok,fl',hn,hB,q⟩
theorem FG {pins:List (Addr × Obj)}{σ:St}{H:Hp}{s s':Shared}{ea C:Addr}{vs:List Value} (I:aO (A0 P w K mg base N qual scope f cdv A outer s0 H0 E) pins σ H s) (hs:s'={ s with heap:=s'.heap })
  (hx:Heap.MadeExcOf s.heap s'.heap ea (.ref C) vs) (q:H ea=none->E (.ref C) (some ea) H):(A0 P w K mg base N qual scope f cdv A outer s0 H0 E).xe (.ref ea) s':=by
 have hn:H ea=none:=by
  cases z:H ea with
  | none=>rfl
  | some u=>
   obtain ⟨o,e⟩:=(I.hok ea u z).thr
   rw [hx.new] at e;cases e
 have hin:∀ env∈(envOfC qual scope s0.heap.objs.size f cdv::outer),∀ b,env.frame=some b->b∈mY (envOfC qual scope s0.heap.objs.size f cdv::outer):=fun env he b hb=>J6.mpr ⟨env,he,hb⟩
 have hst:(W.hideAll s.heap (mY (envOfC qual scope s0.heap.objs.size f cdv::outer))).StaysIn s.heap:=fun b o q=>W.of_hideAll _ q
 have hB:∀ b o,s0.heap.get? b=some o->b ∉ mY outer->∃ o',(W.hideAll s.heap (mY (envOfC qual scope s0.heap.objs.size f cdv::outer))).get? b=some o':=fun b o e hb=>by
  obtain ⟨⟨o1,e1⟩,nb⟩:=nj I e hb
  exact ⟨o1,W.hideAll_get _ e1 nb⟩
 have nfr:∀ c u,H c=some u->c ∉ mY (envOfC qual scope s0.heap.objs.size f cdv::outer):=fun c u e z=>by rw [I.stkFree c z] at e;cases e
 have hok:mf P w H (W.hideAll s.heap (mY (envOfC qual scope s0.heap.objs.size f cdv::outer))):=fun b u e=>
  (I.hok b u e).stay (fun c v hc r => W.hideAll_get _ r (by
   rcases hc with rfl | hc
   ·exact nfr _ _ e
   ·exact nfr _ _ hc)) (fun _ r=>r) fun _ _ r=>r
 show wpAny _ _ (leaving _ (.ref ea)) _ _ s'
 refine wpAny_leaves_madeW I.ok.frames rfl hst (W.funFrames_hide I.stack hin) hx fun h' t fl _ _ up=>?_
 rw [hs]
 exact ⟨ea,C,.ref t,_,H,rfl,I.os,I.bare,yG I.base hB hst fl.1 ((Heap.UpToSlots.of_keeps hx.keeps).trans up) (qS I),hok,fl,hn,hB,q hn⟩
def sY (mg:Str->Option Value) (base:Heap) (c:Str) (C:Addr):Prop:=∃ bm newId B initId,OwnCls c C bm newId mg base/\ExcBaseFacts B newId initId bm
theorem xF {c:Str}{C:Addr}{np cpos pos:Pos} (O:sY mg base c C) (hg:Gl (A0 P w K mg base N qual scope f cdv A outer s0 H0 E) c) (hd:(c == ("__debug__" : Str))=false) :
  PS (A0 P w K mg base N qual scope f cdv A outer s0 H0 E) (.Raise (some (.Call (.Name c np) [] [] cpos)) none pos) (fun _ _ H=>∀ ea,H ea=none->E (.ref C) (some ea) H):=by
 intro pins s σ H D I q
 obtain ⟨bm,newId,B,initId,O,FB⟩:=O
 obtain ⟨tl,Nn,nm,qn,bs,hdct,sn,sub,ab,col,dd,k0,k1,k2,k3,k5,mN,hC,hN,hni,T⟩:=O.obj
 refine wpAny_Raise_call_subT (C:=C) (nm:=nm) (q:=qn) (N:=Nn) (bs:=bs) (bm:=tl) (hdct:=hdct) (sn:=sn) (sub:=sub) (ab:=ab) (col:=col) (dd:=dd) (k0:=k0) (k1:=k1) (k2:=k2) (k3:=k3) (k5:=k5)
  FB (mN:=mN) (T.hasType FB.hasBase) (I.ok.hd rfl) rfl hni (lC I hg O.bound ⟨rfl,?_⟩ hd)
 exact evalArgs_empty ⟨rfl,Le _,I.bk _ _ hC,hN.keeps I.bk,T.keeps I.bk,fun h' e hm=>FG I rfl hm (q e)⟩
end
structure Cx.Fn (X:Cx):Prop where
 ex:X.ex=[]
 stk:X.stack=X.env::X.outer
 fr:X.env.frame=some X.env.locals
def HE (X:Cx) (pins:List (Addr × Obj)) (E:XK) (e:Value) (s':Shared):Prop:=
 ∃ ea C a0 B σ H',e=.ref ea/\aO X pins σ H' s'/\mf X.prog X.w H' B/\Heap.FlyingW B X.stack ea (.ref C) a0 s'.heap/\H' ea=none /\
  (∀ b o,X.s₀.heap.get? b=some o->b ∉ X.fs->∃ o',B.get? b=some o')/\(∀ p∈X.pn++pins,∃ o',B.get? p.1=some o')/\E (.ref C) (some ea) H'
abbrev Cx.tri (X:Cx) (pins:List (Addr × Obj)) (E:XK):Cx:={ X with pn:=X.pn++pins,xe:=HE X pins E }
theorem Cx.Ok.tri {X:Cx}{pins:List (Addr × Obj)}{E:XK} (ok:X.Ok):(X.tri pins E).Ok:=
 ⟨ok.mod,ok.kind,ok.glob,ok.blt,ok.above,ok.inj,ok.has,ok.cab,ok.hd,ok.frames,ok.stk,ok.exf,ok.bs,ok.bsz,ok.noex,ok.exfs,ok.funs,ok.frf⟩
theorem Cx.Ok.untri {X:Cx}{pins:List (Addr × Obj)}{E:XK} (ok:(X.tri pins E).Ok):X.Ok:=
 ⟨ok.mod,ok.kind,ok.glob,ok.blt,ok.above,ok.inj,ok.has,ok.cab,ok.hd,ok.frames,ok.stk,ok.exf,ok.bs,ok.bsz,ok.noex,ok.exfs,ok.funs,ok.frf⟩
section
variable {X:Cx}{pins pins':List (Addr × Obj)}{σ:St}{H:Hp}{s:Shared}{E:XK}
theorem aO.tri (I:aO X pins σ H s):aO (X.tri pins E) [] σ H s:=
 ⟨I.ok.tri,I.os,I.bare,I.base,I.loc,I.cell,I.free,I.freeC,fun p hp=>I.pin p (by simpa using hp),I.hok,I.len⟩
theorem aO.untri (I:aO (X.tri pins E) pins' σ H s):aO X pins σ H s:=
 ⟨I.ok.untri,I.os,I.bare,I.base,I.loc,I.cell,I.free,I.freeC,fun p hp=>I.pin p (JJ _ hp),I.hok,I.len⟩
theorem SP.untri {D:ml}{f:Flow}{s':Shared} (h:SP (X.tri pins E) pins' D f s'):SP X pins D f s':=by
 cases f with
 | next=>obtain ⟨σ',H',I,q⟩:=h;exact ⟨σ',H',I.untri,q⟩
 | brk=>obtain ⟨σ',H',I,q⟩:=h;exact ⟨σ',H',I.untri,q⟩
 | cont=>obtain ⟨σ',H',I,q⟩:=h;exact ⟨σ',H',I.untri,q⟩
 | ret u=>obtain ⟨v,σ',H',I,r,q⟩:=h;exact ⟨v,σ',H',I.untri,r,q⟩
end
theorem wO {X:Cx} (F:X.Fn) {b:Addr} (hb:b∈mY X.stack):b=X.env.locals\/b∈X.fs:=by
 rw [F.stk] at hb
 obtain ⟨env,he,hf⟩:=J6.mp hb
 rcases JG.mp he with rfl | he
 ·rw [F.fr] at hf;exact .inl (Ju hf).symm
 ·exact .inr (J6.mpr ⟨env,he,hf⟩)
theorem yO {X:Cx}{pins:List (Addr × Obj)}{E:XK} (F:X.Fn):jg (Gj X.prog X.w) (X.tri pins E) E:=by
 intro pins' σ H s e s' I hc
 obtain ⟨ea,C,a0,B,H',rfl,os,bare,un,hok,fl,hn,bk,q⟩:=hc
 have J:=I.call' os un (hok.kept fl.1) bare (ch:=[]) (fun b z=>absurd z (by simp))
 refine ⟨ea,C,a0,B,σ,H',rfl,J.untri,hok,fl,hn,fun b o e hb=>?_,fun p hp=>?_,q⟩
 ·obtain ⟨o1, e1⟩ := I.base.there b o e (by show b ∉ X.ex; rw [F.ex]; exact fun z => by cases z)
  refine bk b o1 e1 fun z=>?_
  rcases wO F z with z | z
  ·have := I.ok.above
   rw [z] at e
   exact absurd (Jv e) (Nat.not_lt.mpr this)
  ·exact hb z
 ·obtain ⟨p1, p2, p3, p4, p5⟩ := I.pin p (JJ _ hp)
  refine bk p.1 p.2 p1 fun z=>?_
  rcases wO F z with z | z
  ·exact p3 z
  ·exact p4 z
theorem wX {h h':Heap}{c:Addr}{v:Option Value} (x:h.IsCell c v) (up:h.UpToSlots h'):h'.IsCell c v:=by
 obtain ⟨o,ho,hd⟩:=x
 obtain ⟨sl,q⟩:=up c o ho fun vs z=>by rw [hd] at z;cases z
 exact ⟨_,q,hd⟩
section
variable {X:Cx}{pins:List (Addr × Obj)}{σ:St}{H:Hp}{s:Shared}{h' B:Heap}{ea C:Addr}{a0:Value}
theorem aO.up (F:X.Fn) (I:aO X pins σ H s) (hok:mf X.prog X.w H B) (c1:∀ b o,X.s₀.heap.get? b=some o->b ∉ X.fs->∃ o',B.get? b=some o') (c2:∀ p∈X.pn++pins,∃ o',B.get? p.1=some o')
  (k1:B.StaysIn s.heap) (k2:B.StaysIn h') (up:s.heap.UpToSlots h'):aO X pins σ H { s with heap:=h' }:=by
 have hb:Un X.fs [] X.H₀ H X.s₀.heap h':=yG (by rw [<- F.ex];exact I.base) c1 k1 k2 up fun b hb=>⟨I.ok.frf b hb,(I.ok.funs.mem hb).2⟩
 refine ⟨I.ok,I.os,I.bare,by rw [F.ex];exact hb,?_,fun x c e=>?_,I.free,I.freeC,fun p hp=>?_,hok.kept k2,I.len⟩
 ·obtain ⟨m, hn, hl⟩ := I.loc
  refine ⟨m,up.ns hn,fun i x v a b c=>?_⟩
  obtain ⟨u,r,l⟩:=hl i x v a b c
  refine ⟨u,r,?_⟩
  rcases l with l | ⟨k,c,e,hc⟩
  ·exact .inl l
  ·exact .inr ⟨k,c,e,wX hc up⟩
 ·obtain ⟨v, hv⟩ := I.cell x c e
  exact ⟨v,wX hv up⟩
 ·obtain ⟨p1, p2⟩ := I.pin p hp
  obtain ⟨o',e⟩:=c2 p hp
  have e1:=k1 _ _ e
  rw [p1] at e1
  cases e1
  exact ⟨k2 _ _ e,p2⟩
def tf (ea C:Addr):HO:=.ext fun h=>∃ oe,h.get? ea=some oe/\oe.cls=.ref C
theorem Un.track {fs ex:List Addr}{H0:Hp}{h0 h:Heap}{o:HO} (u:Un fs ex H0 H h0 h) (hn:h0.get? ea=none) (hH:H ea=none):Un fs ex H0 (cK H ea o) h0 h where
 keep:=u.keep
 slot:=u.slot
 free:=fun b ob e n hx=>by rw [bt fun z=>by rw [z,hn] at e;cases e];exact u.free b ob e n hx
 there:=u.there
 tups:=fun b xs q=>by have:=u.tups b xs q;rw [bt (bP this hH)];exact this
 frzs:=fun b ob xs q=>by have:=u.frzs b ob xs q;rw [bt (bP this hH)];exact this
 tbls:=fun b ps q=>by obtain ⟨m,this⟩:=u.tbls b ps q;exact ⟨m,by rw [bt (bP this hH)];exact this⟩
theorem aO.track (F:X.Fn) (I:aO X pins σ H s) (c1:∀ b o,X.s₀.heap.get? b=some o->b ∉ X.fs->∃ o',B.get? b=some o') (c2:∀ p∈X.pn++pins,∃ o',B.get? p.1=some o')
  (fl:Heap.FlyingW B X.stack ea (.ref C) a0 s.heap) (hH:H ea=none):aO X pins σ (cK H ea (tf ea C)) s:=by
 obtain ⟨f1,f2,f3,oe,vs,T,oT,ts,he,⟨hc,_⟩,hd,_⟩:=fl
 have hn:X.s₀.heap.get? ea=none:=by
  cases z:X.s₀.heap.get? ea with
  | none=>rfl
  | some o=>
   by_cases hf:ea∈X.fs
   ·obtain ⟨_, o1, e1, nf⟩ := I.ok.funs.mem hf
    obtain ⟨sl,e2⟩:=I.base.slot ea o1 e1 (I.ok.frf ea hf) hf (by rw [F.ex];exact fun z=>by cases z)
    rw [he] at e2
    cases e2
    exact absurd hd (nf vs)
   ·obtain ⟨o', e⟩ := c1 ea o z hf
    rw [f2] at e;cases e
 have nl:X.env.locals≠ea:=fun z=>by
  obtain ⟨m,⟨o',es,ep,ho',hd',_⟩,_⟩:=I.loc
  rw [z,he] at ho';cases ho';rw [hd] at hd';cases hd'
 refine ⟨I.ok,I.os,I.bare,I.base.track hn hH,I.loc,I.cell,by rw [bt nl];exact I.free,fun x c e=>?_,fun p hp=>?_,fun b u q=>?_,I.len⟩
 ·rw [bt fun z => ?_]
  ·exact I.freeC x c e
  ·obtain ⟨v, o', ho', hd'⟩ := I.cell x c e
   rw [z,he] at ho';cases ho';rw [hd] at hd';cases hd'
 ·obtain ⟨p1, p2, p3, p4, p5⟩ := I.pin p hp
  refine ⟨p1,?_,p3,p4,p5⟩
  rw [bt fun z=>?_]
  ·exact p2
  ·obtain ⟨o', e⟩ := c2 p hp
   rw [z,f2] at e;cases e
 ·by_cases hb : b = ea
  ·subst hb
   rw [cy] at q
   cases q
   refine ⟨⟨oe,he,hc⟩,⟨oe,he⟩,fun h1 h2 a k=>?_⟩
   obtain ⟨o,e,c⟩:=a
   exact ⟨o,k o e,c⟩
  ·rw [bt hb] at q
   exact (I.hok b u q).stay (fun _ _ _ r=>r) (fun c r=>by rw [bt (bP r hH)];exact r) fun c xs r=>by rw [bt (bP r hH)];exact r
end
abbrev Cx.hnd (X:Cx) (ea:Addr):Cx:={ X with A:=X.A.mark (some (.ref ea)),calm:=false,xe:=fun _ _=>False }
theorem aO.hnd {X:Cx}{pins:List (Addr × Obj)}{σ:St}{H:Hp}{s:Shared}{ea:Addr} (I:aO X pins σ H s):aO (X.hnd ea) pins σ H s:=
 ⟨⟨I.ok.mod, I.ok.kind, I.ok.glob, I.ok.blt, I.ok.above, I.ok.inj, I.ok.has, I.ok.cab, (fun z => by cases z), I.ok.frames, I.ok.stk, I.ok.exf, I.ok.bs, I.ok.bsz, I.ok.noex, I.ok.exfs, I.ok.funs, I.ok.frf⟩,
   I.os,I.bare,I.base,I.loc,I.cell,I.free,I.freeC,I.pin,I.hok,I.len⟩
theorem aO.unhnd {X:Cx}{pins:List (Addr × Obj)}{σ:St}{H:Hp}{s:Shared}{ea:Addr} (ok:X.Ok) (I:aO (X.hnd ea) pins σ H s):aO X pins σ H s:=
 ⟨ok,I.os,I.bare,I.base,I.loc,I.cell,I.free,I.freeC,I.pin,I.hok,I.len⟩
theorem aO.forget {X:Cx}{pins:List (Addr × Obj)}{σ:St}{H:Hp}{s:Shared}{h':Heap}{t':Nat}{m:Str->Option Value} (I:aO X pins σ H s) (hn:h'.Ns X.env.locals m) (sb:Heap.SameBut X.env.locals s.heap h') :
  aO X pins (List.replicate X.N.length none) H { s with heap:=h',toks:=t' }:=by
 have ne:∀ b o,X.s₀.heap.get? b=some o->b≠X.env.locals:=fun b o e z=>by
  have:=I.ok.above
  rw [z] at e
  exact absurd (Jv e) (Nat.not_lt.mpr this)
 have same:∀ b,b≠X.env.locals->h'.get? b=s.heap.get? b:=fun b hb=>sb.2 b hb
 refine ⟨I.ok,I.os,I.bare,⟨fun b o e n hb hx=>?_,fun b o e n hb hx=>?_,I.base.free,fun b o e hx=>?_,I.base.tups,I.base.frzs,I.base.tbls⟩,⟨m,hn,fun i x v _ e=>?_⟩,fun x c e=>?_,I.free,I.freeC,fun p hp=>?_,fun b u q=>?_,by simp⟩
 ·rw [same b (ne b o e)];exact I.base.keep b o e n hb hx
 ·rw [same b (ne b o e)];exact I.base.slot b o e n hb hx
 ·rw [same b (ne b o e)];exact I.base.there b o e hx
 ·rw [Kk] at e
  split at e <;> cases e
 ·obtain ⟨v, o, ho, hd⟩ := I.cell x c e
  exact ⟨v,o,by rw [same c (I.cne x c e)];exact ho,hd⟩
 ·obtain ⟨p1, p2, p3, p4⟩ := I.pin p hp
  exact ⟨by rw [same _ p3];exact p1,p2,p3,p4⟩
 ·have nb : ∀ c u, H c = some u -> c ≠ X.env.locals := fun c u e z => by rw [z, I.free] at e; cases e
  exact (I.hok b u q).stay (fun c v hc r=>by
   rw [same c]
   ·exact r
   ·rcases hc with rfl | hc
    ·exact nb _ _ q
    ·exact nb _ _ hc) (fun _ r=>r) fun _ _ r=>r
theorem EU {X:Cx} (F:X.Fn) {r n:Str}{R:Addr}{i:Nat}{np hpos pos:Pos}{body suite:List Stmt}{b0:Stmt}{tb:XK->TS}{th:TS}
  (hN:X.N.Nodup) (hi:X.N[i]?=some n) (hx:xa X.env.scope n) (hl:X.env.kindOf n=some .local) (hg:Gl X r) (hm:X.mg r=some (.ref R)) (hd:(r == ("__debug__" : Str))=false)
  (hb:∀ pins E,iO (X.tri pins E) body (tb E)) (hs:∀ ea,iO (X.hnd ea) (b0::suite) th) :
  PS X (.Try body [.ExceptHandler (some (.Name r np)) (some n) (b0::suite) hpos] [] [] pos) (fun D σ H=>∃ E:XK,(∀ C ea H',E (.ref C) (some ea) H'->H' ea=none->W.exmOne X.K (.ref C) (.ref R)=some true /\
   ∀ σ':St,σ'.length=X.N.length->th { nx:=fun _ _=>False,rt:=D.rt } (σ'.set i (some (.ref ea))) (cK H' ea (tf ea C)))/\tb E D σ H):=by
 intro pins s σ H D I hq
 obtain ⟨E,hE,hq⟩:=hq
 refine wpAny_Try_except (JO (hb pins E [] s σ H D I.tri hq) (fun f s1 h1=>?_) fun e s1 h1=>?_)
 ·cases f with
  | next=>exact JS (SP.untri h1)
  | brk=>exact SP.untri h1
  | cont=>exact SP.untri h1
  | ret u=>exact SP.untri h1
 ·obtain ⟨ea, C, a0, B, σ1, H1, rfl, I1, hok, fl, hn, c1, c2, q⟩ := h1
  obtain ⟨q1,q2⟩:=hE C ea H1 q hn
  have fl0:=fl
  rw [F.stk] at fl
  refine wpAny_looks_onW (by rw [<- F.stk];exact I.ok.frames) F.fr fl fun h4 held4 up4=>?_
  refine wpAny_landsW held4 fun h5 fl5 up5=>?_
  have fl5':=fl5
  rw [<- F.stk] at fl5'
  have I5:=I1.up F hok c1 c2 fl0.1 fl5.1 (up4.trans up5)
  have J5:aO (X.hnd ea) pins σ1 H1 { s1 with heap:=h5 }:=I5.hnd
  refine wpAny_handleBy_cons (codeAny_handlers_test (lC J5 hg hm ?_ hd)) (by intro q;cases q)
  obtain ⟨ob,hob,hobc⟩:=fl5.there
  have LT:W.Looks (model X.prog X.w) h5 (typeOf (.ref ea)) (.ref C):=by
   rw [<- hobc]
   exact (W.Looks.ld hob).andThen .now
  refine (W.exm_one J5.kIn LT q1).here (codeAny_handlers_suite_as ?_)
  refine lands_againW fl5 fun h6 fl6 up6=>?_
  have fl6':=fl6
  rw [<- F.stk] at fl6'
  have I6:=I5.up F hok c1 c2 fl5.1 fl6.1 up6
  have I6':=I6.track F c1 c2 fl6' hn
  refine lG (v:=.ref ea) I6' hN hi hx rfl (fun s7 I7=>?_) (.inr hl)
  refine JO (hs ea pins s7 _ _ _ I7.hnd (q2 σ1 I1.len)) (fun f s8 h8=>?_) fun _ _ z=>False.elim z
  cases f with
  | next=>obtain ⟨_,_,_,z⟩:=h8;exact False.elim z
  | brk=>obtain ⟨_,_,_,z⟩:=h8;exact False.elim z
  | cont=>obtain ⟨_,_,_,z⟩:=h8;exact False.elim z
  | ret u=>
   obtain ⟨v,σ',H',I8,rv,z⟩:=h8
   have I8':=I8.unhnd I.ok
   obtain ⟨m,hn8,_⟩:=I8'.loc
   refine wpAny_nameGoes hl hn8 (by rw [I.ok.kind];rfl) fun h9 m9 hn9 sb=>?_
   exact ⟨v,_,H',I8'.forget hn9 sb,rv,z⟩
structure d5 (k:Nat) (A:Around):Prop where
 dp:A.depth+3 * k+5<recursionLimit
 un:A.units+16 * k+200<cLine
 gd:A.guards=some []
theorem fm.h {k:Nat}{A:Around} (r:fm k A):d5 k A:=⟨r.dp,r.un,r.gd⟩
theorem d5.mark {k:Nat}{A:Around} (r:d5 k A) (e:Option Value):d5 k (A.mark e):=⟨r.dp,r.un,r.gd⟩
theorem d5.mono {j k:Nat}{A:Around} (r:d5 k A) (h:j<=k):d5 j A:=⟨by have:=r.dp;omega,by have:=r.un;omega,r.gd⟩
theorem d5.deeper {k:Nat}{A:Around} (r:d5 (k+1) A) (env:Env):d5 k (A.deeper env):=
 ⟨by have:=r.dp;show A.depth+1+3 * k+5<_;omega,by have:=r.un;show A.units+3+16 * k+200<_;omega,r.gd⟩
theorem d5.depth {k:Nat}{A:Around} (r:d5 k A):A.depth<recursionLimit:=by have:=r.dp;omega
theorem d5.units {k:Nat}{A:Around} (r:d5 k A):A.units+64<cLine:=by have:=r.un;omega
structure tI (P:Program) (w:World) (K:W.Frag) (mg:Str->Option Value) (base:Heap) (CX:sP) (k:Nat) (f:Addr) (fd:FuncData) (ps:List Str) (sp:Sp):Prop where
 len:∀ vs H Q E,sp vs H Q E->vs.length=ps.length
 run:∀ (A:Around) (outer:List Env) (s:Shared) (H:Hp) (args:Args) (us:List Value) (vs:List V) (Q:VK) (E:XK),d5 k A->xh P w K mg base A outer s H->BindsTo s fd args (ps.zip us)->bb vs us->sp vs H Q E ->
  codeAny (model P w) A (.call (.ref f) args) (CR CX outer P w H s Q E) s
section
variable {X:Cx}{CX:sP}{k:Nat}{f C:Addr}{fd:FuncData}{ps:List Str}{sp:Sp}{dvs:List V}{ds:List Value}{E:XK}{x m:Str}{p pos apos:Pos}{e o:Expr}{es:List Expr}{ta:TE}{t:TA}
theorem BZ {pins:List (Addr × Obj)}{σ:St}{H:Hp}{s:Shared}{Q:VK}{us:List Value}{vs:List V} (F:tI X.prog X.w X.K X.mg X.base CX k f fd ps sp) (hr:d5 k X.A) (hb:gF X.K fd ps ds) (hd:bb dvs ds) (hx:jg CX X E)
  (I:aO X pins σ H s) (r:bb vs us) (h:sp (vs++dvs) H Q E):wpAny (model X.prog X.w) X.A (call (.ref f) us) (EP X pins σ Q) X.xe s:=by
 have r2:bb (vs++dvs) (us++ds):=r.append hd
 have hl:(us++ds).length=ps.length:=by rw [<- r2.length];exact F.len _ _ _ _ h
 refine wpAny_call (Kc (F.run X.A X.stack s H ⟨us,[]⟩ (us++ds) (vs++dvs) Q E hr I.env0 (hb s us I.kIn hl) r2 h) fun r s' hq=>?_)
 cases r with
 | error e=>exact hx pins σ H s e s' I hq
 | ok fl=>
  cases fl with
  | ret u=>exact I.after hq
  | next=>exact False.elim hq
  | brk=>exact False.elim hq
  | cont=>exact False.elim hq
theorem Al (F:tI X.prog X.w X.K X.mg X.base CX k f fd ps sp) (hr:d5 k X.A) (hg:Gl X x) (hm:X.mg x=some (.ref f)) (hk:W.keepIn X.K (.ref f)=true) (hb:gF X.K fd ps ds) (hd:bb dvs ds) (hx:jg CX X E)
  (ha:PA X (e::es) t) (hdb:(x == ("__debug__" : Str))=false:=by decide) (he:starEach (e::es) X.env=(false,eval e X.env)::starEach es X.env:=by rfl) (hpl:(backTo pos (starEach es X.env)).any (·.1)=false:=by rfl) :
  PE X (.Call (.Name x p) (e::es) [] pos) (Dr sp dvs E t):=by
 intro pins s σ H Q I h
 refine Kd (lC I hg hm ?_ hdb)
 refine W.callWith_K (h₀:=X.base) I.ok.mod.kin hk (dS (ha pos pins s σ H _ I h) fun us s1 ⟨vs,H1,I1,r,q⟩=>⟨I1.kIn,?_⟩) he hpl
 exact BZ F hr hb hd hx I1 r q
end
def oB (CX:sP) (P:Program) (w:World) (K:W.Frag) (mg:Str->Option Value) (base:Heap) (N:List Str) (qual:Str) (scope:Scope) (f:Addr) (cd:Value) (A:Around) (outer:List Env) (s:Shared) (H:Hp) (E:XK):Cx where
 prog:=P
 w:=w
 K:=K
 mg:=mg
 base:=base
 A:=A.deeper (envOfC qual scope s.heap.objs.size f cd)
 N:=N
 s₀:=s
 H₀:=H
 env:=envOfC qual scope s.heap.objs.size f cd
 outer:=outer
 stack:=envOfC qual scope s.heap.objs.size f cd::outer
 ex:=[]
 calm:=false
 fn:=fun _=>true
 pn:=[]
 xe:=fun e s'=>wpAny (model P w) (A.deeper (envOfC qual scope s.heap.objs.size f cd)) (leaving (envOfC qual scope s.heap.objs.size f cd) e) (fun _ s''=>CX outer H s E e s'') (fun e' s''=>CX outer H s E e' s'') s'
theorem vE {CX:sP}{P:Program}{w:World}{K:W.Frag}{mg:Str->Option Value}{base:Heap}{N ps:List Str}{qual:Str}{scope:Scope}{f:Addr}{cd:Value}{A:Around}{outer:List Env}{s s1:Shared}{H:Hp}{E:XK}{us:List Value}{vs:List V}
  (S:aS N ps scope) (e0:xh P w K mg base A outer s H) (hl:vs.length=ps.length) (r:bb vs us)
  (x:InCallC s s.heap.objs.size (bindL (envOfC qual scope s.heap.objs.size f cd).kindOf (ps.zip us) fun _=>none) (cellsFrom (s.heap.objs.size+1) scope.names []) (bindC (envOfC qual scope s.heap.objs.size f cd).kindOf (ps.zip us) fun _=>none) s1) :
  aO (oB CX P w K mg base N qual scope f cd A outer s H E) [] (start N vs) H s1:=by
 have hpl:ps.length<=N.length:=by have:=JR List.length S.pre;rw [Kh] at this;omega
 obtain ⟨h1,tk,rfl,hk⟩:=x.done
 have noA:∀ b:Addr,b ∉ (oB CX P w K mg base N qual scope f cd A outer s H E).ex:=fun b z=>absurd (show b∈([]:List Addr) from z) (by simp)
 refine ⟨⟨e0.mod,S.kind,rfl,rfl,J3 _,fun y z c h1 h2=>?_,fun y hy=>?_,fun y c _ h=>?_,(fun z=>by cases z),Around.frames_deeper e0.frames,.inr ⟨rfl,rfl⟩,fun b z=>absurd z (noA b),e0.bs,e0.bsz,fun b _ _=>noA b,fun b z=>absurd z (noA b),e0.funs,e0.frf⟩,
  rfl,e0.bare,Un.kept hk,⟨_,x.toInCall.ns,fun i y v h1 h2 h3=>?_⟩,fun y c h=>⟨_,x.cell y c h⟩,e0.hok.fresh (J3 _),fun y c h=>?_,fun p hp=>absurd (show p∈([]:List (Addr × Obj)) from hp) (by simp),e0.hok.kept hk,?_⟩
 ·exact name_of_addr x.apart (Ki h1) (Ki h2)
 ·have hy : scope.names.lookup y = some .cell \/ scope.names.lookup y = some .free := hy
  rcases hy with hy | hy
  ·exact lO hy
  ·exact absurd rfl (S.nofree _ (Ki hy))
 ·exact JC (x.above y c (Ki h))
 ·have hi:i<vs.length:=by
   unfold start at h2
   by_cases hi:i<vs.length
   ·exact hi
   ·rw [Kj (by simpa using hi)] at h2
    rw [Kk] at h2
    split at h2 <;> cases h2
  have ha:vs[i]?=some v:=by
   unfold start at h2
   rw [Kl (by simpa using hi),Km] at h2
   cases e:vs[i]? with
   | none=>rw [e] at h2;cases h2
   | some a=>rw [e] at h2;cases h2;rfl
  obtain ⟨u,hu,rv⟩:=r.get ha
  have hp:ps[i]?=some y:=by
   rw [<- S.pre,Kn (by omega)];exact h1
  have ndP:ps.Nodup:=by rw [<- S.pre];exact S.nd.sublist (List.take_sublist _ _)
  refine ⟨u,rv,?_⟩
  rcases S.par y (Ko hp) with k | k
  ·exact .inl ⟨k,mQ ndP hp hu k⟩
  ·obtain ⟨c, e⟩ := lO (n := s.heap.objs.size + 1) k
   refine .inr ⟨.inl k,c,e,?_⟩
   have q:=x.cell y c e
   rw [mR ndP hp hu (by show scope.names.lookup y≠_;rw [k];decide)] at q
   exact q
 ·exact e0.hok.fresh (JC (x.above y c (Ki h)))
 ·unfold start
  show _=N.length
  rw [Kq,Kr,List.length_replicate]
  omega
theorem F2 {CX:sP}{P:Program}{w:World}{K:W.Frag}{mg:Str->Option Value}{base:Heap}{k:Nat}{f:Addr}{name qual:Str}{params:Arguments}{body:List Stmt}{scope:Scope}{dV kV doc pm cdv ct oc:Value}{an od:Option Addr}
  {osl:Array (Option Value)}{N ps:List Str}{sp:Sp} (lk:K.lookup f=some ⟨oc,od,.func (W.fnOf name qual params body scope dV kV doc pm an cdv ct),osl⟩) (hcd:W.codeIn K cdv qual=true) (S:aS N ps scope)
  (len:∀ vs H Q E,sp vs H Q E->vs.length=ps.length)
  (hbody : ∀ (A : Around) (outer : List Env) (s : Shared) (H : Hp) (vs : List V) (Q : VK) (E : XK), d5 k (A.deeper (envOfC qual scope s.heap.objs.size f cdv)) -> sp vs H Q E ->
   ∃ t,iO (oB CX P w K mg base N qual scope f cdv A outer s H E) body t/\t { nx:=fun _ H'=>Q .non H',rt:=Q } (start N vs) H) :
  tI P w K mg base CX (k+1) f (W.fnOf name qual params body scope dV kV doc pm an cdv ct) ps sp:=by
 refine ⟨len,fun A outer s H args us vs Q E hr e0 hb r hsp=>?_⟩
 have hl:=len _ _ _ _ hsp
 have KX:K.In s.heap:=e0.mod.kin.keeps fun b o e=>(e0.bs b o e).1
 have lim:s.heap.NoLimit:=e0.mod.nolimit.keeps fun b o e=>(e0.bs b o e).1
 have hkind:∀ y∈ps.zip us,scope.names.lookup y.1=some .local\/(scope.names.lookup y.1=some .cell/\((cellsFrom (s.heap.objs.size+1) scope.names []).lookup y.1).isSome=true):=fun ⟨n,v⟩ hy=>by
  rcases S.par n (Kf hy).1 with q | q
  ·exact .inl q
  ·exact .inr ⟨q,W.cellsFrom_some _ _ _ (.inl q)⟩
 refine codeAny_call_function hr.depth (KX _ _ lk) rfl S.co S.gen rfl (W.codeRec_of KX hcd) (hb _ _ _ _ ?_)
 refine wpAny_newFunctionEnv_cells S.kind hkind fun env he s1 x=>?_
 subst he
 refine ⟨lim.keeps x.toInCall.keep,codeAny_func ?_⟩
 obtain ⟨t,ht,hq⟩:=hbody A outer s H vs Q E (hr.deeper _) hsp
 have I:aO (oB CX P w K mg base N qual scope f cdv A outer s H E) [] (start N vs) H s1:=vE S e0 hl r x
 refine JO (ht [] s1 (start N vs) H _ I hq) (fun fl s' hs=>?_) fun e s' hs=>hs
 have fin:∀ {σ':St}{H':Hp}{v:V}{u:Value},aO (oB CX P w K mg base N qual scope f cdv A outer s H E) [] σ' H' s'->bL v u->Q v H'->CE outer P w H s Q u s':=
  fun {σ' H' v u} J rv q=>⟨v,H',J.os,J.bare,J.base,J.hok,rv,q⟩
 cases fl with
 | ret u=>
  obtain ⟨v,σ',H',J,rv,q⟩:=hs
  exact fin J rv q
 | next=>
  obtain ⟨σ',H',J,q⟩:=hs
  exact fin (v:=V.non) (u:=Value.none) J rfl q
 | brk=>
  obtain ⟨_,_,_,q⟩:=hs
  exact False.elim q
 | cont=>
  obtain ⟨_,_,_,q⟩:=hs
  exact False.elim q
section
variable {P:Program}{w:World}{K:W.Frag}{mg:Str->Option Value}{base:Heap}
theorem iz.okH {x qual:Str}{st:Stmt}{f:Addr}{fd:FuncData}{N ps:List Str}{k:Nat}{sp:Sp} (F:iz K x qual st f fd) (S:aS N ps (au st)) (len:∀ vs H Q E,sp vs H Q E->vs.length=ps.length)
  (hbody : ∀ (cdv : Value) (A : Around) (outer : List Env) (s : Shared) (H : Hp) (vs : List V) (Q : VK) (E : XK), d5 k (A.deeper (envOfC qual (au st) s.heap.objs.size f cdv)) -> sp vs H Q E ->
   ∃ t,iO (oB uW P w K mg base N qual (au st) f cdv A outer s H E).nox (bY st) t/\t { nx:=fun _ H'=>Q .non H',rt:=Q } (start N vs) H):tI P w K mg base uW (k+1) f fd ps sp:=by
 obtain ⟨oc,od,kV,doc,pm,an,cdv,ct,osl,rfl,lk,hcd⟩:=F.ex
 refine F2 lk hcd S len fun A outer s H vs Q E hr hsp=>?_
 obtain ⟨t,h,q⟩:=hbody cdv A outer s H vs Q E hr hsp
 exact ⟨t,h.nox,q⟩
end
end L2
namespace PySem.W
open PySem PySem.Spec PySem.Calls PyProof.Rows
section
variable {prog:Program}{w:World}{A:Around}{E:Value->Shared->Prop}{s:Shared}{K:Frag}{x D:Addr}{a g:Value}{name:Str}{h:Heap}{M:Model}
theorem uF (X:K.In h) (ha:findIn K (.ref D) name=some (some a)) (hg:specialIn K a "__get__" = some (some g)) (ht:takesIn K a=some true):Looks M h (Builtin.ObjectAttr.find (.ref x) (.ref D) name) (.bind g a):=
 (looks_findIn X ha).andThen ((show Looks M h (Builtin.ObjectAttr.getOf (some a)) (some g) from looks_specialIn X hg).andThen ((show Looks M h (Builtin.ObjectAttr.dataDescriptor? (some a) (some g)) (some (g,a)) from (looks_takesIn X ht).andThen .now).andThen (Looks.tag .now)))
theorem vL {R:Result->Shared->Prop} (X:K.In s.heap) (L:Looks (model prog w) s.heap (typeOf (.ref x)) (.ref D)) (hm:mroIn K D (.type "object")=some true) (hr:R (.ok (.ret (.ref D))) s) :
  codeAny (model prog w) A (.call (.builtin "getset_descriptor.__get__") ⟨[.builtin "object.__class__",.ref x,.ref D],[]⟩) R s:=by
 obtain ⟨hh,g,d,t,os⟩:=s
 have L0:Looks (model prog w) hh (typeOf (.ref x)) (.ref D):=L
 have L1:Looks (model prog w) hh (isSubtype (.ref D) (.type "object")) true:=looks_mroIn X hm
 have hT5:(⟨hh,g,d,t,os⟩:Shared).TypeIs (.builtin "object.__class__") "getset_descriptor" := F.typeOf_object_class
 have ow:(".".intercalate ("object.__class__".cutAt '.').dropLast) = "object" := by decide +kernel
 refine Ma F.slot_gs_get.plain F.entry_gs_get (F.slot_gs_get.check _ _ _ _ _ _ _ _ hT5 (F.args_gs_get _ _ _) ?_)
 repeat (any_goals (first | assumption | with_reducible refine L0.at ?_ | (rw [ow]) | with_reducible refine L1.at ?_ | wp_step))
 refine ⟨L9 _ (by decide +kernel),L3 KF.entry_class ?_⟩
 unfold Builtin.«object.__class__»
 repeat (any_goals (first | assumption | with_reducible refine L0.at ?_ | wp_step))
theorem AJ {hh:Heap}{g:Array GenState}{d:Drawn}{t:Nat}{os:OsState}{M:Model}{nameV:Value}{Q:Unit->Shared->Prop} (X:K.In hh) (L0:Looks M hh (typeOf (.ref x)) (.ref D)) (hmB:mroIn K D (.type "BaseException")=some true) (hq:Q () ⟨hh,g,d,t,os⟩) :
  wpAny M A (checkBuiltinCall "BaseException.__getattribute__" ⟨[.ref x,nameV],[]⟩) Q E ⟨hh,g,d,t,os⟩:=by
 have hk:builtinKind "BaseException.__getattribute__" = some .slot:=by decide +kernel
 have hsplit:splitId "BaseException.__getattribute__" = some ("BaseException", "__getattribute__"):=by decide +kernel
 have ha:=F.args_bexc_ga (.ref x) nameV
 have L1:=looks_mroIn (M:=M) X hmB
 simp only [checkBuiltinCall,hk,hsplit]
 refine JT ?_
 ·unfold isInstance
  repeat (first | lk | wp_step)
  exact hq
theorem AI {tk:Tok}{Q:Fin->Shared->Prop} (X:K.In s.heap) (L:Looks (model prog w) s.heap (typeOf (.ref x)) (.ref D)) (ha:findIn K (.ref D) "__class__" = some (some (.builtin "object.__class__"))) (hn:specialIn K (.builtin "object.__class__") "__get__" = some (some (.builtin "getset_descriptor.__get__"))) (htk:takesIn K (.builtin "object.__class__")=some true) (hm:mroIn K D (.type "object")=some true) (hq:Q (.done (.ret (.ref D))) s) :
  wpAny (model prog w) A (Builtin.«object.__getattribute__» ⟨[.ref x,.str "__class__" tk],[]⟩) Q E s:=by
 obtain ⟨hh,g,d,t,os⟩:=s
 have L0:Looks (model prog w) hh (typeOf (.ref x)) (.ref D):=L
 have f3:Looks (model prog w) hh (Builtin.ObjectAttr.find (.ref x) (.ref D) "__class__") (.bind (.builtin "getset_descriptor.__get__") (.builtin "object.__class__")):=uF X ha hn htk
 unfold Builtin.«object.__getattribute__»
 repeat (any_goals (first | assumption | with_reducible refine L0.at ?_ | with_reducible refine f3.at ?_ | wp_step))
 refine vL (s:=⟨hh,g,d,t,os⟩) X L hm ?_
 repeat (any_goals (first | assumption | wp_step))
theorem x8 {Q:Option Value->Shared->Prop} (X:K.In s.heap) (L:Looks (model prog w) s.heap (typeOf (.ref x)) (.ref D)) (hga:findIn K (.ref D) "__getattribute__" = some (some (.builtin "BaseException.__getattribute__"))) (hgn:findIn K (.ref D) "__getattr__" = some none)
  (ha:findIn K (.ref D) "__class__" = some (some (.builtin "object.__class__"))) (hn:specialIn K (.builtin "object.__class__") "__get__" = some (some (.builtin "getset_descriptor.__get__"))) (htk:takesIn K (.builtin "object.__class__")=some true) (hm:mroIn K D (.type "object")=some true) (hmB:mroIn K D (.type "BaseException")=some true) (hq:Q (some (.ref D)) { s with toks:=s.toks+1 }) :
  wpAny (model prog w) A (getAttr? (.ref x) "__class__") Q E s:=by
 obtain ⟨hh,g,d,t,os⟩:=s
 have L0:Looks (model prog w) hh (typeOf (.ref x)) (.ref D):=L
 have L1:Looks (model prog w) hh (typeLookup (.ref D) "__getattribute__") (some (.builtin "BaseException.__getattribute__")):=looks_findIn X hga
 have L2:Looks (model prog w) hh (typeLookup (.ref D) "__getattr__") none:=looks_findIn X hgn
 have f3:=PySem.F.attr_ValueError.ga.bind (.ref x)
 have hx2:(Value.builtin "BaseException.__getattribute__" == Value.builtin "object.__getattribute__")=false:=by decide +kernel
 have hx1:(onTheHeap (Value.ref D) && Value.builtin "BaseException.__getattribute__" == Value.builtin "object.__getattribute__")=false:=by rw [hx2];rfl
 have hx0:(false && onTheHeap (Value.builtin "BaseException.__getattribute__"))=false:=rfl
 unfold getAttr? getAttrBy?
 repeat (any_goals (first | assumption | with_reducible refine L0.at ?_ | with_reducible refine L1.at ?_ | with_reducible refine L2.at ?_ | wp_step))
 refine Ma PySem.F.attr_ValueError.ga.plain F.entry_bexc_ga (AJ X L0 hmB (AI (tk:=t) X L0 ha hn htk hm ?_))
 repeat (any_goals (first | assumption | wp_step))
end
def excCls (K:Frag) (D:Addr):Bool:=findIn K (.ref D) "__getattribute__" == some (some (.builtin "BaseException.__getattribute__")) && findIn K (.ref D) "__getattr__" == some none && (clsIn K D).isSome && findIn K (.ref D) "__class__" == some (some (.builtin "object.__class__")) &&
 mroIn K D (.type "object") == some true && mroIn K D (.type "BaseException") == some true && specialIn K (.builtin "object.__class__") "__get__" == some (some (.builtin "getset_descriptor.__get__")) && takesIn K (.builtin "object.__class__") == some true
section
variable {K:Frag}{x D:Addr}
theorem kitx_exc (e:excCls K D=true):KitX K (.ref x) (.ref D) (fun h=>∃ ox,h.get? x=some ox/\ox.cls=.ref D):=by
 unfold excCls at e
 simp only [KH,MH] at e
 obtain ⟨⟨⟨⟨⟨⟨⟨hga,hgn⟩,hc⟩,ha⟩,hm⟩,hmB⟩,hn⟩,htk⟩:=e
 exact {
  ty:=fun _ _ _ ⟨ox,h1,h2⟩=>h2 ▸ (Looks.ld h1).andThen .now
  it:=fun _ _ X _=>by
   obtain ⟨cdD,hcD⟩:=Kg.mp hc
   unfold clsIn at hcD
   split at hcD
   ·rename_i c' d' cd' sl' ho
    intro A' Q' E' s' k q
    unfold isType loadHead
    exact JT (wpAny_loadPart (k _ _ (X _ _ ho)) (JZ q))
   ·cases hcD
  ne:=fun h tp dd its n sl X htp=>by
   obtain ⟨cdD,hcD⟩:=Kg.mp hc
   refine Bool.eq_false_iff.mpr fun q=>?_
   have e:D=tp:=Value.ref.inj (MH.mp q)
   subst e
   unfold clsIn at hcD
   split at hcD
   ·rename_i c' d' cd' sl' ho
    have z:=(X _ _ ho).symm.trans htp
    cases z
   ·cases hcD
  ca:=fun {prog w A E Q s} X ⟨ox,h1,h2⟩ h=>x8 X (h2 ▸ (Looks.ld h1).andThen .now) hga hgn ha hn htk hm hmB h }
end
end PySem.W
namespace L2
open PySem PySem.Spec PyProof.Rows
def GE (K:W.Frag) (u:Value):List V->Hp->VK->Prop:=fun xs H Q=>∃ a D b v,xs=[.ref a,v]/\bL v u/\H a=some (tf a D)/\W.excCls K D=true/\W.kitOne K (.ref D) u=some b/\Q (.bl b) H
theorem uk {X:Cx}{u:Value} (hu:∀ v w,bL v u->bL v w->w=u):cI X (.builtin "isinstance") (GE X.K u):=by
 intro pins s σ H xs us Q I r h
 obtain ⟨a,D,b,v,rfl,rv,ea,hc,e,q⟩:=h
 cases r with
 | cons r1 r2=>
  cases r2 with
  | cons r3 r4=>
   cases r4
   cases (show _=Value.ref a from r1)
   have z:=hu v _ rv r3
   subst z
   obtain ⟨⟨oe,h1,h2⟩,_⟩:=(show dU X.prog X.w H s.heap a (tf a D) from I.hok a _ ea)
   exact W.kia_one (W.kitx_exc hc) I.kIn ⟨oe,h1,h2⟩ e (fun z=>nomatch z) fun tk=>⟨.bl b,H,I.tok _,rfl,q⟩
end L2
namespace L2
open PySem PySem.Spec PyProof.Rows RS
inductive D where
 | non | bl (b:Bool) | int (i:Int) | str (x:Str) | tup (xs:List D) | frz (xs:List D) | obj (n:Nat)
inductive O where
 | lst (xs:List D) | set (ks:List (List Int)) | iset (ks:List Int) | dic | exc (c:Str)
abbrev aB:=List O
abbrev Ro:=List (Option D)
def Dn (K:W.Frag) (H:Hp) (a:Addr) (xs:List V):Prop:=
 (∃ o, H a = some (.frz o (.lst xs))) \/
  ∃ (o:Obj) (its:Array Value) (n:Nat),K.lookup a=some o/\o.cls=.type "list" /\ o.dict=none/\o.data=.seq its n/\its.size<=sizeLine/\bb xs its.toList
theorem Dn.sq {K:W.Frag}{H:Hp}{a:Addr}{xs:List V} (h:Dn K H a xs):hX K H a xs:=by
 rcases h with ⟨o,h⟩ | h
 ·exact .inl (.inr ⟨o,h⟩)
 ·exact .inr h
section
variable (K:W.Frag) (H:Hp) (α:List Addr)
mutual
def aM:D->V->Prop
 | .non,v=>v=.non
 | .bl b,v=>v=.bl b
 | .int i,v=>v=.int i
 | .str x,v=>v=.str x
 | .tup xs,v=>∃ a vs,v=.ref a/\gU K H a vs/\Reps xs vs
 | .frz xs,v=>∃ a vs,v=.ref a/\Dn K H a vs/\Reps xs vs
 | .obj n,v=>∃ a,v=.ref a/\α[n]?=some a
def Reps:List D->List V->Prop
 | [],vs=>vs=[]
 | x::xs,vs=>∃ v r,vs=v::r/\aM x v/\Reps xs r
end
end
structure ki (K:W.Frag) (H H':Hp) (α α':List Addr):Prop where
 tup:∀ a xs,gU K H a xs->gU K H' a xs
 frz:∀ a xs,Dn K H a xs->Dn K H' a xs
 pre:∀ (n:Nat) a,α[n]?=some a->α'[n]?=some a
section
variable {K:W.Frag}{H H' H1 H2:Hp}{α α' α1 α2:List Addr}
theorem ki.refl:ki K H H α α:=⟨fun _ _ h=>h,fun _ _ h=>h,fun _ _ h=>h⟩
theorem ki.trans (a:ki K H H1 α α1) (b:ki K H1 H2 α1 α2):ki K H H2 α α2:=
 ⟨fun c xs h=>b.tup c xs (a.tup c xs h),fun c xs h=>b.frz c xs (a.frz c xs h),fun n c h=>b.pre n c (a.pre n c h)⟩
mutual
theorem aM.mono (e:ki K H H' α α'):∀ {d:D}{v:V},aM K H α d v->aM K H' α' d v
 | .non,_,h=>by simp only [aM] at h ⊢;exact h
 | .bl _,_,h=>by simp only [aM] at h ⊢;exact h
 | .int _,_,h=>by simp only [aM] at h ⊢;exact h
 | .str _,_,h=>by simp only [aM] at h ⊢;exact h
 | .tup xs,_,h=>by
  simp only [aM] at h ⊢
  obtain ⟨a,vs,rfl,h1,h2⟩:=h
  exact ⟨a,vs,rfl,e.tup a vs h1,Reps.mono e h2⟩
 | .frz xs,_,h=>by
  simp only [aM] at h ⊢
  obtain ⟨a,vs,rfl,h1,h2⟩:=h
  exact ⟨a,vs,rfl,e.frz a vs h1,Reps.mono e h2⟩
 | .obj n,_,h=>by
  simp only [aM] at h ⊢
  obtain ⟨a,rfl,h1⟩:=h
  exact ⟨a,rfl,e.pre n a h1⟩
theorem Reps.mono (e:ki K H H' α α'):∀ {ds:List D}{vs:List V},Reps K H α ds vs->Reps K H' α' ds vs
 | [],_,h=>by simp only [Reps] at h ⊢;exact h
 | d::ds,_,h=>by
  simp only [Reps] at h ⊢
  obtain ⟨v,r,rfl,h1,h2⟩:=h
  exact ⟨v,r,rfl,aM.mono e h1,Reps.mono e h2⟩
end
theorem Reps.nil:Reps K H α [] []:=by simp only [Reps]
theorem Reps.cons {d:D}{ds:List D}{v:V}{vs:List V} (h1:aM K H α d v) (h2:Reps K H α ds vs):Reps K H α (d::ds) (v::vs):=by
 simp only [Reps];exact ⟨v,vs,rfl,h1,h2⟩
theorem Reps.length:∀ {ds:List D}{vs:List V},Reps K H α ds vs->vs.length=ds.length
 | [],vs,h=>by simp only [Reps] at h;rw [h];rfl
 | d::ds,vs,h=>by
  simp only [Reps] at h
  obtain ⟨v,r,rfl,h1,h2⟩:=h
  simp [Reps.length h2]
theorem Reps.get:∀ {ds:List D}{vs:List V}{i:Nat}{d:D},Reps K H α ds vs->ds[i]?=some d->∃ v,vs[i]?=some v/\aM K H α d v
 | [],_,_,_,_,e=>by simp at e
 | d::ds,vs,i,x,h,e=>by
  simp only [Reps] at h
  obtain ⟨v,r,rfl,h1,h2⟩:=h
  cases i with
  | zero=>simp at e;subst e;exact ⟨v,rfl,h1⟩
  | succ i=>exact Reps.get (i:=i) h2 (by simpa using e)
theorem Reps.append:∀ {ds es:List D}{vs ws:List V},Reps K H α ds vs->Reps K H α es ws->Reps K H α (ds++es) (vs++ws)
 | [],_,vs,_,h,g=>by simp only [Reps] at h;subst h;exact g
 | d::ds,_,vs,_,h,g=>by
  simp only [Reps] at h
  obtain ⟨v,r,rfl,h1,h2⟩:=h
  exact Reps.cons h1 (Reps.append h2 g)
theorem Reps.take:∀ {ds:List D}{vs:List V} (n:Nat),Reps K H α ds vs->Reps K H α (ds.take n) (vs.take n)
 | [],vs,n,h=>by simp only [Reps] at h;subst h;simpa using Reps.nil
 | d::ds,vs,n,h=>by
  simp only [Reps] at h
  obtain ⟨v,r,rfl,h1,h2⟩:=h
  cases n with
  | zero=>exact Reps.nil
  | succ n=>exact Reps.cons h1 (Reps.take n h2)
theorem Reps.drop:∀ {ds:List D}{vs:List V} (n:Nat),Reps K H α ds vs->Reps K H α (ds.drop n) (vs.drop n)
 | [],vs,n,h=>by simp only [Reps] at h;subst h;simpa using Reps.nil
 | d::ds,vs,n,h=>by
  cases n with
  | zero=>exact h
  | succ n=>
   simp only [Reps] at h
   obtain ⟨v,r,rfl,h1,h2⟩:=h
   exact Reps.drop n h2
theorem Reps.set {d:D}{v:V} (q:aM K H α d v):∀ {ds:List D}{vs:List V} (n:Nat),Reps K H α ds vs->Reps K H α (ds.set n d) (vs.set n v)
 | [],vs,n,h=>by simp only [Reps] at h;subst h;simpa using Reps.nil
 | e::ds,vs,n,h=>by
  simp only [Reps] at h
  obtain ⟨v',r,rfl,h1,h2⟩:=h
  cases n with
  | zero=>exact Reps.cons q h2
  | succ n=>exact Reps.cons h1 (Reps.set q n h2)
theorem Reps.eraseIdx:∀ {ds:List D}{vs:List V} (n:Nat),Reps K H α ds vs->Reps K H α (ds.eraseIdx n) (vs.eraseIdx n)
 | [],vs,n,h=>by simp only [Reps] at h;subst h;simpa using Reps.nil
 | e::ds,vs,n,h=>by
  simp only [Reps] at h
  obtain ⟨v',r,rfl,h1,h2⟩:=h
  cases n with
  | zero=>exact h2
  | succ n=>exact Reps.cons h1 (Reps.eraseIdx n h2)
theorem Reps.one {d:D}{vs:List V} (h:Reps K H α [d] vs):∃ v,vs=[v]/\aM K H α d v:=by
 simp only [Reps] at h
 obtain ⟨v,r,rfl,h1,rfl⟩:=h
 exact ⟨v,rfl,h1⟩
theorem Reps.two {d e:D}{vs:List V} (h:Reps K H α [d,e] vs):∃ v u,vs=[v,u]/\aM K H α d v/\aM K H α e u:=by
 simp only [Reps] at h
 obtain ⟨v,r,rfl,h1,u,r',rfl,h2,rfl⟩:=h
 exact ⟨v,u,rfl,h1,h2⟩
theorem Reps.snoc {d:D}{ds:List D}{v:V}{vs:List V} (h:Reps K H α ds vs) (q:aM K H α d v):Reps K H α (ds++[d]) (vs++[v]):=h.append (Reps.cons q Reps.nil)
theorem Reps.ints:∀ {ns:List Int}{vs:List V},Reps K H α (ns.map D.int) vs->vs=ns.map V.int
 | [],vs,h=>by simp only [KL,Reps] at h;exact h
 | n::ns,vs,h=>by
  simp only [KM,Reps] at h
  obtain ⟨v,r,rfl,h1,h2⟩:=h
  simp only [aM] at h1
  rw [h1,Reps.ints h2];rfl
theorem iL:∀ (ns:List Int),Reps K H α (ns.map D.int) (ns.map V.int)
 | []=>Reps.nil
 | n::ns=>Reps.cons (by simp only [aM]) (iL ns)
theorem aK {xs:List D}{v:V}:aM K H α (.tup xs) v↔∃ a vs,v=.ref a/\gU K H a vs/\Reps K H α xs vs:=by simp only [aM]
theorem bu {xs:List D}{v:V}:aM K H α (.frz xs) v↔∃ a vs,v=.ref a/\Dn K H a vs/\Reps K H α xs vs:=by simp only [aM]
theorem aQ {n:Nat}{v:V}:aM K H α (.obj n) v↔∃ a,v=.ref a/\α[n]?=some a:=by simp only [aM]
theorem ar {n:Int}{v:V}:aM K H α (.int n) v↔v=.int n:=by simp only [aM]
theorem aX {n:Bool}{v:V}:aM K H α (.bl n) v↔v=.bl n:=by simp only [aM]
theorem bA {n:Str}{v:V}:aM K H α (.str n) v↔v=.str n:=by simp only [aM]
theorem bJ {v:V}:aM K H α .non v↔v=.non:=by simp only [aM]
end
def sZ (K:W.Frag) (w:World) (H:Hp) (α:List Addr):O->Addr->Prop
 | .lst xs,a=>∃ vs,H a=some (.lst vs)/\Reps K H α xs vs
 | .set ks,a=>∃ ps:List KP,ps.map (·.1)=ks/\H a=some (.ext fun h=>d4 w h a ps)/\(∀ p∈ps,p.1∈prs)/\(ps.map (·.1)).Nodup/\∀ p∈ps,gU K H p.2 (p.1.map V.int)
 | .iset ks,a=>∃ ps:List KI,ps.map (·.1)=ks/\H a=some (.ext fun h=>cN w h a ps)/\ks.length<=6
 | .dic,a=>H a=some (.dK [])
 | .exc c,a=>∃ C,W.nsIn K mainGlobals c=some (some (.ref C))/\H a=some (tf a C)
structure gK (K:W.Frag) (w:World) (H:Hp) (α:List Addr) (μ:aB):Prop where
 len:α.length=μ.length
 nd:α.Nodup
 ob:∀ (n:Nat) o a,μ[n]?=some o->α[n]?=some a->sZ K w H α o a
section
variable {K:W.Frag}{w:World}{H H':Hp}{α α':List Addr}{μ:aB}
theorem sZ.live {o:O}{a:Addr} (h:sZ K w H α o a):H a≠none:=by
 cases o with
 | lst xs=>obtain ⟨vs,e,_⟩:=h;rw [e];exact fun z=>by cases z
 | set ks=>obtain ⟨ps,_,e,_⟩:=h;rw [e];exact fun z=>by cases z
 | iset ks=>obtain ⟨ps,_,e,_⟩:=h;rw [e];exact fun z=>by cases z
 | dic=>have e:H a=some (.dK []):=h;rw [e];exact fun z=>by cases z
 | exc c=>obtain ⟨C,_,e⟩:=h;rw [e];exact fun z=>by cases z
theorem sZ.mono {o:O}{a:Addr} (h:sZ K w H α o a) (e:ki K H H' α α') (ha:H' a=H a):sZ K w H' α' o a:=by
 cases o with
 | lst xs=>obtain ⟨vs,q,r⟩:=h;exact ⟨vs,ha.trans q,r.mono e⟩
 | set ks=>obtain ⟨ps,h1,q,h2,h3,h4⟩:=h;exact ⟨ps,h1,ha.trans q,h2,h3,fun p hp=>e.tup _ _ (h4 p hp)⟩
 | iset ks=>obtain ⟨ps,h1,q,h2⟩:=h;exact ⟨ps,h1,ha.trans q,h2⟩
 | dic=>exact ha.trans h
 | exc c=>obtain ⟨C,h1,q⟩:=h;exact ⟨C,h1,ha.trans q⟩
theorem gK.at (S:gK K w H α μ) {n:Nat}{o:O} (e:μ[n]?=some o):∃ a,α[n]?=some a/\sZ K w H α o a:=by
 have hn:n<μ.length:=(JK.mp e).1
 have hn':n<α.length:=by rw [S.len];exact hn
 exact ⟨α[n],My hn',S.ob n o _ e (My hn')⟩
theorem gK.live (S:gK K w H α μ) {a:Addr} (h:a∈α):H a≠none:=by
 obtain ⟨n,hn,e⟩:=List.getElem_of_mem h
 have hm:n<μ.length:=by rw [<- S.len];exact hn
 exact (S.ob n _ a (My hm) (by rw [<- e];exact My hn)).live
theorem gK.fresh (S:gK K w H α μ) {p:Addr} (h:H p=none):p ∉ α:=fun z=>S.live z h
theorem gK.same (S:gK K w H α μ) (e:ki K H H' α α) (h:∀ a,H a≠none->H' a=H a):gK K w H' α μ:=
 ⟨S.len,S.nd,fun n o a h1 h2=>(S.ob n o a h1 h2).mono e (h a (S.ob n o a h1 h2).live)⟩
theorem cq {p:Addr}{o:HO} (h:H p=none):ki K H (cK H p o) α α:=by
 refine ⟨fun a xs q=>?_,fun a xs q=>?_,fun _ _ z=>z⟩
 ·rcases q with (q | ⟨x, q⟩) | q
  ·exact .inl (.inl (by rw [bt (bP q h)];exact q))
  ·exact .inl (.inr ⟨x,by rw [bt (bP q h)];exact q⟩)
  ·exact .inr q
 ·rcases q with ⟨x, q⟩ | q
  ·exact .inl ⟨x,by rw [bt (bP q h)];exact q⟩
  ·exact .inr q
theorem iE {p:Addr}{vs:List V}{o:HO} (h:H p=some (.lst vs)):ki K H (cK H p o) α α:=by
 refine ⟨fun a xs q=>?_,fun a xs q=>?_,fun _ _ z=>z⟩
 ·rcases q with (q | ⟨x, q⟩) | q
  ·exact .inl (.inl (by rw [bt (yT q h (by intro z;cases z))];exact q))
  ·exact .inl (.inr ⟨x,by rw [bt (yT q h (by intro z;cases z))];exact q⟩)
  ·exact .inr q
 ·rcases q with ⟨x, q⟩ | q
  ·exact .inl ⟨x,by rw [bt (yT q h (by intro z;cases z))];exact q⟩
  ·exact .inr q
theorem jS (β:List Addr):ki K H H α (α++β):=⟨fun _ _ h=>h,fun _ _ h=>h,fun n a h=>by rw [Kl (JK.mp h).1];exact h⟩
theorem gK.tuple (S:gK K w H α μ) {p:Addr}{vs:List V} (h:H p=none):gK K w (cK H p (.tup vs)) α μ:=
 S.same (cq h) fun a ha=>bt fun z=>ha (by rw [z];exact h)
theorem gK.more (S:gK K w H α μ) {p:Addr}{o:O}{ho:HO} (h:H p=none) (q:sZ K w (cK H p ho) (α++[p]) o p):gK K w (cK H p ho) (α++[p]) (μ++[o]):=by
 refine ⟨by simp [S.len],?_,fun n o' a h1 h2=>?_⟩
 ·rw [LU]
  exact ⟨S.nd,by simp,fun x hx y hy z=>by simp at hy;subst hy;subst z;exact S.fresh h hx⟩
 ·by_cases hn : n < μ.length
  ·rw [Kl hn] at h1
   rw [Kl (by rw [S.len];exact hn)] at h2
   exact (S.ob n o' a h1 h2).mono ((cq h).trans (jS [p])) (bt fun z=>(S.ob n o' a h1 h2).live (by rw [z];exact h))
  ·have hn':n=μ.length:=by
    have:=(JK.mp h1).1
    simp at this;omega
   subst hn'
   rw [Kj (J3 _)] at h1
   rw [Kj (by rw [S.len];exact J3 _),S.len] at h2
   simp at h1 h2
   subst h1;subst h2
   exact q
theorem gK.put (S:gK K w H α μ) {n:Nat}{a:Addr}{xs ys:List D}{us vs:List V} (h1:μ[n]?=some (.lst xs)) (h2:α[n]?=some a) (h3:H a=some (.lst us)) (q:Reps K H α ys vs):gK K w (cK H a (.lst vs)) α (μ.set n (.lst ys)):=by
 have e:=iE (K:=K) (α:=α) (o:=.lst vs) h3
 refine ⟨by simp [S.len],S.nd,fun m o b g1 g2=>?_⟩
 have hn:n<μ.length:=(JK.mp h1).1
 by_cases hm:m=n
 ·subst hm
  rw [JM hn] at g1
  cases g1
  rw [h2] at g2;cases g2
  exact ⟨vs,cy,q.mono e⟩
 ·rw [JN (fun z => hm z.symm)] at g1
  refine (S.ob m o b g1 g2).mono e (bt fun z=>hm ?_)
  subst z
  have i1:=(JK.mp g2)
  have i2:=(JK.mp h2)
  obtain ⟨l1,e1⟩:=i1
  obtain ⟨l2,e2⟩:=i2
  exact (JL S.nd).mp (e1.trans e2.symm)
end
structure dr (K:W.Frag) (H:Hp) (α:List Addr) (ρ:Ro) (σ:St):Prop where
 len:ρ.length=σ.length
 at':∀ (i:Nat) d,ρ[i]?=some (some d)->∃ v,σ[i]?=some (some v)/\aM K H α d v
theorem dr.mono {K:W.Frag}{H H':Hp}{α α':List Addr}{ρ:Ro}{σ:St} (e:ki K H H' α α') (R:dr K H α ρ σ):dr K H' α' ρ σ:=
 ⟨R.len,fun i d h=>let ⟨v,h1,h2⟩:=R.at' i d h;⟨v,h1,h2.mono e⟩⟩
theorem dr.set {K:W.Frag}{H:Hp}{α:List Addr}{ρ:Ro}{σ:St}{d:D}{v:V} (R:dr K H α ρ σ) (i:Nat) (q:aM K H α d v):dr K H α (ρ.set i (some d)) (σ.set i (some v)):=by
 refine ⟨by simp [R.len],fun j d' h=>?_⟩
 by_cases hj:j=i
 ·subst hj
  have hl:j<ρ.length:=by have:=(JK.mp h).1;simpa using this
  rw [JM hl] at h
  cases h
  exact ⟨v,by rw [JM (by rw [<- R.len];exact hl)],q⟩
 ·rw [JN (fun z => hj z.symm)] at h ⊢
  exact R.at' j d' h
structure DX where
 cls:Str
 args:List D
inductive ai (β:Type) where
 | ok (a:β) (μ:aB) | exc (x:DX) (μ:aB) | bad
def ai.bind {β γ:Type} (o:ai β) (g:β->aB->ai γ):ai γ:=match o with
 | .ok a μ=>g a μ
 | .exc x μ=>.exc x μ
 | .bad=>.bad
@[simp] theorem aa {β γ:Type}{a:β}{μ:aB}{g:β->aB->ai γ}:(ai.ok a μ).bind g=g a μ:=MJ (MK _)
inductive SO where
 | next (ρ:Ro) (μ:aB) | ret (d:D) (μ:aB) | brk (ρ:Ro) (μ:aB) | cnt (ρ:Ro) (μ:aB) | exc (x:DX) (μ:aB) | bad
def ai.bindS {β:Type} (o:ai β) (g:β->aB->SO):SO:=match o with
 | .ok a μ=>g a μ
 | .exc x μ=>.exc x μ
 | .bad=>.bad
@[simp] theorem ae {β:Type}{a:β}{μ:aB}{g:β->aB->SO}:(ai.ok a μ).bindS g=g a μ:=MJ (MK _)
def SO.bind (o:SO) (g:Ro->aB->SO):SO:=match o with
 | .next ρ μ=>g ρ μ
 | o=>o
structure Pa where
 K:W.Frag
 w:World
 xw:DX->aB->Hp->List Addr->Prop
abbrev Pa.S (p:Pa):=gK p.K p.w
abbrev Pa.X (p:Pa):=ki p.K
abbrev Pa.R (p:Pa):=aM p.K
abbrev Pa.Rs (p:Pa):=Reps p.K
def aF {β:Type} (p:Pa) (H:Hp) (α:List Addr) (o:ai β) (R:β->aB->Hp->List Addr->Prop):Prop:=match o with
 | .ok a μ'=>∀ H' α',p.X H H' α α'->p.S H' α' μ'->R a μ' H' α'
 | .exc x μ'=>∀ H' α',p.X H H' α α'->p.S H' α' μ'->p.xw x μ' H' α'
 | .bad=>False
def dk (p:Pa) (H:Hp) (α:List Addr) (o:SO) (D:ml):Prop:=match o with
 | .next ρ' μ'=>∀ H' α' σ',p.X H H' α α'->p.S H' α' μ'->dr p.K H' α' ρ' σ'->D.nx σ' H'
 | .brk ρ' μ'=>∀ H' α' σ',p.X H H' α α'->p.S H' α' μ'->dr p.K H' α' ρ' σ'->D.bk σ' H'
 | .cnt ρ' μ'=>∀ H' α' σ',p.X H H' α α'->p.S H' α' μ'->dr p.K H' α' ρ' σ'->D.ct σ' H'
 | .ret d μ'=>∀ H' α' v,p.X H H' α α'->p.S H' α' μ'->p.R H' α' d v->D.rt v H'
 | .exc x μ'=>∀ H' α',p.X H H' α α'->p.S H' α' μ'->p.xw x μ' H' α'
 | .bad=>False
section
variable {p:Pa}{H H1:Hp}{α α1:List Addr}{β γ:Type}
theorem aF.imp {o:ai β}{R R':β->aB->Hp->List Addr->Prop} (h:aF p H α o R) (k:∀ a μ' H' α',p.X H H' α α'->p.S H' α' μ'->R a μ' H' α'->R' a μ' H' α'):aF p H α o R':=by
 cases o with
 | ok a μ=>exact fun H' α' e s=>k a μ H' α' e s (h H' α' e s)
 | exc x μ=>exact h
 | bad=>exact h
theorem aF.from {o:ai β}{R:β->aB->Hp->List Addr->Prop} (e:p.X H H1 α α1) (h:aF p H α o R):aF p H1 α1 o R:=by
 cases o with
 | ok a μ=>exact fun H' α' e' s=>h H' α' (e.trans e') s
 | exc x μ=>exact fun H' α' e' s=>h H' α' (e.trans e') s
 | bad=>exact h
theorem aF.bind {o:ai β}{g:β->aB->ai γ}{R:γ->aB->Hp->List Addr->Prop} (h:aF p H α (o.bind g) R):aF p H α o (fun a μ1 H1 α1=>aF p H1 α1 (g a μ1) R):=by
 cases o with
 | ok a μ=>exact fun H' α' e s=>aF.from e h
 | exc x μ=>exact h
 | bad=>exact h
theorem aF.now {a:β}{μ:aB}{R:β->aB->Hp->List Addr->Prop} (h:aF p H α (.ok a μ) R) (s:p.S H α μ):R a μ H α:=h H α ki.refl s
theorem dk.from {o:SO}{D:ml} (e:p.X H H1 α α1) (h:dk p H α o D):dk p H1 α1 o D:=by
 cases o with
 | next ρ μ=>exact fun H' α' σ' e' s r=>h H' α' σ' (e.trans e') s r
 | brk ρ μ=>exact fun H' α' σ' e' s r=>h H' α' σ' (e.trans e') s r
 | cnt ρ μ=>exact fun H' α' σ' e' s r=>h H' α' σ' (e.trans e') s r
 | ret d μ=>exact fun H' α' v e' s r=>h H' α' v (e.trans e') s r
 | exc x μ=>exact fun H' α' e' s=>h H' α' (e.trans e') s
 | bad=>exact h
theorem aF.bindS {o:ai β}{g:β->aB->SO}{D:ml} (h:dk p H α (o.bindS g) D):aF p H α o (fun a μ1 H1 α1=>dk p H1 α1 (g a μ1) D):=by
 cases o with
 | ok a μ=>exact fun H' α' e s=>dk.from e h
 | exc x μ=>exact h
 | bad=>exact h
end
abbrev ME:=Ro->aB->ai D
abbrev MT:=Ro->aB->ai Bool
abbrev MA:=Ro->aB->ai (List D)
abbrev MS:=Ro->aB->SO
abbrev MG:=D->Ro->aB->ai Ro
abbrev RV (p:Pa) (Q:VK):D->aB->Hp->List Addr->Prop:=fun d _ H' α'=>∀ v,p.R H' α' d v->Q v H'
def tD (p:Pa) (f:ME):TE:=fun σ H Q=>∃ α ρ μ,p.S H α μ/\dr p.K H α ρ σ/\aF p H α (f ρ μ) (RV p Q)
def iM (p:Pa) (f:MT):TT:=fun σ H Q=>∃ α ρ μ,p.S H α μ/\dr p.K H α ρ σ/\aF p H α (f ρ μ) (fun b _ H' _=>Q b H')
def k8 (p:Pa) (f:MA):TA:=fun σ H Q=>∃ α ρ μ,p.S H α μ/\dr p.K H α ρ σ/\aF p H α (f ρ μ) (fun ds _ H' α'=>∀ vs,p.Rs H' α' ds vs->Q vs H')
def gI (p:Pa) (f:MS):TS:=fun D σ H=>∃ α ρ μ,p.S H α μ/\dr p.K H α ρ σ/\dk p H α (f ρ μ) D
def rh (p:Pa) (g:MG):TG:=fun v σ H Q=>∃ α ρ μ d,p.S H α μ/\dr p.K H α ρ σ/\p.R H α d v/\aF p H α (g d ρ μ) (fun ρ' _ H' α'=>∀ σ',dr p.K H' α' ρ' σ'->Q σ' H')
theorem PE.weak {X:Cx}{e:Expr}{t t':TE} (h:PE X e t) (k:∀ σ H Q,t' σ H Q->t σ H Q):PE X e t':=fun pins s σ H Q I q=>h pins s σ H Q I (k σ H Q q)
theorem PT.weak {X:Cx}{e:Expr}{t t':TT} (h:PT X e t) (k:∀ σ H Q,t' σ H Q->t σ H Q):PT X e t':=fun pins s σ H Q I q=>h pins s σ H Q I (k σ H Q q)
theorem PW.weak {X:Cx}{e:Expr}{t t':TT} (h:PW X e t) (k:∀ σ H Q,t' σ H Q->t σ H Q):PW X e t':=fun wh pins s σ H Q I q=>h wh pins s σ H Q I (k σ H Q q)
theorem PA.weak {X:Cx}{e:List Expr}{t t':TA} (h:PA X e t) (k:∀ σ H Q,t' σ H Q->t σ H Q):PA X e t':=fun pos pins s σ H Q I q=>h pos pins s σ H Q I (k σ H Q q)
theorem PS.weak {X:Cx}{e:Stmt}{t t':TS} (h:PS X e t) (k:∀ D σ H,t' D σ H->t D σ H):PS X e t':=fun pins s σ H Q I q=>h pins s σ H Q I (k Q σ H q)
theorem iO.weak {X:Cx}{e:List Stmt}{t t':TS} (h:iO X e t) (k:∀ D σ H,t' D σ H->t D σ H):iO X e t':=fun pins s σ H Q I q=>h pins s σ H Q I (k Q σ H q)
def ak (i:Nat):ME:=fun ρ μ=>match ρ[i]? with
 | some (some d)=>.ok d μ
 | _=>.bad
def cC (d:D):ME:=fun _ μ=>.ok d μ
def az (op:D->D->aB->ai D) (fa fb:ME):ME:=fun ρ μ=>(fa ρ μ).bind fun a μ1=>(fb ρ μ1).bind fun b μ2=>op a b μ2
def nA (op:D->aB->ai D) (fa:ME):ME:=fun ρ μ=>(fa ρ μ).bind fun a μ1=>op a μ1
def ax:MA:=fun _ μ=>.ok [] μ
def ag (fa:ME) (fr:MA):MA:=fun ρ μ=>(fa ρ μ).bind fun a μ1=>(fr ρ μ1).bind fun r μ2=>.ok (a::r) μ2
def aC (f:List D->aB->ai D) (fa:MA):ME:=fun ρ μ=>(fa ρ μ).bind f
def bU (fa:MA):ME:=aC (fun ds μ=>if ds.length<=sizeLine then .ok (.tup ds) μ else .bad) fa
def fZ (fa:MA):ME:=aC (fun ds μ=>if ds.length<=sizeLine then .ok (.obj μ.length) (μ++[.lst ds]) else .bad) fa
def A2:D->aB->ai Bool
 | .bl b,μ=>.ok b μ
 | _,_=>.bad
def fT (f:ME):MT:=fun ρ μ=>(f ρ μ).bind A2
def kF (f g:MT):MT:=fun ρ μ=>(f ρ μ).bind fun b μ1=>if b=true then g ρ μ1 else .ok false μ1
def u5 (f g:MT):MT:=fun ρ μ=>(f ρ μ).bind fun b μ1=>if b=true then .ok true μ1 else g ρ μ1
def kE (f:MT):MT:=fun ρ μ=>(f ρ μ).bind fun b μ1=>.ok (!b) μ1
def oD (f g:ME):ME:=fun ρ μ=>(f ρ μ).bind fun a μ1=>(A2 a μ1).bind fun b μ2=>if b=true then g ρ μ2 else .ok (.bl false) μ2
def tG (f:ME):ME:=fun ρ μ=>(f ρ μ).bind fun a μ1=>(A2 a μ1).bind fun b μ2=>.ok (.bl (!b)) μ2
def HJ (c:MT) (f g:ME):ME:=fun ρ μ=>(c ρ μ).bind fun b μ1=>if b=true then f ρ μ1 else g ρ μ1
def pX (p:Pa) (op:D->D->aB->ai D) (r:R2):Prop:=∀ a b v y H α μ Q,p.S H α μ->p.R H α a v->p.R H α b y->aF p H α (op a b μ) (RV p Q)->r v y H Q
def IW (p:Pa) (op:D->aB->ai D) (r:V->Hp->VK->Prop):Prop:=∀ a v H α μ Q,p.S H α μ->p.R H α a v->aF p H α (op a μ) (RV p Q)->r v H Q
def uV (p:Pa) (f:List D->aB->ai D) (r:List V->Hp->VK->Prop):Prop:=∀ ds vs H α μ Q,p.S H α μ->p.Rs H α ds vs->aF p H α (f ds μ) (RV p Q)->r vs H Q
section
variable {p:Pa}
theorem rS {d:D}{μ:aB}{H:Hp}{α:List Addr}{R:Bool->aB->Hp->List Addr->Prop}{v:V} (h:aF p H α (A2 d μ) R) (r:p.R H α d v) (s:p.S H α μ):∃ b,d=.bl b/\v=.bl b/\R b μ H α:=by
 cases d with
 | bl b=>exact ⟨b,rfl,aX.mp r,h.now s⟩
 | non=>exact h.elim
 | int i=>exact h.elim
 | str x=>exact h.elim
 | tup xs=>exact h.elim
 | frz xs=>exact h.elim
 | obj n=>exact h.elim
variable {X:Cx}{a b c:Expr}{es:List Expr}{fa fb fc:ME}{pos:Pos}
theorem EC {i:Nat}{x:Str} (h:PE X (.Name x pos) (Gu i)):PE X (.Name x pos) (tD p (ak i)):=h.weak fun σ H Q ⟨α,ρ,μ,S,R,P⟩=>by
 unfold ak at P
 cases e:ρ[i]? with
 | none=>rw [e] at P;exact P.elim
 | some o=>
  rw [e] at P
  cases o with
  | none=>exact P.elim
  | some d=>
   obtain ⟨v,h1,h2⟩:=R.at' i d e
   exact ⟨v,h1,P.now S v h2⟩
theorem yt {e:Expr}{v:V}{d:D} (h:PE X e (tC v)) (r:∀ H α,p.R H α d v):PE X e (tD p (cC d)):=h.weak fun σ H Q ⟨α,ρ,μ,S,R,P⟩=>P.now S v (r H α)
theorem mq {op:Operator}{o:D->D->aB->ai D}{r:R2} (ho:jz X (binaryOp op) r) (hd:pX p o r) (ha:PE X a (tD p fa)) (hb:PE X b (tD p fb)):PE X (.BinOp a op b pos) (tD p (az o fa fb)):=
 (Hi ho ha hb).weak fun σ H Q ⟨α,ρ,μ,S,R,P⟩=>⟨α,ρ,μ,S,R,P.bind.imp fun x μ1 H1 α1 X1 S1 P1 v rv=>⟨α1,ρ,μ1,S1,R.mono X1,P1.bind.imp fun y μ2 H2 α2 X2 S2 P2 u ru=>hd x y v u H2 α2 μ2 Q S2 (rv.mono X2) ru P2⟩⟩
theorem EH {op:CmpOp}{o:D->D->aB->ai D}{r:R2} (ho:jz X (compareOp op) r) (hd:pX p o r) (ha:PE X a (tD p fa)) (hb:PE X b (tD p fb)) (hm:behindInMarks op b=false):PE X (.Compare a [op] [b] pos) (tD p (az o fa fb)):=
 (Cn ho ha hb hm).weak fun σ H Q ⟨α,ρ,μ,S,R,P⟩=>⟨α,ρ,μ,S,R,P.bind.imp fun x μ1 H1 α1 X1 S1 P1 v rv=>⟨α1,ρ,μ1,S1,R.mono X1,P1.bind.imp fun y μ2 H2 α2 X2 S2 P2 u ru=>hd x y v u H2 α2 μ2 Q S2 (rv.mono X2) ru P2⟩⟩
theorem Em {op:CmpOp}{o:D->D->aB->ai D}{r:R2} (ho:jz X (compareOp op) r) (hd:pX p o r) (ha:PE X a (tD p fa)) (hb:PE X b (tD p fb)) (hm:behindInMarks op b=false):PT X (.Compare a [op] [b] pos) (iM p (fT (az o fa fb))):=
 (Cb ho ha hb hm).weak fun σ H Q ⟨α, ρ, μ, S, R, P⟩ => ⟨α, ρ, μ, S, R, P.bind.bind.imp fun x μ1 H1 α1 X1 S1 P1 v rv => ⟨α1, ρ, μ1, S1, R.mono X1, P1.bind.imp fun y μ2 H2 α2 X2 S2 P2 u ru =>
  hd x y v u H2 α2 μ2 _ S2 (rv.mono X2) ru (P2.imp fun d μ3 H3 α3 X3 S3 P3 z rz=>by
   obtain ⟨k,_,e,q⟩:=rS P3 rz S3
   exact ⟨k,e,q⟩)⟩⟩
theorem G7 {op:UnaryOp}{o:D->aB->ai D}{r:V->Hp->VK->Prop} (ho:HM X (unaryOp op) r) (hd:IW p o r) (ha:PE X a (tD p fa)):PE X (.UnaryOp op a pos) (tD p (nA o fa)):=
 (Hh ho ha).weak fun σ H Q ⟨α,ρ,μ,S,R,P⟩=>⟨α,ρ,μ,S,R,P.bind.imp fun x μ1 H1 α1 X1 S1 P1 v rv=>hd x v H1 α1 μ1 Q S1 rv P1⟩
theorem EJ:PA X [] (k8 p ax):=oG.weak fun σ H Q ⟨α,ρ,μ,S,R,P⟩=>P.now S [] Reps.nil
theorem BY {fr:MA} (ha:PE X a (tD p fa)) (hr:PA X es (k8 p fr)) (hs:starEach (a::es) X.env=(false,eval a X.env)::starEach es X.env):PA X (a::es) (k8 p (ag fa fr)):=
 (iD ha hr hs).weak fun σ H Q ⟨α,ρ,μ,S,R,P⟩=>⟨α,ρ,μ,S,R,P.bind.imp fun x μ1 H1 α1 X1 S1 P1 v rv=>⟨α1,ρ,μ1,S1,R.mono X1,P1.bind.imp fun y μ2 H2 α2 X2 S2 P2 us ru=>P2.now S2 _ (Reps.cons (rv.mono X2) ru)⟩⟩
theorem ED {k:Nat}{fr:MA} (h:PA X es (k8 p fr)):PE X (.Tuple es k pos) (tD p (bU fr)):=
 (E5 h).weak fun σ H Q ⟨α, ρ, μ, S, R, P⟩ => ⟨α, ρ, μ, S, R, P.bind.imp fun ds μ1 H1 α1 X1 S1 P1 vs rv => by
  by_cases hl:ds.length<=sizeLine
  ·rw [Js hl] at P1
   refine ⟨by rw [rv.length];exact hl,fun q hq=>?_⟩
   exact P1 _ _ (cq hq) (S1.tuple hq) _ (aK.mpr ⟨q,vs,rfl,gU.of cy,rv.mono (cq hq)⟩)
  ·rw [Jt hl] at P1
   exact P1.elim⟩
theorem fE {H:Hp}{α:List Addr}{μ:aB}{ds:List D}{vs:List V}{q:Addr} (S:p.S H α μ) (hq:H q=none) (rv:p.Rs H α ds vs) :
  p.X H (cK H q (.lst vs)) α (α++[q])/\p.S (cK H q (.lst vs)) (α++[q]) (μ++[.lst ds])/\p.R (cK H q (.lst vs)) (α++[q]) (.obj μ.length) (.ref q):=by
 have X1:p.X H (cK H q (.lst vs)) α (α++[q]):=(cq hq).trans (jS [q])
 exact ⟨X1,S.more hq ⟨vs,cy,rv.mono X1⟩,aQ.mpr ⟨q,rfl,by rw [<- S.len];simp⟩⟩
theorem EF {fr:MA} (h:PA X es (k8 p fr)):PE X (.List es pos) (tD p (fZ fr)):=
 (Fb h).weak fun σ H Q ⟨α, ρ, μ, S, R, P⟩ => ⟨α, ρ, μ, S, R, P.bind.imp fun ds μ1 H1 α1 X1 S1 P1 vs rv => by
  by_cases hl:ds.length<=sizeLine
  ·rw [Js hl] at P1
   refine ⟨by rw [rv.length];exact hl,fun q hq=>?_⟩
   obtain ⟨x1,x2,x3⟩:=fE S1 hq rv
   exact P1 _ _ x1 x2 _ x3
  ·rw [Jt hl] at P1
   exact P1.elim⟩
variable {ft gt:MT}{rest:List Expr}
theorem Ek (ha:PT X a (iM p ft)) (hb:PW X (.BoolOp .And (b::rest) pos) (iM p gt)):PW X (.BoolOp .And (a::b::rest) pos) (iM p (kF ft gt)):=
 (ES ha hb).weak fun σ H Q ⟨α, ρ, μ, S, R, P⟩ => ⟨α, ρ, μ, S, R, P.bind.imp fun k μ1 H1 α1 X1 S1 P1 => by
  cases k with
  | true=>rw [Js rfl] at P1 ⊢;exact ⟨α1,ρ,μ1,S1,R.mono X1,P1⟩
  | false=>rw [Jt JX] at P1 ⊢;exact P1.now S1⟩
theorem G3 (ha:PT X a (iM p ft)) (hb:PW X (.BoolOp .Or (b::rest) pos) (iM p gt)):PW X (.BoolOp .Or (a::b::rest) pos) (iM p (u5 ft gt)):=
 (Hf ha hb).weak fun σ H Q ⟨α, ρ, μ, S, R, P⟩ => ⟨α, ρ, μ, S, R, P.bind.imp fun k μ1 H1 α1 X1 S1 P1 => by
  cases k with
  | true=>rw [Js rfl] at P1 ⊢;exact P1.now S1
  | false=>rw [Jt JX] at P1 ⊢;exact ⟨α1,ρ,μ1,S1,R.mono X1,P1⟩⟩
theorem El (ha:PT X a (iM p ft)):PT X (.UnaryOp .Not a pos) (iM p (kE ft)):=
 (ET ha).weak fun σ H Q ⟨α,ρ,μ,S,R,P⟩=>⟨α,ρ,μ,S,R,P.bind.imp fun k μ1 H1 α1 X1 S1 P1=>P1.now S1⟩
theorem EI (ha:PE X a (tD p fa)) (hb:PE X (.BoolOp .And (b::rest) pos) (tD p fb)):PE X (.BoolOp .And (a::b::rest) pos) (tD p (oD fa fb)):=
 (Fd ha hb).weak fun σ H Q ⟨α, ρ, μ, S, R, P⟩ => ⟨α, ρ, μ, S, R, P.bind.imp fun d μ1 H1 α1 X1 S1 P1 v rv => by
  obtain ⟨k,_,e,q⟩:=rS P1.bind rv S1
  refine ⟨k,e,?_⟩
  cases k with
  | true=>rw [Js rfl] at q ⊢;exact ⟨α1,ρ,μ1,S1,R.mono X1,q⟩
  | false=>rw [Jt JX] at q ⊢;exact q.now S1 _ (aX.mpr rfl)⟩
theorem EE (ha:PE X a (tD p fa)):PE X (.UnaryOp .Not a pos) (tD p (tG fa)):=
 (E8 ha).weak fun σ H Q ⟨α, ρ, μ, S, R, P⟩ => ⟨α, ρ, μ, S, R, P.bind.imp fun d μ1 H1 α1 X1 S1 P1 v rv => by
  obtain ⟨k,_,e,q⟩:=rS P1.bind rv S1
  exact ⟨k,e,q.now S1 _ (aX.mpr rfl)⟩⟩
theorem G9 (hc:PT X c (iM p ft)) (ha:PE X a (tD p fa)) (hb:PE X b (tD p fb)):PE X (.IfExp c a b pos) (tD p (HJ ft fa fb)):=
 (Ai hc ha hb).weak fun σ H Q ⟨α, ρ, μ, S, R, P⟩ => ⟨α, ρ, μ, S, R, P.bind.imp fun k μ1 H1 α1 X1 S1 P1 => by
  cases k with
  | true=>rw [Js rfl] at P1 ⊢;exact ⟨α1,ρ,μ1,S1,R.mono X1,P1⟩
  | false=>rw [Jt JX] at P1 ⊢;exact ⟨α1,ρ,μ1,S1,R.mono X1,P1⟩⟩
theorem z5 {id:String}{x:Str}{px:Pos}{f:List D->aB->ai D}{fr:MA}{r:List V->Hp->VK->Prop} (hc:cI X (.builtin id) r) (hd:uV p f r) (hg:Gl X x) (hm:X.mg x=none) (hv:bootBuiltins x=some (.builtin id)) (ha:PA X (a::es) (k8 p fr))
  (hn:x ≠ "__name__") (hdb:(x == ("__debug__" : Str))=false) (he:starEach (a::es) X.env=(false,eval a X.env)::starEach es X.env) (hpl:(backTo pos (starEach es X.env)).any (·.1)=false):PE X (.Call (.Name x px) (a::es) [] pos) (tD p (aC f fr)):=
 (lK hc hg hm hv ha hn hdb he hpl).weak fun σ H Q ⟨α,ρ,μ,S,R,P⟩=>⟨α,ρ,μ,S,R,P.bind.imp fun ds μ1 H1 α1 X1 S1 P1 vs rv=>hd ds vs H1 α1 μ1 Q S1 rv P1⟩
theorem xB {T:String}{x:Str}{px:Pos}{f:List D->aB->ai D}{fr:MA}{r:List V->Hp->VK->Prop} (hc:cI X (.type T) r) (hd:uV p f r) (hg:Gl X x) (hm:X.mg x=none) (hv:bootBuiltins x=some (.type T)) (ha:PA X (a::es) (k8 p fr))
  (hn:x ≠ "__name__") (hdb:(x == ("__debug__" : Str))=false) (he:starEach (a::es) X.env=(false,eval a X.env)::starEach es X.env) (hpl:(backTo pos (starEach es X.env)).any (·.1)=false):PE X (.Call (.Name x px) (a::es) [] pos) (tD p (aC f fr)):=
 (qF hc hg hm hv ha hn hdb he hpl).weak fun σ H Q ⟨α,ρ,μ,S,R,P⟩=>⟨α,ρ,μ,S,R,P.bind.imp fun ds μ1 H1 α1 X1 S1 P1 vs rv=>hd ds vs H1 α1 μ1 Q S1 rv P1⟩
end
def cu (f:ME):MS:=fun ρ μ=>(f ρ μ).bindS fun d μ'=>.ret d μ'
def di:MS:=fun ρ μ=>.next ρ μ
def br (f g:MS):MS:=fun ρ μ=>(f ρ μ).bind g
def jZ (c:MT) (f g:MS):MS:=fun ρ μ=>(c ρ μ).bindS fun b μ1=>if b=true then f ρ μ1 else g ρ μ1
def bw (f:ME) (g:MG):MS:=fun ρ μ=>(f ρ μ).bindS fun d μ1=>(g d ρ μ1).bindS fun ρ' μ2=>.next ρ' μ2
def qt (f:ME):MS:=fun ρ μ=>(f ρ μ).bindS fun _ μ1=>.next ρ μ1
def rp (i:Nat) (op:D->D->aB->ai D) (f:ME):MS:=fun ρ μ=>(ak i ρ μ).bindS fun a μ0=>(f ρ μ0).bindS fun b μ1=>(op a b μ1).bindS fun c μ2=>.next (ρ.set i (some c)) μ2
def aj (i:Nat):MG:=fun d ρ μ=>.ok (ρ.set i (some d)) μ
abbrev Ba:=List D->Ro->aB->ai Ro
def gE:Ba:=fun ds ρ μ=>match ds with
 | []=>.ok ρ μ
 | _::_=>.bad
def bC (g:MG) (u:Ba):Ba:=fun ds ρ μ=>match ds with
 | []=>.bad
 | d::r=>(g d ρ μ).bind fun ρ' μ'=>u r ρ' μ'
def gD (n:Nat) (u:Ba):MG:=fun d ρ μ=>match d with
 | .tup xs=>if xs.length=n then u xs ρ μ else .bad
 | _=>.bad
def uY (o i v:D) (μ:aB):ai Unit:=match o,i with
 | .obj n,.int k=>match μ[n]? with
  | some (.lst xs)=>match vV xs.length k with
   | some j=>.ok () (μ.set n (.lst (xs.set j v)))
   | none=>.bad
  | _=>.bad
 | _,_=>.bad
def kD (fo fi:ME):MG:=fun d ρ μ=>(fo ρ μ).bind fun o μ1=>(fi ρ μ1).bind fun i μ2=>(uY o i d μ2).bind fun _ μ3=>.ok ρ μ3
def sR (p:Pa) (g:Ba):A8:=fun vs σ H Q=>∃ α ρ μ ds,p.S H α μ/\dr p.K H α ρ σ/\p.Rs H α ds vs/\aF p H α (g ds ρ μ) (fun ρ' _ H' α'=>∀ σ',dr p.K H' α' ρ' σ'->Q σ' H')
theorem PG.weak {X:Cx}{e:Expr}{t t':TG} (h:PG X e t) (k:∀ v σ H Q,t' v σ H Q->t v σ H Q):PG X e t':=fun pins s σ H v u Q I r q=>h pins s σ H v u Q I r (k v σ H Q q)
theorem uU.weak {X:Cx}{e:List Expr}{t t':A8} (h:uU X e t) (k:∀ v σ H Q,t' v σ H Q->t v σ H Q):uU X e t':=fun pins s σ H v u Q I r q=>h pins s σ H v u Q I r (k v σ H Q q)
theorem PI.weak {X:Cx}{tg e:Expr}{t t':TI} (h:PI X tg e t) (k:∀ σ H R,t' σ H R->t σ H R):PI X tg e t':=fun pins s σ H Q I q=>h pins s σ H Q I (k σ H Q q)
section
variable {p:Pa}{X:Cx}{a b c e tg:Expr}{es:List Expr}{f:ME}{g:MG}{u:Ba}{pos:Pos}{st:Stmt}{sts:List Stmt}{fs gs:MS}{ft:MT}
theorem Er:iO X [] (gI p di):=Cd.weak fun D σ H ⟨α,ρ,μ,S,R,P⟩=>P H α σ ki.refl S R
theorem zW {t u:TS}{D:ml}{σ:St}{H:Hp}{α:List Addr}{o:SO}{k:MS} (h:dk p H α (o.bind k) D)
  (hk:∀ D σ H,gI p k D σ H->u D σ H):dk p H α o { D with nx:=u D }:=by
 cases o with
 | next ρ μ=>exact fun H' α' σ' e s r=>hk _ _ _ ⟨α',ρ,μ,s,r,dk.from e h⟩
 | brk ρ μ=>exact h
 | cnt ρ μ=>exact h
 | ret d μ=>exact h
 | exc x μ=>exact h
 | bad=>exact h
theorem BH (h1:PS X st (gI p fs)) (h2:iO X sts (gI p gs)):iO X (st::sts) (gI p (br fs gs)):=
 (Ac h1 h2).weak fun D σ H ⟨α,ρ,μ,S,R,P⟩=>⟨α,ρ,μ,S,R,zW (t:=gI p fs) (σ:=σ) P fun _ _ _ z=>z⟩
theorem Ep (h1:PS X st (gI p fs)):iO X [st] (gI p fs):=Cc h1
theorem Eo (h:PE X e (tD p f)):PS X (.Return (some e) pos) (gI p (cu f)):=
 (EW h).weak fun D σ H ⟨α,ρ,μ,S,R,P⟩=>⟨α,ρ,μ,S,R,(aF.bindS P).imp fun d μ1 H1 α1 X1 S1 P1 v rv=>P1 H1 α1 v ki.refl S1 rv⟩
theorem G4 {A B:List Stmt} (hc:PT X c (iM p ft)) (ha:iO X A (gI p fs)) (hb:iO X B (gI p gs)):PS X (.If c A B pos) (gI p (jZ ft fs gs)):=
 (Hg hc ha hb).weak fun D σ H ⟨α, ρ, μ, S, R, P⟩ => ⟨α, ρ, μ, S, R, (aF.bindS P).imp fun k μ1 H1 α1 X1 S1 P1 => by
  cases k with
  | true=>rw [Js rfl] at P1 ⊢;exact ⟨α1,ρ,μ1,S1,R.mono X1,P1⟩
  | false=>rw [Jt JX] at P1 ⊢;exact ⟨α1,ρ,μ1,S1,R.mono X1,P1⟩⟩
theorem uo {D:ml}{σ:St}{H:Hp} (h:gI p (bw f g) D σ H):yr (tD p f) (rh p g) D σ H:=by
 obtain ⟨α,ρ,μ,S,R,P⟩:=h
 exact ⟨α,ρ,μ,S,R,(aF.bindS P).imp fun d μ1 H1 α1 X1 S1 P1 v rv=>⟨α1,ρ,μ1,d,S1,R.mono X1,rv,(aF.bindS P1).imp fun ρ' μ2 H2 α2 X2 S2 P2 σ' r'=>P2 H2 α2 σ' ki.refl S2 r'⟩⟩
theorem Eu (he:PE X e (tD p f)) (hg:PG X tg (rh p g)) (hs:swapsWithSole [tg] e pos.line X.env=pure false) (hw:swappedStores [tg] e X.env=pure none)
  (h1:(assignEach [tg] X.env).map (·.2)=[assign tg X.env]):PS X (.Assign [tg] e pos) (gI p (bw f g)):=(EZ he hg hs hw h1).weak fun D σ H h=>uo h
theorem pF {i:Nat}{v:V}{σ:St}{H:Hp}{Q:St->Hp->Prop} (h:rh p (aj i) v σ H Q):tx i v σ H Q:=by
 obtain ⟨α,ρ,μ,d,S,R,r,P⟩:=h
 exact P.now S _ (R.set i r)
theorem BR {i:Nat}{x:Str} (hN:X.N.Nodup) (hi:X.N[i]?=some x) (hx:xa X.env.scope x) (hf:X.fn x=true\/X.env.scope.names.lookup x=some .local):PG X (.Name x pos) (rh p (aj i)):=
 (Ck hN hi hx hf).weak fun v σ H Q h=>pF h
theorem En {i:Nat}{x:Str}{pos':Pos} (hN:X.N.Nodup) (hi:X.N[i]?=some x) (hx:xa X.env.scope x) (he:PE X e (tD p f)) (hs:swapsWith e (some (.Name x pos')) pos.line X.env=pure false) (hf:X.fn x=true\/X.env.scope.names.lookup x=some .local) :
  PS X (.Assign [.Name x pos'] e pos) (gI p (bw f (aj i))):=(EV hN hi hx he hs hf).weak fun D σ H h=>by
 obtain ⟨α,ρ,μ,S,R,P⟩:=uo h
 exact ⟨α,ρ,μ,S,R,P.imp fun d μ1 H1 α1 X1 S1 P1 v rv=>pF (P1 v rv)⟩
theorem BG (he:PE X e (tD p f)) (hs:swapsWith e none pos.line X.env=pure false):PS X (.Expr e pos) (gI p (qt f)):=
 (Cf he hs).weak fun D σ H ⟨α,ρ,μ,S,R,P⟩=>⟨α,ρ,μ,S,R,(aF.bindS P).imp fun d μ1 H1 α1 X1 S1 P1 v rv=>P1 H1 α1 σ ki.refl S1 (R.mono X1)⟩
theorem BQ:uU X [] (sR p gE):=Cj.weak fun vs σ H Q ⟨α,ρ,μ,ds,S,R,r,P⟩=>by
 cases ds with
 | nil=>simp only [Reps] at r;exact ⟨r,P.now S σ R⟩
 | cons d ds=>exact P.elim
theorem zS (h1:PG X e (rh p g)) (h2:uU X es (sR p u)) (hs:(assignEach (e::es) X.env).map (·.2)=assign e X.env::(assignEach es X.env).map (·.2)):uU X (e::es) (sR p (bC g u)):=
 (Ag h1 h2 hs).weak fun vs σ H Q ⟨α, ρ, μ, ds, S, R, r, P⟩ => by
  cases ds with
  | nil=>exact P.elim
  | cons d ds=>
   simp only [Reps] at r
   obtain ⟨v,vr,rfl,r1,r2⟩:=r
   refine ⟨v,vr,rfl,α,ρ,μ,d,S,R,r1,?_⟩
   exact (aF.bind (o:=g d ρ μ) P).imp fun ρ' μ1 H1 α1 X1 S1 P1 σ' r'=>⟨α1,ρ',μ1,ds,S1,r',r2.mono X1,P1⟩
theorem EA {k n:Nat} (hK:X.K=p.K) (hc:X.calm=true) (h:uU X es (sR p u)) (hn:(assignEach es X.env).length=n) (hst:(assignEach es X.env).findIdx? (·.1)=none):PG X (.Tuple es k pos) (rh p (gD n u)):=
 (E2 hc h hn hst).weak fun v σ H Q ⟨α, ρ, μ, d, S, R, r, P⟩ => by
  cases d with
  | tup xs=>
   obtain ⟨a,vs,rfl,h1,h2⟩:=aK.mp r
   have P':aF p H α (if xs.length=n then u xs ρ μ else .bad) _:=P
   by_cases hl:xs.length=n
   ·rw [Js hl] at P'
    exact ⟨a,vs,rfl,by rw [hK];exact h1,by rw [h2.length];exact hl,α,ρ,μ,xs,S,R,h2,P'⟩
   ·rw [Jt hl] at P';exact P'.elim
  | non=>exact P.elim
  | bl b=>exact P.elim
  | int i=>exact P.elim
  | str x=>exact P.elim
  | frz xs=>exact P.elim
  | obj n=>exact P.elim
theorem BU {o i d:D}{μ:aB}{H:Hp}{α:List Addr}{R:Unit->aB->Hp->List Addr->Prop}{vo vi v:V} (S:p.S H α μ) (ro:p.R H α o vo) (ri:p.R H α i vi) (rv:p.R H α d v) (P:aF p H α (uY o i d μ) R) :
  Dt vo vi v H fun H'=>∃ μ',p.X H H' α α/\p.S H' α μ'/\R () μ' H' α:=by
 unfold uY at P
 split at P
 ·rename_i n k
  split at P
  ·rename_i xs hx
   split at P
   ·rename_i j hj
    obtain ⟨a,ea,us,hH,rr⟩:=S.at hx
    obtain ⟨a',rfl,ea'⟩:=aQ.mp ro
    rw [ea] at ea';cases ea'
    rw [ar.mp ri]
    have q:=rr.set rv j
    refine ⟨a,us,k,j,rfl,rfl,hH,by rw [rr.length];exact hj,_,iE hH,S.put hx ea hH q,?_⟩
    exact P _ _ (iE hH) (S.put hx ea hH q)
   ·exact P.elim
  ·exact P.elim
 ·exact P.elim
theorem EB {o i:Expr}{fo fi:ME} (ho:PE X o (tD p fo)) (hi:PE X i (tD p fi))
  (ha : ∀ v, assign (.Subscript o i pos) X.env v = (do
   let ov <- holding [v] (eval o X.env)
   let iv <- holding [v,ov] (eval i X.env)
   standAt pos
   holding [v,ov,iv] (setItem ov iv v)
   release [v,ov,iv] [])):PG X (.Subscript o i pos) (rh p (kD fo fi)):=
 (E3 ho hi zT ha).weak fun v σ H Q ⟨α, ρ, μ, d, S, R, r, P⟩ => ⟨α, ρ, μ, S, R, (aF.bind P).imp fun od μ1 H1 α1 X1 S1 P1 vo ro => ⟨α1, ρ, μ1, S1, R.mono X1, (aF.bind P1).imp fun id μ2 H2 α2 X2 S2 P2 vi ri => by
  obtain ⟨pp,xs,k,j,e1,e2,e3,e4,μ3,x3,s3,q⟩:=BU S2 (ro.mono X2) ri ((r.mono X1).mono X2) (aF.bind P2)
  exact ⟨pp,xs,k,j,e1,e2,e3,e4,q.now s3 σ (((R.mono X1).mono X2).mono x3)⟩⟩⟩
theorem Et {i:Nat}{x:Str}{op:Operator}{o:D->D->aB->ai D}{r:R2}{pos':Pos} (hN:X.N.Nodup) (hi:X.N[i]?=some x) (hx:xa X.env.scope x) (he:PE X e (tD p f)) (ho:HN X op r) (hd:pX p o r) (hf:X.fn x=true\/X.env.scope.names.lookup x=some .local) :
  PS X (.AugAssign (.Name x pos') op e pos) (gI p (rp i o f)):=(EY hN hi hx he ho hf).weak fun D σ H ⟨α,ρ,μ,S,R,P⟩=>by
 unfold rp ak at P
 cases er:ρ[i]? with
 | none=>rw [er] at P;exact P.elim
 | some oo=>
  rw [er] at P
  cases oo with
  | none=>exact P.elim
  | some d=>
   obtain ⟨v,h1,h2⟩:=R.at' i d er
   have P':dk p H α ((f ρ μ).bindS fun b μ1=>(o d b μ1).bindS fun c μ2=>.next (ρ.set i (some c)) μ2) D:=P
   refine ⟨v,h1,α,ρ,μ,S,R,(aF.bindS P').imp fun y μ1 H1 α1 X1 S1 P1 u ru=>?_⟩
   exact hd d y v u H1 α1 μ1 _ S1 (h2.mono X1) ru ((aF.bindS P1).imp fun z μ2 H2 α2 X2 S2 P2 t rt=>P2 H2 α2 _ ki.refl S2 (((R.mono X1).mono X2).set i rt))
end
inductive rj where
 | fix (xs:List D) | own (n:Nat) (xs:List D) | eno (n:Nat) (xs:List D)
def DI:Nat->List D->List D
 | _,[]=>[]
 | i,x::r=>.tup [.int i,x]::DI (i+1) r
def rj.items:rj->List D
 | .fix xs=>xs
 | .own _ xs=>xs
 | .eno _ xs=>DI 0 xs
def d3:rj->aB->Prop
 | .fix _,_=>True
 | .own n xs,μ=>μ[n]?=some (.lst xs)
 | .eno n xs,μ=>μ[n]?=some (.lst xs)
def yB (p:Pa) (J:It) (src:rj) (H0:Hp) (α0:List Addr):Prop:=
 ∀ H2 α2 μ2,p.X H0 H2 α0 α2->p.S H2 α2 μ2->d3 src μ2 ->
  (∀ (i:Nat) d,src.items[i]?=some d->J.go i H2/\∀ x H3,J.yld i H2 x H3->p.X H2 H3 α2 α2/\p.S H3 α2 μ2/\p.R H3 α2 d x)/\J.stop src.items.length H2
abbrev MI:=Ro->aB->ai rj
def wZ (p:Pa) (f:MI):TI:=fun σ H R=>∃ α ρ μ,p.S H α μ/\dr p.K H α ρ σ/\aF p H α (f ρ μ) (fun src μ' H' α'=>∀ J,d3 src μ'->yB p J src H' α'->R J H')
def SO.loop (o:SO) (k:Ro->aB->SO):SO:=match o with
 | .next ρ μ=>k ρ μ
 | .cnt ρ μ=>k ρ μ
 | .brk ρ μ=>.next ρ μ
 | .ret d μ=>.ret d μ
 | .exc x μ=>.exc x μ
 | .bad=>.bad
open Classical in
noncomputable def ko (src:rj) (g:MG) (fb:MS):List D->Ro->aB->SO
 | [],ρ,μ=>if d3 src μ then .next ρ μ else .bad
 | d::r,ρ,μ=>if d3 src μ then (g d ρ μ).bindS fun ρ' μ'=>(fb ρ' μ').loop (ko src g fb r) else .bad
noncomputable def kl (fi:MI) (g:MG) (fb:MS):MS:=fun ρ μ=>(fi ρ μ).bindS fun src μ1=>ko src g fb src.items ρ μ1
def je (c:MT) (fb:MS):Nat->Ro->aB->SO
 | 0,_,_=>.bad
 | n+1,ρ,μ=>(c ρ μ).bindS fun b μ1=>if b=true then (fb ρ μ1).loop (je c fb n) else .next ρ μ1
def mv (n:Nat) (c:MT) (fb:MS):MS:=je c fb n
section
variable {p:Pa}{X:Cx}{tg iter c:Expr}{fi:MI}{g:MG}{fb:MS}{ft:MT}{body:List Stmt}{pos:Pos}
theorem qJ {H:Hp}{α:List Addr}{o:SO}{k:Ro->aB->SO}{D:ml}{N:St->Hp->Prop} (h:dk p H α (o.loop k) D)
  (hN:∀ ρ μ H' α' σ',p.X H H' α α'->p.S H' α' μ->dr p.K H' α' ρ σ'->dk p H' α' (k ρ μ) D->N σ' H'):dk p H α o { D with nx:=N,ct:=N,bk:=D.nx }:=by
 cases o with
 | next ρ μ=>exact fun H' α' σ' e s r=>hN ρ μ H' α' σ' e s r (dk.from e h)
 | cnt ρ μ=>exact fun H' α' σ' e s r=>hN ρ μ H' α' σ' e s r (dk.from e h)
 | brk ρ μ=>exact h
 | ret d μ=>exact h
 | exc x μ=>exact h
 | bad=>exact h
theorem Es (hp:PassesOwn (model X.prog X.w) X.A X.env X.xe) (hc:X.calm=true) (hi:PI X tg iter (wZ p fi)) (hg:PG X tg (rh p g)) (hb:iO X body (gI p fb)) (hs:∀ x,foldedSetIterable iter X.env x=pure x) :
  PS X (.For tg iter body [] pos) (gI p (kl fi g fb)):=(EX hp hc hi hg hb hs).weak fun D σ H ⟨α,ρ,μ,S,R,P⟩=>by
 refine ⟨α,ρ,μ,S,R,(aF.bindS P).imp fun src μ1 H1 α1 X1 S1 P1 J hok hJ=>?_⟩
 refine ⟨fun i m σ2 H2=>m=src.items.length - i/\i<=src.items.length/\∃ α2 ρ2 μ2,p.X H1 H2 α1 α2/\p.S H2 α2 μ2/\dr p.K H2 α2 ρ2 σ2/\dk p H2 α2 (ko src g fb (src.items.drop i) ρ2 μ2) D,
  ⟨_,rfl,Le _,α1,ρ,μ1,ki.refl,S1,R.mono X1,by simpa using P1⟩,?_⟩
 rintro i m σ2 H2 ⟨rfl,hi,α2,ρ2,μ2,X2,S2,R2,P2⟩
 by_cases hlt:i<src.items.length
 ·rw [List.drop_eq_getElem_cons hlt] at P2
  unfold ko at P2
  by_cases ho:d3 src μ2
  ·rw [Js ho] at P2
   obtain ⟨hgo,hy⟩:=(hJ H2 α2 μ2 X2 S2 ho).1 i _ (My hlt)
   refine .inr ⟨hgo,fun σ' H'=>i+1<=src.items.length/\∃ α2 ρ2 μ2,p.X H1 H' α1 α2/\p.S H' α2 μ2/\dr p.K H' α2 ρ2 σ'/\dk p H' α2 (ko src g fb (src.items.drop (i+1)) ρ2 μ2) D,
    fun σ' H' ⟨h1,h2⟩=>⟨_,by omega,rfl,h1,h2⟩,fun x H3 yx=>?_⟩
   obtain ⟨X3,S3,R3⟩:=hy x H3 yx
   refine ⟨α2,ρ2,μ2,_,S3,R2.mono X3,R3,(aF.from X3 (aF.bindS P2)).imp fun ρ4 μ4 H4 α4 X4 S4 P4 σ4 R4=>⟨α4,ρ4,μ4,S4,R4,qJ P4 fun ρ5 μ5 H5 α5 σ5 X5 S5 R5 P5=>⟨hlt,α5,ρ5,μ5,((X2.trans X3).trans X4).trans X5,S5,R5,P5⟩⟩⟩
  ·rw [Jt ho] at P2;exact P2.elim
 ·have e : i = src.items.length := by omega
  subst e
  rw [List.drop_length] at P2
  unfold ko at P2
  by_cases ho:d3 src μ2
  ·rw [Js ho] at P2
   exact .inl ⟨(hJ H2 α2 μ2 X2 S2 ho).2,P2 H2 α2 σ2 ki.refl S2 R2⟩
  ·rw [Jt ho] at P2;exact P2.elim
theorem zL {n:Nat} (hp:PassesOwn (model X.prog X.w) X.A X.env X.xe) (hc:PT X c (iM p ft)) (hb:iO X body (gI p fb)):PS X (.While c body [] pos) (gI p (mv n ft fb)):=
 (Ad hp hc hb).weak fun D σ H ⟨α, ρ, μ, S, R, P⟩ => by
  refine ⟨fun m σ2 H2=>∃ α2 ρ2 μ2,p.S H2 α2 μ2/\dr p.K H2 α2 ρ2 σ2/\dk p H2 α2 (je ft fb m ρ2 μ2) D,⟨n,α,ρ,μ,S,R,P⟩,?_⟩
  rintro m σ2 H2 ⟨α2,ρ2,μ2,S2,R2,P2⟩
  cases m with
  | zero=>exact P2.elim
  | succ m=>
   unfold je at P2
   refine ⟨α2,ρ2,μ2,S2,R2,(aF.bindS P2).imp fun k μ3 H3 α3 X3 S3 P3=>?_⟩
   cases k with
   | true=>
    rw [Js rfl] at P3 ⊢
    exact ⟨fun σ' H'=>∃ α2 ρ2 μ2,p.S H' α2 μ2/\dr p.K H' α2 ρ2 σ'/\dk p H' α2 (je ft fb m ρ2 μ2) D,fun σ' H' h=>⟨m,K6 _,h⟩,
     α3,ρ2,μ3,S3,R2.mono X3,qJ P3 fun ρ5 μ5 H5 α5 σ5 X5 S5 R5 P5=>⟨α5,ρ5,μ5,S5,R5,P5⟩⟩
   | false=>
    rw [Jt JX] at P3 ⊢
    exact P3 H3 α3 σ2 ki.refl S3 (R2.mono X3)
end
section
variable {p:Pa}{X:Cx}{tg iter:Expr}
theorem xX {H:Hp}{α:List Addr}{μ:aB}{n:Nat}{xs:List D}{a:Addr} (S:p.S H α μ) (hn:μ[n]?=some (.lst xs)) (ha:α[n]?=some a):yB p (HQ p.K a) (.own n xs) H α:=by
 intro H2 α2 μ2 X2 S2 ho
 obtain ⟨a',ea,vs,hH,rr⟩:=S2.at ho
 rw [X2.pre n a ha] at ea;cases ea
 refine ⟨fun i d hd=>?_,vs,hX.of hH,by rw [rr.length];exact J3 _⟩
 obtain ⟨v,hv,rv⟩:=rr.get hd
 refine ⟨⟨vs,v,hX.of hH,hv⟩,fun x H3 ⟨e,hx⟩=>?_⟩
 subst e
 have:=hx vs (hX.of hH)
 rw [hv] at this;cases this
 exact ⟨ki.refl,S2,rv⟩
theorem AE {H:Hp}{α:List Addr}{xs:List D}{vs:List V}{a:Addr} (h:Dn p.K H a vs) (r:p.Rs H α xs vs):yB p (HQ p.K a) (.fix xs) H α:=by
 intro H2 α2 μ2 X2 S2 ho
 have h2:=(X2.frz a vs h).sq
 have rr:=r.mono X2
 refine ⟨fun i d hd=>?_,vs,h2,by rw [rr.length];exact J3 _⟩
 obtain ⟨v,hv,rv⟩:=rr.get hd
 refine ⟨⟨vs,v,h2,hv⟩,fun x H3 ⟨e,hx⟩=>?_⟩
 subst e
 have:=hx vs h2
 rw [hv] at this;cases this
 exact ⟨ki.refl,S2,rv⟩
theorem AD {H:Hp}{α:List Addr}{xs:List D}{vs:List V}{a:Addr} (h:gU p.K H a vs) (r:p.Rs H α xs vs):yB p (HY p.K a) (.fix xs) H α:=by
 intro H2 α2 μ2 X2 S2 ho
 have h2:=X2.tup a vs h
 have rr:=r.mono X2
 refine ⟨fun i d hd=>?_,vs,h2,by rw [rr.length];exact J3 _⟩
 obtain ⟨v,hv,rv⟩:=rr.get hd
 refine ⟨⟨vs,v,h2,hv⟩,fun x H3 ⟨e,hx⟩=>?_⟩
 subst e
 have:=hx vs h2
 rw [hv] at this;cases this
 exact ⟨ki.refl,S2,rv⟩
def bh (lo:Int) (n:Nat):List D:=(List.range n).map fun (i:Nat)=>D.int (lo+(i:Int))
theorem uc {H:Hp}{α:List Addr} (lo:Int) (n:Nat):yB p (Gi lo n) (.fix (bh lo n)) H α:=by
 intro H2 α2 μ2 X2 S2 ho
 refine ⟨fun i d hd=>?_,by simp [rj.items,bh,Gi]⟩
 have hd':(bh lo n)[i]?=some d:=hd
 unfold bh at hd'
 rw [Km] at hd'
 by_cases hi:i<n
 ·rw [Mn hi] at hd'
  cases hd'
  refine ⟨hi,fun x H3 ⟨e,hx⟩=>?_⟩
  subst e;subst hx
  exact ⟨ki.refl,S2,ar.mpr rfl⟩
 ·rw [Mo (by simpa using hi)] at hd'
  cases hd'
def xf (d:D) (μ:aB):ai rj:=match d with
 | .tup xs=>.ok (.fix xs) μ
 | .frz xs=>.ok (.fix xs) μ
 | .obj n=>match μ[n]? with
  | some (.lst xs)=>.ok (.own n xs) μ
  | _=>.bad
 | _=>.bad
def ia (f:ME):MI:=fun ρ μ=>(f ρ μ).bind xf
def IC (K:W.Frag) (tl:TE):TI:=fun σ H R=>tl σ H fun x H1=>∃ a,x=.ref a/\(((∃ xs,hX K H1 a xs)/\R (HQ K a) H1)\/((∃ xs,gU K H1 a xs)/\R (HY K a) H1))
theorem E1 {l:Expr}{tl:TE} (hl:PE X l tl):PI X tg l (IC X.K tl):=by
 intro pins s σ H R I h
 refine dS (hl pins s σ H _ I h) fun v s1 ⟨x,H1,I1,r1,q1⟩=>?_
 obtain ⟨a,e,q⟩:=q1
 subst e
 cases r1
 rcases q with ⟨⟨xs,hq⟩,q⟩ | ⟨⟨xs,hq⟩,q⟩
 ·obtain ⟨its, rv, p, hz⟩ := I1.list hq
  refine Mb p.isList ?_
  refine ⟨s1.heap.objs.size,[s1.heap.objs.size],_,_,H1,rfl,I1.kept (t':=s1.toks) fun b o e=>J1 _ e,xl a _,⟨_,J2 _ rfl,rfl,rfl⟩,fun b hb=>?_,q⟩
  have e:b=s1.heap.objs.size:=by simpa using hb
  subst e
  exact I1.fpOk (J3 _) (I1.hok.fresh (J3 _))
 ·obtain ⟨its, rv, p, hz⟩ := I1.tuple hq
  refine Mf (show s1.heap.IsTuple a its.toArray from p) ?_
  refine ⟨s1.heap.objs.size,[s1.heap.objs.size],_,_,H1,rfl,I1.kept (t':=s1.toks) fun b o e=>J1 _ e,vk a _,⟨_,J2 _ rfl,rfl,rfl⟩,fun b hb=>?_,q⟩
  have e:b=s1.heap.objs.size:=by simpa using hb
  subst e
  exact I1.fpOk (J3 _) (I1.hok.fresh (J3 _))
theorem Ez {l:Expr}{f:ME} (hK:X.K=p.K) (hl:PE X l (tD p f)):PI X tg l (wZ p (ia f)):=(E1 hl).weak fun σ H R ⟨α,ρ,μ,S,Rr,P⟩=>by
 refine ⟨α,ρ,μ,S,Rr,(aF.bind P).imp fun d μ1 H1 α1 X1 S1 P1 v rv=>?_⟩
 rw [hK]
 cases d with
 | tup xs=>
  obtain ⟨a,vs,rfl,h1,h2⟩:=aK.mp rv
  exact ⟨a,rfl,.inr ⟨⟨vs,h1⟩,P1.now S1 _ trivial (AD h1 h2)⟩⟩
 | frz xs=>
  obtain ⟨a,vs,rfl,h1,h2⟩:=bu.mp rv
  exact ⟨a,rfl,.inl ⟨⟨vs,h1.sq⟩,P1.now S1 _ trivial (AE h1 h2)⟩⟩
 | obj n=>
  obtain ⟨a,rfl,ha⟩:=aQ.mp rv
  unfold xf at P1
  dsimp only at P1
  split at P1
  ·rename_i xs hx
   obtain ⟨a',ea,vs,hH,rr⟩:=S1.at hx
   rw [ha] at ea;cases ea
   exact ⟨a,rfl,.inl ⟨⟨vs,hX.of hH⟩,P1.now S1 _ hx (xX S1 hx ha)⟩⟩
  ·exact P1.elim
 | non=>exact P1.elim
 | bl b=>exact P1.elim
 | int i=>exact P1.elim
 | str x=>exact P1.elim
def h7 (ds:List D) (μ:aB):ai rj:=match ds with
 | [.int j]=>if -(2 ^ 62)<=j/\j<2 ^ 62 then .ok (.fix (bh 0 j.toNat)) μ else .bad
 | _=>.bad
def km (ds:List D) (μ:aB):ai rj:=match ds with
 | [.int i,.int j]=>if -(2 ^ 62)<=i/\i<2 ^ 62/\-(2 ^ 62)<=j/\j<2 ^ 62 then .ok (.fix (bh i (j - i).toNat)) μ else .bad
 | _=>.bad
def dZ (f:List D->aB->ai rj) (fa:MA):MI:=fun ρ μ=>(fa ρ μ).bind f
theorem xA {a:Expr}{fa:MA}{px pos:Pos} (hg:Gl X "range") (hm:X.mg "range" = none) (ha:PA X [a] (k8 p fa)) (hs:starEach [a] X.env=[(false,eval a X.env)]):PI X tg (.Call (.Name "range" px) [a] [] pos) (wZ p (dZ h7 fa)):=
 (xI hg hm ha hs).weak fun σ H R ⟨α, ρ, μ, S, Rr, P⟩ => ⟨α, ρ, μ, S, Rr, (aF.bind P).imp fun ds μ1 H1 α1 X1 S1 P1 vs rv => by
  unfold h7 at P1
  split at P1
  ·rename_i j
   obtain ⟨v,rfl,r1⟩:=rv.one
   rw [ar.mp r1]
   split at P1
   ·rename_i hj
    exact ⟨j,rfl,hj.1,hj.2,P1.now S1 _ trivial (uc 0 _)⟩
   ·exact P1.elim
  ·exact P1.elim⟩
theorem xy {a b:Expr}{fa:MA}{px pos:Pos} (hg:Gl X "range") (hm:X.mg "range" = none) (ha:PA X [a,b] (k8 p fa)) (hs:starEach [a,b] X.env=[(false,eval a X.env),(false,eval b X.env)]) (hs2:starEach [b] X.env=[(false,eval b X.env)]):PI X tg (.Call (.Name "range" px) [a,b] [] pos) (wZ p (dZ km fa)):=
 (xH hg hm ha hs hs2).weak fun σ H R ⟨α, ρ, μ, S, Rr, P⟩ => ⟨α, ρ, μ, S, Rr, (aF.bind P).imp fun ds μ1 H1 α1 X1 S1 P1 vs rv => by
  unfold km at P1
  split at P1
  ·rename_i i j
   obtain ⟨v,u,rfl,r1,r2⟩:=rv.two
   rw [ar.mp r1,ar.mp r2]
   split at P1
   ·rename_i hj
    exact ⟨i,j,rfl,hj,P1.now S1 _ trivial (uc i _)⟩
   ·exact P1.elim
  ·exact P1.elim⟩
end
def ai.nox {β:Type} (o:ai β):ai β:=match o with
 | .exc _ _=>.bad
 | o=>o
@[simp] theorem af {β:Type}{a:β}{μ:aB}:(ai.ok a μ).nox=.ok a μ:=MJ (MK _)
abbrev Pa.nx (p:Pa):Pa:=⟨p.K,p.w,fun _ _ _ _=>False⟩
theorem kY {β γ:Type}{p:Pa}{H:Hp}{α:List Addr}{o:ai β}{k:β->aB->ai γ}{R:γ->aB->Hp->List Addr->Prop} (h:aF p H α (o.nox.bind k) R):aF p.nx H α o (fun a μ1 H1 α1=>aF p H1 α1 (k a μ1) R):=by
 cases o with
 | ok a μ=>exact fun H' α' e s=>aF.from e h
 | exc x μ=>exact False.elim h
 | bad=>exact h
def iQ (cap:List (Option Nat)) (ρ:Ro):Ro:=cap.map fun o=>o.bind fun j=>(ρ[j]?).join
theorem dr.cap {K:W.Frag}{H:Hp}{α:List Addr}{ρ:Ro}{σ:St} (R:dr K H α ρ σ) (cap:List (Option Nat)):dr K H α (iQ cap ρ) (oC cap σ):=by
 refine ⟨by simp [iQ,oC],fun i d h=>?_⟩
 unfold iQ at h
 unfold oC
 rw [Km] at h ⊢
 cases e:cap[i]? with
 | none=>rw [e] at h;cases h
 | some o=>
  rw [e] at h
  cases o with
  | none=>simp at h
  | some j=>
   simp at h ⊢
   obtain ⟨v,h1,h2⟩:=R.at' j d (by
    cases e2:ρ[j]? with
    | none=>rw [e2] at h;simp at h
    | some x=>rw [e2] at h;simp at h;rw [h])
   exact ⟨v,by rw [h1];rfl,h2⟩
def tu (n:Nat) (y:D) (μ:aB):ai Unit:=match μ[n]? with
 | some (.lst ys)=>if ys.length<sizeLine then .ok () (μ.set n (.lst (ys++[y]))) else .bad
 | _=>.bad
open Classical in
noncomputable def compLoop (src:rj) (n:Nat) (g:MG) (t:MT) (e:ME):List D->Ro->aB->ai D
 | [],_,μ=>if d3 src μ then .ok (.obj n) μ else .bad
 | d::r,ρ,μ=>if d3 src μ then (g d ρ μ).nox.bind fun ρ1 μ1=>(t ρ1 μ1).nox.bind fun b μ2=>if b=true then (e ρ1 μ2).nox.bind fun y μ3=>(tu n y μ3).bind fun _ μ4=>compLoop src n g t e r ρ1 μ4 else compLoop src n g t e r ρ1 μ2 else .bad
noncomputable def bE (fi:MI) (cap:List (Option Nat)) (g:MG) (t:MT) (e:ME):ME:=fun ρ μ=>(fi ρ μ).bind fun src μ1=>compLoop src μ1.length g t e src.items (iQ cap ρ) (μ1++[.lst []])
def bz:MT:=fun _ μ=>.ok true μ
theorem Aa {p:Pa}{n:Nat}{y:D}{μ:aB}{H:Hp}{α:List Addr}{R:Unit->aB->Hp->List Addr->Prop}{v:V}{acc:Addr} (S:p.S H α μ) (ha:α[n]?=some acc) (rv:p.R H α y v) (P:aF p H α (tu n y μ) R) :
  ∃ ys,H acc=some (.lst ys)/\ys.length<sizeLine/\∃ μ',p.X H (cK H acc (.lst (ys++[v]))) α α/\p.S (cK H acc (.lst (ys++[v]))) α μ'/\R () μ' (cK H acc (.lst (ys++[v]))) α:=by
 unfold tu at P
 split at P
 ·rename_i xs hx
  obtain ⟨a,ea,us,hH,rr⟩:=S.at hx
  rw [ha] at ea;cases ea
  split at P
  ·rename_i hl
   have q:=rr.snoc rv
   exact ⟨us,hH,by rw [rr.length];exact hl,_,iE hH,S.put hx ha hH q,P _ _ (iE hH) (S.put hx ha hH q)⟩
  ·exact P.elim
 ·exact P.elim
section
variable {p:Pa}{X:Cx}{tg iter elt:Expr}{ifs:List Expr}{scope:Scope}{Nc:List Str}{cap:List (Option Nat)}{fi:MI}{g:MG}{t:MT}{e:ME}{pos pos':Pos}
theorem qW {σ:St}{H:Hp}{Q:VK} (h:tD p (bE fi cap g t e) σ H Q):yI (wZ p fi) cap (rh p.nx g) (iM p.nx t) (tD p.nx e) σ H Q:=by
 obtain ⟨α,ρ,μ,S,R,P⟩:=h
 refine ⟨α,ρ,μ,S,R,(aF.bind P).imp fun src μ1 H1 α1 X1 S1 P1 J hok hJ acc hacc=>?_⟩
 obtain ⟨x1,s1,_⟩:=fE (ds:=[]) (vs:=[]) S1 hacc Reps.nil
 have hn:(α1++[acc])[μ1.length]?=some acc:=by rw [<- S1.len];simp
 refine ⟨fun i m σ2 H2=>m=src.items.length - i/\i<=src.items.length/\∃ α2 ρ2 μ2,p.X H1 H2 α1 α2/\p.S H2 α2 μ2/\dr p.K H2 α2 ρ2 σ2/\α2[μ1.length]?=some acc/\aF p H2 α2 (compLoop src μ1.length g t e (src.items.drop i) ρ2 μ2) (RV p Q),
  ⟨_,rfl,Le _,α1++[acc],iQ cap ρ,μ1++[.lst []],x1,s1,((R.mono X1).cap cap).mono x1,hn,by simpa using aF.from x1 P1⟩,?_⟩
 rintro i m σ2 H2 ⟨rfl,hi,α2,ρ2,μ2,X2,S2,R2,a2,P2⟩
 by_cases hlt:i<src.items.length
 ·rw [List.drop_eq_getElem_cons hlt] at P2
  unfold compLoop at P2
  by_cases ho:d3 src μ2
  ·rw [Js ho] at P2
   obtain ⟨hgo,hy⟩:=(hJ H2 α2 μ2 X2 S2 ho).1 i _ (My hlt)
   refine .inr ⟨hgo,fun σ' H'=>i+1<=src.items.length/\∃ α2 ρ2 μ2,p.X H1 H' α1 α2/\p.S H' α2 μ2/\dr p.K H' α2 ρ2 σ'/\α2[μ1.length]?=some acc/\aF p H' α2 (compLoop src μ1.length g t e (src.items.drop (i+1)) ρ2 μ2) (RV p Q),
    fun σ' H' ⟨h1,h2⟩=>⟨_,by omega,rfl,h1,h2⟩,fun x H3 yx=>?_⟩
   obtain ⟨X3,S3,R3⟩:=hy x H3 yx
   refine ⟨α2,ρ2,μ2,_,S3,R2.mono X3,R3,(aF.from (p:=p.nx) X3 (kY P2)).imp fun ρ4 μ4 H4 α4 X4 S4 P4 σ4 R4=>?_⟩
   refine ⟨α4,ρ4,μ4,S4,R4,(kY P4).imp fun b μ5 H5 α5 X5 S5 P5=>?_⟩
   have xx:p.X H1 H5 α1 α5:=((X2.trans X3).trans X4).trans X5
   have a5:α5[μ1.length]?=some acc:=X5.pre _ _ (X4.pre _ _ (X3.pre _ _ a2))
   cases b with
   | false=>
    rw [Jt JX] at P5
    refine IA ?_
    exact ⟨hlt,α5,ρ4,μ5,xx,S5,R4.mono X5,a5,P5⟩
   | true=>
    rw [Js rfl] at P5
    refine Iz ?_
    refine ⟨α5,ρ4,μ5,S5,R4.mono X5,(kY P5).imp fun y μ6 H6 α6 X6 S6 P6 v rv=>?_⟩
    obtain ⟨ys,e1,e2,μ7,x7,s7,q7⟩:=Aa (p:=p) S6 (X6.pre _ _ a5) rv (aF.bind P6)
    exact ⟨ys,e1,e2,hlt,α6,ρ4,μ7,(xx.trans X6).trans x7,s7,((R4.mono X5).mono X6).mono x7,X6.pre _ _ a5,q7⟩
  ·rw [Jt ho] at P2;exact P2.elim
 ·have e : i = src.items.length := by omega
  subst e
  rw [List.drop_length] at P2
  unfold compLoop at P2
  by_cases ho:d3 src μ2
  ·rw [Js ho] at P2
   exact .inl ⟨(hJ H2 α2 μ2 X2 S2 ho).2,P2 H2 α2 ki.refl S2 _ (aQ.mpr ⟨acc,rfl,a2⟩)⟩
  ·rw [Jt ho] at P2;exact P2.elim
theorem BA {X:Cx}:uP X [] (iM p bz):=fun pins s σ H Q I h=>by
 obtain ⟨α,ρ,μ,S,R,P⟩:=h
 exact Ca pins s σ H Q I (P.now S)
theorem Bz {X:Cx}{c:Expr}{t:MT} (h:PT X c (iM p t)):uP X [c] (iM p t):=B9 h
theorem BV (hc:X.calm=true) (S:cw X.N X.env scope Nc cap) (hi:PI X tg iter (wZ p fi))
  (hg:∀ cl C s H fp,PG (jC X Nc scope cl C s H fp) tg (rh p.nx g)) (ht:∀ cl C s H fp,uP (jC X Nc scope cl C s H fp) ifs (iM p.nx t)) (he:∀ cl C s H fp,PE (jC X Nc scope cl C s H fp) elt (tD p.nx e))
  (hs:∀ x,foldedSetIterable iter X.env x=pure x):PE X (.ListComp elt [⟨tg,iter,ifs,0⟩] scope pos) (tD p (bE fi cap g t e)):=
 (Cm hc S hi hg ht he hs).weak fun σ H Q h=>qW h
theorem BF {i:Nat}{x:Str}{pos1:Pos}{pos2:Pos} (hc:X.calm=true) (hN:X.N.Nodup) (hix:X.N[i]?=some x) (hx:X.env.scope.names.lookup x=some .local) (S:cw X.N X.env scope Nc cap) (hi:PI X tg iter (wZ p fi))
  (hg:∀ cl C s H fp,PG (jC X Nc scope cl C s H fp) tg (rh p.nx g)) (ht:∀ cl C s H fp,uP (jC X Nc scope cl C s H fp) ifs (iM p.nx t)) (he:∀ cl C s H fp,PE (jC X Nc scope cl C s H fp) elt (tD p.nx e))
  (hsw:swapsWith (.ListComp elt [⟨tg,iter,ifs,0⟩] scope pos) (some (.Name x pos1)) pos2.line X.env=pure true) (hs:∀ x,foldedSetIterable iter X.env x=pure x) :
  PS X (.Assign [.Name x pos1] (.ListComp elt [⟨tg,iter,ifs,0⟩] scope pos) pos2) (gI p (bw (bE fi cap g t e) (aj i))):=
 (Ce hc hN hix hx S hi hg ht he hsw hs).weak fun D σ H h => by
  obtain ⟨α,ρ,μ,S,R,P⟩:=h
  refine qW ⟨α,ρ,μ,S,R,(aF.bindS P).imp fun d μ1 H1 α1 X1 S1 P1 v rv=>?_⟩
  exact P1 H1 α1 _ ki.refl S1 ((R.mono X1).set i rv)
end
section
variable {p:Pa}
variable {X:Cx}{elt:Expr}{cl0 cl:Comprehension}{rest:List Comprehension}{scope:Scope}{Nc:List Str}{cap:List (Option Nat)}{fi:MI}{g:MG}{t:MT}{fb:MB}{pos:Pos}{e:Expr}{d:Nat}{acc:Addr}
end
mutual
def D.low (n:Nat):D->Prop
 | .tup xs=>D.lows n xs
 | .frz xs=>D.lows n xs
 | .obj m=>m<n
 | _=>True
def D.lows (n:Nat):List D->Prop
 | []=>True
 | x::xs=>x.low n/\D.lows n xs
end
def O.low (n:Nat):O->Prop
 | .lst xs=>D.lows n xs
 | _=>True
section
variable {K:W.Frag}{H:Hp}{α α':List Addr}
mutual
theorem aM.low:∀ {d:D}{v:V},aM K H α d v->d.low α.length
 | .non,_,_=>trivial
 | .bl _,_,_=>trivial
 | .int _,_,_=>trivial
 | .str _,_,_=>trivial
 | .tup xs,_,h=>by
  obtain ⟨a,vs,rfl,h1,h2⟩:=aK.mp h
  simp only [D.low]
  exact Reps.low h2
 | .frz xs,_,h=>by
  obtain ⟨a,vs,rfl,h1,h2⟩:=bu.mp h
  simp only [D.low]
  exact Reps.low h2
 | .obj n,_,h=>by
  obtain ⟨a,rfl,h1⟩:=aQ.mp h
  simp only [D.low]
  exact (JK.mp h1).1
theorem Reps.low:∀ {ds:List D}{vs:List V},Reps K H α ds vs->D.lows α.length ds
 | [],_,_=>trivial
 | d::ds,_,h=>by
  simp only [Reps] at h
  obtain ⟨v,r,rfl,h1,h2⟩:=h
  simp only [D.lows]
  exact ⟨aM.low h1,Reps.low h2⟩
end
mutual
theorem aM.cut {n:Nat} (e:∀ m,m<n->α'[m]?=α[m]?):∀ {d:D}{v:V},aM K H α' d v->d.low n->aM K H α d v
 | .non,_,h,_=>by simp only [aM] at h ⊢;exact h
 | .bl _,_,h,_=>by simp only [aM] at h ⊢;exact h
 | .int _,_,h,_=>by simp only [aM] at h ⊢;exact h
 | .str _,_,h,_=>by simp only [aM] at h ⊢;exact h
 | .tup xs,_,h,b=>by
  obtain ⟨a,vs,rfl,h1,h2⟩:=aK.mp h
  simp only [D.low] at b
  exact aK.mpr ⟨a,vs,rfl,h1,Reps.cut e h2 b⟩
 | .frz xs,_,h,b=>by
  obtain ⟨a,vs,rfl,h1,h2⟩:=bu.mp h
  simp only [D.low] at b
  exact bu.mpr ⟨a,vs,rfl,h1,Reps.cut e h2 b⟩
 | .obj m,_,h,b=>by
  obtain ⟨a,rfl,h1⟩:=aQ.mp h
  simp only [D.low] at b
  exact aQ.mpr ⟨a,rfl,by rw [<- e m b];exact h1⟩
theorem Reps.cut {n:Nat} (e:∀ m,m<n->α'[m]?=α[m]?):∀ {ds:List D}{vs:List V},Reps K H α' ds vs->D.lows n ds->Reps K H α ds vs
 | [],_,h,_=>by simp only [Reps] at h ⊢;exact h
 | d::ds,_,h,b=>by
  simp only [Reps] at h ⊢
  obtain ⟨v,r,rfl,h1,h2⟩:=h
  simp only [D.lows] at b
  exact ⟨v,r,rfl,aM.cut e h1 b.1,Reps.cut e h2 b.2⟩
end
end
def D0 (μ μ':aB) (d:D):Prop:=d.low μ.length/\μ.length<=μ'.length/\∀ (i:Nat) o,i<μ.length->μ'[i]?=some o->μ[i]?=some o\/o.low μ.length
open Classical in
noncomputable def og (μ:aB) (o:ai D):ai D:=match o with
 | .ok d μ'=>if D0 μ μ' d then .ok d (μ'.take μ.length) else .ok d μ'
 | o=>o
theorem nZ {p:Pa}{H:Hp}{α:List Addr}{μ:aB}{o:ai D}{Q:VK} (S:p.S H α μ) (P:aF p H α (og μ o) (RV p Q)):aF p H α o (RV p Q):=by
 cases o with
 | exc x μ'=>exact P
 | bad=>exact P
 | ok d μ'=>
  unfold og at P
  dsimp only at P
  by_cases hg:D0 μ μ' d
  ·rw [Js hg] at P
   obtain ⟨g1,g2,g3⟩:=hg
   intro H' α' e s v rv
   have al:∀ m,m<μ.length->α'[m]?=α[m]?:=fun m hm=>by
    have hm':m<α.length:=by rw [S.len];exact hm
    rw [My hm']
    exact e.pre m _ (My hm')
   refine P H' α ⟨e.tup,e.frz,fun _ _ z=>z⟩ ⟨by rw [Kh,S.len];omega,S.nd,fun n o a h1 h2=>?_⟩ v (aM.cut al rv g1)
   have hn:n<μ.length:=by rw [<- S.len];exact (JK.mp h2).1
   rw [Kn hn] at h1
   have q:=s.ob n o a h1 (e.pre n a h2)
   have ob:o.low μ.length:=by
    rcases g3 n o hn h1 with z | z
    ·have q0 := S.ob n o a z h2
     cases o with
     | lst xs=>obtain ⟨vs,_,r⟩:=q0;have:=r.low;rw [S.len] at this;exact this
     | set ks=>trivial
     | iset ks=>trivial
     | dic=>trivial
     | exc c=>trivial
    ·exact z
   cases o with
   | lst xs=>obtain ⟨vs,h3,r⟩:=q;exact ⟨vs,h3,Reps.cut al r ob⟩
   | set ks=>exact q
   | iset ks=>exact q
   | dic=>exact q
   | exc c=>exact q
  ·rw [Jt hg] at P
   exact P
def SO.out (o:SO):ai D:=match o with
 | .ret d μ=>.ok d μ
 | .next _ μ=>.ok .non μ
 | .exc x μ=>.exc x μ
 | _=>.bad
noncomputable def iN (n N:Nat) (fb:MS):List D->aB->ai D:=fun ds μ=>if ds.length=n then og μ (fb (ds.map some++List.replicate (N - n) none) μ).out else .bad
def AZ (p:Pa) (n:Nat) (F:List D->aB->ai D):Sp:=fun vs H Q _=>vs.length=n/\∃ α ds μ,p.S H α μ/\p.Rs H α ds vs/\aF p H α (F ds μ) (RV p Q)
structure gk (P:Program) (w:World) (K:W.Frag) (mg:Str->Option Value) (base:Heap) (p:Pa) (k:Nat) (x:Str) (n:Nat) (F:List D->aB->ai D):Prop where
 len:∀ ds μ,ds.length≠n->F ds μ=.bad
 fn:∃ f fd ps,mg x=some (.ref f)/\W.keepIn K (.ref f)=true/\gF K fd ps []/\om P w K mg base uW k f fd ps (AZ p n F)
section
variable {p:Pa}{X:Cx}{k n:Nat}{x:Str}{F:List D->aB->ai D}{a:Expr}{es:List Expr}{fr:MA}{pos px:Pos}
theorem BW (h:gk X.prog X.w X.K X.mg X.base p k x n F) (hr:fm k X.A) (hg:Gl X x) (ha:PA X (a::es) (k8 p fr)) (hdb:(x == ("__debug__" : Str))=false) (he:starEach (a::es) X.env=(false,eval a X.env)::starEach es X.env) (hpl:(backTo pos (starEach es X.env)).any (·.1)=false) :
  PE X (.Call (.Name x px) (a::es) [] pos) (tD p (aC F fr)):=by
 obtain ⟨f,fd,ps,h1,h2,h3,h4⟩:=h.fn
 refine (nW (dvs:=[]) (E:=E0) h4 hr hg h1 h2 h3 .nil yQ ha hdb he hpl).weak fun σ H Q ⟨α,ρ,μ,S,R,P⟩=>⟨α,ρ,μ,S,R,(aF.bind P).imp fun ds μ1 H1 α1 X1 S1 P1 vs rv=>?_⟩
 show AZ p n F (vs++[]) H1 Q E0
 rw [Kb]
 refine ⟨?_,α1,ds,μ1,S1,rv,P1⟩
 by_cases hl:ds.length=n
 ·rw [rv.length];exact hl
 ·rw [h.len ds μ1 hl] at P1;exact P1.elim
end
theorem jo {K:W.Frag}{H:Hp}{α:List Addr}{ds:List D}{vs:List V} (r:Reps K H α ds vs) (m:Nat):dr K H α (ds.map some++List.replicate m none) (vs.map some++List.replicate m none):=by
 refine ⟨by simp [r.length],fun i d h=>?_⟩
 by_cases hi:i<ds.length
 ·rw [Kl (by simpa using hi), Km] at h
  cases e:ds[i]? with
  | none=>rw [e] at h;cases h
  | some x=>
   rw [e] at h;cases h
   obtain ⟨v,hv,rv⟩:=r.get e
   refine ⟨v,?_,rv⟩
   rw [Kl (by simp [r.length,hi]),Km,hv];rfl
 ·rw [Kj (by simpa using hi), Kk] at h
  split at h <;> cases h
theorem Ga {P:Program}{w:World}{K:W.Frag}{mg:Str->Option Value}{base:Heap}{p:Pa}{k n:Nat}{x qual:Str}{st:Stmt}{f:Addr}{fd:FuncData}{N ps:List Str}{fb:MS}
  (F:iz K x qual st f fd) (S:aS N ps (au st)) (hn:ps.length=n) (hm:mg x=some (.ref f)) (hb:gF K fd ps [])
  (body : ∀ (cdv : Value) (A : Around) (outer : List Env) (s : Shared) (H : Hp) (E : XK), fm k (A.deeper (envOfC qual (au st) s.heap.objs.size f cdv)) ->
   iO (oi uW P w K mg base N qual (au st) f cdv A outer s H E).nox (bY st) (gI p fb)):gk P w K mg base p (k+1) x n (iN n N.length fb):=by
 refine ⟨fun ds μ h=>by unfold iN;rw [Jt h],f,fd,ps,hm,F.kp,hb,?_⟩
 refine F.ok S (fun vs H Q E h=>h.1.trans hn.symm) fun cdv A outer s H vs Q E hr h=>?_
 refine ⟨_,body cdv A outer s H E hr,?_⟩
 obtain ⟨hl,α,ds,μ,S1,R1,P1⟩:=h
 unfold iN at P1
 have hd:ds.length=n:=by rw [<- R1.length];exact hl
 rw [Js hd] at P1
 have P2:=nZ S1 P1
 unfold start
 rw [hl]
 refine ⟨α,_,μ,S1,jo R1 _,?_⟩
 cases e:fb (ds.map some++List.replicate (N.length - n) none) μ with
 | ret d μ'=>rw [e] at P2;exact fun H' α' v x s r=>P2 H' α' x s v r
 | next ρ μ'=>rw [e] at P2;exact fun H' α' σ' x s r=>P2 H' α' x s .non (bJ.mpr rfl)
 | exc x μ'=>rw [e] at P2;exact P2
 | brk ρ μ'=>rw [e] at P2;exact P2.elim
 | cnt ρ μ'=>rw [e] at P2;exact P2.elim
 | bad=>rw [e] at P2;exact P2.elim
end L2
namespace L2
open PySem PySem.Spec PyProof.Rows RS
section
variable (K:W.Frag) (H:Hp)
mutual
def k9:PyData->V->Prop
 | .none,v=>v=.non
 | .bool b,v=>v=.bl b
 | .int i,v=>v=.int i
 | .str x,v=>v=.str x
 | .tuple xs,v=>∃ a vs,v=.ref a/\gU K H a vs/\RdPs xs vs
 | .list xs,v=>∃ a vs,v=.ref a/\hX K H a vs/\RdPs xs vs
 | .dict _,_=>False
def RdPs:List PyData->List V->Prop
 | [],vs=>vs=[]
 | x::xs,vs=>∃ v r,vs=v::r/\k9 x v/\RdPs xs r
end
end
section
variable {X:Cx}{pins:List (Addr × Obj)}{σ:St}{H:Hp}{s:Shared}
mutual
theorem dw (I:aO X pins σ H s):∀ (d:PyData) (x:V) (v:Value),k9 X.K H d x->bL x v->∃ as,Reads s.heap v d as
 | .none,_,_,h,r=>by simp only [k9] at h;subst h;cases r;exact ⟨_,.none⟩
 | .bool b,_,_,h,r=>by simp only [k9] at h;subst h;cases r;exact ⟨_,.bool b⟩
 | .int b,_,_,h,r=>by simp only [k9] at h;subst h;obtain ⟨t,rfl⟩:=r;exact ⟨_,.int b t⟩
 | .str b,_,_,h,r=>by simp only [k9] at h;subst h;obtain ⟨t,rfl⟩:=r;exact ⟨_,.str b t⟩
 | .tuple xs,_,_,h,r=>by
  simp only [k9] at h
  obtain ⟨a,vs,rfl,h1,h2⟩:=h
  cases r
  obtain ⟨its,rv,⟨o,e1,e2,n,e3⟩,_⟩:=I.tuple h1
  obtain ⟨as,q⟩:=readsAll_of I xs vs its h2 rv
  exact ⟨_,.tuple e1 e2 e3 (by simpa using q)⟩
 | .list xs,_,_,h,r=>by
  simp only [k9] at h
  obtain ⟨a,vs,rfl,h1,h2⟩:=h
  cases r
  obtain ⟨its,rv,⟨o,n,e1,e2,_,e3⟩,_⟩:=I.list h1
  obtain ⟨as,q⟩:=readsAll_of I xs vs its h2 rv
  exact ⟨_,.list e1 e2 e3 (by simpa using q)⟩
 | .dict _,_,_,h,_=>by simp only [k9] at h
theorem readsAll_of (I:aO X pins σ H s):∀ (ds:List PyData) (xs:List V) (vs:List Value),RdPs X.K H ds xs->bb xs vs->∃ as,ReadsAll s.heap vs ds as
 | [],_,_,h,r=>by simp only [RdPs] at h;subst h;cases r;exact ⟨_,.nil⟩
 | d::ds,_,_,h,r=>by
  simp only [RdPs] at h
  obtain ⟨v,q,rfl,h1,h2⟩:=h
  cases r with
  | cons r rr=>
   obtain ⟨as,g1⟩:=dw I d _ _ h1 r
   obtain ⟨bs,g2⟩:=readsAll_of I ds _ _ h2 rr
   exact ⟨_,.cons g1 g2⟩
end
def eH (d:PyData):Bool:=d.canLay0 && decide (d.depth<=60)
def yu (K:W.Frag) (neg:Bool):R2:=fun x y H Q=>∃ a b,k9 K H a x/\k9 K H b y/\eH a=true/\eH b=true/\Q (.bl (if neg then !PyData.eqv a b else PyData.eqv a b)) H
theorem mK {a b:PyData}{A:Around} (ha:eH a=true) (hu:A.units+64<cLine):A.units+min a.depth b.depth<cLine:=by
 unfold eH at ha
 simp only [KH,ML] at ha
 have:=Nat.min_le_left a.depth b.depth
 omega
theorem cz {a:PyData} (ha:eH a=true):a.canLay0=true:=by
 unfold eH at ha
 simp only [KH,ML] at ha
 exact ha.1
theorem pG {a:PyData} (ha:eH a=true):a.depth<=60:=by
 unfold eH at ha
 simp only [KH,ML] at ha
 exact ha.2
theorem Fo (hu:X.A.units+64<cLine):jz X (compareOp .Eq) (yu X.K false):=by
 intro pins s σ H x y v u Q I rx ry h
 obtain ⟨a,b,h1,h2,h3,h4,q⟩:=h
 obtain ⟨as,r1⟩:=dw I a x v h1 rx
 obtain ⟨bs,r2⟩:=dw I b y u h2 ry
 exact SeqAt.compareEq_reads r1 r2 (cz h3) (cz h4) (mK h3 hu) ⟨.bl _,H,I,rfl,q⟩
theorem Fi (hu:X.A.units+64<cLine):jz X (compareOp .NotEq) (yu X.K true):=by
 intro pins s σ H x y v u Q I rx ry h
 obtain ⟨a,b,h1,h2,h3,h4,q⟩:=h
 obtain ⟨as,r1⟩:=dw I a x v h1 rx
 obtain ⟨bs,r2⟩:=dw I b y u h2 ry
 exact SeqAt.compareNe_reads r1 r2 (cz h3) (cz h4) (mK h3 hu) ⟨.bl _,H,I,rfl,q⟩
def DY (K:W.Frag) (neg:Bool):R2:=fun x y H Q=>∃ a b xs,k9 K H a x/\k9 K H b y/\(b=.list xs\/b=.tuple xs)/\eH a=true/\eH b=true/\Q (.bl (if neg then !(xs.any fun y=>PyData.eqv y a) else xs.any fun y=>PyData.eqv y a)) H
theorem Fm (hu:X.A.units+64<cLine):jz X (compareOp .In) (DY X.K false):=by
 intro pins s σ H x y v u Q I rx ry h
 obtain ⟨a,b,xs,h1,h2,hb,h3,h4,q⟩:=h
 obtain ⟨as,r1⟩:=dw I a x v h1 rx
 obtain ⟨bs,r2⟩:=dw I b y u h2 ry
 have hd:=pG h3
 rcases hb with rfl|rfl
 ·refine SeqAt.in_list_reads r2 r1 (by simpa [PyData.canLay0] using cz h4) (cz h3) ?_ ⟨.bl _, H, I, rfl, q⟩
  have:=Kx (PyData.depthAll xs) a.depth
  omega
 ·refine SeqAt.in_tuple_reads r2 r1 (by simpa [PyData.canLay0] using cz h4) (cz h3) ?_ ⟨.bl _, H, I, rfl, q⟩
  have:=Kx (PyData.depthAll xs) a.depth
  omega
end
mutual
def rf (μ:aB):D->Option PyData
 | .non=>some .none
 | .bl b=>some (.bool b)
 | .int i=>some (.int i)
 | .str x=>some (.str x)
 | .tup xs=>(toPs μ xs).map .tuple
 | .frz xs=>(toPs μ xs).map .list
 | .obj _=>none
def toPs (μ:aB):List D->Option (List PyData)
 | []=>some []
 | x::xs=>(rf μ x).bind fun a=>(toPs μ xs).map fun r=>a::r
end
def uX (μ:aB) (d:D):Option PyData:=match d with
 | .obj n=>match μ[n]? with
  | some (.lst xs)=>(toPs μ xs).map .list
  | _=>none
 | d=>rf μ d
def fq (μ:aB):List D->Option (List PyData)
 | []=>some []
 | x::xs=>(uX μ x).bind fun a=>(fq μ xs).map fun r=>a::r
def mX (μ:aB) (d:D):Option PyData:=match d with
 | .obj n=>match μ[n]? with
  | some (.lst xs)=>(fq μ xs).map .list
  | _=>none
 | .tup xs=>(fq μ xs).map .tuple
 | d=>rf μ d
section
variable {K:W.Frag}{w:World}{H:Hp}{α:List Addr}{μ:aB}
mutual
theorem gL:∀ {d:D}{q:PyData}{v:V},rf μ d=some q->aM K H α d v->k9 K H q v
 | .non,_,_,h,r=>by simp only [rf] at h;cases h;simp only [k9];exact bJ.mp r
 | .bl b,_,_,h,r=>by simp only [rf] at h;cases h;simp only [k9];exact aX.mp r
 | .int b,_,_,h,r=>by simp only [rf] at h;cases h;simp only [k9];exact ar.mp r
 | .str b,_,_,h,r=>by simp only [rf] at h;cases h;simp only [k9];exact bA.mp r
 | .tup xs,_,_,h,r=>by
  simp only [rf] at h
  cases e:toPs μ xs with
  | none=>rw [e] at h;cases h
  | some ys=>
   rw [e] at h;cases h
   obtain ⟨a,vs,rfl,h1,h2⟩:=aK.mp r
   simp only [k9]
   exact ⟨a,vs,rfl,h1,toPs_ok e h2⟩
 | .frz xs,_,_,h,r=>by
  simp only [rf] at h
  cases e:toPs μ xs with
  | none=>rw [e] at h;cases h
  | some ys=>
   rw [e] at h;cases h
   obtain ⟨a,vs,rfl,h1,h2⟩:=bu.mp r
   simp only [k9]
   exact ⟨a,vs,rfl,h1.sq,toPs_ok e h2⟩
 | .obj n,_,_,h,r=>by simp only [rf] at h;cases h
theorem toPs_ok:∀ {ds:List D}{qs:List PyData}{vs:List V},toPs μ ds=some qs->Reps K H α ds vs->RdPs K H qs vs
 | [],_,_,h,r=>by simp only [toPs] at h;cases h;simp only [RdPs];simp only [Reps] at r;exact r
 | x::xs,_,_,h,r=>by
  simp only [toPs] at h
  cases e1:rf μ x with
  | none=>rw [e1] at h;cases h
  | some a=>
   cases e2:toPs μ xs with
   | none=>rw [e1,e2] at h;cases h
   | some ys=>
    rw [e1,e2] at h;cases h
    simp only [Reps] at r
    obtain ⟨v,vr,rfl,r1,r2⟩:=r
    simp only [RdPs]
    exact ⟨v,vr,rfl,gL e1 r1,toPs_ok e2 r2⟩
end
theorem Bt {d:D}{q:PyData}{v:V} (S:gK K w H α μ) (h:uX μ d=some q) (r:aM K H α d v):k9 K H q v:=by
 cases d with
 | obj n=>
  unfold uX at h
  dsimp only at h
  split at h
  ·rename_i xs hx
   obtain ⟨a,ea,us,hH,rr⟩:=S.at hx
   obtain ⟨a',rfl,ea'⟩:=aQ.mp r
   rw [ea] at ea';cases ea'
   cases e:toPs μ xs with
   | none=>rw [e] at h;cases h
   | some ys=>
    rw [e] at h;cases h
    simp only [k9]
    exact ⟨a,us,rfl,hX.of hH,toPs_ok e rr⟩
  ·cases h
 | non=>exact gL h r
 | bl b=>exact gL h r
 | int i=>exact gL h r
 | str x=>exact gL h r
 | tup xs=>exact gL h r
 | frz xs=>exact gL h r
theorem lF (S:gK K w H α μ):∀ {ds:List D}{qs:List PyData}{vs:List V},fq μ ds=some qs->Reps K H α ds vs->RdPs K H qs vs
 | [],_,_,h,r=>by simp only [fq] at h;cases h;simp only [RdPs];simp only [Reps] at r;exact r
 | x::xs,_,_,h,r=>by
  simp only [fq] at h
  cases e1:uX μ x with
  | none=>rw [e1] at h;cases h
  | some a=>
   cases e2:fq μ xs with
   | none=>rw [e1,e2] at h;cases h
   | some ys=>
    rw [e1,e2] at h;cases h
    simp only [Reps] at r
    obtain ⟨v,vr,rfl,r1,r2⟩:=r
    simp only [RdPs]
    exact ⟨v,vr,rfl,Bt S e1 r1,lF S e2 r2⟩
theorem jJ {d:D}{q:PyData}{v:V} (S:gK K w H α μ) (h:mX μ d=some q) (r:aM K H α d v):k9 K H q v:=by
 cases d with
 | obj n=>
  unfold mX at h
  dsimp only at h
  split at h
  ·rename_i xs hx
   obtain ⟨a,ea,us,hH,rr⟩:=S.at hx
   obtain ⟨a',rfl,ea'⟩:=aQ.mp r
   rw [ea] at ea';cases ea'
   cases e:fq μ xs with
   | none=>rw [e] at h;cases h
   | some ys=>
    rw [e] at h;cases h
    simp only [k9]
    exact ⟨a,us,rfl,hX.of hH,lF S e rr⟩
  ·cases h
 | tup xs=>
  unfold mX at h
  dsimp only at h
  cases e:fq μ xs with
  | none=>rw [e] at h;cases h
  | some ys=>
   rw [e] at h;cases h
   obtain ⟨a,vs,rfl,h1,h2⟩:=aK.mp r
   simp only [k9]
   exact ⟨a,vs,rfl,h1,lF S e h2⟩
 | non=>exact gL h r
 | bl b=>exact gL h r
 | int i=>exact gL h r
 | str x=>exact gL h r
 | frz xs=>exact gL h r
end
def fX (neg:Bool) (a b:D) (μ:aB):ai D:=match mX μ a,mX μ b with
 | some p,some q=>if eH p=true/\eH q=true then .ok (.bl (if neg then !PyData.eqv p q else PyData.eqv p q)) μ else .bad
 | _,_=>.bad
def zt:PyData->Option (List PyData)
 | .list xs=>some xs
 | .tuple xs=>some xs
 | _=>none
def A7 (neg:Bool) (a b:D) (μ:aB):ai D:=match mX μ a,mX μ b with
 | some p,some q=>match zt q with
  | some xs=>if eH p=true/\eH q=true then .ok (.bl (if neg then !(xs.any fun y=>PyData.eqv y p) else xs.any fun y=>PyData.eqv y p)) μ else .bad
  | none=>.bad
 | _,_=>.bad
theorem DD {p:Pa}{neg:Bool}:pX p (fX neg) (yu p.K neg):=by
 intro a b v y H α μ Q S ra rb P
 unfold fX at P
 split at P
 ·rename_i x z hx hz
  split at P
  ·rename_i hf
   exact ⟨x,z,jJ S hx ra,jJ S hz rb,hf.1,hf.2,P.now S _ (aX.mpr rfl)⟩
  ·exact P.elim
 ·exact P.elim
theorem Hr {p:Pa}{neg:Bool}:pX p (A7 neg) (DY p.K neg):=by
 intro a b v y H α μ Q S ra rb P
 unfold A7 at P
 split at P
 ·rename_i x z hx hz
  split at P
  ·rename_i xs hxs
   split at P
   ·rename_i hf
    refine ⟨x,z,xs,jJ S hx ra,jJ S hz rb,?_,hf.1,hf.2,P.now S _ (aX.mpr rfl)⟩
    cases z <;> first | (cases hxs;exact .inl rfl) | (cases hxs;exact .inr rfl) | (cases hxs)
   ·exact P.elim
  ·exact P.elim
 ·exact P.elim
def D.isNon:D->Bool
 | .non=>true
 | _=>false
def rD (neg:Bool) (a b:D) (μ:aB):ai D:=match b with
 | .non=>.ok (.bl (if neg then !a.isNon else a.isNon)) μ
 | _=>.bad
theorem wJ {K:W.Frag}{H:Hp}{α:List Addr}{a:D}{v:V} (r:aM K H α a v):decide (v=.non)=a.isNon:=by
 cases a with
 | non=>rw [bJ.mp r];rfl
 | bl b=>rw [aX.mp r];rfl
 | int b=>rw [ar.mp r];rfl
 | str b=>rw [bA.mp r];rfl
 | tup xs=>obtain ⟨a,vs,rfl,_⟩:=aK.mp r;rfl
 | frz xs=>obtain ⟨a,vs,rfl,_⟩:=bu.mp r;rfl
 | obj xs=>obtain ⟨a,rfl,_⟩:=aQ.mp r;rfl
theorem FA {p:Pa}:pX p (rD false) (fun x y H Q=>y=.non/\Q (.bl (decide (x=.non))) H):=by
 intro a b v y H α μ Q S ra rb P
 cases b with
 | non=>exact ⟨bJ.mp rb,P.now S _ (aX.mpr (by rw [wJ ra];rfl))⟩
 | bl b=>exact P.elim
 | int b=>exact P.elim
 | str b=>exact P.elim
 | tup xs=>exact P.elim
 | frz xs=>exact P.elim
 | obj xs=>exact P.elim
theorem CF {p:Pa}:pX p (rD true) (fun x y H Q=>y=.non/\Q (.bl (!decide (x=.non))) H):=by
 intro a b v y H α μ Q S ra rb P
 cases b with
 | non=>exact ⟨bJ.mp rb,P.now S _ (aX.mpr (by rw [wJ ra];cases a <;> rfl))⟩
 | bl b=>exact P.elim
 | int b=>exact P.elim
 | str b=>exact P.elim
 | tup xs=>exact P.elim
 | frz xs=>exact P.elim
 | obj xs=>exact P.elim
end L2
namespace L2
open PySem PySem.Spec PyProof.Rows RS
open PySem.SeqAt
open PySem.AutoSeq1 (wpAny_loadPart')
open PySem.MeetsSeq PySem.MeetsSeq2 PySem.MeetsSeq3
def Bk (op:CmpOp) (A:Around) (s:Shared) (y x:Value) (k:Bool):Prop:=∀ (prog:Program) (w:World) (E:Value->Shared->Prop) (Q:Value->Shared->Prop),Q (.bool k) s->wpAny (model prog w) A (richCompare op y x) Q E s
def oh (t:Bool):List (Bool × Bool)->Bool
 | []=>t
 | (e,k)::r=>if e=true then oh t r else k
def nE (op:CmpOp) (A:Around) (s:Shared):List Value->List Value->List (Bool × Bool)->Prop
 | [],_,[]=>True
 | _,[],[]=>True
 | y::ys,x::xs,(e,k)::r=>EqAt A s y x e/\(e=false->Bk op A s y x k)/\(e=true->nE op A s ys xs r)
 | _,_,_=>False
theorem sA (l b:Addr) (items items2:Array Value) (n n2:Nat) (dd dd2:Option Addr) (sl sl2:Array (Option Value)) (eks:List (Bool × Bool)) :
  Meets (Builtin.«tuple.__lt__» ⟨[.ref l,.ref b],[]⟩)
   (fun A R s => s.heap.get? l = some { cls := .type "tuple", dict := dd, data := .seq items n, slots := sl } /\ s.heap.get? b = some { cls := .type "tuple", dict := dd2, data := .seq items2 n2, slots := sl2 } /\
    nE .Lt A.in1 s items.toList items2.toList eks/\R (.ok (.ret (.bool (oh (decide (items.size<items2.size)) eks)))) s):=
 .of_wp fun prog w A R s h=>by
  obtain ⟨hp,g,d,tk,os⟩:=s;obtain ⟨hl,hb,hc,h⟩:=h
  have f2:=AutoSeq1.sub_tuple_tuple
  wp_walk using wpAny_loadPart' hl,wpAny_loadPart' hb,LP _ (fun rest b s'=>b.1=none/\s'=⟨hp,g,d,tk,os⟩/\∃ (vs ws:List Value) (eks':List (Bool × Bool)),rest=vs.zip ws /\
   nE .Lt A.in1 ⟨hp,g,d,tk,os⟩ vs ws eks'/\R (.ok (.ret (.bool (oh (decide (items.size<items2.size)) eks')))) ⟨hp,g,d,tk,os⟩) _
  case turn=>
   rintro ⟨y,x⟩ rest b s' ⟨hb',rfl,vs,ws,eks',hz,hci,hR⟩
   cases vs with
   | nil=>rw [List.zip_nil_left] at hz;cases hz
   | cons a vs=>
    cases ws with
    | nil=>rw [List.zip_nil_right] at hz;cases hz
    | cons c ws=>
     rw [List.zip_cons_cons] at hz
     injection hz with hyx hrest
     injection hyx with hy hx
     subst hy hx
     cases eks' with
     | nil=>simp only [nE] at hci
     | cons ek eks'=>
      obtain ⟨e,k⟩:=ek
      simp only [nE] at hci
      obtain ⟨he,hk,hci⟩:=hci
      refine JT (he prog w _ _ ?_)
      cases e with
      | true=>
       have hR':R (.ok (.ret (.bool (oh (decide (items.size<items2.size)) eks')))) ⟨hp,g,d,tk,os⟩:=hR
       wp_walk
       exact ⟨rfl,rfl,_,_,_,hrest,hci rfl,hR'⟩
      | false=>
       have hR':R (.ok (.ret (.bool k))) ⟨hp,g,d,tk,os⟩:=hR
       have hri:=hk rfl prog w
       wp_walk using hri
       exact ⟨_,rfl,by simpa using hR'⟩
  case fin=>
   rintro ⟨b1,b2⟩ s' ⟨hb',rfl,vs,ws,eks',hz,hci,hR⟩
   simp only at hb'
   subst hb'
   have hv:eks'=[]:=by
    cases vs with
    | nil=>cases eks' with
     | nil=>rfl
     | cons _ _=>simp only [nE] at hci
    | cons a vs=>cases ws with
     | nil=>cases eks' with
      | nil=>rfl
      | cons _ _=>simp only [nE] at hci
     | cons c ws=>rw [List.zip_cons_cons] at hz;cases hz
   subst hv
   have hR':R (.ok (.ret (.bool (decide (items.size<items2.size))))) ⟨hp,g,d,tk,os⟩:=hR
   wp_walk
   exact ⟨_,rfl,by simpa [Builtin.Tuple.tupleCompareSizes] using hR'⟩
  case h=>
   exact ⟨rfl,rfl,items.toList,items2.toList,eks,rfl,hc,h⟩
theorem FF {prog:Program}{w:World}{A:Around}{E:Value->Shared->Prop}{s:Shared}{l b:Addr}{items items2:Array Value}{eks:List (Bool × Bool)}{Q:Value->Shared->Prop} (hl:IsTup s.heap l items) (hb:IsTup s.heap b items2) (hc:nE .Lt A.in1 s items.toList items2.toList eks)
  (hu:A.units<cLine) (h:Q (.bool (oh (decide (items.size<items2.size)) eks)) s):wpAny (model prog w) A (richCompare .Lt (.ref l) (.ref b)) Q E s:=by
 obtain ⟨⟨cls,dd,data,sl⟩,ho,hc',n,hd⟩:=id hl
 obtain ⟨⟨cls2,dd2,data2,sl2⟩,ho2,hc2,n2,hd2⟩:=id hb
 simp only at hc' hd hc2 hd2
 subst hc' hd hc2 hd2
 exact richCompare_meets_room (op:=.Lt) ⟨_,ho,rfl⟩ ⟨_,ho2,rfl⟩ PySem.F.slot_tuple_lt PySem.F.entry_tuple_lt (PySem.F.args_tuple_lt_2 _ _) (sA l b items items2 n n2 dd dd2 sl sl2 eks)
  ⟨ho,ho2,hc,show Value.bool (oh (decide (items.size<items2.size)) eks)≠Value.notImplemented/\Q (.bool (oh (decide (items.size<items2.size)) eks)) s from ⟨(fun x=>nomatch x),h⟩⟩ hu
end L2
namespace L2
open PySem PySem.Spec PyProof.Rows RS
def dq:CmpOp->Int->Int->Bool
 | .Lt,i,j=>decide (i<j)
 | .LtE,i,j=>decide (i<=j)
 | .Gt,i,j=>decide (i > j)
 | .GtE,i,j=>decide (i ≥ j)
 | _,_,_=>false
def Bh:CmpOp->Bool
 | .Lt=>true
 | _=>false
mutual
def ic (op:CmpOp):PyData->PyData->Option Bool
 | .int i,.int j=>some (dq op i j)
 | .tuple xs,.tuple ys=>if Bh op=true then cmpPs op xs ys else none
 | _,_=>none
def cmpPs (op:CmpOp):List PyData->List PyData->Option Bool
 | [],ys=>some (dq op 0 ys.length)
 | _::xs,[]=>some (dq op (xs.length+1) 0)
 | x::xs,y::ys=>if PyData.eqv x y=true then cmpPs op xs ys else ic op x y
end
def tw:CmpOp->Bool
 | .Lt | .LtE | .Gt | .GtE=>true
 | _=>false
theorem Hd:∀ {op:CmpOp} (ho:tw op=true) {A:Around}{s:Shared} (a:Int) (t:Tok) (c:Int) (u:Tok),Bk op A s (.int a t) (.int c u) (dq op a c)
 | .Lt,_,A,s,a,t,c,u=>fun prog w E Q h=>(PyProof.Rows.lt_int h:wpAny (model prog w) A (compareOp .Lt (.int a t) (.int c u)) Q E s)
 | .LtE,_,A,s,a,t,c,u=>fun prog w E Q h=>(PyProof.Rows.le_int h:wpAny (model prog w) A (compareOp .LtE (.int a t) (.int c u)) Q E s)
 | .Gt,_,A,s,a,t,c,u=>fun prog w E Q h=>(PyProof.Rows.gt_int h:wpAny (model prog w) A (compareOp .Gt (.int a t) (.int c u)) Q E s)
 | .GtE,_,A,s,a,t,c,u=>fun prog w E Q h=>(PyProof.Rows.ge_int h:wpAny (model prog w) A (compareOp .GtE (.int a t) (.int c u)) Q E s)
theorem vJ {op:CmpOp} (i j:Nat):dq op ((i+1:Nat):Int) ((j+1:Nat):Int)=dq op (i:Int) (j:Int):=by
 cases op <;> first | rfl | (unfold dq;simp)
theorem Hc:∀ {op:CmpOp} (ho:Bh op=true) {A:Around}{s:Shared}{l b:Addr}{items items2:Array Value}{eks:List (Bool × Bool)} (hl:IsTup s.heap l items) (hb:IsTup s.heap b items2) (hc:nE op A.in1 s items.toList items2.toList eks)
  (hu:A.units<cLine),Bk op A s (.ref l) (.ref b) (oh (dq op items.size items2.size) eks)
 | .Lt,_,A,s,l,b,items,items2,eks,hl,hb,hc,hu=>fun prog w E Q h=>FF hl hb hc hu (by
   have e:decide (items.size<items2.size)=dq .Lt items.size items2.size:=by (unfold dq;simp)
   rw [e];exact h)
mutual
theorem tV {op:CmpOp} (ho:tw op=true):∀ (da db:PyData) (A:Around) (s:Shared) (a b:Value) (as bs:List Addr) (k:Bool),Reads s.heap a da as->Reads s.heap b db bs->da.canLay0=true->db.canLay0=true ->
  A.units+min da.depth db.depth<cLine->ic op da db=some k->Bk op A s a b k
 | .int i,.int j,A,s,_,_,_,_,k,ra,rb,_,_,hu,hk=>by
  cases ra;cases rb
  simp only [ic] at hk
  cases hk
  exact Hd ho _ _ _ _
 | .tuple xs,.tuple ys,A,s,_,_,_,_,k,ra,rb,ha,hb,hu,hk=>by
  simp only [ic] at hk
  have hlt:Bh op=true:=by
   cases z:Bh op with
   | true=>rfl
   | false=>rw [z,Jt JX] at hk;cases hk
  rw [Js hlt] at hk
  cases ra with
  | @tuple l o vs n _ as₁ h1 h2 h3 h4=>
   cases rb with
   | @tuple l' o' vs' n' _ bs₁ k1 k2 k3 k4=>
    have n1:vs.size=xs.length:=by simpa using SeqAt.ReadsAll.length _ _ _ h4
    have n2:vs'.size=ys.length:=by simpa using SeqAt.ReadsAll.length _ _ _ k4
    obtain ⟨eks,e1,e2⟩:=rc_readsAll ho xs ys A.in1 s vs.toList vs'.toList _ _ k h4 k4 (by simpa [PyData.canLay0] using ha) (by simpa [PyData.canLay0] using hb) (SeqAt.room_in hu) hk
    have:=Hc hlt (A:=A) (s:=s) (l:=l) (b:=l') (items:=vs) (items2:=vs') (eks:=eks) ⟨_,h1,h2,_,h3⟩ ⟨_,k1,k2,_,k3⟩ e1 (SeqAt.room_here hu)
    rw [n1,n2,e2] at this
    exact this
 | .none,_,_,_,_,_,_,_,_,_,_,_,_,_,hk=>by simp only [ic] at hk;cases hk
 | .bool _,_,_,_,_,_,_,_,_,_,_,_,_,_,hk=>by simp only [ic] at hk;cases hk
 | .str _,_,_,_,_,_,_,_,_,_,_,_,_,_,hk=>by simp only [ic] at hk;cases hk
 | .list _,_,_,_,_,_,_,_,_,_,_,_,_,_,hk=>by simp only [ic] at hk;cases hk
 | .dict _,_,_,_,_,_,_,_,_,_,_,_,_,_,hk=>by simp only [ic] at hk;cases hk
 | .int _,.none,_,_,_,_,_,_,_,_,_,_,_,_,hk=>by simp only [ic] at hk;cases hk
 | .int _,.bool _,_,_,_,_,_,_,_,_,_,_,_,_,hk=>by simp only [ic] at hk;cases hk
 | .int _,.str _,_,_,_,_,_,_,_,_,_,_,_,_,hk=>by simp only [ic] at hk;cases hk
 | .int _,.list _,_,_,_,_,_,_,_,_,_,_,_,_,hk=>by simp only [ic] at hk;cases hk
 | .int _,.tuple _,_,_,_,_,_,_,_,_,_,_,_,_,hk=>by simp only [ic] at hk;cases hk
 | .int _,.dict _,_,_,_,_,_,_,_,_,_,_,_,_,hk=>by simp only [ic] at hk;cases hk
 | .tuple _,.none,_,_,_,_,_,_,_,_,_,_,_,_,hk=>by simp only [ic] at hk;cases hk
 | .tuple _,.bool _,_,_,_,_,_,_,_,_,_,_,_,_,hk=>by simp only [ic] at hk;cases hk
 | .tuple _,.int _,_,_,_,_,_,_,_,_,_,_,_,_,hk=>by simp only [ic] at hk;cases hk
 | .tuple _,.str _,_,_,_,_,_,_,_,_,_,_,_,_,hk=>by simp only [ic] at hk;cases hk
 | .tuple _,.list _,_,_,_,_,_,_,_,_,_,_,_,_,hk=>by simp only [ic] at hk;cases hk
 | .tuple _,.dict _,_,_,_,_,_,_,_,_,_,_,_,_,hk=>by simp only [ic] at hk;cases hk
theorem rc_readsAll {op:CmpOp} (ho:tw op=true):∀ (xs ys:List PyData) (A:Around) (s:Shared) (vs ws:List Value) (as bs:List Addr) (k:Bool),ReadsAll s.heap vs xs as->ReadsAll s.heap ws ys bs->PyData.canLayAll0 xs=true->PyData.canLayAll0 ys=true ->
  A.units+min (PyData.depthAll xs) (PyData.depthAll ys)<cLine->cmpPs op xs ys=some k->∃ eks,nE op A s vs ws eks/\oh (dq op (xs.length:Nat) (ys.length:Nat)) eks=k
 | [],ys,A,s,_,_,_,_,k,ra,rb,_,_,_,hk=>by
  cases ra
  simp only [cmpPs] at hk
  cases hk
  exact ⟨[],by unfold nE;trivial,rfl⟩
 | x::xs,[],A,s,_,_,_,_,k,ra,rb,_,_,_,hk=>by
  cases rb
  simp only [cmpPs] at hk
  cases hk
  cases ra
  refine ⟨[],by unfold nE;trivial,?_⟩
  simp [oh]
 | x::xs,y::ys,A,s,_,_,_,_,k,ra,rb,ha,hb,hu,hk=>by
  have ha':x.canLay0=true/\PyData.canLayAll0 xs=true:=by simpa [PyData.canLayAll0] using ha
  have hb':y.canLay0=true/\PyData.canLayAll0 ys=true:=by simpa [PyData.canLayAll0] using hb
  cases ra with
  | cons r rs=>
   cases rb with
   | cons r' rs'=>
    have he:=SeqAt.eqAt_reads x y A s _ _ _ _ r r' ha'.1 hb'.1 (SeqAt.room_head hu)
    simp only [cmpPs] at hk
    cases e:PyData.eqv x y with
    | true=>
     rw [Js e] at hk
     rw [e] at he
     obtain ⟨eks,e1,e2⟩:=rc_readsAll ho xs ys A s _ _ _ _ k rs rs' ha'.2 hb'.2 (SeqAt.room_tail hu) hk
     refine ⟨(true,false)::eks,⟨he,fun z=>(by cases z),fun _=>e1⟩,?_⟩
     show oh (dq op ((xs.length+1:Nat):Int) ((ys.length+1:Nat):Int)) eks=k
     rw [vJ];exact e2
    | false=>
     rw [Jt (by rw [e];exact JX)] at hk
     rw [e] at he
     refine ⟨[(false,k)],⟨he,fun _=>tV ho x y A s _ _ _ _ k r r' ha'.1 hb'.1 (SeqAt.room_head hu) hk,fun z=>(by cases z)⟩,rfl⟩
end
def yM (K:W.Frag) (op:CmpOp):R2:=fun x y H Q=>∃ a b k,k9 K H a x/\k9 K H b y/\eH a=true/\eH b=true/\ic op a b=some k/\Q (.bl k) H
theorem Ct {X:Cx} (hu:X.A.units+64<cLine):∀ {op:CmpOp},tw op=true->jz X (compareOp op) (yM X.K op):=by
 intro op ho pins s σ H x y v u Q I rx ry h
 obtain ⟨a,b,k,h1,h2,h3,h4,h5,q⟩:=h
 obtain ⟨as,r1⟩:=dw I a x v h1 rx
 obtain ⟨bs,r2⟩:=dw I b y u h2 ry
 have:=tV ho a b X.A s v u as bs k r1 r2 (cz h3) (cz h4) (mK h3 hu) h5 X.prog X.w X.xe (EP X pins σ Q) ⟨.bl k,H,I,rfl,q⟩
 cases op <;> first
  | exact absurd ho (by decide)
  | exact this
def kr (op:CmpOp) (a b:D) (μ:aB):ai D:=match mX μ a,mX μ b with
 | some p,some q=>if eH p=true/\eH q=true then (match ic op p q with | some k=>.ok (.bl k) μ | none=>.bad) else .bad
 | _,_=>.bad
theorem FC {p:Pa}{op:CmpOp}:pX p (kr op) (yM p.K op):=by
 intro a b v y H α μ Q S ra rb P
 unfold kr at P
 split at P
 ·rename_i x z hx hz
  split at P
  ·rename_i hf
   split at P
   ·rename_i k hk
    exact ⟨x,z,k,jJ S hx ra,jJ S hz rb,hf.1,hf.2,hk,P.now S _ (aX.mpr rfl)⟩
   ·exact P.elim
  ·exact P.elim
 ·exact P.elim
def dI (g:Int->Int->D) (a b:D) (μ:aB):ai D:=match a,b with
 | .int i,.int j=>.ok (g i j) μ
 | _,_=>.bad
open Classical in
noncomputable def Dl (C:Int->Int->Prop) (g:Int->Int->D) (a b:D) (μ:aB):ai D:=match a,b with
 | .int i,.int j=>if C i j then .ok (g i j) μ else .bad
 | _,_=>.bad
section
variable {p:Pa}
theorem Iu {g:Int->Int->V}{gd:Int->Int->D} (h:∀ i j H α,p.R H α (gd i j) (g i j)):pX p (dI gd) (Gm g):=by
 intro a b v y H α μ Q S ra rb P
 unfold dI at P
 split at P
 ·rename_i i j
  exact ⟨i,j,ar.mp ra,ar.mp rb,P.now S _ (h i j H α)⟩
 ·exact P.elim
theorem yS {C:Int->Int->Prop}{g:Int->Int->V}{gd:Int->Int->D} (h:∀ i j H α,p.R H α (gd i j) (g i j)):pX p (Dl C gd) (rI C g):=by
 intro a b v y H α μ Q S ra rb P
 unfold Dl at P
 split at P
 ·rename_i i j
  split at P
  ·rename_i hc
   exact ⟨i,j,ar.mp ra,ar.mp rb,hc,P.now S _ (h i j H α)⟩
  ·exact P.elim
 ·exact P.elim
def sU (a:D) (μ:aB):ai D:=match a with
 | .int i=>.ok (.int (-i)) μ
 | _=>.bad
theorem FE:IW p sU (rU fun i=>.int (-i)):=by
 intro a v H α μ Q S ra P
 unfold sU at P
 split at P
 ·rename_i i
  exact ⟨i,ar.mp ra,P.now S _ (ar.mpr rfl)⟩
 ·exact P.elim
def DA (K:W.Frag):R2:=fun x y H Q=>∃ a b xs ys,x=.ref a/\y=.ref b/\gU K H a xs/\gU K H b ys/\xs.length+ys.length<=sizeLine /\
 (xs=[]->Q (.ref b) H)/\(xs≠[]->ys=[]->Q (.ref a) H)/\(xs≠[]->ys≠[]->∀ p,H p=none->Q (.ref p) (cK H p (.tup (xs++ys))))
theorem AU {prog:Program}{w:World}{A:Around}{E:Value->Shared->Prop}{s:Shared}{t b:Addr}{ws:List Value}{Q:Value->Shared->Prop} (ht:IsTup s.heap t #[]) (hb:IsTup s.heap b ws.toArray) (h0:Q (.ref b) s):wpAny (model prog w) A (binaryOp .Add (.ref t) (.ref b)) Q E s:=by
 obtain ⟨⟨cls,dd,data,sl⟩,ho,hc,n,hd⟩:=id ht
 obtain ⟨⟨cls2,dd2,data2,sl2⟩,ho2,hc2,n2,hd2⟩:=id hb
 simp only at hc hd hc2 hd2
 subst hc hd hc2 hd2
 exact concat_meets ⟨_,ho,rfl⟩ ⟨_,ho2,rfl⟩ Ks seq_tuple_add Kt Ku (Kv _ _)
  (tuple_addW0 t b #[] ws.toArray n n2 dd dd2 sl sl2 (by simp)) ⟨ho,ho2,h0⟩
theorem Cv {X:Cx}:jz X (binaryOp .Add) (DA X.K):=by
 intro pins s σ H x y v u Q I rx ry h
 obtain ⟨a,b,xs,ys,rfl,rfl,ha,hb,hz,q0,q1,q2⟩:=h
 by_cases hx:xs=[]
 ·cases rx
  cases ry
  obtain ⟨its,r1,p1,_⟩:=I.tuple ha
  obtain ⟨its2,r2,p2,_⟩:=I.tuple hb
  subst hx
  cases r1
  exact AU p1 p2 ⟨.ref b,H,I,rfl,q0 rfl⟩
 ·exact Cu pins s σ H (.ref a) (.ref b) v u Q I rx ry ⟨a,b,xs,ys,rfl,rfl,ha,hb,hx,hz,q1 hx,q2 hx⟩
def yN (K:W.Frag):R2:=fun x y H Q=>Gm (fun i j=>.int (i+j)) x y H Q\/DA K x y H Q\/GF x y H Q\/(∃ i j,x=.str i/\y=.str j/\i.length+j.length<=sizeLine/\Q (.str (i++j)) H)
theorem Cw {X:Cx}:jz X (binaryOp .Add) (yN X.K):=Fq.or (Cv.or (Fp.or vy))
def cv (a b:D) (μ:aB):ai D:=match a,b with
 | .int i,.int j=>.ok (.int (i+j)) μ
 | .str x,.str y=>if x.length+y.length<=sizeLine then .ok (.str (x++y)) μ else .bad
 | .tup xs,.tup ys=>if xs.length+ys.length<=sizeLine then .ok (.tup (xs++ys)) μ else .bad
 | .obj m,.obj n=>match μ[m]?,μ[n]? with
  | some (.lst xs),some (.lst ys)=>if xs.length+ys.length<=sizeLine then .ok (.obj μ.length) (μ++[.lst (xs++ys)]) else .bad
  | _,_=>.bad
 | _,_=>.bad
theorem cV {H:Hp}{α:List Addr}{μ:aB}{n:Nat}{v:V}{xs:List D} (S:p.S H α μ) (r:p.R H α (.obj n) v) (hx:μ[n]?=some (.lst xs)):∃ a us,v=.ref a/\α[n]?=some a/\H a=some (.lst us)/\p.Rs H α xs us:=by
 obtain ⟨a,ea,us,hH,rr⟩:=S.at hx
 obtain ⟨a',rfl,ea'⟩:=aQ.mp r
 rw [ea] at ea';cases ea'
 exact ⟨a,us,rfl,ea,hH,rr⟩
theorem Reps.nil_iff' {K:W.Frag}{H:Hp}{α:List Addr}{xs:List D}{vs:List V} (r:Reps K H α xs vs):vs=[]↔xs=[]:=by
 have:=r.length
 constructor
 ·intro h;subst h;simp at this;exact MM this.symm
 ·intro h;subst h;simp at this;exact this
theorem FD:pX p cv (yN p.K):=by
 intro a b v y H α μ Q S ra rb P
 unfold cv at P
 split at P
 ·rename_i i j
  exact .inl ⟨i,j,ar.mp ra,ar.mp rb,P.now S _ (ar.mpr rfl)⟩
 ·rename_i i j
  split at P
  ·rename_i hl
   exact .inr (.inr (.inr ⟨i,j,bA.mp ra,bA.mp rb,hl,P.now S _ (bA.mpr rfl)⟩))
  ·exact P.elim
 ·rename_i xs ys
  split at P
  ·rename_i hl
   obtain ⟨a,us,rfl,h1,r1⟩:=aK.mp ra
   obtain ⟨b,ws,rfl,h2,r2⟩:=aK.mp rb
   refine .inr (.inl ⟨a,b,us,ws,rfl,rfl,h1,h2,by rw [r1.length,r2.length];exact hl,fun e=>?_,fun _ e=>?_,fun _ _ q hq=>?_⟩)
   ·have ex := r1.nil_iff'.mp e
    subst ex
    exact P.now S _ (by simpa using rb)
   ·have ey := r2.nil_iff'.mp e
    subst ey
    exact P.now S _ (by simpa using ra)
   ·exact P _ _ (cq hq) (S.tuple hq) _ (aK.mpr ⟨q,_,rfl,gU.of cy,(r1.append r2).mono (cq hq)⟩)
  ·exact P.elim
 ·rename_i m n
  split at P
  ·rename_i xs ys hx hy
   split at P
   ·rename_i hl
    obtain ⟨a,us,rfl,a1,h1,r1⟩:=cV S ra hx
    obtain ⟨b,ws,rfl,b1,h2,r2⟩:=cV S rb hy
    refine .inr (.inr (.inl ⟨a,b,us,ws,rfl,rfl,h1,h2,by rw [r1.length,r2.length];exact hl,fun q hq=>?_⟩))
    obtain ⟨x1,x2,x3⟩:=fE S hq (r1.append r2)
    exact P _ _ x1 x2 _ x3
   ·exact P.elim
  ·exact P.elim
 ·exact P.elim
def Du:R2:=fun x y H Q=>rI rF (fun i j=>.int (i * j)) x y H Q\/Gz x y H Q
theorem Cr {X:Cx}:jz X (binaryOp .Mult) Du:=Fj.or Fg
open Classical in
noncomputable def jd (a b:D) (μ:aB):ai D:=match a,b with
 | .int i,.int j=>if rF i j then .ok (.int (i * j)) μ else .bad
 | .obj m,.int k=>match μ[m]? with
  | some (.lst xs)=>if -(2 ^ 63)<=k/\k<2 ^ 63/\xs.length * k.toNat<=sizeLine then .ok (.obj μ.length) (μ++[.lst (List.replicate k.toNat xs).flatten]) else .bad
  | _=>.bad
 | _,_=>.bad
theorem Reps.rep {K:W.Frag}{H:Hp}{α:List Addr}{xs:List D}{vs:List V} (h:Reps K H α xs vs):∀ k:Nat,Reps K H α (List.replicate k xs).flatten (List.replicate k vs).flatten
 | 0=>by simpa using Reps.nil
 | k+1=>by
  rw [KQ,KQ,KR,KR]
  exact h.append (Reps.rep h k)
theorem Fz:pX p jd Du:=by
 intro a b v y H α μ Q S ra rb P
 unfold jd at P
 split at P
 ·rename_i i j
  split at P
  ·rename_i hc
   exact .inl ⟨i,j,ar.mp ra,ar.mp rb,hc,P.now S _ (ar.mpr rfl)⟩
  ·exact P.elim
 ·rename_i m k
  split at P
  ·rename_i xs hx
   split at P
   ·rename_i hl
    obtain ⟨a,us,rfl,a1,h1,r1⟩:=cV S ra hx
    refine .inr ⟨a,k,us,rfl,ar.mp rb,h1,hl.1,hl.2.1,by rw [r1.length];exact hl.2.2,fun q hq=>?_⟩
    obtain ⟨x1,x2,x3⟩:=fE S hq (r1.rep k.toNat)
    exact P _ _ x1 x2 _ x3
   ·exact P.elim
  ·exact P.elim
 ·exact P.elim
def c9 (a b:D) (μ:aB):ai D:=match a,b with
 | .tup xs,.int i=>match atI xs i with
  | some d=>.ok d μ
  | none=>.bad
 | .frz xs,.int i=>match atI xs i with
  | some d=>.ok d μ
  | none=>.bad
 | .obj n,.int i=>match μ[n]? with
  | some (.lst xs)=>match atI xs i with
   | some d=>.ok d μ
   | none=>.bad
  | _=>.bad
 | _,_=>.bad
theorem Reps.atI {K:W.Frag}{H:Hp}{α:List Addr}{xs:List D}{vs:List V}{i:Int}{d:D} (r:Reps K H α xs vs) (h:L2.atI xs i=some d):∃ v,L2.atI vs i=some v/\aM K H α d v:=by
 unfold L2.atI at h ⊢
 rw [r.length]
 cases e:vV xs.length i with
 | none=>rw [e] at h;cases h
 | some j=>rw [e] at h;exact r.get h
theorem Hq:pX p c9 (IS p.K):=by
 intro a b v y H α μ Q S ra rb P
 unfold c9 at P
 split at P
 ·rename_i xs i
  split at P
  ·rename_i d hd
   obtain ⟨a,us,rfl,h1,r1⟩:=aK.mp ra
   obtain ⟨v,hv,rv⟩:=r1.atI hd
   exact .inr (.inl ⟨a,us,i,v,rfl,ar.mp rb,h1,hv,P.now S _ rv⟩)
  ·exact P.elim
 ·rename_i xs i
  split at P
  ·rename_i d hd
   obtain ⟨a,us,rfl,h1,r1⟩:=bu.mp ra
   obtain ⟨v,hv,rv⟩:=r1.atI hd
   exact .inl ⟨a,us,i,v,rfl,ar.mp rb,h1.sq,hv,P.now S _ rv⟩
  ·exact P.elim
 ·rename_i n i
  split at P
  ·rename_i xs hx
   split at P
   ·rename_i d hd
    obtain ⟨a,us,rfl,a1,h1,r1⟩:=cV S ra hx
    obtain ⟨v,hv,rv⟩:=r1.atI hd
    exact .inl ⟨a,us,i,v,rfl,ar.mp rb,hX.of h1,hv,P.now S _ rv⟩
   ·exact P.elim
  ·exact P.elim
 ·exact P.elim
theorem G8 {X:Cx}{a b:Expr}{fa fb:ME}{pos:Pos} (hK:X.K=p.K) (ha:PE X a (tD p fa)) (hb:PE X b (tD p fb)) (hs:sy b):PE X (.Subscript a b pos) (tD p (az c9 fa fb)):=
 (Hj FP ha hb hs).weak fun σ H Q ⟨α, ρ, μ, S, R, P⟩ => ⟨α, ρ, μ, S, R, (aF.bind P).imp fun x μ1 H1 α1 X1 S1 P1 v rv => ⟨α1, ρ, μ1, S1, R.mono X1, (aF.bind P1).imp fun y μ2 H2 α2 X2 S2 P2 u ru => by
  rw [hK];exact Hq x y v u H2 α2 μ2 Q S2 (rv.mono X2) ru P2⟩⟩
theorem kC {prog:Program}{w:World}{A:Around}{E:Value->Shared->Prop}{s:Shared}{t sl:Addr}{items:Array Value}{vl vu:Value}{lo hi:Option Int}{Q:Value->Shared->Prop} (ht:IsTup s.heap t items) (hs:s.heap.IsSliceOf sl vl vu .none) (pl:IsPart vl lo) (pu:IsPart vu hi)
  (hw:HT.sIx items.size 0 lo=0/\HT.sIx items.size items.size hi=items.size) (h:Q (.ref t) s):wpAny (model prog w) A (getItem (.ref t) (.ref sl)) Q E s:=by
 obtain ⟨os,hos,hcs,hds⟩:=id hs
 have hTs:s.TypeIs (.ref sl) "slice" := ⟨os,hos,hcs⟩
 unfold getItem
 try with_reducible refine JU ?_
 first | refine JT (JZ ?_) | skip
 refine JT (wpAny_sequenceKey ht.typeIs (by decide) ?_)
 refine JT (KC (name:=Str.ofString "__getitem__") ht.typeIs KD
  (KE KD ht.typeIs entry_tuple_getitem ?_ (args_tuple_getitem _ _)))
 show wpAny _ _ (Builtin.Tuple.tupleItemsOf (.ref t) >>= _) _ _ s
 refine JT (tupleItemsOf_ ht ?_)
 refine JT (KG hTs ?_)
 rw [Js (by decide)]
 refine JT (HT.sliceApplied_gen hs pl pu ?_)
 have hno:(((HT.sIx items.size 0 lo:Nat):Int) == 0 && (1:Int) == 1 && (HT.sIx items.size items.size hi - HT.sIx items.size 0 lo) == items.size)=true:=by
  rw [hw.1,hw.2];simp
 show wpAny _ _ (if (((HT.sIx items.size 0 lo:Nat):Int) == 0 && (1:Int) == 1 && (HT.sIx items.size items.size hi - HT.sIx items.size 0 lo) == items.size)=true then _ else _) _ _ s
 rw [Js hno]
 refine JT (m:=Builtin.Tuple.tupleIsExact (.ref t)) (JT (KG ht.typeIs (JZ ?_)))
 rw [Js (by decide)]
 exact JT (Ld (JZ ⟨_,rfl,JZ h⟩))
def kO {β:Type} (xs:List β) (lo hi:Option Int):List β:=(xs.drop (HT.sIx xs.length 0 lo)).take (HT.sIx xs.length xs.length hi - HT.sIx xs.length 0 lo)
theorem vH {β:Type} (xs:List β) (lo hi:Option Int) (h:HT.sIx xs.length 0 lo=0/\HT.sIx xs.length xs.length hi=xs.length):kO xs lo hi=xs:=by
 unfold kO
 rw [h.1,h.2];simp
def Ds (K:W.Frag):V->Option Int->Option Int->Hp->VK->Prop:=fun x lo hi H Q=>∃ a xs,x=.ref a/\gU K H a xs /\
 (HT.sIx xs.length 0 lo=0/\HT.sIx xs.length xs.length hi=xs.length)/\Q (.ref a) H
theorem BO {X:Cx}:A9 X (Ds X.K):=by
 intro pins s σ H x v vl vu lo hi sl Q I rx hs pl pu h
 obtain ⟨a,xs,rfl,hx,hw,q⟩:=h
 cases rx
 obtain ⟨its,r,ht,hz⟩:=I.tuple hx
 have hlen:its.toArray.size=xs.length:=by rw [Ka];exact r.length.symm
 refine ⟨"tuple",_,KD.lookup,ht.typeIs,?_⟩
 exact kC ht hs pl pu (by rw [hlen];exact hw) ⟨.ref a,H,I,rfl,q⟩
def Gy (K:W.Frag):V->Option Int->Option Int->Hp->VK->Prop:=fun x lo hi H Q=>Gw K x lo hi H Q\/Ds K x lo hi H Q\/Gx K x lo hi H Q
theorem Iq {X:Cx}:A9 X (Gy X.K):=Ey.or (BO.or BP)
abbrev MO:=Ro->aB->ai (Option Int)
def DR:MO:=fun _ μ=>.ok none μ
def HK (d:D) (μ:aB):ai (Option Int):=match d with
 | .int i=>.ok (some i) μ
 | _=>.bad
def lj (f:ME):MO:=fun ρ μ=>(f ρ μ).bind HK
def Dk (p:Pa) (f:MO):TO:=fun σ H Q=>∃ α ρ μ,p.S H α μ/\dr p.K H α ρ σ/\aF p H α (f ρ μ) (fun o _ H' _=>Q o H')
theorem PO.weak {X:Cx}{e:Option Expr}{t t':TO} (h:PO X e t) (k:∀ σ H Q,t' σ H Q->t σ H Q):PO X e t':=fun pins s σ H Q I q=>h pins s σ H Q I (k σ H Q q)
theorem BN {X:Cx}:PO X none (Dk p DR):=Ci.weak fun σ H Q ⟨α,ρ,μ,S,R,P⟩=>P.now S
theorem BM {X:Cx}{e:Expr}{f:ME} (h:PE X e (tD p f)):PO X (some e) (Dk p (lj f)):=(Cg h).weak fun σ H Q ⟨α,ρ,μ,S,R,P⟩=>⟨α,ρ,μ,S,R,(aF.bind P).imp fun d μ1 H1 α1 X1 S1 P1 v rv=>by
 unfold HK at P1
 split at P1
 ·rename_i i
  exact ⟨i,ar.mp rv,P1.now S1⟩
 ·exact P1.elim⟩
def yn (a:D) (lo hi:Option Int) (μ:aB):ai D:=match a with
 | .tup xs=>.ok (.tup (kO xs lo hi)) μ
 | .frz xs=>.ok (.obj μ.length) (μ++[.lst (kO xs lo hi)])
 | .obj n=>match μ[n]? with
  | some (.lst xs)=>.ok (.obj μ.length) (μ++[.lst (kO xs lo hi)])
  | _=>.bad
 | _=>.bad
def Dm (fa:ME) (fl fh:MO):ME:=fun ρ μ=>(fa ρ μ).bind fun a μ1=>(fl ρ μ1).bind fun lo μ2=>(fh ρ μ2).bind fun hi μ3=>yn a lo hi μ3
theorem Reps.cut' {K:W.Frag}{H:Hp}{α:List Addr}{xs:List D}{vs:List V} (r:Reps K H α xs vs) (lo hi:Option Int):Reps K H α (kO xs lo hi) (sW vs lo hi):=by
 unfold kO sW
 rw [r.length]
 exact (r.drop _).take _
theorem G6 {a:D}{v:V}{lo hi:Option Int}{H:Hp}{α:List Addr}{μ:aB}{Q:VK} (S:p.S H α μ) (ra:p.R H α a v) (P:aF p H α (yn a lo hi μ) (RV p Q)):Gy p.K v lo hi H Q:=by
 unfold yn at P
 split at P
 ·rename_i xs
  obtain ⟨a,us,rfl,h1,r1⟩:=aK.mp ra
  by_cases hw:HT.sIx us.length 0 lo=0/\HT.sIx us.length us.length hi=us.length
  ·refine .inr (.inl ⟨a, us, rfl, h1, hw, ?_⟩)
   rw [r1.length] at hw
   rw [vH xs lo hi hw] at P
   exact P.now S _ ra
  ·exact .inl ⟨a,us,rfl,h1,hw,fun q hq=>P _ _ (cq hq) (S.tuple hq) _ (aK.mpr ⟨q,_,rfl,gU.of cy,(r1.cut' lo hi).mono (cq hq)⟩)⟩
 ·rename_i xs
  obtain ⟨a,us,rfl,h1,r1⟩:=bu.mp ra
  refine .inr (.inr ⟨a,us,rfl,h1.sq,fun q hq=>?_⟩)
  obtain ⟨x1,x2,x3⟩:=fE S hq (r1.cut' lo hi)
  exact P _ _ x1 x2 _ x3
 ·rename_i n
  split at P
  ·rename_i xs hx
   obtain ⟨a,us,rfl,a1,h1,r1⟩:=cV S ra hx
   refine .inr (.inr ⟨a,us,rfl,hX.of h1,fun q hq=>?_⟩)
   obtain ⟨x1,x2,x3⟩:=fE S hq (r1.cut' lo hi)
   exact P _ _ x1 x2 _ x3
  ·exact P.elim
 ·exact P.elim
theorem zX {X:Cx}{e:Expr}{lo hi:Option Expr}{fa:ME}{fl fh:MO}{pos p2:Pos} (hK:X.K=p.K) (he:PE X e (tD p fa)) (hl:PO X lo (Dk p fl)) (hu:PO X hi (Dk p fh)):PE X (.Subscript e (.Slice lo hi none p2) pos) (tD p (Dm fa fl fh)):=
 (Ah Iq he hl hu).weak fun σ H Q ⟨α, ρ, μ, S, R, P⟩ => ⟨α, ρ, μ, S, R, (aF.bind P).imp fun a μ1 H1 α1 X1 S1 P1 v rv => ⟨α1, ρ, μ1, S1, R.mono X1, (aF.bind P1).imp fun l μ2 H2 α2 X2 S2 P2 => ⟨α2, ρ, μ2, S2, (R.mono X1).mono X2, (aF.bind P2).imp fun h μ3 H3 α3 X3 S3 P3 => by
  rw [hK];exact G6 S3 ((rv.mono X2).mono X3) P3⟩⟩⟩
end
inductive yo (K:W.Frag) (H:Hp):V->String->Prop where
 | non:yo K H .non "NoneType"
 | bl (x:Bool):yo K H (.bl x) "bool"
 | int (i:Int):yo K H (.int i) "int"
 | str (x:Str):yo K H (.str x) "str"
 | lst {a:Addr}{xs:List V} (e:hX K H a xs):yo K H (.ref a) "list"
 | tup {a:Addr}{xs:List V} (e:gU K H a xs):yo K H (.ref a) "tuple"
 | dic {a:Addr}{kvs:List (rl × V)} (e:H a=some (.dK kvs)):yo K H (.ref a) "dict"
def GJ (tn T:String):Bool:=tn == T || (tn == "bool" && T == "int")
def rV:List String:=["NoneType", "bool", "int", "str", "list", "tuple", "dict"]
theorem FI {K:W.Frag}:∀ tn∈rV,∀ T∈["int", "bool", "tuple", "list", "str", "dict"],W.kitOne K (.type tn) (.type T)=some (GJ tn T):=by
 intro tn h1 T h2
 simp only [rV,JG,Md,Me] at h1 h2
 rcases h1 with rfl|rfl|rfl|rfl|rfl|rfl|rfl <;> rcases h2 with rfl|rfl|rfl|rfl|rfl|rfl <;> rfl
theorem yo.mem {K:W.Frag}{H:Hp}{x:V}{tn:String} (h:yo K H x tn):tn∈rV:=by
 cases h <;> decide
section
variable {X:Cx}
theorem FQ {pins:List (Addr × Obj)}{σ:St}{H:Hp}{s:Shared}{A:Around}{E:Value->Shared->Prop}{Q:Value->Shared->Prop}{c:Value}{b:Bool}{x:V}{u:Value}{tn:String} (I:aO X pins σ H s) (rx:bL x u) (ty:yo X.K H x tn) (e:W.kitOne X.K (.type tn) c=some b) (h:∀ tk,Q (.bool b) { s with toks:=tk }) :
  wpAny (model X.prog X.w) A (call (.builtin "isinstance") [u,c]) Q E s:=by
 cases ty with
 | non=>cases (show u=Value.none from rx);exact W.kia_one W.kitx_none I.kIn True.intro e (fun z=>nomatch z) h
 | bl y=>cases (show u=Value.bool y from rx);exact W.kia_one W.kitx_bool I.kIn True.intro e (fun z=>nomatch z) h
 | int i=>obtain ⟨t,q⟩:=(show ∃ t,u=Value.int i t from rx);cases q;exact W.kia_one W.kitx_int I.kIn True.intro e (fun z=>nomatch z) h
 | str y=>obtain ⟨t,q⟩:=(show ∃ t,u=Value.str y t from rx);cases q;exact W.kia_one W.kitx_str I.kIn True.intro e (fun z=>nomatch z) h
 | @lst a xs ea=>
  cases (show u=Value.ref a from rx)
  obtain ⟨its,_,⟨o,n,h1,h2,_⟩,_⟩:=I.list ea
  exact W.kia_one W.kitx_list I.kIn ⟨o,h1,h2⟩ e (fun z=>nomatch z) h
 | @tup a xs ea=>
  cases (show u=Value.ref a from rx)
  obtain ⟨its,_,⟨o,h1,h2,_⟩,_⟩:=I.tuple ea
  exact W.kia_one W.kitx_tuple I.kIn ⟨o,h1,h2⟩ e (fun z=>nomatch z) h
 | @dic a kvs ea=>
  cases (show u=Value.ref a from rx)
  obtain ⟨_,_,vs,_,p⟩:=(show dU X.prog X.w H s.heap a (.dK kvs) from I.hok a _ ea)
  obtain ⟨o,es,ep,h1,h2,_⟩:=p
  exact W.kia_one W.kitx_dict I.kIn ⟨o,h1,h2.1⟩ e (fun z=>nomatch z) h
def GD (K:W.Frag):List V->Hp->VK->Prop:=fun xs H Q=>∃ x T tn b,xs=[x,.ty T]/\yo K H x tn/\W.kitOne K (.type tn) (.type T)=some b/\Q (.bl b) H
theorem AW:cI X (.builtin "isinstance") (GD X.K):=by
 intro pins s σ H xs us Q I r h
 obtain ⟨x,T,tn,b,rfl,ty,e,q⟩:=h
 obtain ⟨u,u2,rfl,ru,ru2⟩:=yF r
 cases ru2
 exact FQ I ru ty e fun tk=>⟨.bl b,H,I.tok _,rfl,q⟩
end
def DO (μ:aB):D->Option String
 | .non=>some "NoneType"
 | .bl _=>some "bool"
 | .int _=>some "int"
 | .str _=>some "str"
 | .tup _=>some "tuple"
 | .frz _=>some "list"
 | .obj n=>match μ[n]? with
  | some (.lst _)=>some "list"
  | some .dic=>some "dict"
  | _=>none
theorem Eg {p:Pa}{H:Hp}{α:List Addr}{μ:aB}{d:D}{v:V}{tn:String} (S:p.S H α μ) (r:p.R H α d v) (h:DO μ d=some tn):yo p.K H v tn:=by
 cases d with
 | non=>cases h;rw [bJ.mp r];exact .non
 | bl b=>cases h;rw [aX.mp r];exact .bl b
 | int b=>cases h;rw [ar.mp r];exact .int b
 | str b=>cases h;rw [bA.mp r];exact .str b
 | tup xs=>cases h;obtain ⟨a,vs,rfl,h1,_⟩:=aK.mp r;exact .tup h1
 | frz xs=>cases h;obtain ⟨a,vs,rfl,h1,_⟩:=bu.mp r;exact .lst h1.sq
 | obj n=>
  unfold DO at h
  dsimp only at h
  split at h
  ·rename_i xs hx
   cases h
   obtain ⟨a,us,rfl,a1,h1,_⟩:=cV S r hx
   exact .lst (hX.of h1)
  ·rename_i hx
   cases h
   obtain ⟨a,ea,q⟩:=S.at hx
   obtain ⟨a',rfl,ea'⟩:=aQ.mp r
   rw [ea] at ea';cases ea'
   exact .dic q
  ·cases h
def la (T:String) (d:D) (μ:aB):ai D:=match DO μ d with
 | some tn=>.ok (.bl (GJ tn T)) μ
 | none=>.bad
theorem EG {p:Pa}{X:Cx}{a:Expr}{fa:ME}{T:String}{xT:Str}{px pt pos:Pos} (hK:X.K=p.K) (hT:T∈["int", "bool", "tuple", "list", "str", "dict"]) (hg:Gl X "isinstance") (hm:X.mg "isinstance" = none) (hgT:Gl X xT) (hmT:X.mg xT=none) (hbT:bootBuiltins xT=some (.type T)) (ha:PE X a (tD p fa))
  (hnT:xT ≠ "__name__") (hdT:(xT == ("__debug__" : Str))=false) (hs1:starEach [a,.Name xT pt] X.env=(false,eval a X.env)::starEach [.Name xT pt] X.env) :
  PE X (.Call (.Name "isinstance" px) [a,.Name xT pt] [] pos) (tD p (nA (la T) fa)):=by
 have hb:PE X (.Name xT pt) (tC (.ty T)):=wC hgT hmT hbT rfl hnT hdT
 refine (lK AW hg hm MN (iD ha (iD hb oG rfl) hs1) (by decide) (by decide) hs1 rfl).weak fun σ H Q ⟨α,ρ,μ,S,R,P⟩=>⟨α,ρ,μ,S,R,(aF.bind P).imp fun d μ1 H1 α1 X1 S1 P1 v rv=>?_⟩
 show GD X.K [v,.ty T] H1 Q
 unfold la at P1
 split at P1
 ·rename_i tn htn
  have ty:=Eg S1 rv htn
  rw [hK]
  exact ⟨v,T,tn,_,rfl,ty,FI tn ty.mem T hT,P1.now S1 _ (aX.mpr rfl)⟩
 ·exact P1.elim
section
variable {X:Cx}
theorem aO.fresh_it {pins:List (Addr × Obj)}{σ:St}{H:Hp}{s:Shared} (I:aO X pins σ H s) {o:Obj}{h':Heap}{tk:Nat} (hk:∀ b ob,b ∉ [s.heap.objs.size]->(s.heap.push o).get? b=some ob->h'.get? b=some ob):aO X pins σ H { s with heap:=h',toks:=tk }:=
 I.kept fun b ob e=>hk b ob (fun hm=>by
  have:b=s.heap.objs.size:=by simpa using hm
  subst this
  exact absurd (Jv e) (Jx _)) (J1 _ e)
end
def tE (ds:List D) (μ:aB):ai D:=match ds with
 | [.tup xs]=>.ok (.int xs.length) μ
 | [.frz xs]=>.ok (.int xs.length) μ
 | [.str x]=>if x.length<=sizeLine then .ok (.int x.length) μ else .bad
 | [.obj n]=>match μ[n]? with
  | some (.lst xs)=>.ok (.int xs.length) μ
  | _=>.bad
 | _=>.bad
theorem wD {p:Pa}:uV p tE (fun xs H Q=>∃ x n,xs=[x]/\D6 p.K x H n/\Q (.int n) H):=by
 intro ds vs H α μ Q S r P
 unfold tE at P
 split at P
 ·rename_i xs
  obtain ⟨v,rfl,r1⟩:=r.one
  obtain ⟨a,us,rfl,h1,rr⟩:=aK.mp r1
  exact ⟨_,xs.length,rfl,.inr ⟨us,h1,rr.length.symm⟩,P.now S _ (ar.mpr rfl)⟩
 ·rename_i xs
  obtain ⟨v,rfl,r1⟩:=r.one
  obtain ⟨a,us,rfl,h1,rr⟩:=bu.mp r1
  exact ⟨_,xs.length,rfl,.inl ⟨us,h1.sq,rr.length.symm⟩,P.now S _ (ar.mpr rfl)⟩
 ·rename_i x
  obtain ⟨v,rfl,r1⟩:=r.one
  split at P
  ·rename_i hl
   exact ⟨v,x.length,rfl,by rw [bA.mp r1];exact ⟨hl,rfl⟩,P.now S _ (ar.mpr rfl)⟩
  ·exact P.elim
 ·rename_i n
  split at P
  ·rename_i xs hx
   obtain ⟨v,rfl,r1⟩:=r.one
   obtain ⟨a,us,rfl,a1,h1,rr⟩:=cV S r1 hx
   exact ⟨_,xs.length,rfl,.inl ⟨us,hX.of h1,rr.length.symm⟩,P.now S _ (ar.mpr rfl)⟩
  ·exact P.elim
 ·exact P.elim
def fw (ds:List D) (μ:aB):ai D:=match ds with
 | [.tup xs]=>.ok (.tup xs) μ
 | [.frz xs]=>.ok (.tup xs) μ
 | [.obj n]=>match μ[n]? with
  | some (.lst xs)=>.ok (.tup xs) μ
  | _=>.bad
 | _=>.bad
theorem Aq {p:Pa}:uV p fw (fun xs H Q=>∃ q ys,xs=[.ref q]/\((hX p.K H q ys/\∀ l,H l=none->Q (.ref l) (cK H l (.tup ys)))\/(gU p.K H q ys/\Q (.ref q) H))):=by
 intro ds vs H α μ Q S r P
 unfold fw at P
 split at P
 ·rename_i xs
  obtain ⟨v,rfl,r1⟩:=r.one
  obtain ⟨a,us,rfl,h1,rr⟩:=aK.mp r1
  exact ⟨a,us,rfl,.inr ⟨h1,P.now S _ r1⟩⟩
 ·rename_i xs
  obtain ⟨v,rfl,r1⟩:=r.one
  obtain ⟨a,us,rfl,h1,rr⟩:=bu.mp r1
  exact ⟨a,us,rfl,.inl ⟨h1.sq,fun q hq=>P _ _ (cq hq) (S.tuple hq) _ (aK.mpr ⟨q,us,rfl,gU.of cy,rr.mono (cq hq)⟩)⟩⟩
 ·rename_i n
  split at P
  ·rename_i xs hx
   obtain ⟨v,rfl,r1⟩:=r.one
   obtain ⟨a,us,rfl,a1,h1,rr⟩:=cV S r1 hx
   exact ⟨a,us,rfl,.inl ⟨hX.of h1,fun q hq=>P _ _ (cq hq) (S.tuple hq) _ (aK.mpr ⟨q,us,rfl,gU.of cy,rr.mono (cq hq)⟩)⟩⟩
  ·exact P.elim
 ·exact P.elim
def m7 (ds:List D) (μ:aB):ai D:=match ds with
 | [.int i]=>.ok (.int i) μ
 | [.bl k]=>.ok (.int (if k then 1 else 0)) μ
 | _=>.bad
theorem Fw {p:Pa}:uV p m7 (fun xs H Q=>(∃ i,xs=[.int i]/\Q (.int i) H)\/∃ k,xs=[.bl k]/\Q (.int (if k then 1 else 0)) H):=by
 intro ds vs H α μ Q S r P
 unfold m7 at P
 split at P
 ·rename_i i
  obtain ⟨v,rfl,r1⟩:=r.one
  exact .inl ⟨i,by rw [ar.mp r1],P.now S _ (ar.mpr rfl)⟩
 ·rename_i i
  obtain ⟨v,rfl,r1⟩:=r.one
  exact .inr ⟨i,by rw [aX.mp r1],P.now S _ (ar.mpr rfl)⟩
 ·exact P.elim
def yZ (ds:List D) (μ:aB):ai D:=match ds with
 | [.int i,.int j]=>.ok (.int (if j > i then j else i)) μ
 | _=>.bad
def yY (ds:List D) (μ:aB):ai D:=match ds with
 | [.int i,.int j]=>.ok (.int (if j<i then j else i)) μ
 | _=>.bad
theorem CA {p:Pa}:uV p yZ (fun xs H Q=>∃ i j,xs=[.int i,.int j]/\Q (.int (if j > i then j else i)) H):=by
 intro ds vs H α μ Q S r P
 unfold yZ at P
 split at P
 ·rename_i i j
  obtain ⟨v,u,rfl,r1,r2⟩:=r.two
  exact ⟨i,j,by rw [ar.mp r1,ar.mp r2],P.now S _ (ar.mpr rfl)⟩
 ·exact P.elim
theorem Cz {p:Pa}:uV p yY (fun xs H Q=>∃ i j,xs=[.int i,.int j]/\Q (.int (if j<i then j else i)) H):=by
 intro ds vs H α μ Q S r P
 unfold yY at P
 split at P
 ·rename_i i j
  obtain ⟨v,u,rfl,r1,r2⟩:=r.two
  exact ⟨i,j,by rw [ar.mp r1,ar.mp r2],P.now S _ (ar.mpr rfl)⟩
 ·exact P.elim
end L2
namespace L2
open PySem PySem.Spec PyProof.Rows RS
section
variable {prog:Program}{w:World}{A:Around}{E:Value->Shared->Prop}{s:Shared}
theorem uJ {T:String} (hT:T = "list" \/ T = "tuple") {l:Addr}{vs:List Value}{Q:List Value->Shared->Prop}{o:Obj}{n:Nat} (ho:s.heap.get? l=some o) (hc:o.cls=.type T) (hd:o.data=.seq vs.toArray n)
  (h:Q vs { s with heap:=(s.heap.push (seqObj "list" #[] 0)).update s.heap.objs.size (Obj.mapSeq (·++vs.toArray)) }) (hsz:vs.length<=sizeLine) :
  wpAny (model prog w) A (collect (.ref l)) Q E s:=by
 unfold collect
 refine JT (Mc (L3 entry_proto_collect' ?_))
 show wpAny _ _ (do again (.builtin "list.__iadd__" ⟨[<- newList [],.ref l],[]⟩)) _ _ s
 refine JT (Ms (JZ ⟨L9 _ (by decide +kernel),L3 entry_list_iadd' ?_⟩))
 show wpAny _ _ (Builtin.List.listExtendWith (.ref s.heap.objs.size) (.ref l) (.ref s.heap.objs.size)) _ _ { s with heap:=s.heap.push (seqObj "list" #[] 0) }
 unfold Builtin.List.listExtendWith
 have ho':(s.heap.push (seqObj "list" #[] 0)).get? l=some o:=J1 _ ho
 refine JT (KG (T:=T) ⟨o,ho',hc⟩ ?_)
 have h1:(Value.type "list" == Value.type "list")=true:=by rfl
 have h2:(Value.type "tuple" == Value.type "tuple")=true:=by rfl
 rw [Js (by rcases hT with rfl|rfl <;> simp [h1,h2])]
 refine JT (listItems_at ho' hd ?_)
 refine JT (listItems_at (xs:=#[]) (n:=0) (J2 _ rfl) rfl ?_)
 rw [Jt (by simp)]
 refine JT (Mq (xs:=#[]) (n:=0) (J2 _ rfl) rfl ?_ (Le _) (by show (#[]++vs.toArray).size<=sizeLine+1;simp only [Array.size_append,Ka,Lk];omega))
 refine JZ ?_
 show wpAny (model prog w) A (do
   let o <- load s.heap.objs.size
   match o.data with
   | .seq xs _=>pure xs.toList
   | _=>unsupported "internal:collect") Q E { s with heap:=(s.heap.push (seqObj "list" #[] 0)).update s.heap.objs.size (Obj.mapSeq (·++vs.toArray)) }
 refine JT (J0 (Mr (J2 _ rfl) _) ?_)
 show wpAny _ _ (pure ((#[]:Array Value)++vs.toArray).toList) Q E _
 rw [show ((#[]:Array Value)++vs.toArray).toList=vs by simp]
 exact JZ h
theorem sC {T:String} (hT:T = "list" \/ T = "tuple") {l:Addr}{vs:List Value}{ns:List Int}{Q:Value->Shared->Prop}{o:Obj}{n:Nat} (ho:s.heap.get? l=some o) (hc:o.cls=.type T) (hd:o.data=.seq vs.toArray n) (hI:IntsAre vs ns) (h64:vs.length<64)
  (h:∀ (out:Array Value) (ns':List Int),IntsAre out.toList ns'->ns'.Perm ns->ns'.Pairwise (·<=·)->Q (.ref (s.heap.objs.size+1)) { s with heap:=sortedAll s.heap vs out }) :
  wpAny (model prog w) A (call (.builtin "sorted") [.ref l]) Q E s:=by
 have hsz0:vs.length<=sizeLine:=JB (JC h64) (by decide)
 refine MD kind_sorted plain_sorted entry_sorted (args_sorted1 _) ?_
 unfold Builtin.«sorted»
 refine JT (m:=checkCount "sorted" 1 1 _) (JZ ?_)
 refine JT (uJ hT ho hc hd ?_ hsz0)
 refine JT (Ms ?_ hsz0)
 have hsz:((s.heap.push (seqObj "list" #[] 0)).update s.heap.objs.size (Obj.mapSeq (·++vs.toArray))).objs.size=s.heap.objs.size+1:=by
  rw [Mu,Mt]
 have hoL:(((s.heap.push (seqObj "list" #[] 0)).update s.heap.objs.size (Obj.mapSeq (·++vs.toArray))).push (seqObj "list" vs.toArray 0)).get? (s.heap.objs.size+1)=some (seqObj "list" vs.toArray 0):=by
  rw [<- hsz];exact J2 _ rfl
 show wpAny _ _ _ _ _ { s with heap:=((s.heap.push (seqObj "list" #[] 0)).update s.heap.objs.size (Obj.mapSeq (·++vs.toArray))).push (seqObj "list" vs.toArray 0) }
 rw [hsz]
 refine JT (JU (KE slot_list_sort ⟨_,hoL,rfl⟩ MF (list_sort_tree hoL hI h64 fun out ns' a1 a2 a3=>⟨_,rfl,?_⟩) (args_list_sort _)))
 exact JZ ⟨_,rfl,h out ns' a1 a2 a3⟩
end
theorem p7 {h:Heap}{vs:List Value}{out:Array Value}{b:Addr}{u:Obj} (e:h.get? b=some u):(sortedAll h vs out).get? b=some u:=by
 have hb:=Jv e
 have n1:b≠h.objs.size:=Jy hb
 have n2:b≠h.objs.size+1:=Jy (K7 hb)
 unfold sortedAll sortedHeap
 rw [Mv _ _ _ _ n2]
 refine J1 _ (J1 _ ?_)
 rw [Mv _ _ _ _ n2]
 refine J1 _ ?_
 rw [Mv _ _ _ _ n1]
 exact J1 _ e
theorem p8 {h:Heap}{vs:List Value}{out:Array Value}:∃ n,(sortedAll h vs out).get? (h.objs.size+1)=some (seqObj "list" out n):=by
 unfold sortedAll sortedHeap
 have hsz:((h.push (seqObj "list" #[] 0)).update h.objs.size (Obj.mapSeq (·++vs.toArray))).objs.size=h.objs.size+1:=by
  rw [Mu,Mt]
 have hoL:(((h.push (seqObj "list" #[] 0)).update h.objs.size (Obj.mapSeq (·++vs.toArray))).push (seqObj "list" vs.toArray 0)).get? (h.objs.size+1)=some (seqObj "list" vs.toArray 0):=by
  rw [<- hsz];exact J2 _ rfl
 have g1:=Mr hoL (fun _=>#[])
 have g2:=J1 (seqObj "list" #[] 0) (J1 (seqObj "tuple" vs.toArray 0) g1)
 exact ⟨_,Mr g2 (fun _=>out)⟩
theorem lR {us:List Value}{ns:List Int} (h:IntsAre us ns):bb (ns.map V.int) us:=by
 induction h with
 | nil=>exact .nil
 | cons n t _ ih=>exact .cons ⟨t,rfl⟩ ih
section
variable {X:Cx}
def zj (K:W.Frag):List V->Hp->VK->Prop:=fun xs H Q=>∃ (a:Addr) (ns:List Int),xs=[.ref a]/\(hX K H a (ns.map V.int)\/gU K H a (ns.map V.int))/\ns.length<64 /\
 ∀ ns':List Int,ns'.Perm ns->ns'.Pairwise (·<=·)->∀ l,H l=none->Q (.ref l) (cK H l (.lst (ns'.map V.int)))
theorem vP:cI X (.builtin "sorted") (zj X.K):=by
 intro pins s σ H xs us Q I r h
 obtain ⟨a,ns,rfl,ha,hl,q⟩:=h
 obtain ⟨u,rfl,ru⟩:=gC r
 cases ru
 have core:∀ (T:String),T = "list" \/ T = "tuple" -> ∀ (its:List Value) (o:Obj) (n:Nat),s.heap.get? a=some o->o.cls=.type T->o.data=.seq its.toArray n->bb (ns.map V.int) its->wpAny (model X.prog X.w) X.A (call (.builtin "sorted") [.ref a]) (EP X pins σ Q) X.xe s:=by
  intro T hT its o n e1 e2 e3 rv
  have hI:IntsAre its ns:=eO rv
  refine sC hT e1 e2 e3 hI (by rw [hI.length];exact hl) fun out ns' h1 h2 h3=>?_
  refine ⟨.ref (s.heap.objs.size+1),cK H (s.heap.objs.size+1) (.lst (ns'.map V.int)),I.laid (t':=s.toks) (fun b ob e=>p7 e) (Nat.le_succ _) ?_,rfl,q ns' h2 h3 _ (I.hok.fresh (Nat.le_succ _))⟩
  obtain ⟨m,e⟩:=p8 (h:=s.heap) (vs:=its) (out:=out)
  refine ⟨?_,out.toList,m,lR h1,by simpa using e⟩
  rw [Kr,h2.length_eq]
  exact JB (JC hl) (by decide)
 rcases ha with ha | ha
 ·obtain ⟨its, rv, ⟨o, n, e1, e2, _, e3⟩, hz⟩ := I.list ha
  exact core "list" (.inl rfl) its o n e1 e2 e3 rv
 ·obtain ⟨its, rv, ⟨o, e1, e2, n, e3⟩, hz⟩ := I.tuple ha
  exact core "tuple" (.inr rfl) its o n e1 e2 e3 rv
theorem yH {pins:List (Addr × Obj)}{σ:St}{H:Hp}{s:Shared}{r:Addr}{k:List Int} (I:aO X pins σ H s) (h:gU X.K H r (k.map V.int)):Tk X.prog X.w s.heap k r:=by
 obtain ⟨its,rv,⟨o,e1,e2,n,e3⟩,_⟩:=I.tuple h
 refine ⟨o,its.toArray,n,e1,e2,e3,?_⟩
 have core:∀ (k:List Int) (its:List Value),bb (k.map V.int) its->PySem.ItemsAre (intKind X.prog X.w) k its:=by
  intro k
  induction k with
  | nil=>intro its h;cases h;exact .nil
  | cons i r ih=>
   intro its h
   cases h with
   | cons h1 h2=>
    obtain ⟨t,rfl⟩:=h1
    exact .cons (by simp [intKind,Value.isInt]) (ih _ h2)
 simpa using core k its rv
def jE (qs:List KP):List V:=qs.map fun p=>V.ref p.2
theorem mE:∀ {qs:List KP}{its:List Value},bb (jE qs) its->its=qs.map fun p=>Value.ref p.2
 | [],its,h=>by cases h;rfl
 | q::qs,its,h=>by
  cases h with
  | cons h1 h2=>cases h1;rw [mE h2];rfl
theorem nc:∀ (qs:List KP),bb (jE qs) (aR qs)
 | []=>.nil
 | q::qs=>.cons rfl (nc qs)
def yK (K:W.Frag) (w:World):List V->Hp->VK->Prop:=fun xs H Q=>∃ (a:Addr) (qs:List KP),xs=[.ref a]/\(hX K H a (jE qs)\/gU K H a (jE qs))/\(∀ p∈qs,p.1∈prs/\gU K H p.2 (p.1.map V.int)) /\
 ∀ l,H l=none->Q (.ref l) (cK H l (.ext fun h=>d4 w h l (eK qs)))
theorem yd (hc:X.calm=true) (hu:X.A.units+64<cLine):cI X (.type "set") (yK X.K X.w):=by
 intro pins s σ H xs us Q I r h
 obtain ⟨a,qs,rfl,ha,hq,q⟩:=h
 obtain ⟨u,rfl,ru⟩:=gC r
 cases ru
 have fin:∀ (h':Heap) (tk:Nat),d4 X.w h' s.heap.objs.size (eK qs)->(∀ b o,b<s.heap.objs.size->s.heap.get? b=some o->h'.get? b=some o)->EP X pins σ Q (.ref s.heap.objs.size) { s with heap:=h',toks:=tk }:=by
  intro h' tk hS hk
  refine ⟨.ref s.heap.objs.size,cK H s.heap.objs.size (.ext fun h=>d4 X.w h s.heap.objs.size (eK qs)),I.laid (t':=tk) (fun b ob e=>hk b ob (Jv e) e) (J3 _) ?_,rfl,q _ (I.hok.fresh (J3 _))⟩
  refine ⟨hS,?_,fun h1 h2 g k=>g.keeps k⟩
  obtain ⟨o,es,ep,t,Z,S0,_⟩:=hS
  exact ⟨o,S0.ho⟩
 rcases ha with ha | ha
 ·obtain ⟨its, rv, pl, hz⟩ := I.list ha
  exact uu (I.ok.hd hc) pl.isList (by simpa using mE rv) (fun p hp=>(hq p hp).1) (fun p hp=>yH I (hq p hp).2) (by omega) fin
 ·obtain ⟨its, rv, pl, hz⟩ := I.tuple ha
  exact sE (I.ok.hd hc) pl (by simpa using mE rv) (fun p hp=>(hq p hp).1) (fun p hp=>yH I (hq p hp).2) (by omega) fin
def zi (K:W.Frag) (w:World):List V->Hp->VK->Prop:=fun xs H Q=>∃ (a:Addr) (ps:List KP),xs=[.ref a]/\H a=some (.ext fun h=>d4 w h a ps)/\(∀ p∈ps,gU K H p.2 (p.1.map V.int)) /\
 ∀ out:List KP,out.Perm ps->ik out->∀ l,H l=none->Q (.ref l) (cK H l (.lst (jE out)))
theorem vO (hc:X.calm=true):cI X (.builtin "sorted") (zi X.K X.w):=by
 intro pins s σ H xs us Q I r h
 obtain ⟨a,ps,rfl,ha,hT,q⟩:=h
 obtain ⟨u,rfl,ru⟩:=gC r
 cases ru
 obtain ⟨hS,_⟩:=(show dU X.prog X.w H s.heap a (.ext fun h=>d4 X.w h a ps) from I.hok a _ ha)
 refine vp (I.ok.hd hc) hS (fun p hp=>yH I (hT p hp)) fun out hp hr h' D hD hk hn=>?_
 refine ⟨.ref D,cK H D (.lst (jE out)),I.laid (t':=s.toks) (fun b ob e=>hk b ob e) hD ?_,rfl,q out hp hr _ (I.hok.fresh hD)⟩
 obtain ⟨n,e⟩:=hn
 refine ⟨?_,aR out,n,nc out,e⟩
 have hl:out.length<=15:=by
  rw [hp.length_eq]
  obtain ⟨o,es,ep,t,Z,S0,hk,hn⟩:=hS
  exact j5 hk hn
 unfold jE
 rw [Kr]
 exact JB hl (by decide)
end
end L2
namespace L2
open PySem PySem.Spec PyProof.Rows RS
def gZ (qs:List KI):List KI:=qs.foldl (fun ps p=>sX ps p.1 p.2) []
theorem sM (qs:List KI) (p:KI):gZ (qs++[p])=sX (gZ qs) p.1 p.2:=by unfold gZ;rw [LZ];rfl
def ij (ns:List Int):List Int:=ns.foldl (fun acc k=>if k∈acc then acc else acc++[k]) []
theorem lZ:∀ (qs ps:List KI),(qs.foldl (fun ps p=>sX ps p.1 p.2) ps).map (·.1)=(qs.map (·.1)).foldl (fun acc k=>if k∈acc then acc else acc++[k]) (ps.map (·.1))
 | [],ps=>rfl
 | q::qs,ps=>by
  rw [KU,lZ qs,KM,KU]
  congr 1
  unfold sX
  split
  ·rfl
  ·rw [Lz];rfl
theorem uN (qs:List KI):(gZ qs).map (·.1)=ij (qs.map (·.1)):=lZ qs []
theorem lT {w:World}{h:Heap}{a:Addr} (e:h.get? a=some { cls:=.type "set",dict:=none,data:=.set #[] 0 (.fresh 0 0 (ll w)) }):cN w h a []:=
 ⟨_,_,_,_,[],⟨e,⟨rfl,rfl,rfl⟩,rfl,⟨rfl,rfl,List.Pairwise.nil,fun z hz=>by simp at hz,rfl,fun z hz=>by simp at hz⟩,rfl,rfl,.inl ⟨rfl,by decide⟩,List.Perm.nil⟩,fun p hp=>by simp at hp,LI⟩
def mh (p:KI):Value:=Value.int p.1 p.2
section
variable {prog:Program}{w:World}{A:Around}{E:Value->Shared->Prop}{s:Shared}
theorem q5 {qs:List KI}{S:Addr}{u:Nat} (hk:∀ p∈qs,p.1∈ins):yD prog w u S (qs.map mh) (fun i h=>cN w h S (gZ (qs.take i))):=by
 refine ⟨fun i h h' hk' j1=>j1.keeps fun o e=>hk' S o (J3 _) e,fun A i v s E Q hA hv j1 hQ=>?_⟩
 rw [Km] at hv
 cases e:qs[i]? with
 | none=>rw [e] at hv;cases hv
 | some p=>
  rw [e] at hv
  cases hv
  have hpm:p∈qs:=Ko e
  unfold setAdd mh
  refine JU ?_
  refine JT (wpAny_pyHash_int ?_)
  refine Di (s:={ s with toks:=s.toks+1 }) j1 (hk p hpm) fun b h' hsb hS2=>?_
  have etk:qs.take (i+1)=qs.take i++[p]:=by rw [Mg,e];rfl
  refine hQ b h' _ (Nat.le_add_right _ _) hsb (by rw [etk,sM];exact hS2)
theorem qM:∀ (qs:List KI),IntsAre (qs.map mh) (qs.map (·.1))
 | []=>.nil
 | p::qs=>.cons p.1 p.2 (qM qs)
theorem ud {vs:List Value}{ns:List Int} (h:IntsAre vs ns):∃ qs:List KI,vs=qs.map mh/\qs.map (·.1)=ns:=by
 induction h with
 | nil=>exact ⟨[],rfl,rfl⟩
 | cons n t _ ih=>
  obtain ⟨qs,e1,e2⟩:=ih
  exact ⟨(n,t)::qs,by rw [e1];rfl,by rw [<- e2];rfl⟩
theorem ur {a:Addr}{ps:List KI}{Q:Value->Shared->Prop} (hh:A.handled=none) (S:cN w s.heap a ps)
  (h:∀ (out:List Value) (ns':List Int),IntsAre out ns'->ns'.Perm (ps.map (·.1))->ns'.Pairwise (·<=·)->∀ h' D,s.heap.objs.size<=D->(∀ b u,s.heap.get? b=some u->h'.get? b=some u)->(∃ n,h'.get? D=some (seqObj "list" out.toArray n))->Q (.ref D) { s with heap:=h' }) :
  wpAny (model prog w) A (call (.builtin "sorted") [.ref a]) Q E s:=by
 obtain ⟨o,es,ep,t,Z,S,hk,hn⟩:=S
 have h6:=jO hk hn
 refine MD kind_sorted plain_sorted entry_sorted (args_sorted1 _) ?_
 unfold Builtin.«sorted»
 refine JT (m:=checkCount "sorted" 1 1 _) (JZ ?_)
 refine JT (nq (by simpa using hh) S (by rw [S.len,Kr];omega) fun qs hqs h1 k1 hsz=>?_)
 obtain ⟨rs,q1,q2⟩:=lX hqs ps rfl
 have q3:qs.map (·.2)=rs.map mh:=by rw [q2,Lh];rfl
 rw [q3]
 have hvl:(rs.map mh).length<=6:=by rw [Kr,q1.length_eq];exact h6
 refine JT (Ms ?_ (JB hvl (by decide)))
 have hoL:(h1.push (seqObj "list" (rs.map mh).toArray 0)).get? h1.objs.size=some (seqObj "list" (rs.map mh).toArray 0):=J2 _ rfl
 have hnn:∀ b u,h1.get? b=some u->b≠h1.objs.size:=fun b u q=>Jy (Jv q)
 refine JT (JU (KE slot_list_sort (s:={ s with heap:=h1.push (seqObj "list" (rs.map mh).toArray 0) }) ⟨_,hoL,rfl⟩ MF ?body (args_list_sort _)))
 case body=>
  refine list_sort_tree (s:={ s with heap:=h1.push (seqObj "list" (rs.map mh).toArray 0) }) hoL (qM rs) (by omega) fun out ns' a1 a2 a3=>⟨_,rfl,?_⟩
  refine JZ ⟨_,rfl,h out.toList ns' a1 (a2.trans (q1.map _)) a3 _ h1.objs.size hsz (fun b u q=>?_) ?_⟩
  ·have hb := hnn b u (k1 b u q)
   unfold sortedHeap
   rw [Mv _ _ _ _ hb]
   refine J1 _ (J1 _ ?_)
   rw [Mv _ _ _ _ hb]
   exact J1 _ (k1 b u q)
  ·unfold sortedHeap
   have g1:=Mr hoL (fun _=>#[])
   have g2:=J1 (seqObj "list" #[] 0) (J1 (seqObj "tuple" (rs.map mh).toArray 0) g1)
   exact ⟨_,Mr g2 (fun _=>out)⟩
end
section
variable {X:Cx}
def yL (K:W.Frag) (w:World):List V->Hp->VK->Prop:=fun xs H Q=>∃ (a:Addr) (ns:List Int),xs=[.ref a]/\(hX K H a (ns.map V.int)\/gU K H a (ns.map V.int))/\(∀ n∈ns,n∈ins) /\
 ∀ l,H l=none->∀ ps:List KI,ps.map (·.1)=ij ns->(∀ p∈ps,p.1∈ins)->(ps.map (·.1)).Nodup->Q (.ref l) (cK H l (.ext fun h=>cN w h l ps))
theorem ye (hc:X.calm=true) (hu:X.A.units+64<cLine):cI X (.type "set") (yL X.K X.w):=by
 intro pins s σ H xs us Q I r h
 obtain ⟨a,ns,rfl,ha,hq,q⟩:=h
 obtain ⟨u,rfl,ru⟩:=gC r
 cases ru
 have fin:∀ (qs:List KI),qs.map (·.1)=ns->∀ (h':Heap) (tk:Nat),cN X.w h' s.heap.objs.size (gZ qs)->(∀ b o,b<s.heap.objs.size->s.heap.get? b=some o->h'.get? b=some o)->EP X pins σ Q (.ref s.heap.objs.size) { s with heap:=h',toks:=tk }:=by
  intro qs eq h' tk hS hk
  obtain ⟨o,es,ep,t,Z,S0,k1,k2⟩:=id hS
  refine ⟨.ref s.heap.objs.size,cK H s.heap.objs.size (.ext fun h=>cN X.w h s.heap.objs.size (gZ qs)),I.laid (t':=tk) (fun b ob e=>hk b ob (Jv e) e) (J3 _) ?_,rfl,q _ (I.hok.fresh (J3 _)) _ (by rw [uN,eq]) k1 k2⟩
  exact ⟨hS,⟨o,S0.ho⟩,fun h1 h2 g k=>g.keeps k⟩
 rcases ha with ha | ha
 ·obtain ⟨its, rv, pl, hz⟩ := I.list ha
  obtain ⟨qs,e1,e2⟩:=ud (eO rv)
  subst e1
  have hsz:(qs.map mh).toArray.size=qs.length:=by rw [Ka,Kr]
  refine lS (I.ok.hd hc) pl.isList (J:=fun i h=>cN X.w h s.heap.objs.size (gZ (qs.take i))) ?_ (fun h' k e=>lT e) fun h' tk j1=>fin qs e2 h' tk ?_
  ·exact q5 fun p hp=>hq _ (by rw [<- e2];exact Lu hp)
  ·rw [hsz,Mh] at j1;exact j1
 ·obtain ⟨its, rv, pl, hz⟩ := I.tuple ha
  obtain ⟨qs,e1,e2⟩:=ud (eO rv)
  subst e1
  have hsz:(qs.map mh).toArray.size=qs.length:=by rw [Ka,Kr]
  refine kG (I.ok.hd hc) pl (J:=fun i h=>cN X.w h s.heap.objs.size (gZ (qs.take i))) ?_ (fun h' k e=>lT e) fun h' tk j1=>fin qs e2 h' tk ?_
  ·exact q5 fun p hp=>hq _ (by rw [<- e2];exact Lu hp)
  ·rw [hsz,Mh] at j1;exact j1
def zh (w:World):List V->Hp->VK->Prop:=fun xs H Q=>∃ (a:Addr) (ps:List KI),xs=[.ref a]/\H a=some (.ext fun h=>cN w h a ps) /\
 ∀ ns':List Int,ns'.Perm (ps.map (·.1))->ns'.Pairwise (·<=·)->∀ l,H l=none->Q (.ref l) (cK H l (.lst (ns'.map V.int)))
theorem vN (hc:X.calm=true):cI X (.builtin "sorted") (zh X.w):=by
 intro pins s σ H xs us Q I r h
 obtain ⟨a,ps,rfl,ha,q⟩:=h
 obtain ⟨u,rfl,ru⟩:=gC r
 cases ru
 obtain ⟨hS,_⟩:=(show dU X.prog X.w H s.heap a (.ext fun h=>cN X.w h a ps) from I.hok a _ ha)
 obtain ⟨o,es,ep,t,Z,S0,k1,k2⟩:=id hS
 have h6:=jO k1 k2
 refine ur (I.ok.hd hc) hS fun out ns' a1 a2 a3 h' D hD hk hn=>?_
 refine ⟨.ref D,cK H D (.lst (ns'.map V.int)),I.laid (t':=s.toks) (fun b ob e=>hk b ob e) hD ?_,rfl,q ns' a2 a3 _ (I.hok.fresh hD)⟩
 obtain ⟨n,e⟩:=hn
 refine ⟨?_,out,n,lR a1,e⟩
 rw [Kr,a2.length_eq,Kr]
 exact JB h6 (by decide)
def Dx (w:World):List V->Hp->VK->Prop:=fun xs H Q=>∃ (a:Addr) (ps:List KI),xs=[.ref a]/\H a=some (.ext fun h=>cN w h a ps)/\Q (.int ps.length) H
theorem yj:cI X (.builtin "len") (Dx X.w):=by
 intro pins s σ H xs us Q I r h
 obtain ⟨a,ps,rfl,ha,q⟩:=h
 obtain ⟨u,rfl,ru⟩:=gC r
 cases ru
 obtain ⟨hS,_⟩:=(show dU X.prog X.w H s.heap a (.ext fun h=>cN X.w h a ps) from I.hok a _ ha)
 obtain ⟨o,es,ep,t,Z,S0,k1,k2⟩:=id hS
 have h6:=jO k1 k2
 have hsz:es.size=ps.length:=by rw [S0.tab.size.2,S0.len,Kr]
 refine PySem.call_len_set S0.ho S0.ex S0.hd S0.fits (by rw [hsz];omega) ⟨.int ps.length,H,?_,⟨_,by rw [hsz]⟩,q⟩
 exact I.tok _
def Dy (w:World):List V->Hp->VK->Prop:=fun xs H Q=>∃ (a:Addr) (ps:List KP),xs=[.ref a]/\H a=some (.ext fun h=>d4 w h a ps)/\Q (.int ps.length) H
theorem yk:cI X (.builtin "len") (Dy X.w):=by
 intro pins s σ H xs us Q I r h
 obtain ⟨a,ps,rfl,ha,q⟩:=h
 obtain ⟨u,rfl,ru⟩:=gC r
 cases ru
 obtain ⟨hS,_⟩:=(show dU X.prog X.w H s.heap a (.ext fun h=>d4 X.w h a ps) from I.hok a _ ha)
 obtain ⟨o,es,ep,t,Z,S0,k1,k2⟩:=id hS
 have h6:=j5 k1 k2
 have hsz:es.size=ps.length:=by rw [S0.tab.size.2,S0.len,Kr]
 refine PySem.call_len_set S0.ho S0.ex S0.hd S0.fits (by rw [hsz];omega) ⟨.int ps.length,H,?_,⟨_,by rw [hsz]⟩,q⟩
 exact I.tok _
end
end L2
namespace L2
open PySem PySem.Spec PyProof.Rows RS
def ay (k:List Int):D:=.tup (k.map D.int)
def xg:D->Option (List Int)
 | .tup [.int a,.int b]=>if 0<=a/\a<b/\b<6 then some [a,b] else none
 | _=>none
def lp:List D->Option (List (List Int))
 | []=>some []
 | d::r=>match xg d,lp r with
  | some k,some ks=>some (k::ks)
  | _,_=>none
theorem CT {d:D}{k:List Int} (h:xg d=some k):d=ay k/\k∈prs:=by
 unfold xg at h
 split at h
 ·split at h
  ·rename_i hc
   cases h
   exact ⟨rfl,rZ hc.1 hc.2.1 hc.2.2⟩
  ·cases h
 ·cases h
theorem xW {a b:Int} (h:0<=a/\a<b/\b<6):xg (.tup [.int a,.int b])=some [a,b]:=by
 simp only [xg,Js h]
theorem ub:∀ {ds:List D}{ks:List (List Int)},lp ds=some ks->ds=ks.map ay/\∀ k∈ks,k∈prs
 | [],ks,h=>by cases h;exact ⟨rfl,fun k hk=>by simp at hk⟩
 | d::r,ks,h=>by
  unfold lp at h
  split at h
  ·rename_i k ks' h1 h2
   cases h
   obtain ⟨e1,e2⟩:=CT h1
   obtain ⟨f1,f2⟩:=ub h2
   refine ⟨by rw [e1,f1];rfl,fun k' hk=>?_⟩
   rcases JG.mp hk with z | z
   ·rw [z];exact e2
   ·exact f2 k' z
  ·cases h
theorem oY:∀ {ks:List (List Int)},(∀ k∈ks,k∈prs)->lp (ks.map ay)=some ks
 | [],_=>rfl
 | k::ks,h=>by
  obtain ⟨a,b,rfl,h1,h2,h3⟩:=ff (h k JE)
  simp only [KM,lp,oY fun k' hk=>h k' (JF _ hk)]
  have:xg (ay [a,b])=some [a,b]:=xW ⟨h1,h2,h3⟩
  rw [this]
def yz (ks:List (List Int)) (k:List Int):List (List Int):=if k∈ks then ks else ks++[k]
def eJ (ks:List (List Int)):List (List Int):=ks.foldl yz []
def js (ks:List (List Int)):List (List Int):=prs.filter fun k=>decide (k∈ks)
theorem pJ:∀ (qs ps:List KP),(qs.foldl (fun ps p=>lg ps p.1 p.2) ps).map (·.1)=(qs.map (·.1)).foldl yz (ps.map (·.1))
 | [],ps=>rfl
 | q::qs,ps=>by
  rw [KU,KM,KU,pJ qs]
  congr 1
  unfold lg yz
  split <;> simp
theorem yb (qs:List KP):(eK qs).map (·.1)=eJ (qs.map (·.1)):=pJ qs []
theorem ya {ks:List (List Int)}{k:List Int}:k∈eJ ks↔k∈ks:=by
 have core:∀ (ks acc:List (List Int)),k∈ks.foldl yz acc↔k∈acc\/k∈ks:=by
  intro ks
  induction ks with
  | nil=>intro acc;simp
  | cons x r ih=>
   intro acc
   rw [KU,ih]
   unfold yz
   split
   ·rename_i hx
    constructor
    ·rintro (h | h)
     ·exact .inl h
     ·exact .inr (JF _ h)
    ·rintro (h | h)
     ·exact .inl h
     ·rcases JG.mp h with z | z
      ·exact .inl (by rw [z];exact hx)
      ·exact .inr z
   ·simp [or_assoc]
 unfold eJ
 rw [core]
 simp
theorem kS:prs.Pairwise fun a b=>nR a<nR b:=by decide +kernel
theorem AO {l m:List (List Int)} (hl:l.Pairwise fun a b=>nR a<nR b) (hm:m.Pairwise fun a b=>nR a<nR b) (h:∀ k,k∈l↔k∈m):l=m:=by
 have nl:l.Nodup:=hl.imp fun h e=>by subst e;omega
 have nm:m.Nodup:=hm.imp fun h e=>by subst e;omega
 have hp:l.Perm m:=(LK nl nm).mpr h
 refine hp.eq_of_pairwise (le:=fun a b=>nR a<nR b) (fun a b _ _ h1 h2=>by omega) hl hm
theorem zR {out:List KP}{ps:List KP} (hk:∀ p∈ps,p.1∈prs) (hp:out.Perm ps) (hr:ik out):out.map (·.1)=js (ps.map (·.1)):=by
 refine AO ?_ (kS.filter _) fun k=>?_
 ·unfold ik at hr
  rw [Mp]
  exact hr
 ·have h1 : k ∈ out.map (·.1) ↔ k ∈ ps.map (·.1) := (hp.map _).mem_iff
  rw [h1]
  unfold js
  rw [Jz,ML]
  constructor
  ·intro h
   refine ⟨?_,h⟩
   obtain ⟨p,hp',rfl⟩:=Lp.mp h
   exact hk p hp'
  ·exact fun h=>h.2
theorem nh (ks:List (List Int)):js (eJ ks)=js ks:=by
 unfold js
 apply List.filter_congr
 intro k _
 simp only [ya]
theorem Reps.keys {K:W.Frag}{H:Hp}{α:List Addr}:∀ {ks:List (List Int)}{vs:List V},Reps K H α (ks.map ay) vs->∃ qs:List KP,qs.map (·.1)=ks/\vs=jE qs/\∀ p∈qs,gU K H p.2 (p.1.map V.int)
 | [],vs,h=>by simp only [KL,Reps] at h;exact ⟨[],rfl,h,fun p hp=>by simp at hp⟩
 | k::ks,vs,h=>by
  simp only [KM,Reps] at h
  obtain ⟨v,r,rfl,h1,h2⟩:=h
  obtain ⟨a,us,rfl,h3,h4⟩:=aK.mp h1
  obtain ⟨qs,e1,e2,e3⟩:=Reps.keys h2
  refine ⟨(k,a)::qs,by rw [KM,e1],by rw [e2];rfl,fun p hp=>?_⟩
  rcases JG.mp hp with z | z
  ·subst z
   rw [<- h4.ints];exact h3
  ·exact e3 p z
theorem nt {K:W.Frag}{H:Hp}{α:List Addr}:∀ {qs:List KP},(∀ p∈qs,gU K H p.2 (p.1.map V.int))->Reps K H α ((qs.map (·.1)).map ay) (jE qs)
 | [],_=>Reps.nil
 | q::qs,h=>by
  refine Reps.cons (aK.mpr ⟨q.2,_,rfl,h q JE,iL _⟩) (nt fun p hp=>h p (JF _ hp))
def iY:List D->Option (List Int)
 | []=>some []
 | .int i::r=>(iY r).map (i::·)
 | _::_=>none
theorem f9:∀ {ds:List D}{ns:List Int},iY ds=some ns->ds=ns.map D.int
 | [],bs,h=>by cases h;rfl
 | .int b::r,bs,h=>by
  unfold iY at h
  cases e:iY r with
  | none=>rw [e] at h;cases h
  | some cs=>rw [e] at h;cases h;rw [f9 e];rfl
 | .non::r,bs,h=>by cases h
 | .bl _::r,bs,h=>by cases h
 | .str _::r,bs,h=>by cases h
 | .tup _::r,bs,h=>by cases h
 | .frz _::r,bs,h=>by cases h
 | .obj _::r,bs,h=>by cases h
theorem vG {ns:List Int} (h:∀ n∈ns,n∈ins):(ij ns).length<=6:=by
 have core:∀ (l acc:List Int),(∀ n∈l,n∈ins)->(∀ n∈acc,n∈ins)->acc.Nodup->(l.foldl (fun acc k=>if k∈acc then acc else acc++[k]) acc).length<=6:=by
  intro l
  induction l with
  | nil=>
   intro acc _ h2 h3
   have:=i0 h3 (l2:=ins) h2
   exact this
  | cons x l ih=>
   intro acc h1 h2 h3
   rw [KU]
   have hx:=h1 x JE
   split
   ·exact ih acc (fun n hn=>h1 n (JF _ hn)) h2 h3
   ·rename_i hxa
    refine ih (acc++[x]) (fun n hn=>h1 n (JF _ hn)) (fun n hn=>?_) ?_
    ·rcases JI.mp hn with z | z
     ·exact h2 n z
     ·rw [Lf.mp z];exact hx
    ·refine LU.mpr ⟨h3, by simp, fun u hu v hv e => ?_⟩
     rw [Lf.mp hv] at e
     exact hxa (e ▸ hu)
 exact core ns [] h (fun n hn=>by simp at hn) LI
def yv (xs:List D):Option (List Int):=match iY xs with
 | some ns=>if ns.all (fun n=>decide (0<=n/\n<6))=true then some ns else none
 | none=>none
theorem CZ {xs:List D}{ns:List Int} (h:yv xs=some ns):xs=ns.map D.int/\∀ n∈ns,n∈ins:=by
 unfold yv at h
 split at h
 ·rename_i ms hm
  split at h
  ·rename_i ha
   cases h
   refine ⟨f9 hm,fun n hn=>CY.mpr ?_⟩
   simpa using LM.mp ha n hn
  ·cases h
 ·cases h
def oy (xs:List D) (μ:aB):ai D:=match lp xs with
 | some ks=>.ok (.obj μ.length) (μ++[.set (eJ ks)])
 | none=>match yv xs with
  | some ns=>.ok (.obj μ.length) (μ++[.iset (ij ns)])
  | none=>.bad
def nC (ds:List D) (μ:aB):ai D:=match ds with
 | [.tup xs]=>oy xs μ
 | [.obj n]=>match μ[n]? with
  | some (.lst xs)=>oy xs μ
  | _=>.bad
 | _=>.bad
section
variable {p:Pa}
theorem CH {H:Hp}{α:List Addr}{μ:aB}{ks:List (List Int)}{vs:List V}{Q:VK} (S:p.S H α μ) (hk:∀ k∈ks,k∈prs) (r:p.Rs H α (ks.map ay) vs) (P:aF p H α (.ok (.obj μ.length) (μ++[.set (eJ ks)])) (RV p Q)) :
  ∃ qs:List KP,vs=jE qs/\(∀ q∈qs,q.1∈prs/\gU p.K H q.2 (q.1.map V.int))/\∀ l,H l=none->Q (.ref l) (cK H l (.ext fun h=>d4 p.w h l (eK qs))):=by
 obtain ⟨qs,e1,e2,e3⟩:=r.keys
 refine ⟨qs,e2,fun q hq=>⟨hk _ (by rw [<- e1];exact Lu hq),e3 q hq⟩,fun l hl=>?_⟩
 have x1:p.X H (cK H l (.ext fun h=>d4 p.w h l (eK qs))) α (α++[l]):=(cq hl).trans (jS [l])
 refine P _ _ x1 (S.more hl ⟨eK qs,by rw [yb,e1],cy,fun q hq=>?_,sL,fun q hq=>?_⟩) _ (aQ.mpr ⟨l,rfl,by rw [<- S.len];simp⟩)
 ·exact hk _ (by rw [<- e1];exact Lu (kX hq))
 ·exact x1.tup _ _ (e3 q (kX hq))
theorem Av {H:Hp}{α:List Addr}{μ:aB}{ns:List Int}{Q:VK} (S:p.S H α μ) (hk:∀ n∈ns,n∈ins) (P:aF p H α (.ok (.obj μ.length) (μ++[.iset (ij ns)])) (RV p Q)) :
  ∀ l,H l=none->∀ ps:List KI,ps.map (·.1)=ij ns->(∀ p∈ps,p.1∈ins)->(ps.map (·.1)).Nodup->Q (.ref l) (cK H l (.ext fun h=>cN p.w h l ps)):=fun l hl ps e _ _=>by
 have x1:p.X H (cK H l (.ext fun h=>cN p.w h l ps)) α (α++[l]):=(cq hl).trans (jS [l])
 exact P _ _ x1 (S.more hl ⟨ps,e,cy,vG hk⟩) _ (aQ.mpr ⟨l,rfl,by rw [<- S.len];simp⟩)
theorem ze {H:Hp}{α:List Addr}{μ:aB}{xs:List D}{us:List V}{a:Addr}{Q:VK} (S:p.S H α μ) (h1:hX p.K H a us\/gU p.K H a us) (rr:p.Rs H α xs us) (P:aF p H α (oy xs μ) (RV p Q)):yK p.K p.w [.ref a] H Q\/yL p.K p.w [.ref a] H Q:=by
 unfold oy at P
 split at P
 ·rename_i ks hks
  obtain ⟨f1,f2⟩:=ub hks
  rw [f1] at rr
  obtain ⟨qs,e1,e2,e3⟩:=CH S f2 rr P
  exact .inl ⟨a,qs,rfl,by rw [<- e1];exact h1,e2,e3⟩
 ·split at P
  ·rename_i ns hns
   obtain ⟨f1,f2⟩:=CZ hns
   rw [f1] at rr
   exact .inr ⟨a,ns,rfl,by rw [<- rr.ints];exact h1,f2,Av S f2 P⟩
  ·exact P.elim
theorem Fs:uV p nC (fun xs H Q=>yK p.K p.w xs H Q\/yL p.K p.w xs H Q):=by
 intro ds vs H α μ Q S r P
 unfold nC at P
 split at P
 ·rename_i xs
  obtain ⟨v,rfl,r1⟩:=r.one
  obtain ⟨a,us,rfl,h1,rr⟩:=aK.mp r1
  exact ze S (.inr h1) rr P
 ·rename_i n
  split at P
  ·rename_i xs hx
   obtain ⟨v,rfl,r1⟩:=r.one
   obtain ⟨a,us,rfl,a1,h1,rr⟩:=cV S r1 hx
   exact ze S (.inl (hX.of h1)) rr P
  ·exact P.elim
 ·exact P.elim
def lh (ns:List Int):List Int:=ns.mergeSort fun a b=>decide (a<=b)
theorem oP {ns ns':List Int} (hp:ns'.Perm ns) (hs:ns'.Pairwise (·<=·)):ns'=lh ns:=by
 have h1:(lh ns).Perm ns:=List.mergeSort_perm ns _
 have h2:(lh ns).Pairwise (·<=·):=by
  have:=List.pairwise_mergeSort (le:=fun (a b:Int)=>decide (a<=b)) (fun a b c h1 h2=>by simp at *;omega) (fun a b=>by simp;omega) ns
  exact this.imp fun h=>by simpa using h
 exact (hp.trans h1.symm).eq_of_pairwise (fun a b _ _ h1 h2=>MP h1 h2) hs h2
def cY (ds:List D) (μ:aB):ai D:=match ds with
 | [.tup xs]=>match iY xs with
  | some ns=>if ns.length<64 then .ok (.obj μ.length) (μ++[.lst ((lh ns).map D.int)]) else .bad
  | none=>.bad
 | [.obj n]=>match μ[n]? with
  | some (.lst xs)=>match iY xs with
   | some ns=>if ns.length<64 then .ok (.obj μ.length) (μ++[.lst ((lh ns).map D.int)]) else .bad
   | none=>.bad
  | some (.set ks)=>.ok (.obj μ.length) (μ++[.lst ((js ks).map ay)])
  | some (.iset ks)=>.ok (.obj μ.length) (μ++[.lst ((lh ks).map D.int)])
  | _=>.bad
 | _=>.bad
theorem xN:uV p cY (fun xs H Q=>(zj p.K xs H Q\/zi p.K p.w xs H Q)\/zh p.w xs H Q):=by
 intro ds vs H α μ Q S r P
 have fin:∀ {ns:List Int},aF p H α (.ok (.obj μ.length) (μ++[.lst ((lh ns).map D.int)])) (RV p Q)->∀ ns':List Int,ns'.Perm ns->ns'.Pairwise (·<=·)->∀ l,H l=none->Q (.ref l) (cK H l (.lst (ns'.map V.int))):=by
  intro ns P ns' h1 h2 l hl
  rw [<- oP h1 h2] at P
  obtain ⟨x1,x2,x3⟩:=fE S hl (iL ns')
  exact P _ _ x1 x2 _ x3
 unfold cY at P
 split at P
 ·rename_i xs
  split at P
  ·rename_i ns hns
   split at P
   ·rename_i hl
    obtain ⟨v,rfl,r1⟩:=r.one
    obtain ⟨a,us,rfl,h1,rr⟩:=aK.mp r1
    rw [f9 hns] at rr
    exact .inl (.inl ⟨a,ns,rfl,.inr (by rw [<- rr.ints];exact h1),hl,fin P⟩)
   ·exact P.elim
  ·exact P.elim
 ·rename_i n
  split at P
  ·rename_i xs hx
   split at P
   ·rename_i ns hns
    split at P
    ·rename_i hl
     obtain ⟨v,rfl,r1⟩:=r.one
     obtain ⟨a,us,rfl,a1,h1,rr⟩:=cV S r1 hx
     rw [f9 hns] at rr
     exact .inl (.inl ⟨a,ns,rfl,.inl (by rw [<- rr.ints];exact hX.of h1),hl,fin P⟩)
    ·exact P.elim
   ·exact P.elim
  ·rename_i ks hx
   obtain ⟨v,rfl,r1⟩:=r.one
   obtain ⟨a,ea,ps,e1,e2,e3,e4,e5⟩:=S.at hx
   obtain ⟨a',rfl,ea'⟩:=aQ.mp r1
   rw [ea] at ea';cases ea'
   refine .inl (.inr ⟨a,ps,rfl,e2,e5,fun out hp hr l hl=>?_⟩)
   have rr:p.Rs H α ((out.map (·.1)).map ay) (jE out):=nt fun q hq=>e5 q (hp.mem_iff.mp hq)
   rw [zR e3 hp hr,e1] at rr
   obtain ⟨x1,x2,x3⟩:=fE S hl rr
   exact P _ _ x1 x2 _ x3
  ·rename_i ks hx
   obtain ⟨v,rfl,r1⟩:=r.one
   obtain ⟨a,ea,ps,e1,e2,e3⟩:=S.at hx
   obtain ⟨a',rfl,ea'⟩:=aQ.mp r1
   rw [ea] at ea';cases ea'
   exact .inr ⟨a,ps,rfl,e2,by rw [e1];exact fin P⟩
  ·exact P.elim
 ·exact P.elim
def p6 (ds:List D) (μ:aB):ai D:=match ds with
 | [.obj n]=>match μ[n]? with
  | some (.iset ks)=>.ok (.int ks.length) μ
  | some (.set ks)=>.ok (.int ks.length) μ
  | _=>tE [.obj n] μ
 | _=>tE ds μ
theorem Fv:uV p p6 (fun xs H Q=>((∃ x n,xs=[x]/\D6 p.K x H n/\Q (.int n) H)\/Dx p.w xs H Q)\/Dy p.w xs H Q):=by
 intro ds vs H α μ Q S r P
 unfold p6 at P
 split at P
 ·rename_i n
  split at P
  ·rename_i ks hx
   obtain ⟨v,rfl,r1⟩:=r.one
   obtain ⟨a,ea,ps,e1,e2,e3⟩:=S.at hx
   obtain ⟨a',rfl,ea'⟩:=aQ.mp r1
   rw [ea] at ea';cases ea'
   refine .inl (.inr ⟨a,ps,rfl,e2,P.now S _ (ar.mpr ?_)⟩)
   rw [<- e1,Kr]
  ·rename_i ks hx
   obtain ⟨v,rfl,r1⟩:=r.one
   obtain ⟨a,ea,ps,e1,e2,e3⟩:=S.at hx
   obtain ⟨a',rfl,ea'⟩:=aQ.mp r1
   rw [ea] at ea';cases ea'
   refine .inr ⟨a,ps,rfl,e2,P.now S _ (ar.mpr ?_)⟩
   rw [<- e1,Kr]
  ·exact .inl (.inl (wD _ vs H α μ Q S r P))
 ·exact .inl (.inl (wD _ vs H α μ Q S r P))
end
section
variable {X:Cx}
def Dv (K:W.Frag):List V->Hp->VK->Prop:=fun xs H Q=>∃ (a:Addr) (ns:List Int),xs=[.ref a]/\(hX K H a (ns.map V.int)\/gU K H a (ns.map V.int))/\ns≠[]/\∀ m∈ns,(∀ j∈ns,m<=j)->Q (.int m) H
def Dw (K:W.Frag):List V->Hp->VK->Prop:=fun xs H Q=>∃ (a:Addr) (ns:List Int),xs=[.ref a]/\(hX K H a (ns.map V.int)\/gU K H a (ns.map V.int))/\ns≠[]/\∀ m∈ns,(∀ j∈ns,j<=m)->Q (.int m) H
theorem j6 {its:List Value}{ns:List Int} (h:IntsAre its ns) {i:Nat}{v:Value} (e:its.toArray[i]?=some v):∃ t,v=.int (ns.getD i 0) t/\i<ns.length:=by
 have e':its[i]?=some v:=by simpa using e
 obtain ⟨n,t,rfl,hn⟩:=h.at i v e'
 have hi:=(JK.mp hn).1
 exact ⟨t,by rw [Ml,hn];rfl,hi⟩
theorem ug {ns:List Int}{i:Nat} (h:i<ns.length):ns.getD i 0∈ns:=by
 rw [Ml,My h]
 exact Mx h
theorem t9 {ns:List Int}{j:Int} (h:j∈ns):∃ i,i<ns.length/\ns.getD i 0=j:=by
 obtain ⟨i,hi,e⟩:=List.getElem_of_mem h
 exact ⟨i,hi,by rw [Ml,My hi];exact e⟩
theorem yg (hc:X.calm=true):cI X (.builtin "min") (Dv X.K):=by
 intro pins s σ H xs us Q I r h
 obtain ⟨a,ns,rfl,ha,hne,q⟩:=h
 obtain ⟨u,rfl,ru⟩:=gC r
 cases ru
 have hpos:0<ns.length:=MQ.mpr hne
 have core:∀ (its:List Value) (o:Obj),IntsAre its ns->∀ v s',its.toArray[argBest (fun i j=>decide (ns.getD i 0<ns.getD j 0)) (its.toArray.size - 1)]?=some v->Moved [s.heap.objs.size] (fun a b=>b=a) { s with heap:=s.heap.push o } s'->EP X pins σ Q v s':=by
  intro its o hI v s' hv hm
  obtain ⟨t,rfl,hi⟩:=j6 hI hv
  have hsz:its.toArray.size - 1=ns.length - 1:=by rw [Ka,hI.length]
  rw [hsz] at hi ⊢
  obtain ⟨b1,b2⟩:=argBest_lt (fun i=>ns.getD i 0) (ns.length - 1)
  obtain ⟨hh,g,d,tk,os⟩:=s'
  have e1:g=s.gens:=hm.gens
  have e2:d=s.drawn:=hm.drawn
  have e3:os=s.os:=hm.os
  subst e1 e2 e3
  refine ⟨.int _,H,I.fresh_it (o:=o) (h':=hh) (tk:=tk) fun b ob hb e=>hm.heap b ob hb e,⟨t,rfl⟩,q _ (ug hi) fun j hj=>?_⟩
  obtain ⟨i,hi',rfl⟩:=t9 hj
  exact b2 i (by omega)
 have cmp:∀ (its:List Value),IntsAre its ns->CmpOf X.prog X.w X.A.in1 .Lt (fun i v=>its.toArray[i]?=some v) (fun i j=>decide (ns.getD i 0<ns.getD j 0)):=by
  intro its hI i j vi vj s' Q' E' h1 h2 hQ
  obtain ⟨t1,rfl,_⟩:=j6 hI h1
  obtain ⟨t2,rfl,_⟩:=j6 hI h2
  exact (PyProof.Rows.lt_int hQ:wpAny _ _ (compareOp .Lt _ _) _ _ _)
 rcases ha with ha | ha
 ·obtain ⟨its, rv, pl, hz⟩ := I.list ha
  have hI:IntsAre its ns:=eO rv
  have hne:a≠s.heap.objs.size:=by
   obtain ⟨o,n,e,_⟩:=pl
   exact Jy (Jv e)
  refine call_min_walkS (Mb pl.isList ?_)
  refine ⟨s.heap.objs.size,[s.heap.objs.size,a],[s.heap.objs.size],_,_,_,_,_,rfl,(Walks.list (A:=X.A.in1) (show X.A.in1.handled=none from I.ok.hd hc) _ a hne its.toArray).toS,⟨⟨_,J2 _ rfl,rfl,rfl⟩,pl.isList.at fun o e=>J1 _ e⟩,fun b hb=>?_,by simp [hI.length,hpos],cmp its hI,fun v s' hv hm=>core its _ hI v s' hv hm⟩
  obtain ⟨o,n,e,_⟩:=pl
  have:=Jv e
  simp only [JG,Md,Me] at hb
  show b<(s.heap.push _).objs.size
  rw [Mt]
  rcases hb with rfl|rfl
  ·exact K6 _
  ·exact K7 this
 ·obtain ⟨its, rv, pl, hz⟩ := I.tuple ha
  have hI:IntsAre its ns:=eO rv
  have hne:a≠s.heap.objs.size:=by
   obtain ⟨o,e,_⟩:=pl
   exact Jy (Jv e)
  refine call_min_walkS (Mf (show s.heap.IsTuple a its.toArray from pl) ?_)
  refine ⟨s.heap.objs.size,[s.heap.objs.size,a],[s.heap.objs.size],_,_,_,_,_,rfl,(Walks.tuple (A:=X.A.in1) (show X.A.in1.handled=none from I.ok.hd hc) _ a hne its.toArray).toS,⟨⟨_,J2 _ rfl,rfl,rfl⟩,(show s.heap.IsTuple a its.toArray from pl).at fun o e=>J1 _ e⟩,fun b hb=>?_,by simp [hI.length,hpos],cmp its hI,fun v s' hv hm=>core its _ hI v s' hv hm⟩
  obtain ⟨o,e,_⟩:=pl
  have:=Jv e
  simp only [JG,Md,Me] at hb
  show b<(s.heap.push _).objs.size
  rw [Mt]
  rcases hb with rfl|rfl
  ·exact K6 _
  ·exact K7 this
theorem yi (hc:X.calm=true):cI X (.builtin "max") (Dw X.K):=by
 intro pins s σ H xs us Q I r h
 obtain ⟨a,ns,rfl,ha,hne,q⟩:=h
 obtain ⟨u,rfl,ru⟩:=gC r
 cases ru
 have hpos:0<ns.length:=MQ.mpr hne
 have core:∀ (its:List Value) (o:Obj),IntsAre its ns->∀ v s',its.toArray[argBest (fun i j=>decide (ns.getD i 0 > ns.getD j 0)) (its.toArray.size - 1)]?=some v->Moved [s.heap.objs.size] (fun a b=>b=a) { s with heap:=s.heap.push o } s'->EP X pins σ Q v s':=by
  intro its o hI v s' hv hm
  obtain ⟨t,rfl,hi⟩:=j6 hI hv
  have hsz:its.toArray.size - 1=ns.length - 1:=by rw [Ka,hI.length]
  rw [hsz] at hi ⊢
  obtain ⟨b1,b2⟩:=argBest_gt (fun i=>ns.getD i 0) (ns.length - 1)
  obtain ⟨hh,g,d,tk,os⟩:=s'
  have e1:g=s.gens:=hm.gens
  have e2:d=s.drawn:=hm.drawn
  have e3:os=s.os:=hm.os
  subst e1 e2 e3
  refine ⟨.int _,H,I.fresh_it (o:=o) (h':=hh) (tk:=tk) fun b ob hb e=>hm.heap b ob hb e,⟨t,rfl⟩,q _ (ug hi) fun j hj=>?_⟩
  obtain ⟨i,hi',rfl⟩:=t9 hj
  exact b2 i (by omega)
 have cmp:∀ (its:List Value),IntsAre its ns->CmpOf X.prog X.w X.A.in1 .Gt (fun i v=>its.toArray[i]?=some v) (fun i j=>decide (ns.getD i 0 > ns.getD j 0)):=by
  intro its hI i j vi vj s' Q' E' h1 h2 hQ
  obtain ⟨t1,rfl,_⟩:=j6 hI h1
  obtain ⟨t2,rfl,_⟩:=j6 hI h2
  exact (PyProof.Rows.gt_int hQ:wpAny _ _ (compareOp .Gt _ _) _ _ _)
 rcases ha with ha | ha
 ·obtain ⟨its, rv, pl, hz⟩ := I.list ha
  have hI:IntsAre its ns:=eO rv
  have hne:a≠s.heap.objs.size:=by
   obtain ⟨o,n,e,_⟩:=pl
   exact Jy (Jv e)
  refine call_max_walkS (Mb pl.isList ?_)
  refine ⟨s.heap.objs.size,[s.heap.objs.size,a],[s.heap.objs.size],_,_,_,_,_,rfl,(Walks.list (A:=X.A.in1) (show X.A.in1.handled=none from I.ok.hd hc) _ a hne its.toArray).toS,⟨⟨_,J2 _ rfl,rfl,rfl⟩,pl.isList.at fun o e=>J1 _ e⟩,fun b hb=>?_,by simp [hI.length,hpos],cmp its hI,fun v s' hv hm=>core its _ hI v s' hv hm⟩
  obtain ⟨o,n,e,_⟩:=pl
  have:=Jv e
  simp only [JG,Md,Me] at hb
  show b<(s.heap.push _).objs.size
  rw [Mt]
  rcases hb with rfl|rfl
  ·exact K6 _
  ·exact K7 this
 ·obtain ⟨its, rv, pl, hz⟩ := I.tuple ha
  have hI:IntsAre its ns:=eO rv
  have hne:a≠s.heap.objs.size:=by
   obtain ⟨o,e,_⟩:=pl
   exact Jy (Jv e)
  refine call_max_walkS (Mf (show s.heap.IsTuple a its.toArray from pl) ?_)
  refine ⟨s.heap.objs.size,[s.heap.objs.size,a],[s.heap.objs.size],_,_,_,_,_,rfl,(Walks.tuple (A:=X.A.in1) (show X.A.in1.handled=none from I.ok.hd hc) _ a hne its.toArray).toS,⟨⟨_,J2 _ rfl,rfl,rfl⟩,(show s.heap.IsTuple a its.toArray from pl).at fun o e=>J1 _ e⟩,fun b hb=>?_,by simp [hI.length,hpos],cmp its hI,fun v s' hv hm=>core its _ hI v s' hv hm⟩
  obtain ⟨o,e,_⟩:=pl
  have:=Jv e
  simp only [JG,Md,Me] at hb
  show b<(s.heap.push _).objs.size
  rw [Mt]
  rcases hb with rfl|rfl
  ·exact K6 _
  ·exact K7 this
end
def GH:List Int->Int
 | []=>0
 | x::r=>r.foldl min x
def GI:List Int->Int
 | []=>0
 | x::r=>r.foldl max x
theorem x5 (r:List Int):∀ x:Int,(r.foldl min x=x\/r.foldl min x∈r)/\r.foldl min x<=x/\∀ j∈r,r.foldl min x<=j:=by
 induction r with
 | nil=>intro x;exact ⟨.inl rfl,Int.le_refl _,fun j hj=>by simp at hj⟩
 | cons y r ih=>
  intro x
  obtain ⟨h1,h2,h3⟩:=ih (min x y)
  rw [KU]
  have m1:min x y<=x:=Int.min_le_left _ _
  have m2:min x y<=y:=Int.min_le_right _ _
  refine ⟨?_,by omega,fun j hj=>?_⟩
  ·rcases h1 with h | h
   ·rcases (by omega : min x y = x \/ min x y = y) with e | e
    ·exact .inl (by omega)
    ·exact .inr (by rw [h,e];exact JE)
   ·exact .inr (JF _ h)
  ·rcases JG.mp hj with e | e
   ·rw [e];omega
   ·exact h3 j e
theorem x6 (r:List Int):∀ x:Int,(r.foldl max x=x\/r.foldl max x∈r)/\x<=r.foldl max x/\∀ j∈r,j<=r.foldl max x:=by
 induction r with
 | nil=>intro x;exact ⟨.inl rfl,Int.le_refl _,fun j hj=>by simp at hj⟩
 | cons y r ih=>
  intro x
  obtain ⟨h1,h2,h3⟩:=ih (max x y)
  rw [KU]
  have m1:x<=max x y:=Int.le_max_left _ _
  have m2:y<=max x y:=Int.le_max_right _ _
  refine ⟨?_,by omega,fun j hj=>?_⟩
  ·rcases h1 with h | h
   ·rcases (by omega : max x y = x \/ max x y = y) with e | e
    ·exact .inl (by omega)
    ·exact .inr (by rw [h,e];exact JE)
   ·exact .inr (JF _ h)
  ·rcases JG.mp hj with e | e
   ·rw [e];omega
   ·exact h3 j e
theorem CK {ns:List Int}{m:Int} (h:m∈ns) (hm:∀ j∈ns,m<=j):m=GH ns:=by
 cases ns with
 | nil=>simp at h
 | cons x r=>
  obtain ⟨h1,h2,h3⟩:=x5 r x
  have a1:m<=r.foldl min x:=by
   rcases h1 with e | e
   ·rw [e];exact hm x JE
   ·exact hm _ (JF _ e)
  have a2:r.foldl min x<=m:=by
   rcases JG.mp h with e | e
   ·rw [e];exact h2
   ·exact h3 m e
  exact MP a1 a2
theorem CL {ns:List Int}{m:Int} (h:m∈ns) (hm:∀ j∈ns,j<=m):m=GI ns:=by
 cases ns with
 | nil=>simp at h
 | cons x r=>
  obtain ⟨h1,h2,h3⟩:=x6 r x
  have a1:r.foldl max x<=m:=by
   rcases h1 with e | e
   ·rw [e];exact hm x JE
   ·exact hm _ (JF _ e)
  have a2:m<=r.foldl max x:=by
   rcases JG.mp h with e | e
   ·rw [e];exact h2
   ·exact h3 m e
  exact MP a2 a1
def Bf (d:D) (μ:aB):Option (List Int):=match d with
 | .tup xs=>iY xs
 | .frz xs=>iY xs
 | .obj n=>match μ[n]? with
  | some (.lst xs)=>iY xs
  | _=>none
 | _=>none
theorem wu {p:Pa}{H:Hp}{α:List Addr}{μ:aB}{d:D}{v:V}{ns:List Int} (S:p.S H α μ) (r:p.R H α d v) (h:Bf d μ=some ns):∃ a,v=.ref a/\(hX p.K H a (ns.map V.int)\/gU p.K H a (ns.map V.int)):=by
 unfold Bf at h
 split at h
 ·obtain ⟨a, us, rfl, h1, rr⟩ := aK.mp r
  rw [f9 h] at rr
  exact ⟨a,rfl,.inr (by rw [<- rr.ints];exact h1)⟩
 ·obtain ⟨a, us, rfl, h1, rr⟩ := bu.mp r
  rw [f9 h] at rr
  exact ⟨a,rfl,.inl (by rw [<- rr.ints];exact h1.sq)⟩
 ·split at h
  ·rename_i xs hx
   obtain ⟨a,us,rfl,a1,h1,rr⟩:=cV S r hx
   rw [f9 h] at rr
   exact ⟨a,rfl,.inl (by rw [<- rr.ints];exact hX.of h1)⟩
  ·cases h
 ·cases h
def yy (ds:List D) (μ:aB):ai D:=match ds with
 | [d]=>match Bf d μ with
  | some (n::ns)=>.ok (.int (GH (n::ns))) μ
  | _=>.bad
 | ds=>yY ds μ
def u4 (ds:List D) (μ:aB):ai D:=match ds with
 | [d]=>match Bf d μ with
  | some (n::ns)=>.ok (.int (GI (n::ns))) μ
  | _=>.bad
 | ds=>yZ ds μ
theorem Ft {p:Pa}:uV p yy (fun xs H Q=>Dv p.K xs H Q\/∃ i j,xs=[.int i,.int j]/\Q (.int (if j<i then j else i)) H):=by
 intro ds vs H α μ Q S r P
 unfold yy at P
 split at P
 ·rename_i d
  split at P
  ·rename_i n ns hns
   obtain ⟨v,rfl,r1⟩:=r.one
   obtain ⟨a,rfl,h1⟩:=wu S r1 hns
   refine .inl ⟨a,n::ns,rfl,h1,by simp,fun m hm hj=>?_⟩
   rw [CK hm hj]
   exact P.now S _ (ar.mpr rfl)
  ·exact P.elim
 ·exact .inr (Cz ds vs H α μ Q S r P)
theorem Fu {p:Pa}:uV p u4 (fun xs H Q=>Dw p.K xs H Q\/∃ i j,xs=[.int i,.int j]/\Q (.int (if j > i then j else i)) H):=by
 intro ds vs H α μ Q S r P
 unfold u4 at P
 split at P
 ·rename_i d
  split at P
  ·rename_i n ns hns
   obtain ⟨v,rfl,r1⟩:=r.one
   obtain ⟨a,rfl,h1⟩:=wu S r1 hns
   refine .inl ⟨a,n::ns,rfl,h1,by simp,fun m hm hj=>?_⟩
   rw [CL hm hj]
   exact P.now S _ (ar.mpr rfl)
  ·exact P.elim
 ·exact .inr (CA ds vs H α μ Q S r P)
theorem pA:∀ {xs:List V}{us:List Value},xs.length=us.length->(∀ (i:Nat) x u,xs[i]?=some x->us[i]?=some u->bL x u)->bb xs us
 | [],[],_,_=>.nil
 | [],_::_,h,_=>by simp at h
 | _::_,[],h,_=>by simp at h
 | x::xs,u::us,h,k=>.cons (k 0 x u rfl rfl) (pA (by simpa using h) fun i x' u' h1 h2=>k (i+1) x' u' (by simpa using h1) (by simpa using h2))
section
variable {X:Cx}
def GV (ta:TA):TE:=fun σ H Q=>ta σ H fun vs H1=>∃ j:Int,vs=[.int j]/\∀ r,H1 r=none->Q (.ref r) (cK H1 r (.rng 0 j))
theorem xJ {a:Expr}{ta:TA}{p pos:Pos} (hg:Gl X "range") (hm:X.mg "range" = none) (ha:PA X [a] ta) (hs:starEach [a] X.env=[(false,eval a X.env)]):PE X (.Call (.Name "range" p) [a] [] pos) (GV ta):=by
 intro pins s σ H Q I h
 refine Call_ (mx I hg hm boot_range (J4 (dS (ha pos pins s σ H _ I h) fun us s1 ⟨vs,H1,I1,r1,q1⟩=>?_) hs rfl))
 obtain ⟨j,e,q⟩:=q1
 subst e
 cases r1 with
 | cons r rr=>
  cases rr
  obtain ⟨t,rfl⟩:=r
  refine call_range_1 ?_
  refine ⟨.ref s1.heap.objs.size,cK H1 s1.heap.objs.size (.rng 0 j),I1.laid (fun b ob e=>J1 _ e) (J3 _) ⟨_,_,_,J2 _ rfl⟩,rfl,q _ (I1.hok.fresh (J3 _))⟩
def EO:List V->Hp->VK->Prop:=fun xs H Q=>∃ (r:Addr) (j:Int),xs=[.ref r]/\H r=some (.rng 0 j)/\-(2 ^ 62)<=j/\j<=2 ^ 20/\∀ l,H l=none->Q (.ref l) (cK H l (.lst ((List.range j.toNat).map fun (i:Nat)=>V.int (i:Int))))
theorem vS (hc:X.calm=true):cI X (.type "list") EO:=by
 intro pins s σ H xs us Q I r h
 obtain ⟨r0,j,rfl,ha,j1,j2,q⟩:=h
 obtain ⟨u,rfl,ru⟩:=gC r
 cases ru
 obtain ⟨t,u,v,hr⟩:=(show dU X.prog X.w H s.heap r0 (.rng 0 j) from I.hok r0 _ ha)
 have hn:Builtin.Range.rangeSize 0 j 1=((j.toNat:Nat):Int):=by rw [rangeSize_one];split <;> omega
 refine call_list_range (n:=j.toNat) (I.ok.hd hc) hr (small_one (by omega) (by omega) (by omega) (by omega)) hn (by omega) fun h' tk acc' c' hk hl hit=>?_
 have hv:bb ((List.range j.toNat).map fun (i:Nat)=>V.int (i:Int)) acc'.toList:=by
  obtain ⟨e1,e2⟩:=hit
  refine pA (by simp [e1]) fun i x u h1 h2=>?_
  rw [Km] at h1
  have hi:i<j.toNat:=by
   have:=(JK.mp h2).1
   simp [e1] at this
   omega
  rw [Mn hi] at h1
  cases h1
  obtain ⟨t,rfl⟩:=e2 i u (by simpa using h2)
  exact ⟨t,by simp⟩
 refine ⟨.ref s.heap.objs.size,cK H s.heap.objs.size (.lst ((List.range j.toNat).map fun (i:Nat)=>V.int (i:Int))),I.laid (fun b ob e=>hk b ob e) (J3 _) ⟨?_,acc'.toList,c',hv,by simpa using hl⟩,rfl,q _ (I.hok.fresh (J3 _))⟩
 have:(sizeLine:Nat)=16777216:=J9
 simp only [Kr,Lj]
 omega
end
def oK (o1 o2:D->D->aB->ai D) (fa fb fc:ME):ME:=fun ρ μ=>(fa ρ μ).bind fun a μ1=>(fb ρ μ1).bind fun b μ2=>(o1 a b μ2).bind fun z μ3=>(A2 z μ3).bind fun k μ4=>
 if k=true then (fc ρ μ4).bind fun c μ5=>o2 b c μ5 else .ok (.bl false) μ4
section
variable {X:Cx}{p:Pa}{a b c d:Expr}{ta tb tc td:TE}{fa fb fc fd:ME}{pos:Pos}{op op' op'':CmpOp}{r r' r'':R2}{o1 o2 o3:D->D->aB->ai D}
theorem vM (hd1:pX p o1 r) (hd2:pX p o2 r') {σ:St}{H:Hp}{Q:VK} (h:tD p (oK o1 o2 fa fb fc) σ H Q):zc r r' (tD p fa) (tD p fb) (tD p fc) σ H Q:=by
 obtain ⟨α,ρ,μ,S,R,P⟩:=h
 refine ⟨α,ρ,μ,S,R,(aF.bind P).imp fun x μ1 H1 α1 X1 S1 P1 v rv=>⟨α1,ρ,μ1,S1,R.mono X1,(aF.bind P1).imp fun y μ2 H2 α2 X2 S2 P2 u ru=>?_⟩⟩
 refine hd1 x y v u H2 α2 μ2 _ S2 (rv.mono X2) ru ((aF.bind P2).imp fun z μ3 H3 α3 X3 S3 P3 w rw'=>?_)
 obtain ⟨k,_,e,q⟩:=rS (aF.bind P3) rw' S3
 refine ⟨k,e,?_⟩
 cases k with
 | true=>
  rw [Js rfl] at q ⊢
  exact ⟨α3,ρ,μ3,S3,((R.mono X1).mono X2).mono X3,(aF.bind q).imp fun c μ5 H5 α5 X5 S5 P5 t rt=>hd2 y c u t H5 α5 μ5 Q S5 ((ru.mono X3).mono X5) rt P5⟩
 | false=>rw [Jt JX] at q ⊢;exact q.now S3 _ (aX.mpr rfl)
theorem zZ (ho:jz X (compareOp op) r) (ho':jz X (compareOp op') r') (hd1:pX p o1 r) (hd2:pX p o2 r') (ha:PE X a (tD p fa)) (hb:PE X b (tD p fb)) (hc:PE X c (tD p fc))
  (hm:lastMarks [op,op'] [b,c]=false):PE X (.Compare a [op,op'] [b,c] pos) (tD p (oK o1 o2 fa fb fc)):=(Ak ho ho' ha hb hc hm).weak fun σ H Q h=>vM hd1 hd2 h
def xb (d:D) (μ:aB):ai Bool:=match d with
 | .non=>.ok false μ
 | .bl b=>.ok b μ
 | .int i=>.ok (i != 0) μ
 | .str x=>if x.length<=sizeLine then .ok ((x.length:Int) != 0) μ else .bad
 | .tup xs=>.ok (!xs.isEmpty) μ
 | .frz xs=>.ok (!xs.isEmpty) μ
 | .obj n=>match μ[n]? with
  | some (.lst xs)=>.ok (!xs.isEmpty) μ
  | _=>.bad
def lb (f:ME):MT:=fun ρ μ=>(f ρ μ).bind xb
theorem Reps.isEmpty {K:W.Frag}{H:Hp}{α:List Addr}{xs:List D}{vs:List V} (r:Reps K H α xs vs):vs.isEmpty=xs.isEmpty:=by
 have:=r.length
 cases xs with
 | nil=>have h:vs=[]:=MM (by simpa using this);rw [h];rfl
 | cons x r=>cases vs with
  | nil=>simp at this
  | cons _ _=>rfl
theorem Bs {d:D}{μ:aB}{H:Hp}{α:List Addr}{v:V}{R:Bool->aB->Hp->List Addr->Prop} (S:p.S H α μ) (r:p.R H α d v) (P:aF p H α (xb d μ) R):∃ k,D4 p.K v H k/\R k μ H α:=by
 unfold xb at P
 split at P
 ·rw [bJ.mp r];exact ⟨false,rfl,P.now S⟩
 ·rename_i b;rw [aX.mp r];exact ⟨b,rfl,P.now S⟩
 ·rename_i i;rw [ar.mp r];exact ⟨_,rfl,P.now S⟩
 ·rename_i x
  split at P
  ·rename_i hl;rw [bA.mp r];exact ⟨_,⟨hl,rfl⟩,P.now S⟩
  ·exact P.elim
 ·obtain ⟨a, vs, rfl, h1, h2⟩ := aK.mp r
  exact ⟨_,.inr (.inl ⟨vs,h1,by rw [h2.isEmpty]⟩),P.now S⟩
 ·obtain ⟨a, vs, rfl, h1, h2⟩ := bu.mp r
  exact ⟨_,.inl ⟨vs,h1.sq,by rw [h2.isEmpty]⟩,P.now S⟩
 ·split at P
  ·rename_i xs hx
   obtain ⟨a,us,rfl,a1,h1,rr⟩:=cV S r hx
   exact ⟨_,.inl ⟨us,hX.of h1,by rw [rr.isEmpty]⟩,P.now S⟩
  ·exact P.elim
theorem zH {e:Expr}{f:ME} (hK:X.K=p.K) (h:PE X e (tD p f)) (he:∀ whole,isTrue e X.env whole=(do let v <- whole;standAt e.pos;holding [v] (truthy v))):PT X e (iM p (lb f)):=
 (Ab h he).weak fun σ H Q ⟨α, ρ, μ, S, R, P⟩ => ⟨α, ρ, μ, S, R, (aF.bind P).imp fun d μ1 H1 α1 X1 S1 P1 v rv => by
  rw [hK];exact Bs S1 rv P1⟩
def mD (ds:List D) (μ:aB):ai D:=match ds with
 | [.int j]=>if -(2 ^ 62)<=j/\j<=2 ^ 20 then .ok (.obj μ.length) (μ++[.lst (bh 0 j.toNat)]) else .bad
 | _=>.bad
theorem z8 {K:W.Frag}{H:Hp}{α:List Addr} (n:Nat):Reps K H α (bh 0 n) ((List.range n).map fun (i:Nat)=>V.int (i:Int)):=by
 have:bh 0 n=((List.range n).map fun (i:Nat)=>((i:Nat):Int)).map D.int:=by
  unfold bh;rw [Lh];apply Li;intro i _;simp
 rw [this]
 have h2:((List.range n).map fun (i:Nat)=>V.int (i:Int))=((List.range n).map fun (i:Nat)=>((i:Nat):Int)).map V.int:=by rw [Lh];rfl
 rw [h2]
 exact iL _
theorem zY {fr:MA}{pl pr pos p1:Pos} (hc:X.calm=true) (hg:Gl X "range") (hm:X.mg "range" = none) (hgl:Gl X "list") (hml:X.mg "list" = none) (ha:PA X [a] (k8 p fr)) (hs:starEach [a] X.env=[(false,eval a X.env)]) :
  PE X (.Call (.Name "list" pl) [.Call (.Name "range" pr) [a] [] p1] [] pos) (tD p (aC mD fr)):=by
 refine (qF (T:="list") (vS hc) hgl hml boot_list (iD (xJ hg hm ha hs) oG rfl) (by decide) (by decide) rfl rfl).weak fun σ H Q ⟨α,ρ,μ,S,R,P⟩=>⟨α,ρ,μ,S,R,(aF.bind P).imp fun ds μ1 H1 α1 X1 S1 P1 vs rv=>?_⟩
 unfold mD at P1
 split at P1
 ·rename_i j
  obtain ⟨v,rfl,r1⟩:=rv.one
  split at P1
  ·rename_i hj
   refine ⟨j,by rw [ar.mp r1],fun r0 hr=>?_⟩
   refine ⟨r0,j,rfl,cy,hj.1,hj.2,fun l hl=>?_⟩
   have S2:p.S (cK H1 r0 (.rng 0 j)) α1 μ1:=S1.same (cq hr) fun a ha=>bt fun z=>ha (by rw [z];exact hr)
   obtain ⟨x1,x2,x3⟩:=fE S2 hl (z8 j.toNat)
   exact P1 _ _ ((cq hr).trans x1) x2 _ x3
  ·exact P1.elim
 ·exact P1.elim
def Gs (p:Pa) (f:D->List D->aB->ai D) (r:V->List V->Hp->VK->Prop):Prop:=∀ d ds v vs H α μ Q,p.S H α μ->p.R H α d v->p.Rs H α ds vs->aF p H α (f d ds μ) (RV p Q)->r v vs H Q
def sQ (d:D) (μ:aB):Bool:=match d with
 | .obj n=>match μ[n]? with
  | some (.lst _)=>true
  | _=>false
 | _=>false
def A1 (f:D->List D->aB->ai D) (fo:ME) (fr:MA):ME:=fun ρ μ=>(fo ρ μ).bind fun o μ1=>if sQ o μ1=true then (fr ρ μ1).bind fun ds μ2=>f o ds μ2 else .bad
theorem FR {d:D}{μ:aB}{H:Hp}{α:List Addr}{v:V} (S:p.S H α μ) (r:p.R H α d v) (h:sQ d μ=true):HU p.K "list" v H:=by
 unfold sQ at h
 split at h
 ·split at h
  ·rename_i xs hx
   obtain ⟨a,us,rfl,a1,h1,rr⟩:=cV S r hx
   exact .inl ⟨rfl,us,hX.of h1⟩
  ·cases h
 ·cases h
theorem v7 {o e:Expr}{es:List Expr}{fo:ME}{fr:MA}{name:Str}{apos cpos:Pos}{id:String}{rr:V->List V->Hp->VK->Prop}{f:D->List D->aB->ai D} (hK:X.K=p.K) (slot:Slot "list" name id) (hty:typeOf (.builtin id)=pure (.type "method_descriptor")) (hm:IX X id rr) (hf:Gs p f rr)
  (ho:PE X o (tD p fo)) (ha:PA X (e::es) (k8 p fr)) (hbase:attributeBase o name X.env (eval o X.env)=eval o X.env)
  (hfew : ((backTo cpos (starEach (e :: es) X.env)).all (fun x => !x.1) && (backToKw cpos (keywordEach [] X.env)).all (fun x => x.1.isSome)
   && decide ((e::es).length+([]:List Keyword).length+(if ([]:List Keyword).isEmpty then 0 else 1)<30))=true)
  (hline:(apos.endLine == cpos.line)=true) (hs:starEach (e::es) X.env=(false,eval e X.env)::starEach es X.env) (hplain:(backTo cpos (starEach es X.env)).any (·.1)=false) :
  PE X (.Call (.Attribute o name apos) (e::es) [] cpos) (tD p (A1 f fo fr)):=
 (Hk PySem.F.plainAttrs_list slot hty hm ho ha hbase hfew hline hs hplain).weak fun σ H Q ⟨α, ρ, μ, S, R, P⟩ => ⟨α, ρ, μ, S, R, (aF.bind P).imp fun d μ1 H1 α1 X1 S1 P1 v rv => by
  by_cases hl:sQ d μ1=true
  ·rw [Js hl] at P1
   rw [hK]
   exact ⟨FR S1 rv hl,α1,ρ,μ1,S1,R.mono X1,(aF.bind P1).imp fun ds μ2 H2 α2 X2 S2 P2 vs rs=>hf d ds v vs H2 α2 μ2 Q S2 (rv.mono X2) rs P2⟩
  ·rw [Jt hl] at P1;exact P1.elim⟩
def oJ (d:D) (ds:List D) (μ:aB):ai D:=match d,ds with
 | .obj n,[.int i]=>match μ[n]? with
  | some (.lst xs)=>match vV xs.length i with
   | some k=>match xs[k]? with
    | some y=>if -(2 ^ 63)<=i/\i<2 ^ 63 then .ok y (μ.set n (.lst (xs.eraseIdx k))) else .bad
    | none=>.bad
   | none=>.bad
  | _=>.bad
 | _,_=>.bad
theorem CJ:Gs p oJ zl:=by
 intro d ds v vs H α μ Q S rd rs P
 unfold oJ at P
 split at P
 ·rename_i n i
  split at P
  ·rename_i xs hx
   split at P
   ·rename_i k hk
    split at P
    ·rename_i y hy
     split at P
     ·rename_i hb
      obtain ⟨a,us,rfl,a1,h1,rr⟩:=cV S rd hx
      obtain ⟨w,rfl,rw'⟩:=rs.one
      obtain ⟨z,hz,rz⟩:=rr.get hy
      have hk':=(se hk).1
      have q:=rr.eraseIdx k
      refine ⟨a,us,i,k,z,rfl,by rw [ar.mp rw'],h1,hb.1,hb.2,by rw [rr.length];exact hk',hz,?_⟩
      exact P _ _ (iE h1) (S.put hx a1 h1 q) _ (rz.mono (iE h1))
     ·exact P.elim
    ·exact P.elim
   ·exact P.elim
  ·exact P.elim
 ·exact P.elim
end
abbrev fW (K:W.Frag) (w:World):Pa:=⟨K,w,fun _ _ _ _=>False⟩
abbrev kq:D->D->aB->ai D:=dI fun i j=>.int (i - j)
noncomputable abbrev tF:D->D->aB->ai D:=Dl Bo fun i j=>.int (i / j)
noncomputable abbrev pZ:D->D->aB->ai D:=Dl (fun _ j=>0<j) fun i j=>.int (i % j)
noncomputable abbrev rC:D->D->aB->ai D:=Dl yC fun i j=>.int (i ^ j.toNat)
def vf (N:List Str) (sc scope:Scope) (Nc:List Str) (cap:List (Option Nat)):Bool:=
 (scope.kind == .function) && scope.names.all (fun y=>scope.names.lookup y.1 == some y.2) &&
 scope.names.all (fun y=>y.2 != .free || sc.names.lookup y.1 == some .cell || sc.names.lookup y.1 == some .free) && fV N { scope:=sc,globals:=0,builtins:=0,locals:=0,cells:=[],qual:="",func:=none,code:=.none,frame:=none } scope Nc cap
theorem mP {N:List Str}{e1 e2:Env}{scope:Scope}:∀ {Nc:List Str}{cap:List (Option Nat)},fV N e1 scope Nc cap=fV N e2 scope Nc cap
 | [],[]=>rfl
 | _::_,[]=>rfl
 | [],_::_=>rfl
 | _::Nc,none::cap=>by unfold fV;exact mP
 | x::Nc,some j::cap=>by unfold fV;rw [mP (Nc:=Nc) (cap:=cap) (e1:=e1) (e2:=e2)]
theorem yc {X:Cx}{N:List Str}{sc scope:Scope}{Nc:List Str}{cap:List (Option Nat)} (hN:X.N=N) (hk:∀ x,(sc.names.lookup x=some .cell\/sc.names.lookup x=some .free)->X.env.kindOf x=some .cell\/X.env.kindOf x=some .free) (h:vf N sc scope Nc cap=true):cw X.N X.env scope Nc cap:=by
 unfold vf at h
 simp only [KH] at h
 obtain ⟨⟨⟨h1,h3⟩,h4⟩,h5⟩:=h
 refine ⟨eq_of_beq h1,fun y hy=>?_,fun y hy hf=>?_,?_⟩
 ·exact eq_of_beq (LM.mp h3 y hy)
 ·have := LM.mp h4 y hy
  simp only [MR,hf] at this
  refine hk _ ?_
  rcases this with (z | z) | z
  ·exact absurd z (by decide)
  ·exact .inl (eq_of_beq z)
  ·exact .inr (eq_of_beq z)
 ·rw [hN,mP];exact h5
theorem bN {X:Cx}{N:List Str}{sc scope:Scope}{Nc:List Str}{cap:List (Option Nat)} (hN:X.N=N) (hs:X.env.scope=sc) (h:vf N sc scope Nc cap=true):cw X.N X.env scope Nc cap:=
 yc hN (fun x hx=>by subst hs;exact hx) h
structure Bx (P:Prop):Prop where
 h:P
section
variable {X:Cx}{p:Pa}{a b c d e:Expr}{es:List Expr}{fa fb fc fd f:ME}{fr:MA}{pos:Pos}{ft gt:MT}
theorem aG (i:Nat) {x:Str} (hN:X.N[i]?=some x:=by rfl) (hv:HL X.env.scope x:=by first | exact Or.inl rfl | exact Or.inr (Or.inl rfl) | exact Or.inr (Or.inr rfl)) (hd:(x == ("__debug__" : Str))=false:=by decide) (hcd:(x == ("__classdict__" : Str))=false:=by decide):Bx (PE X (.Name x pos) (tD p (ak i))):=⟨EC (E4 hN hv hd hcd)⟩
theorem bx {i j}:Bx (PE X (.Constant (.int i) j pos) (tD p (cC (.int i)))):=⟨yt Fc fun _ _=>ar.mpr rfl⟩
theorem uR {i j}:Bx (PE X (.Constant (.bool i) j pos) (tD p (cC (.bl i)))):=⟨yt Hl fun _ _=>aX.mpr rfl⟩
theorem A5 {j}:Bx (PE X (.Constant .none j pos) (tD p (cC .non))):=⟨yt E9 fun _ _=>bJ.mpr rfl⟩
theorem uQ {x j}:Bx (PE X (.Constant (.str x) j pos) (tD p (cC (.str x)))):=⟨yt E6 fun _ _=>bA.mpr rfl⟩
theorem Ic {x:Str}{i:Int} (h:∃ t,X.mg x=some (.int i t)) (hg:Gl X x:=by rfl) (hd:(x == ("__debug__" : Str))=false:=by decide):Bx (PE X (.Name x pos) (tD p (cC (.int i)))):=Bx.mk (by
 obtain ⟨t,ht⟩:=h
 exact yt (wB (v:=.int i) hg ht ⟨t,rfl⟩ hd) fun _ _=>ar.mpr rfl)
theorem dt (ha:Bx (PE X a (tD p fa))) (hb:Bx (PE X b (tD p fb))) (hK:X.K=p.K:=by rfl):Bx (PE X (.BinOp a .Add b pos) (tD p (az cv fa fb))):=⟨mq (r:=yN p.K) (hK ▸ Cw) FD ha.h hb.h⟩
theorem ou (ha:Bx (PE X a (tD p fa))) (hb:Bx (PE X b (tD p fb))):Bx (PE X (.BinOp a .Sub b pos) (tD p (az kq fa fb))):=⟨mq Ff (Iu fun _ _ _ _=>ar.mpr rfl) ha.h hb.h⟩
theorem qp (ha:Bx (PE X a (tD p fa))) (hb:Bx (PE X b (tD p fb))):Bx (PE X (.BinOp a .Mult b pos) (tD p (az jd fa fb))):=⟨mq Cr Fz ha.h hb.h⟩
theorem za (ha:Bx (PE X a (tD p fa))) (hb:Bx (PE X b (tD p fb))):Bx (PE X (.BinOp a .FloorDiv b pos) (tD p (az tF fa fb))):=⟨mq Cs (yS fun _ _ _ _=>ar.mpr rfl) ha.h hb.h⟩
theorem qq (ha:Bx (PE X a (tD p fa))) (hb:Bx (PE X b (tD p fb))):Bx (PE X (.BinOp a .Mod b pos) (tD p (az pZ fa fb))):=⟨mq Fk (yS fun _ _ _ _=>ar.mpr rfl) ha.h hb.h⟩
theorem yE (ha:Bx (PE X a (tD p fa))) (hb:Bx (PE X b (tD p fb))):Bx (PE X (.BinOp a .Pow b pos) (tD p (az rC fa fb))):=⟨mq Fh (yS fun _ _ _ _=>ar.mpr rfl) ha.h hb.h⟩
theorem Dp (ha:Bx (PE X a (tD p fa))):Bx (PE X (.UnaryOp .USub a pos) (tD p (nA sU fa))):=⟨G7 Ee FE ha.h⟩
structure oq (X:Cx) (p:Pa) (op:CmpOp) (o:D->D->aB->ai D):Prop where
 ex:∃ r,jz X (compareOp op) r/\pX p o r
theorem kn (hu:X.A.units+64<cLine) (hK:X.K=p.K:=by rfl):oq X p .Eq (fX false):=⟨yu p.K false,hK ▸ Fo hu,DD⟩
theorem rA (hu:X.A.units+64<cLine) (hK:X.K=p.K:=by rfl):oq X p .NotEq (fX true):=⟨yu p.K true,hK ▸ Fi hu,DD⟩
theorem DZ (hu:X.A.units+64<cLine) (hK:X.K=p.K:=by rfl):oq X p .In (A7 false):=⟨DY p.K false,hK ▸ Fm hu,Hr⟩
theorem DF:oq X p .Is (rD false):=⟨_,Fl,FA⟩
theorem zr:oq X p .IsNot (rD true):=⟨_,Cq,CF⟩
theorem lq {op:CmpOp} (hu:X.A.units+64<cLine) (ho:tw op=true:=by rfl) (hK:X.K=p.K:=by rfl):oq X p op (kr op):=⟨yM p.K op,hK ▸ Ct hu ho,FC⟩
variable {op op' op'':CmpOp}{o o' o'':D->D->aB->ai D}
theorem tm (k:oq X p op o) (ha:Bx (PE X a (tD p fa))) (hb:Bx (PE X b (tD p fb))) (hm:behindInMarks op b=false:=by rfl):Bx (PE X (.Compare a [op] [b] pos) (tD p (az o fa fb))):=Bx.mk (let ⟨_,h1,h2⟩:=k.ex;EH h1 h2 ha.h hb.h hm)
theorem bO (k:oq X p op o) (ha:Bx (PE X a (tD p fa))) (hb:Bx (PE X b (tD p fb))) (hm:behindInMarks op b=false:=by rfl):Bx (PT X (.Compare a [op] [b] pos) (iM p (fT (az o fa fb)))):=Bx.mk (let ⟨_,h1,h2⟩:=k.ex;Em h1 h2 ha.h hb.h hm)
theorem GS (k:oq X p op o) (k':oq X p op' o') (ha:Bx (PE X a (tD p fa))) (hb:Bx (PE X b (tD p fb))) (hc:Bx (PE X c (tD p fc))) (hm:lastMarks [op,op'] [b,c]=false:=by rfl):Bx (PE X (.Compare a [op,op'] [b,c] pos) (tD p (oK o o' fa fb fc))):=Bx.mk (let ⟨_,h1,h2⟩:=k.ex;let ⟨_,h3,h4⟩:=k'.ex;zZ h1 h3 h2 h4 ha.h hb.h hc.h hm)
theorem Dj (h:Bx (PE X e (tD p f))) (he:∀ whole,isTrue e X.env whole=(do let v <- whole;standAt e.pos;holding [v] (truthy v)):=by intro _;rfl) (hK:X.K=p.K:=by rfl):Bx (PT X e (iM p (lb f))):=⟨zH hK h.h he⟩
theorem tq {rest:List Expr} (ha:Bx (PT X a (iM p ft))) (hb:Bx (PW X (.BoolOp .And (b::rest) pos) (iM p gt))):Bx (PW X (.BoolOp .And (a::b::rest) pos) (iM p (kF ft gt))):=⟨Ek ha.h hb.h⟩
theorem Bd {rest:List Expr} (ha:Bx (PT X a (iM p ft))) (hb:Bx (PW X (.BoolOp .Or (b::rest) pos) (iM p gt))):Bx (PW X (.BoolOp .Or (a::b::rest) pos) (iM p (u5 ft gt))):=⟨G3 ha.h hb.h⟩
theorem oE (ha:Bx (PT X a (iM p ft))):Bx (PW X (.BoolOp .And [a] pos) (iM p ft)):=⟨B8 ha.h⟩
theorem vZ (ha:Bx (PT X a (iM p ft))):Bx (PW X (.BoolOp .Or [a] pos) (iM p ft)):=⟨ER ha.h⟩
theorem vY {op} (ha:Bx (PE X a (tD p fa))):Bx (PE X (.BoolOp op [a] pos) (tD p fa)):=⟨E7 ha.h⟩
def zp:Expr->Bool
 | .Starred _ _=>false
 | _=>true
theorem xp {a:Expr}{es:List Expr}{env:Env} (h:zp a=true):starEach (a::es) env=(false,eval a env)::starEach es env:=by
 cases a <;> first | rfl | cases h
theorem aH (ha:Bx (PE X a (tD p fa))) (hr:Bx (PA X es (k8 p fr))) (hs:zp a=true:=by rfl):Bx (PA X (a::es) (k8 p (ag fa fr))):=⟨BY ha.h hr.h (xp hs)⟩
theorem bc  : Bx (PA X [] (k8 p ax)):=⟨EJ⟩
theorem bo {k n:Nat}{x:Str}{F:List D->aB->ai D}{px:Pos} (h:gk X.prog X.w X.K X.mg X.base p k x n F) (hr:fm k X.A) (ha:Bx (PA X (a::es) (k8 p fr))) (hg:Gl X x:=by rfl) (hdb:(x == ("__debug__" : Str))=false:=by decide) (he:starEach (a::es) X.env=(false,eval a X.env)::starEach es X.env:=by rfl) (hpl:(backTo pos (starEach es X.env)).any (·.1)=false:=by rfl):Bx (PE X (.Call (.Name x px) (a::es) [] pos) (tD p (aC F fr))):=⟨BW h hr hg ha.h hdb he hpl⟩
structure rG (X:Cx) (p:Pa) (x:Str) (F:List D->aB->ai D):Prop where
 ex:∃ (u:Value) (r:List V->Hp->VK->Prop),((∃ id,u=.builtin id)\/∃ T,u=.type T)/\bootBuiltins x=some u/\cI X u r/\uV p F r/\x ≠ "__name__" /\ (x == ("__debug__" : Str))=false
theorem bX {x:Str}{F:List D->aB->ai D}{px:Pos} (k:rG X p x F) (hm:X.mg x=none) (ha:Bx (PA X (a::es) (k8 p fr))) (hg:Gl X x:=by rfl) (he:starEach (a::es) X.env=(false,eval a X.env)::starEach es X.env:=by rfl) (hpl:(backTo pos (starEach es X.env)).any (·.1)=false:=by rfl):Bx (PE X (.Call (.Name x px) (a::es) [] pos) (tD p (aC F fr))):=Bx.mk (by
 obtain ⟨u,r,hu,h1,h2,h3,h4,h5⟩:=k.ex
 rcases hu with ⟨id,rfl⟩ | ⟨T,rfl⟩
 ·exact z5 h2 h3 hg hm h1 ha.h h4 h5 he hpl
 ·exact xB h2 h3 hg hm h1 ha.h h4 h5 he hpl)
theorem y6 (hK:X.K=p.K:=by rfl) (hw:X.w=p.w:=by rfl):rG X p "len" p6:=⟨_,_,.inl ⟨_,rfl⟩,PySem.boot_len,(AV.or yj).or yk,by rw [hK,hw];exact Fv,by decide,by decide⟩
theorem gY (hK:X.K=p.K:=by rfl):rG X p "tuple" fw:=⟨_,_,.inr ⟨_,rfl⟩,by decide +kernel,ql,hK ▸ Aq,by decide,by decide⟩
theorem DL:rG X p "int" m7:=⟨_,_,.inr ⟨_,rfl⟩,by decide +kernel,yl,Fw,by decide,by decide⟩
theorem HD (hc:X.calm=true:=by rfl) (hK:X.K=p.K:=by rfl):rG X p "min" yy:=⟨_,_,.inl ⟨_,rfl⟩,by decide +kernel,(yg hc).or (yf hc),hK ▸ Ft,by decide,by decide⟩
theorem DK (hc:X.calm=true:=by rfl) (hK:X.K=p.K:=by rfl):rG X p "max" u4:=⟨_,_,.inl ⟨_,rfl⟩,by decide +kernel,(yi hc).or (yh hc),hK ▸ Fu,by decide,by decide⟩
theorem y0 (hu:X.A.units+64<cLine) (hc:X.calm=true:=by rfl) (hK:X.K=p.K:=by rfl) (hw:X.w=p.w:=by rfl):rG X p "set" nC:=⟨_,_,.inr ⟨_,rfl⟩,by decide +kernel,(yd hc hu).or (ye hc hu),by rw [hK,hw];exact Fs,by decide,by decide⟩
theorem lP (hc:X.calm=true:=by rfl) (hK:X.K=p.K:=by rfl) (hw:X.w=p.w:=by rfl):rG X p "sorted" cY:=⟨_,_,.inl ⟨_,rfl⟩,by decide +kernel,(vP.or (vO hc)).or (vN hc),by rw [hK,hw];exact xN,by decide,by decide⟩
theorem tj {T:String}{xT:Str}{px pt:Pos} (hT:T∈["int", "bool", "tuple", "list", "str", "dict"]) (hbT:bootBuiltins xT=some (.type T)) (hnT:xT ≠ "__name__") (hdT:(xT == ("__debug__" : Str))=false) (hm:X.mg "isinstance" = none) (hmT:X.mg xT=none) (ha:Bx (PE X a (tD p fa))) (hg:Gl X "isinstance" := by rfl) (hgT:Gl X xT:=by rfl) (hs1:starEach [a,.Name xT pt] X.env=(false,eval a X.env)::starEach [.Name xT pt] X.env:=by rfl) (hK:X.K=p.K:=by rfl):Bx (PE X (.Call (.Name "isinstance" px) [a,.Name xT pt] [] pos) (tD p (nA (la T) fa))):=⟨EG hK hT hg hm hgT hmT hbT ha.h hnT hdT hs1⟩
theorem zC:bootBuiltins "int" = some (.type "int"):=by decide +kernel
theorem sj:bootBuiltins "bool" = some (.type "bool"):=by decide +kernel
theorem Eb {pl pr p1:Pos} (hm:X.mg "range" = none) (hml:X.mg "list" = none) (ha:Bx (PA X [a] (k8 p fr))) (hc:X.calm=true:=by rfl) (hg:Gl X "range" := by rfl) (hgl:Gl X "list" := by rfl) (hs:starEach [a] X.env=[(false,eval a X.env)]:=by rfl):Bx (PE X (.Call (.Name "list" pl) [.Call (.Name "range" pr) [a] [] p1] [] pos) (tD p (aC mD fr))):=⟨zY hc hg hm hgl hml ha.h hs⟩
theorem bQ (ha:Bx (PE X a (tD p fa))) (hb:Bx (PE X b (tD p fb))) (hs:sy b:=by exact fun _ _=>rfl) (hK:X.K=p.K:=by rfl):Bx (PE X (.Subscript a b pos) (tD p (az c9 fa fb))):=⟨G8 hK ha.h hb.h hs⟩
theorem Bc {lo hi:Option Expr}{fl fh:MO}{p2:Pos} (he:Bx (PE X e (tD p fa))) (hl:Bx (PO X lo (Dk p fl))) (hu:Bx (PO X hi (Dk p fh))) (hK:X.K=p.K:=by rfl):Bx (PE X (.Subscript e (.Slice lo hi none p2) pos) (tD p (Dm fa fl fh))):=⟨zX hK he.h hl.h hu.h⟩
theorem GP {fo:ME}{ob:Expr}{apos:Pos} (ho:Bx (PE X ob (tD p fo))) (ha:Bx (PA X [e] (k8 p fr))) (hbase:attributeBase ob "pop" X.env (eval ob X.env)=eval ob X.env:=by rfl) (hfew:((backTo pos (starEach [e] X.env)).all (fun x=>!x.1) && (backToKw pos (keywordEach [] X.env)).all (fun x=>x.1.isSome)
   && decide ([e].length+([]:List Keyword).length+(if ([]:List Keyword).isEmpty then 0 else 1)<30))=true:=by rfl) (hline:(apos.endLine == pos.line)=true:=by rfl) (hs:starEach [e] X.env=(false,eval e X.env)::starEach [] X.env:=by rfl) (hpl:(backTo pos (starEach [] X.env)).any (·.1)=false:=by rfl) (hK:X.K=p.K:=by rfl):Bx (PE X (.Call (.Attribute ob "pop" apos) [e] [] pos) (tD p (A1 oJ fo fr))):=⟨v7 hK PySem.F.slot_list_pop PySem.F.type_list_pop Ax CJ ho.h ha.h hbase hfew hline hs hpl⟩
variable {tg iter elt:Expr}{fi:MI}{g:MG}{u:Ba}
theorem uT (hl:Bx (PE X e (tD p f))) (hK:X.K=p.K:=by rfl):Bx (PI X tg e (wZ p (ia f))):=⟨Ez hK hl.h⟩
theorem nB {px:Pos} (hm:X.mg "range" = none) (ha:Bx (PA X [a] (k8 p fr))) (hg:Gl X "range" := by rfl) (hs:starEach [a] X.env=[(false,eval a X.env)]:=by rfl):Bx (PI X tg (.Call (.Name "range" px) [a] [] pos) (wZ p (dZ h7 fr))):=⟨xA hg hm ha.h hs⟩
theorem uZ {px:Pos} (hm:X.mg "range" = none) (ha:Bx (PA X [a,b] (k8 p fr))) (hg:Gl X "range" := by rfl) (hs:starEach [a,b] X.env=[(false,eval a X.env),(false,eval b X.env)]:=by rfl) (hs2:starEach [b] X.env=[(false,eval b X.env)]:=by rfl):Bx (PI X tg (.Call (.Name "range" px) [a,b] [] pos) (wZ p (dZ km fr))):=⟨xy hg hm ha.h hs hs2⟩
theorem iX (i:Nat) {x:Str} (hN:X.N.Nodup) (hi:X.N[i]?=some x:=by rfl) (hx:xa X.env.scope x:=by first | exact Or.inl rfl | exact Or.inr rfl) (hf:X.fn x=true\/X.env.scope.names.lookup x=some .local:=by first | exact .inl rfl | exact .inr rfl):Bx (PG X (.Name x pos) (rh p (aj i))):=⟨BR hN hi hx hf⟩
theorem qw  : Bx (uU X [] (sR p gE)):=⟨BQ⟩
theorem gM (h1:Bx (PG X e (rh p g))) (h2:Bx (uU X es (sR p u))) (hs:(assignEach (e::es) X.env).map (·.2)=assign e X.env::(assignEach es X.env).map (·.2):=by rfl):Bx (uU X (e::es) (sR p (bC g u))):=⟨zS h1.h h2.h hs⟩
theorem qu {k n:Nat} (h:Bx (uU X es (sR p u))) (hc:X.calm=true:=by rfl) (hn:(assignEach es X.env).length=n:=by rfl) (hst:(assignEach es X.env).findIdx? (·.1)=none:=by rfl) (hK:X.K=p.K:=by rfl):Bx (PG X (.Tuple es k pos) (rh p (gD n u))):=⟨EA hK hc h.h hn hst⟩
theorem qv {fo fi:ME} (ho:Bx (PE X a (tD p fo))) (hi:Bx (PE X b (tD p fi))) (ha:∀ v,assign (.Subscript a b pos) X.env v=(do
   let ov <- holding [v] (eval a X.env)
   let iv <- holding [v,ov] (eval b X.env)
   standAt pos
   holding [v,ov,iv] (setItem ov iv v)
   release [v,ov,iv] []):=by intro _;rfl):Bx (PG X (.Subscript a b pos) (rh p (kD fo fi))):=⟨EB ho.h hi.h ha⟩
variable {ifs:List Expr}{scope:Scope}{Nc:List Str}{cap:List (Option Nat)}{tt:MT}{te:ME}
theorem f6 (S:cw X.N X.env scope Nc cap) (hi:Bx (PI X tg iter (wZ p fi))) (hg:∀ cl C s H fp,Bx (PG (jC X Nc scope cl C s H fp) tg (rh p.nx g))) (ht:∀ cl C s H fp,Bx (uP (jC X Nc scope cl C s H fp) ifs (iM p.nx tt))) (he:∀ cl C s H fp,Bx (PE (jC X Nc scope cl C s H fp) elt (tD p.nx te))) (hc:X.calm=true:=by rfl) (hs:∀ x,foldedSetIterable iter X.env x=pure x:=by intro _;rfl):Bx (PE X (.ListComp elt [⟨tg,iter,ifs,0⟩] scope pos) (tD p (bE fi cap g tt te))):=⟨BV hc S hi.h (fun cl C s H fp=>(hg cl C s H fp).h) (fun cl C s H fp=>(ht cl C s H fp).h) (fun cl C s H fp=>(he cl C s H fp).h) hs⟩
variable {mb:MB}{cl0:Comprehension}{rest:List Comprehension}{d:Nat}{acc:Addr}
variable {fs gs:MS}{st:Stmt}{sts A B body:List Stmt}
theorem bZ (i:Nat) {x:Str}{pos':Pos} (hN:X.N.Nodup) (he:Bx (PE X e (tD p f))) (hi:X.N[i]?=some x:=by rfl) (hx:xa X.env.scope x:=by first | exact Or.inl rfl | exact Or.inr rfl) (hs:swapsWith e (some (.Name x pos')) pos.line X.env=pure false:=by rfl) (hf:X.fn x=true\/X.env.scope.names.lookup x=some .local:=by first | exact .inl rfl | exact .inr rfl):Bx (PS X (.Assign [.Name x pos'] e pos) (gI p (bw f (aj i)))):=⟨En hN hi hx he.h hs hf⟩
theorem jf (i:Nat) {x:Str}{pos1 pos2:Pos} (hN:X.N.Nodup) (S:cw X.N X.env scope Nc cap) (hi:Bx (PI X tg iter (wZ p fi))) (hg:∀ cl C s H fp,Bx (PG (jC X Nc scope cl C s H fp) tg (rh p.nx g))) (ht:∀ cl C s H fp,Bx (uP (jC X Nc scope cl C s H fp) ifs (iM p.nx tt))) (he:∀ cl C s H fp,Bx (PE (jC X Nc scope cl C s H fp) elt (tD p.nx te))) (hix:X.N[i]?=some x:=by rfl) (hx:X.env.scope.names.lookup x=some .local:=by rfl) (hc:X.calm=true:=by rfl) (hsw:swapsWith (.ListComp elt [⟨tg,iter,ifs,0⟩] scope pos) (some (.Name x pos1)) pos2.line X.env=pure true:=by rfl) (hs:∀ x,foldedSetIterable iter X.env x=pure x:=by intro _;rfl):Bx (PS X (.Assign [.Name x pos1] (.ListComp elt [⟨tg,iter,ifs,0⟩] scope pos) pos2) (gI p (bw (bE fi cap g tt te) (aj i)))):=⟨BF hc hN hix hx S hi.h (fun cl C s H fp=>(hg cl C s H fp).h) (fun cl C s H fp=>(ht cl C s H fp).h) (fun cl C s H fp=>(he cl C s H fp).h) hsw hs⟩
theorem oz (he:Bx (PE X e (tD p f))) (hg:Bx (PG X tg (rh p g))) (hs:swapsWithSole [tg] e pos.line X.env=pure false:=by rfl) (hw:swappedStores [tg] e X.env=pure none:=by rfl) (h1:(assignEach [tg] X.env).map (·.2)=[assign tg X.env]:=by rfl):Bx (PS X (.Assign [tg] e pos) (gI p (bw f g))):=⟨Eu he.h hg.h hs hw h1⟩
theorem u7 (he:Bx (PE X e (tD p f))) (hs:swapsWith e none pos.line X.env=pure false:=by rfl):Bx (PS X (.Expr e pos) (gI p (qt f))):=⟨BG he.h hs⟩
theorem jt (hp:PassesOwn (model X.prog X.w) X.A X.env X.xe) (hi:Bx (PI X tg iter (wZ p fi))) (hg:Bx (PG X tg (rh p g))) (hb:Bx (iO X body (gI p fs))) (hc:X.calm=true:=by rfl) (hs:∀ x,foldedSetIterable iter X.env x=pure x:=by intro _;rfl):Bx (PS X (.For tg iter body [] pos) (gI p (kl fi g fs))):=⟨Es hp hc hi.h hg.h hb.h hs⟩
theorem wx (n:Nat) (hp:PassesOwn (model X.prog X.w) X.A X.env X.xe) (hc:Bx (PT X c (iM p ft))) (hb:Bx (iO X body (gI p fs))):Bx (PS X (.While c body [] pos) (gI p (mv n ft fs))):=⟨zL hp hc.h hb.h⟩
end
section
variable {X:Cx}{p:Pa}{a b c e:Expr}{es rest:List Expr}{fa fb f:ME}{fr:MA}{ft gt:MT}{pos:Pos}{fs gs:MS}{st:Stmt}{sts A B:List Stmt}
theorem Do (ha:Bx (PE X a (tD p fa))):Bx (PE X (.UnaryOp .Not a pos) (tD p (tG fa))):=⟨EE ha.h⟩
theorem vX (ha:Bx (PE X a (tD p fa))) (hb:Bx (PE X (.BoolOp .And (b::rest) pos) (tD p fb))):Bx (PE X (.BoolOp .And (a::b::rest) pos) (tD p (oD fa fb))):=⟨EI ha.h hb.h⟩
theorem HZ (hc:Bx (PT X c (iM p ft))) (ha:Bx (PE X a (tD p fa))) (hb:Bx (PE X b (tD p fb))):Bx (PE X (.IfExp c a b pos) (tD p (HJ ft fa fb))):=⟨G9 hc.h ha.h hb.h⟩
theorem bV {k:Nat} (h:Bx (PA X es (k8 p fr))):Bx (PE X (.Tuple es k pos) (tD p (bU fr))):=⟨ED h.h⟩
theorem fU (h:Bx (PA X es (k8 p fr))):Bx (PE X (.List es pos) (tD p (fZ fr))):=⟨EF h.h⟩
theorem rT:Bx (PO X none (Dk p DR)):=⟨BN⟩
theorem lx (h:Bx (PE X e (tD p f))):Bx (PO X (some e) (Dk p (lj f))):=⟨BM h.h⟩
theorem ot (ha:Bx (PT X a (iM p ft))):Bx (PT X (.UnaryOp .Not a pos) (iM p (kE ft))):=⟨El ha.h⟩
theorem rm (h:Bx (PW X e (iM p ft))):Bx (PT X e (iM p ft)):=⟨h.h.pt⟩
theorem iB:Bx (uP X [] (iM p bz)):=⟨BA⟩
theorem mZ (h:Bx (PT X c (iM p ft))):Bx (uP X [c] (iM p ft)):=⟨Bz h.h⟩
theorem eZ:Bx (iO X [] (gI p di)):=⟨Er⟩
theorem aI (h1:Bx (PS X st (gI p fs))) (h2:Bx (iO X sts (gI p gs))):Bx (iO X (st::sts) (gI p (br fs gs))):=⟨BH h1.h h2.h⟩
theorem aN (h1:Bx (PS X st (gI p fs))):Bx (iO X [st] (gI p fs)):=⟨Ep h1.h⟩
theorem bB (h:Bx (PE X e (tD p f))):Bx (PS X (.Return (some e) pos) (gI p (cu f))):=⟨Eo h.h⟩
theorem gJ (hc:Bx (PT X c (iM p ft))) (ha:Bx (iO X A (gI p fs))) (hb:Bx (iO X B (gI p gs))):Bx (PS X (.If c A B pos) (gI p (jZ ft fs gs))):=⟨G4 hc.h ha.h hb.h⟩
end
theorem d2 {P:Program}{w:World}{K:W.Frag}{mg:Str->Option Value}{base:Heap}{p:Pa}{k n:Nat}{x qual:Str}{st:Stmt}{f:Addr}{fd:FuncData}{N ps:List Str}{fb:MS}
  (F:iz K x qual st f fd) (S:aS N ps (au st)) (hn:ps.length=n) (hm:mg x=some (.ref f)) (hb:gF K fd ps [])
  (body : ∀ (cdv : Value) (A : Around) (outer : List Env) (s : Shared) (H : Hp) (E : XK), fm k (A.deeper (envOfC qual (au st) s.heap.objs.size f cdv)) ->
   Bx (iO (oi uW P w K mg base N qual (au st) f cdv A outer s H E).nox (bY st) (gI p fb))):gk P w K mg base p (k+1) x n (iN n N.length fb):=
 Ga F S hn hm hb fun cdv A outer s H E hr=>(body cdv A outer s H E hr).h
end L2
namespace L2
open PySem RS
section
variable {ρ:Ro}{μ:aB}{fa fb fc fd f:ME}{fr:MA}{ft gt:MT}{op o1 o2 o3:D->D->aB->ai D}{fs gs:MS}{g:MG}
@[simp] theorem ah {d:D}{r:Ro}:ak 0 (some d::r) μ=.ok d μ:=MJ (MK _)
@[simp] theorem ao {i:Nat}{x:Option D}{r:Ro}:ak (i+1) (x::r) μ=ak i r μ:=MJ (MK _)
@[simp] theorem aU {d:D}:cC d ρ μ=.ok d μ:=MJ (MK _)
@[simp] theorem aA:az op fa fb ρ μ=(fa ρ μ).bind fun a μ1=>(fb ρ μ1).bind fun b μ2=>op a b μ2:=MJ (MK _)
@[simp] theorem jI {o:D->aB->ai D}:nA o fa ρ μ=(fa ρ μ).bind fun a μ1=>o a μ1:=MJ (MK _)
@[simp] theorem av:ax ρ μ=.ok [] μ:=MJ (MK _)
@[simp] theorem aq:ag fa fr ρ μ=(fa ρ μ).bind fun a μ1=>(fr ρ μ1).bind fun r μ2=>.ok (a::r) μ2:=MJ (MK _)
@[simp] theorem aD {F:List D->aB->ai D}:aC F fr ρ μ=(fr ρ μ).bind F:=MJ (MK _)
@[simp] theorem b9:bU fr ρ μ=(fr ρ μ).bind fun ds μ=>if ds.length<=sizeLine then .ok (.tup ds) μ else .bad:=MJ (MK _)
@[simp] theorem cW:fZ fr ρ μ=(fr ρ μ).bind fun ds μ=>if ds.length<=sizeLine then .ok (.obj μ.length) (μ++[.lst ds]) else .bad:=MJ (MK _)
@[simp] theorem aP {b:Bool}:A2 (.bl b) μ=.ok b μ:=MJ (MK _)
@[simp] theorem bD:fT f ρ μ=(f ρ μ).bind A2:=MJ (MK _)
@[simp] theorem gX:kF ft gt ρ μ=(ft ρ μ).bind fun b μ1=>if b=true then gt ρ μ1 else .ok false μ1:=MJ (MK _)
@[simp] theorem mz:u5 ft gt ρ μ=(ft ρ μ).bind fun b μ1=>if b=true then .ok true μ1 else gt ρ μ1:=MJ (MK _)
@[simp] theorem gq:kE ft ρ μ=(ft ρ μ).bind fun b μ1=>.ok (!b) μ1:=MJ (MK _)
@[simp] theorem j9:oD fa fb ρ μ=(fa ρ μ).bind fun a μ1=>(A2 a μ1).bind fun b μ2=>if b=true then fb ρ μ2 else .ok (.bl false) μ2:=MJ (MK _)
@[simp] theorem wQ:tG f ρ μ=(f ρ μ).bind fun a μ1=>(A2 a μ1).bind fun b μ2=>.ok (.bl (!b)) μ2:=MJ (MK _)
@[simp] theorem DH:HJ ft fa fb ρ μ=(ft ρ μ).bind fun b μ1=>if b=true then fa ρ μ1 else fb ρ μ1:=MJ (MK _)
@[simp] theorem pf:oK o1 o2 fa fb fc ρ μ=(fa ρ μ).bind fun a μ1=>(fb ρ μ1).bind fun b μ2=>(o1 a b μ2).bind fun z μ3=>(A2 z μ3).bind fun k μ4=>
 if k=true then (fc ρ μ4).bind fun c μ5=>o2 b c μ5 else .ok (.bl false) μ4:=MJ (MK _)
@[simp] theorem ig:lb f ρ μ=(f ρ μ).bind xb:=MJ (MK _)
@[simp] theorem gp {b:Bool}:xb (.bl b) μ=.ok b μ:=MJ (MK _)
@[simp] theorem yX {fl fh:MO}:Dm fa fl fh ρ μ=(fa ρ μ).bind fun a μ1=>(fl ρ μ1).bind fun lo μ2=>(fh ρ μ2).bind fun hi μ3=>yn a lo hi μ3:=MJ (MK _)
@[simp] theorem zx:DR ρ μ=.ok none μ:=MJ (MK _)
@[simp] theorem pd:lj f ρ μ=(f ρ μ).bind HK:=MJ (MK _)
@[simp] theorem vc {i:Int}:HK (.int i) μ=.ok (some i) μ:=MJ (MK _)
@[simp] theorem qx {F:D->List D->aB->ai D}{fo:ME}:A1 F fo fr ρ μ=(fo ρ μ).bind fun o μ1=>if sQ o μ1=true then (fr ρ μ1).bind fun ds μ2=>F o ds μ2 else .bad:=MJ (MK _)
@[simp] theorem bq:cu f ρ μ=(f ρ μ).bindS fun d μ'=>.ret d μ':=MJ (MK _)
@[simp] theorem bH:di ρ μ=.next ρ μ:=MJ (MK _)
@[simp] theorem aJ:br fs gs ρ μ=(fs ρ μ).bind gs:=MJ (MK _)
@[simp] theorem bp:jZ ft fs gs ρ μ=(ft ρ μ).bindS fun b μ1=>if b=true then fs ρ μ1 else gs ρ μ1:=MJ (MK _)
@[simp] theorem aW:bw f g ρ μ=(f ρ μ).bindS fun d μ1=>(g d ρ μ1).bindS fun ρ' μ2=>.next ρ' μ2:=MJ (MK _)
@[simp] theorem lE:qt f ρ μ=(f ρ μ).bindS fun _ μ1=>.next ρ μ1:=MJ (MK _)
@[simp] theorem aE {g:MS}:(SO.next ρ μ).bind g=g ρ μ:=MJ (MK _)
@[simp] theorem rK {d:D}{g:MS}:(SO.ret d μ).bind g=.ret d μ:=MJ (MK _)
@[simp] theorem nY {g:MS}:(SO.next ρ μ).loop g=g ρ μ:=MJ (MK _)
@[simp] theorem aV {d:D}:(SO.ret d μ).out=.ok d μ:=MJ (MK _)
@[simp] theorem Ao:(SO.next ρ μ).out=.ok .non μ:=MJ (MK _)
@[simp] theorem cj {i:Nat}{d:D}:aj i d ρ μ=.ok (ρ.set i (some d)) μ:=MJ (MK _)
@[simp] theorem j8 {fo fi:ME}{d:D}:kD fo fi d ρ μ=(fo ρ μ).bind fun o μ1=>(fi ρ μ1).bind fun i μ2=>(uY o i d μ2).bind fun _ μ3=>.ok ρ μ3:=MJ (MK _)
@[simp] theorem Dc {n:Nat}{u:Ba}{xs:List D}:gD n u (.tup xs) ρ μ=if xs.length=n then u xs ρ μ else .bad:=MJ (MK _)
@[simp] theorem Dd:gE [] ρ μ=.ok ρ μ:=MJ (MK _)
@[simp] theorem AL {u:Ba}{d:D}{r:List D}:bC g u (d::r) ρ μ=(g d ρ μ).bind fun ρ' μ'=>u r ρ' μ':=MJ (MK _)
@[simp] theorem gN {fi:MI}:kl fi g fs ρ μ=(fi ρ μ).bindS fun src μ1=>ko src g fs src.items ρ μ1:=MJ (MK _)
@[simp] theorem dm:ia f ρ μ=(f ρ μ).bind xf:=MJ (MK _)
@[simp] theorem cc {F:List D->aB->ai rj}:dZ F fr ρ μ=(fr ρ μ).bind F:=MJ (MK _)
@[simp] theorem sg {xs:List D}:xf (.tup xs) μ=.ok (.fix xs) μ:=MJ (MK _)
@[simp] theorem bR {fi:MI}{cap:List (Option Nat)}:bE fi cap g ft f ρ μ=(fi ρ μ).bind fun src μ1=>compLoop src μ1.length g ft f src.items (iQ cap ρ) (μ1++[.lst []]):=MJ (MK _)
@[simp] theorem bf {xs:List D}:(rj.fix xs).items=xs:=MJ (MK _)
@[simp] theorem cO {n:Nat}{xs:List D}:(rj.own n xs).items=xs:=MJ (MK _)
theorem HA {n N:Nat}{ds:List D} (h:ds.length=n):iN n N fs ds μ=og μ (fs (ds.map some++List.replicate (N - n) none) μ).out:=Js h
theorem fv {N:Nat}{a:D}:iN 1 N fs [a] μ=og μ (fs (some a::List.replicate (N - 1) none) μ).out:=Js rfl
theorem fu {N:Nat}{a b:D}:iN 2 N fs [a,b] μ=og μ (fs (some a::some b::List.replicate (N - 2) none) μ).out:=Js rfl
theorem mC {N:Nat}{a b c:D}:iN 3 N fs [a,b,c] μ=og μ (fs (some a::some b::some c::List.replicate (N - 3) none) μ).out:=Js rfl
@[simp] theorem dN {op:CmpOp}{i j:Int}:kr op (.int i) (.int j) μ=.ok (.bl (dq op i j)) μ:=MJ (MK _)
@[simp] theorem gr {i j:Int}:cv (.int i) (.int j) μ=.ok (.int (i+j)) μ:=MJ (MK _)
@[simp] theorem HB {gg:Int->Int->D}{i j:Int}:dI gg (.int i) (.int j) μ=.ok (gg i j) μ:=MJ (MK _)
@[simp] theorem kR {C:Int->Int->Prop}{gg:Int->Int->D}{i j:Int} (h:C i j):Dl C gg (.int i) (.int j) μ=.ok (gg i j) μ:=by unfold Dl;simp [h]
@[simp] theorem C8 {i j:Int} (h:rF i j):jd (.int i) (.int j) μ=.ok (.int (i * j)) μ:=by unfold jd;simp [h]
@[simp] theorem zy {i:Int}:sU (.int i) μ=.ok (.int (-i)) μ:=MJ (MK _)
@[simp] theorem cb {neg:Bool}{i j:Int}:fX neg (.int i) (.int j) μ=.ok (.bl (if neg then !(i == j) else i == j)) μ:=MJ (MK _)
@[simp] theorem F5 {neg:Bool}{i j:Bool}:fX neg (.bl i) (.bl j) μ=.ok (.bl (if neg then !(i == j) else i == j)) μ:=MJ (MK _)
@[simp] theorem rR {neg:Bool}{a:D}:rD neg a .non μ=.ok (.bl (if neg then !a.isNon else a.isNon)) μ:=MJ (MK _)
@[simp] theorem C9 {xs:List D}:p6 [.tup xs] μ=.ok (.int xs.length) μ:=MJ (MK _)
@[simp] theorem wR {xs:List D}:p6 [.frz xs] μ=.ok (.int xs.length) μ:=MJ (MK _)
theorem Da {n:Nat}{xs:List D} (h:μ[n]?=some (.lst xs)):p6 [.obj n] μ=.ok (.int xs.length) μ:=by unfold p6 tE;simp [h]
theorem gW {n:Nat}{xs:List D} (h:μ[n]?=some (.lst xs)):fw [.obj n] μ=.ok (.tup xs) μ:=by unfold fw;simp [h]
theorem rQ {xs:List D}{i:Int}{d:D} (h:atI xs i=some d):c9 (.tup xs) (.int i) μ=.ok d μ:=by unfold c9;simp [h]
theorem F4 {xs:List D}{i:Int}{d:D} (h:atI xs i=some d):c9 (.frz xs) (.int i) μ=.ok d μ:=by unfold c9;simp [h]
theorem dW {n:Nat}{xs:List D}{i:Int}{d:D} (hm:μ[n]?=some (.lst xs)) (h:atI xs i=some d):c9 (.obj n) (.int i) μ=.ok d μ:=by unfold c9;simp [hm,h]
theorem lD {n j:Nat}{xs:List D}{i:Int}{d:D} (hm:μ[n]?=some (.lst xs)) (h:vV xs.length i=some j):uY (.obj n) (.int i) d μ=.ok () (μ.set n (.lst (xs.set j d))):=by unfold uY;simp [hm,h]
theorem fB {n:Nat}{xs:List D} (hm:μ[n]?=some (.lst xs)):xf (.obj n) μ=.ok (.own n xs) μ:=by unfold xf;simp [hm]
theorem fC {j:Int} (h0:0<=j) (h:j<1000):h7 [.int j] μ=.ok (.fix (bh 0 j.toNat)) μ:=by
 unfold h7;dsimp only;rw [Js];omega
theorem ji {i j:Int} (h0:0<=i) (h1:i<1000) (h2:-1000<=j) (h:j<1000):km [.int i,.int j] μ=.ok (.fix (bh i (j - i).toNat)) μ:=by
 unfold km;dsimp only;rw [Js];omega
theorem wc {α:Type}{x:α}{r:List α}:atI (x::r) 0=some x:=by unfold atI vV;simp
theorem y9 {α:Type}{x y:α}{r:List α}:atI (x::y::r) 1=some y:=sr (j:=1) rfl
theorem DM {α:Type}{x y z:α}{r:List α}:atI (x::y::z::r) 2=some z:=sr (j:=2) rfl
@[simp] theorem cL {x:D}{r:List D}:c9 (.tup (x::r)) (.int 0) μ=.ok x μ:=rQ wc
@[simp] theorem j7 {x y:D}{r:List D}:c9 (.tup (x::y::r)) (.int 1) μ=.ok y μ:=rQ y9
theorem oN {α:Type}{xs:List α}{i:Int}{x:α} (h0:0<=i) (h:xs[i.toNat]?=some x):atI xs i=some x:=by
 have:=sr h
 rwa [show ((i.toNat:Nat):Int)=i by omega] at this
theorem my {n:Nat}{i:Int} (h0:0<=i) (h:i<n):vV n i=some i.toNat:=by unfold vV;simp [h0,h]
end
section
variable {μ g:aB}{d:D}
@[simp] theorem CP {n:Nat}{i:Int}:(D.int i).low n=True:=by simp [D.low]
@[simp] theorem IM {n:Nat}{i:Bool}:(D.bl i).low n=True:=by simp [D.low]
@[simp] theorem HS {n:Nat}:D.non.low n=True:=by simp [D.low]
@[simp] theorem HR {n:Nat}{x:Str}:(D.str x).low n=True:=by simp [D.low]
@[simp] theorem CN {n:Nat}{xs:List D}:(D.tup xs).low n=D.lows n xs:=by simp [D.low]
@[simp] theorem CO {n m:Nat}:(D.obj m).low n=(m<n):=by simp [D.low]
@[simp] theorem HF {n:Nat}:D.lows n []=True:=by simp [D.lows]
@[simp] theorem Gk {n:Nat}{x:D}{xs:List D}:D.lows n (x::xs)=(x.low n/\D.lows n xs):=by simp [D.lows]
theorem ip {n:Nat}:∀ {xs:List D},D.lows n xs↔∀ x∈xs,x.low n
 | []=>by simp
 | x::xs=>by simp [ip (xs:=xs)]
theorem iR (hd:d.low μ.length):og μ (.ok d (μ++g))=.ok d μ:=by
 unfold og
 dsimp only
 rw [Js]
 ·simp
 ·refine ⟨hd, by simp, fun i o hi h => .inl ?_⟩
  rw [Kl hi] at h
  exact h
theorem cn (hd:d.low μ.length):og μ (.ok d μ)=.ok d μ:=by
 have:=iR (μ:=μ) (g:=[]) hd
 simpa using this
theorem vb {i:Nat}{o:O} (hd:d.low μ.length) (ho:o.low μ.length):og μ (.ok d (μ.set i o++g))=.ok d (μ.set i o):=by
 unfold og
 dsimp only
 rw [Js]
 ·congr 1
  rw [List.take_append_of_le_length (by simp)]
  exact Lo (by simp)
 ·refine ⟨hd, by simp, fun j o' hj h => ?_⟩
  rw [Kl (by simpa using hj)] at h
  by_cases hij:i=j
  ·subst hij
   rw [JM hj] at h
   cases h
   exact .inr ho
  ·rw [JN hij] at h
   exact .inl h
theorem wM {i:Nat}{o:O} (hd:d.low μ.length) (ho:o.low μ.length):og μ (.ok d (μ.set i o))=.ok d (μ.set i o):=by
 have:=vb (μ:=μ) (g:=[]) (i:=i) hd ho
 simpa using this
theorem v9 {μ':aB} (h:¬ d.low μ.length):og μ (.ok d μ')=.ok d μ':=by
 unfold og
 dsimp only
 rw [Jt fun z=>h z.1]
theorem FY {μ':aB}:og μ (.ok d μ')=.ok d μ'\/(og μ (.ok d μ')=.ok d (μ'.take μ.length)/\d.low μ.length):=by
 unfold og
 dsimp only
 by_cases h:D0 μ μ' d
 ·rw [Js h];exact .inr ⟨rfl,h.1⟩
 ·rw [Jt h];exact .inl rfl
end
theorem oQ {μ1 g:aB}{a b:O}:(μ1++a::g).set μ1.length b=μ1++b::g:=by
 rw [List.set_append_right _ _ (J3 _),Nat.sub_self];rfl
theorem aw {μ1 g:aB}{a:O}:(μ1++a::g)[μ1.length]?=some a:=by
 rw [Kj (J3 _),Nat.sub_self];rfl
theorem mI {μ1 g:aB}{ys:List D}{y:D} (h:ys.length<sizeLine):tu μ1.length y (μ1++.lst ys::g)=.ok () (μ1++.lst (ys++[y])::g):=by
 unfold tu
 rw [aw]
 dsimp only
 rw [Js h,oQ]
theorem de {src:rj}{g:MG}{t:MT}{e:ME}{μ1:aB}{q:D->Bool}{h:D->D} (R:Ro->Prop) (ho:∀ a,d3 src (μ1++[.lst a])) :
  ∀ {xs acc:List D}{ρ:Ro},R ρ->acc.length+xs.length<=sizeLine->(∀ x∈xs,∀ a ρ,R ρ->∃ ρ1,R ρ1/\g x ρ (μ1++[.lst a])=.ok ρ1 (μ1++[.lst a])/\t ρ1 (μ1++[.lst a])=.ok (q x) (μ1++[.lst a])/\(q x=true->e ρ1 (μ1++[.lst a])=.ok (h x) (μ1++[.lst a]))) ->
   compLoop src μ1.length g t e xs ρ (μ1++[.lst acc])=.ok (.obj μ1.length) (μ1++[.lst (acc++(xs.filter q).map h)])
 | [],acc,ρ,hr,hl,he=>by
  unfold compLoop
  rw [Js (ho acc)]
  simp
 | x::xs,acc,ρ,hr,hl,he=>by
  obtain ⟨ρ1,r1,e1,e2,e3⟩:=he x JE acc ρ hr
  unfold compLoop
  rw [Js (ho acc),e1]
  simp only [af,aa]
  rw [e2]
  simp only [af,aa]
  have he':=fun y hy=>he y (JF _ hy)
  simp only [K5] at hl
  cases hq:q x with
  | false=>
   rw [Jt JX,de R ho r1 (by omega) he',MU,hq]
   rfl
  | true=>
   rw [Js rfl,e3 hq]
   simp only [af,aa]
   rw [mI (by omega)]
   simp only [aa]
   rw [de R ho r1 (by simp;omega) he',MU,hq]
   simp
theorem i5 {src:rj}{g:MG}{t:MT}{e:ME}{n:Nat} (J:List D->List D->Ro->aB->aB->Prop)
  (fin:∀ ys ρ μ1 s,J [] ys ρ μ1 s->μ1.length=n/\d3 src (μ1++.lst ys::s))
  (step : ∀ x r ys ρ μ1 s, J (x :: r) ys ρ μ1 s -> μ1.length = n /\ d3 src (μ1 ++ .lst ys :: s) /\ ∃ ρ1 μa sa b μb sb, g x ρ (μ1 ++ .lst ys :: s) = .ok ρ1 (μa ++ .lst ys :: sa) /\ t ρ1 (μa ++ .lst ys :: sa) = .ok b (μb ++ .lst ys :: sb) /\
   (b=true->∃ y μc sc,e ρ1 (μb++.lst ys::sb)=.ok y (μc++.lst ys::sc)/\ys.length<sizeLine/\μc.length=n/\J r (ys++[y]) ρ1 μc sc)/\(b=false->J r ys ρ1 μb sb)) :
  ∀ {xs ys:List D}{ρ:Ro}{μ1 s:aB},J xs ys ρ μ1 s->∃ ys' ρ' μ1' s',J [] ys' ρ' μ1' s'/\compLoop src n g t e xs ρ (μ1++.lst ys::s)=.ok (.obj n) (μ1'++.lst ys'::s')
 | [],ys,ρ,μ1,s,hJ=>by
  refine ⟨ys,ρ,μ1,s,hJ,?_⟩
  unfold compLoop
  rw [Js (fin ys ρ μ1 s hJ).2]
 | x::xs,ys,ρ,μ1,s,hJ=>by
  obtain ⟨hn,ho,ρ1,μa,sa,b,μb,sb,e1,e2,e3,e4⟩:=step x xs ys ρ μ1 s hJ
  unfold compLoop
  rw [Js ho,e1]
  simp only [af,aa]
  rw [e2]
  simp only [af,aa]
  cases b with
  | false=>
   rw [Jt JX]
   exact i5 J fin step (e4 rfl)
  | true=>
   obtain ⟨y,μc,sc,f1,f2,f3,f4⟩:=e3 rfl
   rw [Js rfl,f1]
   simp only [af,aa]
   subst f3
   rw [mI f2]
   simp only [aa]
   exact i5 J fin step f4
theorem gn {src:rj}{g:MG}{fb:MS} (J:List D->Ro->aB->Prop) (fin:∀ ρ μ,J [] ρ μ->d3 src μ)
  (step:∀ x r ρ μ,J (x::r) ρ μ->d3 src μ/\∃ ρ1 μ1 ρ2 μ2,g x ρ μ=.ok ρ1 μ1/\fb ρ1 μ1=.next ρ2 μ2/\J r ρ2 μ2) :
  ∀ {xs:List D}{ρ:Ro}{μ:aB},J xs ρ μ->∃ ρ' μ',J [] ρ' μ'/\ko src g fb xs ρ μ=.next ρ' μ'
 | [],ρ,μ,h=>⟨ρ,μ,h,by unfold ko;rw [Js (fin ρ μ h)]⟩
 | x::xs,ρ,μ,h=>by
  obtain ⟨ho,ρ1,μ1,ρ2,μ2,e1,e2,h2⟩:=step x xs ρ μ h
  obtain ⟨ρ',μ',h3,e3⟩:=gn J fin step h2
  refine ⟨ρ',μ',h3,?_⟩
  unfold ko
  rw [Js ho,e1]
  simp only [ae]
  rw [e2]
  exact e3
end L2
namespace L2
open PySem PySem.Spec PyProof.Rows RS
theorem Hy {P:Program}{w:World}{K:W.Frag}{mg:Str->Option Value}{base:Heap}{p:Pa}{k n:Nat}{x qual:Str}{st:Stmt}{f:Addr}{fd:FuncData}{N ps:List Str}{fb:MS}
  (F:iz K x qual st f fd) (S:aS N ps (au st)) (hn:ps.length=n)
  (body : ∀ (cdv : Value) (A : Around) (outer : List Env) (s : Shared) (H : Hp) (E : XK), fm k (A.deeper (envOfC qual (au st) s.heap.objs.size f cdv)) ->
   Bx (iO (oi uW P w K mg base N qual (au st) f cdv A outer s H E).nox (bY st) (gI p fb))):om P w K mg base uW (k+1) f fd ps (AZ p n (iN n N.length fb)):=by
 refine F.ok S (fun vs H Q E h=>h.1.trans hn.symm) fun cdv A outer s H vs Q E hr h=>?_
 refine ⟨_,(body cdv A outer s H E hr).h,?_⟩
 obtain ⟨hl,α,ds,μ,S1,R1,P1⟩:=h
 unfold iN at P1
 have hd:ds.length=n:=by rw [<- R1.length];exact hl
 rw [Js hd] at P1
 have P2:=nZ S1 P1
 unfold start
 rw [hl]
 refine ⟨α,_,μ,S1,jo R1 _,?_⟩
 cases e:fb (ds.map some++List.replicate (N.length - n) none) μ with
 | ret d μ'=>rw [e] at P2;exact fun H' α' v x s r=>P2 H' α' x s v r
 | next ρ μ'=>rw [e] at P2;exact fun H' α' σ' x s r=>P2 H' α' x s .non (bJ.mpr rfl)
 | exc x μ'=>rw [e] at P2;exact P2
 | brk ρ μ'=>rw [e] at P2;exact P2.elim
 | cnt ρ μ'=>rw [e] at P2;exact P2.elim
 | bad=>rw [e] at P2;exact P2.elim
theorem qD {K:W.Frag}{H:Hp}{α:List Addr}:∀ ns:List Int,Reps K H α (ns.map D.int) (ns.map V.int)
 | []=>by simp only [KL,Reps]
 | n::ns=>by
  simp only [KM,Reps]
  exact ⟨_,_,rfl,ar.mpr rfl,qD ns⟩
theorem AA {K:W.Frag}{w:World}{F:List D->aB->ai D}{H:Hp}{a:Addr}{ns:List Int}{E:XK} (hF:∃ μ',F [.frz (ns.map D.int)] []=.ok (.bl true) μ') (hO:Bl H) (hS:hX K H a (ns.map V.int)) :
  AZ (fW K w) 1 F [.ref a] H (fun v _=>v=.bl true) E:=by
 obtain ⟨μ',e⟩:=hF
 have fz:Dn K H a (ns.map V.int):=by
  rcases hS with (h | h) | h
  ·rcases hO a with z | ⟨o, xs, z⟩
   ·rw [h] at z;cases z
   ·rw [h] at z;cases z
  ·exact .inl h
  ·exact .inr h
 refine ⟨rfl,[],[.frz (ns.map D.int)],[],⟨rfl,LI,fun n o a h=>by simp at h⟩,?_,?_⟩
 ·simp only [Reps]
  exact ⟨_,_,rfl,bu.mpr ⟨a,_,rfl,fz,qD ns⟩,rfl⟩
 ·rw [e]
  exact fun H' α' x s v r=>aX.mp r
end L2
namespace L2
open PySem PySem.Spec PyProof.Rows RS
section
variable {X:Cx}{p:Pa}
def u9 (K:W.Frag):List V->Hp->VK->Prop:=fun xs H Q=>∃ a d,xs=[.ref a]/\k9 K H d (.ref a)/\d.showable=true/\d.hasDict=false/\d.depth<=60/\d.shown.length<=sizeLine/\Q (.str d.shown) H
theorem vQ (hu:X.A.units+64<cLine) (hg:X.A.guards=some []):cI X (.builtin "repr") (u9 X.K):=by
 intro pins s σ H xs us Q I r h
 obtain ⟨a,d,rfl,h1,hs,hd,hdp,hz,q⟩:=h
 obtain ⟨u,rfl,ru⟩:=gC r
 cases ru
 obtain ⟨as,r1⟩:=dw I d (.ref a) (.ref a) h1 rfl
 exact PySem.repr_of_reads' (h₀:=s.heap) r1 hs (by rw [hd];nofun) hg (by omega) (fun _ _ e=>e) (fun h' u tk hk=>⟨.str _,H,I.kept hk,⟨u,rfl⟩,q⟩) hz
def va:D->Bool
 | .tup _=>true
 | .frz _=>true
 | .obj _=>true
 | _=>false
def rN (q:PyData):Bool:=q.showable && !q.hasDict && decide (q.depth<=60) && decide (q.shown.length<=sizeLine)
def oA (ds:List D) (μ:aB):ai D:=match ds with
 | [d]=>match mX μ d with
  | some q=>if va d=true/\rN q=true then .ok (.str q.shown) μ else .bad
  | none=>.bad
 | _=>.bad
theorem vC {K:W.Frag}{H:Hp}{α:List Addr}{d:D}{v:V} (h:va d=true) (r:aM K H α d v):∃ a,v=.ref a:=by
 cases d with
 | tup xs=>obtain ⟨a,us,rfl,_⟩:=aK.mp r;exact ⟨a,rfl⟩
 | frz xs=>obtain ⟨a,us,rfl,_⟩:=bu.mp r;exact ⟨a,rfl⟩
 | obj n=>obtain ⟨a,rfl,_⟩:=aQ.mp r;exact ⟨a,rfl⟩
 | _=>cases h
theorem Cy:uV p oA (u9 p.K):=by
 intro ds vs H α μ Q S r P
 unfold oA at P
 split at P
 ·rename_i d
  split at P
  ·rename_i q hq
   split at P
   ·rename_i hf
    obtain ⟨v,rfl,r1⟩:=r.one
    obtain ⟨a,rfl⟩:=vC hf.1 r1
    have h2:=hf.2
    unfold rN at h2
    simp only [KH,Bool.not_eq_true',ML] at h2
    exact ⟨a,q,rfl,jJ S hq r1,h2.1.1.1,h2.1.1.2,h2.1.2,h2.2,P.now S _ (bA.mpr rfl)⟩
   ·exact P.elim
  ·exact P.elim
 ·exact P.elim
theorem qc:seqSlot? (.type "list") (dunderI "add")=pure (some (.builtin "list.__iadd__")):=PySem.seqSlot_of MV.lookup (by decide +kernel)
theorem k6 {M:Model}{A:Around}{E:Value->Shared->Prop}{s:Shared}{a b:Value}{Q:Value->Shared->Prop} (ha:s.TypeIs a "list") (hb:s.TypeIs b "list")
  (hc:wpAny M A (call (.builtin "list.__iadd__") [a,b]) Q E s):wpAny M A (inplaceOp .Add a b) Q E s:=by
 unfold inplaceOp
 refine JU ?_
 have hfi:fillsInplaceSlot (.type "list") "add" (Operator.Add == .Add)=pure false:=by
  unfold fillsInplaceSlot
  show (typeLookup (.type "list") (dunderI "add") >>= fun fi=>pure (fi.isSome && !isSeqSlot fi))=pure false
  rw [MV.lookup]
  rfl
 refine JT (KG ha (JT (L6 hfi ?_)))
 show wpAny M A (if false=true then _ else _) Q E s
 rw [Jt JX]
 refine JT (wpAny_binaryOp1_none (nm:="add") ha hb noFill_list_add ?_)
 refine JT (L6 qc ?_)
 exact JT (Ld hc)
def Dz:Gn:=fun x y H Q=>(∃ i j,x=.int i/\y=.int j/\Q (.int (i+j)) H) \/
 ∃ l b xs zs,x=.ref l/\y=.ref b/\H l=some (.lst xs)/\H b=some (.lst zs)/\xs.length+zs.length<=sizeLine/\Q (.ref l) (cK H l (.lst (xs++zs)))
theorem CW:HN X .Add Dz:=by
 intro pins s σ H x y v u Q I r1 r2 h
 rcases h with h | h
 ·exact FU pins s σ H x y v u Q I r1 r2 h
 ·obtain ⟨l, b, xs, zs, rfl, rfl, hH, hB, hz, q⟩ := h
  cases r1
  cases r2
  obtain ⟨z,its,n,r,hl,e⟩:=I.lstM hH
  obtain ⟨z2,its2,n2,r2,hl2,e2⟩:=I.lstM hB
  have hsz:its.toArray.size+its2.toArray.size<=sizeLine:=by rw [Ka,Ka];omega
  have hlong:¬ (!its.toArray.isEmpty && Builtin.List.listTooLong (its.toArray.size+its2.toArray.size))=true:=by
   rw [t6 hsz,Bool.and_false]
   exact JX
  refine k6 ⟨_,e,rfl⟩ ⟨_,e2,rfl⟩ ?_
  refine KW MV ⟨_,e,rfl⟩ F.entry_list_iadd (F.args_list_iadd_2 _ _)
   (AutoSeq1.list___iadd___list_list_0 l its.toArray n b its2.toArray n2 hlong (by rw [Ka];omega) (by omega)) ⟨e,e2,?_⟩
  refine ⟨.ref l,_,I.lset (its':=its++its2) hH e (by simp) (r.append r2) ?_,rfl,q⟩
  rw [Kq]
  omega
def lu (a b:D) (μ:aB):ai D:=match a,b with
 | .int i,.int j=>.ok (.int (i+j)) μ
 | .obj m,.obj n=>match μ[m]?,μ[n]? with
  | some (.lst xs),some (.lst ys)=>if xs.length+ys.length<=sizeLine then .ok (.obj m) (μ.set m (.lst (xs++ys))) else .bad
  | _,_=>.bad
 | _,_=>.bad
theorem CG:pX p lu Dz:=by
 intro a b v y H α μ Q S ra rb P
 unfold lu at P
 split at P
 ·rename_i i j
  obtain rfl:=ar.mp ra
  obtain rfl:=ar.mp rb
  exact .inl ⟨i,j,rfl,rfl,P.now S _ (ar.mpr rfl)⟩
 ·rename_i m n
  split at P
  ·rename_i xs ys hx hy
   split at P
   ·rename_i hb
    obtain ⟨a,us,rfl,a1,h1,rr⟩:=cV S ra hx
    obtain ⟨a',us',rfl,a1',h1',rr'⟩:=cV S rb hy
    have q:=rr.append rr'
    exact .inr ⟨a,a',us,us',rfl,rfl,h1,h1',by rw [rr.length,rr'.length];exact hb,P _ _ (iE h1) (S.put hx a1 h1 q) _ (aQ.mpr ⟨a,rfl,a1⟩)⟩
   ·exact P.elim
  ·exact P.elim
 ·exact P.elim
theorem yJ {e:Expr}{f:ME}{pos pos':Pos} (i:Nat) {x:Str} (hN:X.N.Nodup) (he:Bx (PE X e (tD p f))) (hi:X.N[i]?=some x:=by rfl) (hx:xa X.env.scope x:=by first | exact Or.inl rfl | exact Or.inr rfl) (hf:X.fn x=true\/X.env.scope.names.lookup x=some .local:=by first | exact .inl rfl | exact .inr rfl) :
  Bx (PS X (.AugAssign (.Name x pos') .Add e pos) (gI p (rp i lu f))):=⟨Et hN hi hx he.h CW CG hf⟩
def sV (neg:Bool) (a b:D) (μ:aB):ai D:=match a,b with
 | .str x,.str y=>.ok (.bl (if neg then !decide (x=y) else decide (x=y))) μ
 | _,_=>.bad
theorem BB {x y:Str}:decide (V.str x=V.str y)=decide (x=y):=by
 by_cases e:x=y
 ·subst e;simp
 ·rw [Jq e, Jq]
  intro z;cases z;exact e rfl
theorem Fy:pX p (sV true) HW:=by
 intro a b v y H α μ Q S ra rb P
 unfold sV at P
 split at P
 ·rename_i x z
  obtain rfl:=bA.mp ra
  obtain rfl:=bA.mp rb
  exact ⟨rfl,by rw [BB];exact P.now S _ (aX.mpr rfl)⟩
 ·exact P.elim
theorem yU:oq X p .NotEq (sV true):=⟨HW,Hn,Fy⟩
end
end L2
namespace L2
open PySem PySem.W PyProof.Rows RS
section
variable {prog:Program}{w:World}{A:Around}{E:Value->Shared->Prop}
end
section
variable {X:Cx}
def zk (K:W.Frag):List V->Hp->VK->Prop:=fun xs H Q=>u9 K xs H Q\/(xs=[.non]/\Q (.str "None") H)\/∃ a:Int,xs=[.int a]/\a.natAbs.log2<1920/\Q (.str (toString a)) H
theorem vR (hu:X.A.units+64<cLine) (hg:X.A.guards=some []):cI X (.builtin "repr") (zk X.K):=by
 intro pins s σ H xs us Q I r h
 rcases h with h | ⟨rfl,q⟩ | ⟨a,rfl,ha,q⟩
 ·exact vQ hu hg pins s σ H xs us Q I r h
 ·obtain ⟨u, rfl, ru⟩ := gC r
  cases ru
  exact PySem.P.repr_of_none ⟨.str _,H,I.kept (fun _ _ e=>e),⟨_,rfl⟩,q⟩
 ·obtain ⟨u, rfl, t, rfl⟩ := gC r
  exact PySem.P.repr_of_int ha ⟨.str _,H,I.kept (fun _ _ e=>e),⟨_,rfl⟩,q⟩
def cX (ds:List D) (μ:aB):ai D:=match ds with
 | [.non]=>.ok (.str "None") μ
 | [.int a]=>if a.natAbs.log2<1920 then .ok (.str (toString a)) μ else .bad
 | ds=>oA ds μ
theorem Ar {p:Pa}:uV p cX (zk p.K):=by
 intro ds vs H α μ Q S r P
 unfold cX at P
 split at P
 ·obtain ⟨v, rfl, r1⟩ := r.one
  rw [bJ.mp r1]
  exact .inr (.inl ⟨rfl,P.now S _ (bA.mpr rfl)⟩)
 ·obtain ⟨v, rfl, r1⟩ := r.one
  rw [ar.mp r1]
  split at P
  ·rename_i ha
   exact .inr (.inr ⟨_,rfl,ha,P.now S _ (bA.mpr rfl)⟩)
  ·exact P.elim
 ·exact .inl (Cy _ vs H α μ Q S r P)
theorem gu {p:Pa}{k:Nat} (hr:fm k X.A) (hK:X.K=p.K:=by rfl):rG X p "repr" cX:=⟨_,_,.inl ⟨_,rfl⟩,by decide +kernel,vR hr.units hr.gd,hK ▸ Ar,by decide,by decide⟩
end
theorem Ja {α:Type}{P:List α->Prop} (h:∀ a,P [a]):∀ us:List α,us.length=1->P us
 | [a],_=>h a
theorem I0 {α:Type}{P:List α->Prop} (h:∀ a b,P [a,b]):∀ us:List α,us.length=2->P us
 | [a,b],_=>h a b
theorem IZ {α:Type}{P:List α->Prop} (h:∀ a b c,P [a,b,c]):∀ us:List α,us.length=3->P us
 | [a,b,c],_=>h a b c
theorem iz.b1 {K:W.Frag}{x qual:Str}{st:Stmt}{f:Addr}{fd:FuncData}{ps:List Str} (F:iz K x qual st f fd) (hl:ps.length=1) (h:∀ (kV doc pm:Value) (an:Option Addr) (cdv ct a:Value),bindArgs (W.fnOf x qual (dO st) (bY st) (au st) .none kV doc pm an cdv ct) ⟨[a],[]⟩=pure (ps.zip [a])):gF K fd ps []:=
 F.binds fun kV doc pm an cdv ct us e=>Ja (P:=fun us=>bindArgs (W.fnOf x qual (dO st) (bY st) (au st) .none kV doc pm an cdv ct) ⟨us,[]⟩=pure (ps.zip us)) (fun a=>h kV doc pm an cdv ct a) us (e.trans hl)
theorem iz.b2 {K:W.Frag}{x qual:Str}{st:Stmt}{f:Addr}{fd:FuncData}{ps:List Str} (F:iz K x qual st f fd) (hl:ps.length=2) (h:∀ (kV doc pm:Value) (an:Option Addr) (cdv ct a b:Value),bindArgs (W.fnOf x qual (dO st) (bY st) (au st) .none kV doc pm an cdv ct) ⟨[a,b],[]⟩=pure (ps.zip [a,b])):gF K fd ps []:=
 F.binds fun kV doc pm an cdv ct us e=>I0 (P:=fun us=>bindArgs (W.fnOf x qual (dO st) (bY st) (au st) .none kV doc pm an cdv ct) ⟨us,[]⟩=pure (ps.zip us)) (fun a b=>h kV doc pm an cdv ct a b) us (e.trans hl)
theorem iz.b3 {K:W.Frag}{x qual:Str}{st:Stmt}{f:Addr}{fd:FuncData}{ps:List Str} (F:iz K x qual st f fd) (hl:ps.length=3) (h:∀ (kV doc pm:Value) (an:Option Addr) (cdv ct a b c:Value),bindArgs (W.fnOf x qual (dO st) (bY st) (au st) .none kV doc pm an cdv ct) ⟨[a,b,c],[]⟩=pure (ps.zip [a,b,c])):gF K fd ps []:=
 F.binds fun kV doc pm an cdv ct us e=>IZ (P:=fun us=>bindArgs (W.fnOf x qual (dO st) (bY st) (au st) .none kV doc pm an cdv ct) ⟨us,[]⟩=pure (ps.zip us)) (fun a b c=>h kV doc pm an cdv ct a b c) us (e.trans hl)
end L2
namespace L2
open PySem PySem.Spec PyProof.Rows RS
section
variable {X:Cx}{d:Nat}{acc:Addr}
variable {e:Expr}{cl0:Comprehension}{rest:List Comprehension}{scope:Scope}{Nc:List Str}{cap:List (Option Nat)}{wi:TI}{g:TG}{tt:TT}{tb:Addr->DV}{elt:Expr}{pos:Pos}
end
section
variable {K:W.Frag}{w:World}{H:Hp}{α:List Addr}{μ:aB}
end
section
variable {p:Pa}
variable {X:Cx}{elt tg iter:Expr}{ifs:List Expr}{rest:List Comprehension}{scope:Scope}{Nc:List Str}{cap:List (Option Nat)}{fi:MI}{g:MG}{tt:MT}{te:ME}{mb:MB}{pos:Pos}{d:Nat}{acc:Addr}
end
section
variable {p:Pa}{X:Cx}{e:Expr}{fr:MA}{pos:Pos}
end
end L2
namespace L2
open PySem PySem.Spec PyProof.Rows RS
abbrev A6 (K:W.Frag) (w:World) (E:XK):Pa:=⟨K,w,fun x _ H _=>∃ C,W.nsIn K mainGlobals x.cls=some (some (.ref C))/\∀ ea,H ea=none->E (.ref C) (some ea) H⟩
def HV (K:W.Frag) (w:World) (n:Nat) (F:List D->aB->ai D):Sp:=fun vs H Q E=>vs.length=n/\∃ α ds μ,gK K w H α μ/\Reps K H α ds vs/\aF (A6 K w E) H α (F ds μ) (RV (A6 K w E) Q)
structure jD (P:Program) (w:World) (K:W.Frag) (mg:Str->Option Value) (base:Heap) (k:Nat) (x:Str) (n:Nat) (F:List D->aB->ai D):Prop where
 len:∀ ds μ,ds.length≠n->F ds μ=.bad
 fn:∃ f fd ps,mg x=some (.ref f)/\W.keepIn K (.ref f)=true/\gF K fd ps []/\om P w K mg base (Gj P w) k f fd ps (HV K w n F)
theorem rH {P:Program}{w:World}{K:W.Frag}{mg:Str->Option Value}{base:Heap}{k n:Nat}{x qual:Str}{st:Stmt}{f:Addr}{fd:FuncData}{N ps:List Str}{fb:MS}
  (F:iz K x qual st f fd) (S:aS N ps (au st)) (hn:ps.length=n) (hm:mg x=some (.ref f)) (hb:gF K fd ps [])
  (body : ∀ (cdv : Value) (A : Around) (outer : List Env) (s : Shared) (H : Hp) (E : XK), fm k (A.deeper (envOfC qual (au st) s.heap.objs.size f cdv)) ->
   Bx (iO (A0 P w K mg base N qual (au st) f cdv A outer s H E) (bY st) (gI (A6 K w E) fb))):jD P w K mg base (k+1) x n (iN n N.length fb):=by
 refine ⟨fun ds μ h=>by unfold iN;rw [Jt h],f,fd,ps,hm,F.kp,hb,?_⟩
 obtain ⟨oc,od,kV,doc,pm,an,cdv,ct,osl,rfl,lk,hcd⟩:=F.ex
 refine DG lk hcd S (fun vs H Q E h=>h.1.trans hn.symm) fun A outer s H vs Q E hr h=>?_
 refine ⟨_,(body cdv A outer s H E hr).h,?_⟩
 obtain ⟨hl,α,ds,μ,S1,R1,P1⟩:=h
 unfold iN at P1
 have hd:ds.length=n:=by rw [<- R1.length];exact hl
 rw [Js hd] at P1
 have P2:=nZ S1 P1
 unfold start
 rw [hl]
 refine ⟨α,_,μ,S1,jo R1 _,?_⟩
 cases e:fb (ds.map some++List.replicate (N.length - n) none) μ with
 | ret d μ'=>rw [e] at P2;exact fun H' α' v x s r=>P2 H' α' x s v r
 | next ρ μ'=>rw [e] at P2;exact fun H' α' σ' x s r=>P2 H' α' x s .non (bJ.mpr rfl)
 | exc x μ'=>rw [e] at P2;exact P2
 | brk ρ μ'=>rw [e] at P2;exact P2.elim
 | cnt ρ μ'=>rw [e] at P2;exact P2.elim
 | bad=>rw [e] at P2;exact P2.elim
section
variable {X:Cx}{E:XK}{k n:Nat}{x:Str}{F:List D->aB->ai D}{a:Expr}{es:List Expr}{fr:MA}{pos px:Pos}
theorem j3 (h:jD X.prog X.w X.K X.mg X.base k x n F) (hp:jg (Gj X.prog X.w) X E) (hr:fm k X.A) (ha:Bx (PA X (a::es) (k8 (A6 X.K X.w E) fr))) (hg:Gl X x:=by rfl) (hdb:(x == ("__debug__" : Str))=false:=by decide)
  (he:starEach (a::es) X.env=(false,eval a X.env)::starEach es X.env:=by rfl) (hpl:(backTo pos (starEach es X.env)).any (·.1)=false:=by rfl):Bx (PE X (.Call (.Name x px) (a::es) [] pos) (tD (A6 X.K X.w E) (aC F fr))):=Bx.mk (by
 obtain ⟨f,fd,ps,h1,h2,h3,h4⟩:=h.fn
 refine (nW (dvs:=[]) (E:=E) h4 hr hg h1 h2 h3 .nil hp ha.h hdb he hpl).weak fun σ H Q ⟨α,ρ,μ,S,R,P⟩=>⟨α,ρ,μ,S,R,(aF.bind P).imp fun ds μ1 H1 α1 X1 S1 P1 vs rv=>?_⟩
 show HV X.K X.w n F (vs++[]) H1 Q E
 rw [Kb]
 refine ⟨?_,α1,ds,μ1,S1,rv,P1⟩
 by_cases hl:ds.length=n
 ·rw [rv.length];exact hl
 ·rw [h.len ds μ1 hl] at P1;exact P1.elim)
theorem ly {p:Pa} (h:gk X.prog X.w X.K X.mg X.base p.nx k x n F) (hr:fm k X.A) (ha:Bx (PA X (a::es) (k8 p fr))) (hg:Gl X x:=by rfl) (hdb:(x == ("__debug__" : Str))=false:=by decide)
  (he:starEach (a::es) X.env=(false,eval a X.env)::starEach es X.env:=by rfl) (hpl:(backTo pos (starEach es X.env)).any (·.1)=false:=by rfl):Bx (PE X (.Call (.Name x px) (a::es) [] pos) (tD p (aC (fun ds μ=>(F ds μ).nox) fr))):=Bx.mk (by
 obtain ⟨f,fd,ps,h1,h2,h3,h4⟩:=h.fn
 refine (nW (dvs:=[]) (E:=E0) h4 hr hg h1 h2 h3 .nil yQ ha.h hdb he hpl).weak fun σ H Q ⟨α,ρ,μ,S,R,P⟩=>⟨α,ρ,μ,S,R,(aF.bind P).imp fun ds μ1 H1 α1 X1 S1 P1 vs rv=>?_⟩
 show AZ p.nx n F (vs++[]) H1 Q E0
 rw [Kb]
 have P2:aF p.nx H1 α1 (F ds μ1) (RV p.nx Q):=by
  cases e:F ds μ1 with
  | ok d μ'=>rw [e] at P1;exact P1
  | exc y μ'=>rw [e] at P1;exact False.elim P1
  | bad=>rw [e] at P1;exact P1
 refine ⟨?_,α1,ds,μ1,S1,rv,P2⟩
 by_cases hl:ds.length=n
 ·rw [rv.length];exact hl
 ·rw [h.len ds μ1 hl] at P2;exact P2.elim)
end
def rL (c:Str):MS:=fun _ μ=>.exc ⟨c,[]⟩ μ
section
variable {P:Program}{w:World}{K:W.Frag}{mg:Str->Option Value}{base:Heap}{N:List Str}{qual:Str}{scope:Scope}{f:Addr}{cdv:Value}{A:Around}{outer:List Env}{s0:Shared}{H0:Hp}{E:XK}
theorem we {c:Str}{C:Addr}{np cpos pos:Pos} (hc:W.nsIn K mainGlobals c=some (some (.ref C))) (O:sY mg base c C) (hg:Gl (A0 P w K mg base N qual scope f cdv A outer s0 H0 E) c:=by rfl) (hd:(c == ("__debug__" : Str))=false:=by decide) :
  Bx (PS (A0 P w K mg base N qual scope f cdv A outer s0 H0 E) (.Raise (some (.Call (.Name c np) [] [] cpos)) none pos) (gI (A6 K w E) (rL c))):=Bx.mk (by
 refine (xF O hg hd).weak fun D σ H ⟨α,ρ,μ,S,R,P⟩=>?_
 obtain ⟨C',h1,h2⟩:=P H α ki.refl S
 rw [hc] at h1
 cases h1
 exact h2)
end
def SO.ro (o:SO):SO:=match o with
 | .ret d μ=>.ret d μ
 | _=>.bad
def Bg (known:List Str) (i N:Nat) (fb fh:MS):MS:=fun ρ μ=>match fb ρ μ with
 | .exc x μ'=>if known.contains x.cls=true then (fh ((List.replicate N none).set i (some (.obj μ'.length))) (μ'++[.exc x.cls])).ro else .bad
 | o=>o
def tH (K:W.Frag) (r:Str) (R:Addr) (known:List Str):Prop:=∀ c∈known,∃ C,W.nsIn K mainGlobals c=some (some (.ref C))/\W.exmOne K (.ref C) (.ref R)=some true
theorem dk.ro {p:Pa}{H:Hp}{α:List Addr}{o:SO}{D:ml} (h:dk p H α o.ro D):dk p H α o { nx:=fun _ _=>False,rt:=D.rt }:=by
 cases o with
 | ret d μ=>exact h
 | next ρ μ=>exact False.elim h
 | brk ρ μ=>exact False.elim h
 | cnt ρ μ=>exact False.elim h
 | exc x μ=>exact False.elim h
 | bad=>exact False.elim h
theorem GO {X:Cx}{xw:DX->aB->Hp->List Addr->Prop}{r n:Str}{R:Addr}{known:List Str}{i m:Nat}{np hpos pos:Pos}{body suite:List Stmt}{b0:Stmt}{fb fh:MS}
  (F:X.Fn) (hN:X.N.Nodup) (hk:tH X.K r R known) (hm:X.mg r=some (.ref R)) (hb:∀ pins E,Bx (iO (X.tri pins E) body (gI (A6 X.K X.w E) fb))) (hs:∀ ea,Bx (iO (X.hnd ea) (b0::suite) (gI ⟨X.K,X.w,xw⟩ fh)))
  (hl:X.N.length=m:=by rfl) (hi:X.N[i]?=some n:=by rfl) (hx:xa X.env.scope n:=by exact Or.inl rfl) (hlo:X.env.kindOf n=some .local:=by rfl) (hg:Gl X r:=by rfl) (hd:(r == ("__debug__" : Str))=false:=by decide) :
  Bx (PS X (.Try body [.ExceptHandler (some (.Name r np)) (some n) (b0::suite) hpos] [] [] pos) (gI ⟨X.K,X.w,xw⟩ (Bg known i m fb fh))):=Bx.mk (by
 refine (EU F hN hi hx hlo hg hm hd (fun pins E=>(hb pins E).h) fun ea=>(hs ea).h).weak fun D σ H ⟨α,ρ,μ,S,Rl,P⟩=>?_
 refine ⟨fun cls ea' H'=>∃ C ea,cls=.ref C/\ea'=some ea/\(W.exmOne X.K (.ref C) (.ref R)=some true/\∀ σ':St,σ'.length=X.N.length->gI ⟨X.K,X.w,xw⟩ fh { nx:=fun _ _=>False,rt:=D.rt } (σ'.set i (some (.ref ea))) (cK H' ea (tf ea C))),
  fun C ea H' h _=>?_,α,ρ,μ,S,Rl,?_⟩
 ·obtain ⟨C', ea', h1, h2, h3⟩ := h
  cases h1
  cases h2
  exact h3
 ·unfold Bg at P
  cases e:fb ρ μ with
  | ret d μ'=>rw [e] at P;exact P
  | next ρ' μ'=>rw [e] at P;exact P
  | brk ρ' μ'=>rw [e] at P;exact P
  | cnt ρ' μ'=>rw [e] at P;exact P
  | bad=>rw [e] at P;exact P
  | exc x μ'=>
   rw [e] at P
   dsimp only at P
   by_cases hc:known.contains x.cls=true
   ·rw [Js hc] at P
    obtain ⟨C,c1,c2⟩:=hk x.cls (List.contains_iff_mem.mp hc)
    intro H' α' X' S'
    refine ⟨C,c1,fun ea hea=>⟨C,ea,rfl,rfl,c2,fun σ' hσ=>?_⟩⟩
    have X3:ki X.K H H' α α':=X'
    have X2:ki X.K H' (cK H' ea (tf ea C)) α' (α'++[ea]):=(cq hea).trans (jS [ea])
    have S2:gK X.K X.w (cK H' ea (tf ea C)) (α'++[ea]) (μ'++[.exc x.cls]):=gK.more S' hea ⟨C,c1,cy⟩
    refine ⟨α'++[ea],_,_,S2,⟨by simp [hσ,hl],fun j d hj=>?_⟩,(dk.from (p:=⟨X.K,X.w,xw⟩) (X3.trans X2) P).ro⟩
    by_cases hji:j=i
    ·subst hji
     have hlt:j<(List.replicate m (none:Option L2.D)).length:=by
      have:=(JK.mp hi).1
      simp;omega
     rw [JM hlt] at hj
     cases hj
     refine ⟨.ref ea,by rw [JM (by rw [hσ];simpa [hl] using hlt)],aQ.mpr ⟨ea,rfl,?_⟩⟩
     have hla:α'.length=μ'.length:=S'.len
     rw [<- hla,Kj (J3 _)]
     simp
    ·rw [JN (JH hji), Kk] at hj
     split at hj <;> cases hj
   ·rw [Jt hc] at P
    exact False.elim P)
theorem rP {CX:sP}{P:Program}{w:World}{K:W.Frag}{mg:Str->Option Value}{base:Heap}{N:List Str}{qual:Str}{scope:Scope}{f:Addr}{cdv:Value}{A:Around}{outer:List Env}{s:Shared}{H:Hp}{E:XK}:(oi CX P w K mg base N qual scope f cdv A outer s H E).nox.Fn:=⟨rfl,rfl,rfl⟩
theorem qV {x:V}:∀ {xs:List V}{us:List Value},bb xs us->xs.all jH=true->us.countP (DU x)=xs.countP fun y=>vW y x
 | _,_,.nil,_=>rfl
 | y::xs,u::us,.cons r t,f=>by
  rw [List.all_cons,KH] at f
  rw [List.countP_cons,List.countP_cons,vd r f.1,qV t f.2]
def zo:V->List V->Hp->VK->Prop:=fun x vs H Q=>∃ l xs y,x=.ref l/\vs=[y]/\H l=some (.lst xs)/\jH y=true/\xs.all jH=true/\Q (.int (xs.countP fun z=>vW z y:Nat)) H
def zm:V->List V->Hp->VK->Prop:=fun x vs H Q=>∃ l xs y j,x=.ref l/\vs=[y]/\H l=some (.lst xs)/\jH y=true/\xs.all jH=true/\(∃ z,xs[j]?=some z/\vW z y=true)/\(∀ m z,m<j->xs[m]?=some z->vW z y=false)/\xs.length<1000/\Q (.int (j:Nat)) H
section
variable {X:Cx}
theorem Az:Gr X "list.count" zo:=by
 intro pins s σ H x vs v us Q I rx rv h
 obtain ⟨l,xs,y,rfl,rfl,hH,fy,fs,q⟩:=h
 cases rx
 obtain ⟨u,rfl,ru⟩:=rv.one
 obtain ⟨z,its,n,r,hl,e⟩:=I.lstM hH
 refine KW F.slot_list_count ⟨_,e,rfl⟩ F.entry_list_count (F.args_list_count_2 _ _) (SeqAt.list_countAt l its.toArray n none #[] u (DU y)) ⟨e,fun w hw=>oX ru fy r fs w (by simpa using hw),?_⟩
 refine ⟨.int (xs.countP fun z=>vW z y:Nat),H,I.tok _,⟨s.toks,?_⟩,q⟩
 rw [<- qV r fs]
theorem Ay:Gr X "list.index" zm:=by
 intro pins s σ H x vs v us Q I rx rv h
 obtain ⟨l,xs,y,j,rfl,rfl,hH,fy,fs,⟨z0,hz,ht⟩,hno,hsz,q⟩:=h
 cases rx
 obtain ⟨u,rfl,ru⟩:=rv.one
 obtain ⟨z,its,n,r,hl,e⟩:=I.lstM hH
 have hlt:j<xs.length:=(JK.mp hz).1
 have hb:∀ m w,its[m]?=some w->∃ z,xs[m]?=some z/\DU y w=vW z y:=fun m w hw=>by
  have hm:m<its.length:=(JK.mp hw).1
  have hm':m<xs.length:=by rw [r.length];exact hm
  obtain ⟨u',hu',ru'⟩:=r.get (My hm')
  rw [hw] at hu'
  cases hu'
  exact ⟨_,My hm',vd ru' (LM.mp fs _ (Mx hm'))⟩
 have hlen:=r.length
 refine KW F.slot_list_index ⟨_,e,rfl⟩ F.entry_list_index (F.args_list_index_2 _ _) (SeqAt.list_indexAt l its.toArray n none #[] u (DU y) j (by rw [Ka];omega) (by omega) ?_ ?_) ⟨e,fun w hw=>oX ru fy r fs w (by simpa using hw),?_⟩
 ·have hw : its[j]? = some its[j] := My (by omega)
  obtain ⟨z1,a1,a2⟩:=hb j _ hw
  rw [hz] at a1
  cases a1
  show DU y its.toArray[j]=true
  rw [MW,a2];exact ht
 ·intro m hm hmj
  have hm':m<its.length:=by rw [Ka] at hm;exact hm
  obtain ⟨z1,a1,a2⟩:=hb m _ (My hm')
  rw [MW,a2]
  exact hno m z1 hmj a1
 ·exact ⟨.int (j:Nat),H,I.tok _,⟨s.toks,rfl⟩,q⟩
end
def jF:List D->Bool
 | []=>true
 | .bl _::r=>jF r
 | _::_=>false
def mj:D->Bool
 | .bl b=>b
 | _=>false
theorem um {K:W.Frag}{H:Hp}{α:List Addr}{xs:List D}:∀ {vs:List V},Reps K H α xs vs->jF xs=true->vs=xs.map fun d=>V.bl (mj d):=by
 induction xs with
 | nil=>intro vs h _;simp only [Reps] at h;exact h
 | cons d r ih=>
  intro vs h q
  simp only [Reps] at h
  obtain ⟨v,r',rfl,h1,h2⟩:=h
  cases d with
  | bl b=>rw [aX.mp h1,ih h2 (by simpa only [jF] using q)];rfl
  | non=>simp only [jF] at q;cases q
  | int i=>simp only [jF] at q;cases q
  | str i=>simp only [jF] at q;cases q
  | tup i=>simp only [jF] at q;cases q
  | frz i=>simp only [jF] at q;cases q
  | obj i=>simp only [jF] at q;cases q
theorem pj:∀ xs:List D,(xs.map fun d=>V.bl (mj d)).all jH=true
 | []=>rfl
 | _::xs=>by rw [KM,List.all_cons,pj xs];rfl
def iG (d:D) (ds:List D) (μ:aB):ai D:=match d,ds with
 | .obj n,[.bl true]=>match μ[n]? with
  | some (.lst xs)=>if jF xs=true then .ok (.int (xs.countP mj:Nat)) μ else .bad
  | _=>.bad
 | _,_=>.bad
def iF (d:D) (ds:List D) (μ:aB):ai D:=match d,ds with
 | .obj n,[.bl true]=>match μ[n]? with
  | some (.lst xs)=>if jF xs=true/\xs.length<1000/\xs.any mj=true then .ok (.int (xs.findIdx mj:Nat)) μ else .bad
  | _=>.bad
 | _,_=>.bad
section
variable {p:Pa}
theorem xS:Gs p iG zo:=by
 intro d ds v vs H α μ Q S rd rs P
 unfold iG at P
 split at P
 ·split at P
  ·rename_i n xs hx
   split at P
   ·rename_i hb
    obtain ⟨a,us,rfl,a1,h1,rr⟩:=cV S rd hx
    have hv:=um rr hb
    simp only [Reps] at rs
    obtain ⟨y,r',rfl,h3,rfl⟩:=rs
    rw [aX.mp h3]
    refine ⟨a,us,.bl true,rfl,rfl,h1,rfl,by rw [hv];exact pj xs,?_⟩
    have z:=P.now S (.int (xs.countP mj:Nat)) (ar.mpr rfl)
    have e:(us.countP fun z=>vW z (.bl true))=xs.countP mj:=by
     rw [hv,List.countP_map]
     congr 1
     funext d
     cases h:mj d <;> simp [vW,h]
    rw [e];exact z
   ·exact P.elim
  ·exact P.elim
 ·exact P.elim
theorem xR:Gs p iF zm:=by
 intro d ds v vs H α μ Q S rd rs P
 unfold iF at P
 split at P
 ·split at P
  ·rename_i n xs hx
   split at P
   ·rename_i hb
    obtain ⟨hb,hlen,hany⟩:=hb
    obtain ⟨a,us,rfl,a1,h1,rr⟩:=cV S rd hx
    have hv:=um rr hb
    simp only [Reps] at rs
    obtain ⟨y,r',rfl,h3,rfl⟩:=rs
    rw [aX.mp h3]
    have hlt:xs.findIdx mj<xs.length:=MX (by simpa using hany)
    refine ⟨a,us,.bl true,xs.findIdx mj,rfl,rfl,h1,rfl,by rw [hv];exact pj xs,⟨.bl true,?_,rfl⟩,fun m z hm hz=>?_,by rw [hv,Kr];exact hlen,P.now S (.int (xs.findIdx mj:Nat)) (ar.mpr rfl)⟩
    ·rw [hv, Km, My hlt]
     have:=List.findIdx_getElem (w:=hlt)
     simp [this]
    ·rw [hv, Km, My (by omega : m < xs.length)] at hz
     cases hz
     have hf:=List.not_of_lt_findIdx hm
     show (mj _ == true)=false
     rw [beq_true]
     cases z:mj xs[m] with
     | false=>rfl
     | true=>rw [z] at hf;exact absurd hf (by decide)
   ·exact P.elim
  ·exact P.elim
 ·exact P.elim
end
def kN (subs known:List Str) (d:D) (μ:aB):ai D:=match d with
 | .obj n=>match μ[n]? with
  | some (.exc c)=>if known.contains c=true then .ok (.bl (subs.contains c)) μ else .bad
  | _=>.bad
 | _=>.bad
def bI (K:W.Frag) (u:Value) (subs known:List Str):Prop:=∀ c∈known,∃ C,W.nsIn K mainGlobals c=some (some (.ref C))/\W.excCls K C=true/\W.kitOne K (.ref C) u=some (subs.contains c)
theorem zu {p:Pa}{K:W.Frag}{u:Value}{v x:V}{subs known:List Str}{d:D}{H:Hp}{α:List Addr}{μ:aB}{Q:VK} (hK:K=p.K) (hk:bI K u subs known) (ru:bL v u) (S:p.S H α μ) (r:p.R H α d x) (P:aF p H α (kN subs known d μ) (RV p Q)):GE K u [x,v] H Q:=by
 subst hK
 unfold kN at P
 split at P
 ·split at P
  ·rename_i n c hx
   split at P
   ·rename_i hc
    obtain ⟨a,ea,C,h1,h2⟩:=S.at hx
    obtain ⟨a',rfl,ea'⟩:=aQ.mp r
    rw [ea] at ea';cases ea'
    obtain ⟨C',k1,k2,k3⟩:=hk c (List.contains_iff_mem.mp hc)
    rw [h1] at k1
    cases k1
    exact ⟨a,C,_,v,rfl,ru,h2,k2,k3,P.now S _ (aX.mpr rfl)⟩
   ·exact P.elim
  ·exact P.elim
 ·exact P.elim
section
variable {X:Cx}{p:Pa}{a e ob:Expr}{fa fo:ME}{fr:MA}{pos px pt apos:Pos}{xT:Str}{subs known:List Str}
theorem m5 {C:Addr} (hk:bI X.K (.ref C) subs known) (hm:X.mg "isinstance" = none) (hmT:X.mg xT=some (.ref C)) (ha:Bx (PE X a (tD p fa))) (hg:Gl X "isinstance" := by rfl) (hgT:Gl X xT:=by rfl) (hdT:(xT == ("__debug__" : Str))=false:=by decide)
  (hs1:starEach [a,.Name xT pt] X.env=(false,eval a X.env)::starEach [.Name xT pt] X.env:=by rfl) (hK:X.K=p.K:=by rfl):Bx (PE X (.Call (.Name "isinstance" px) [a,.Name xT pt] [] pos) (tD p (nA (kN subs known) fa))):=Bx.mk (by
 have hb:PE X (.Name xT pt) (tC (.ref C)):=wB hgT hmT rfl hdT
 refine (lK (uk (u:=.ref C) fun v w h1 h2=>?_) hg hm MN (iD ha.h (iD hb oG rfl) hs1) (by decide) (by decide) hs1 rfl).weak fun σ H Q ⟨α,ρ,μ,S,R,P⟩=>⟨α,ρ,μ,S,R,(aF.bind P).imp fun d μ1 H1 α1 X1 S1 P1 v rv=>?_⟩
 ·cases v with
  | ref b=>cases (show Value.ref C=Value.ref b from h1);exact h2
  | non=>cases (show Value.ref C=Value.none from h1)
  | bl b=>cases (show Value.ref C=Value.bool b from h1)
  | int b=>obtain ⟨t,z⟩:=(show ∃ t,Value.ref C=Value.int b t from h1);cases z
  | str b=>obtain ⟨t,z⟩:=(show ∃ t,Value.ref C=Value.str b t from h1);cases z
  | byt b=>obtain ⟨t,z⟩:=(show ∃ t,Value.ref C=Value.bytes b t from h1);cases z
  | flt b=>obtain ⟨t,z⟩:=(show ∃ t,Value.ref C=Value.float b t from h1);cases z
  | ty b=>cases (show Value.ref C=Value.type b from h1)
 ·exact zu hK hk rfl S1 rv P1)
theorem Ec {T:String} (hk:bI X.K (.type T) subs known) (hm:X.mg "isinstance" = none) (hmT:X.mg xT=none) (hbT:bootBuiltins xT=some (.type T)) (ha:Bx (PE X a (tD p fa))) (hg:Gl X "isinstance" := by rfl) (hgT:Gl X xT:=by rfl) (hnT:xT ≠ "__name__" := by decide) (hdT:(xT == ("__debug__" : Str))=false:=by decide)
  (hs1:starEach [a,.Name xT pt] X.env=(false,eval a X.env)::starEach [.Name xT pt] X.env:=by rfl) (hK:X.K=p.K:=by rfl):Bx (PE X (.Call (.Name "isinstance" px) [a,.Name xT pt] [] pos) (tD p (nA (kN subs known) fa))):=Bx.mk (by
 have hb:PE X (.Name xT pt) (tC (.ty T)):=wC hgT hmT hbT rfl hnT hdT
 refine (lK (uk (u:=.type T) fun v w h1 h2=>?_) hg hm MN (iD ha.h (iD hb oG rfl) hs1) (by decide) (by decide) hs1 rfl).weak fun σ H Q ⟨α,ρ,μ,S,R,P⟩=>⟨α,ρ,μ,S,R,(aF.bind P).imp fun d μ1 H1 α1 X1 S1 P1 v rv=>?_⟩
 ·cases v with
  | ty b=>cases (show Value.type T=Value.type b from h1);exact h2
  | non=>cases (show Value.type T=Value.none from h1)
  | bl b=>cases (show Value.type T=Value.bool b from h1)
  | int b=>obtain ⟨t,z⟩:=(show ∃ t,Value.type T=Value.int b t from h1);cases z
  | str b=>obtain ⟨t,z⟩:=(show ∃ t,Value.type T=Value.str b t from h1);cases z
  | byt b=>obtain ⟨t,z⟩:=(show ∃ t,Value.type T=Value.bytes b t from h1);cases z
  | flt b=>obtain ⟨t,z⟩:=(show ∃ t,Value.type T=Value.float b t from h1);cases z
  | ref b=>cases (show Value.type T=Value.ref b from h1)
 ·exact zu hK hk rfl S1 rv P1)
theorem GR (ho:Bx (PE X ob (tD p fo))) (ha:Bx (PA X [e] (k8 p fr))) (hbase:attributeBase ob "count" X.env (eval ob X.env)=eval ob X.env:=by rfl) (hfew:((backTo pos (starEach [e] X.env)).all (fun x=>!x.1) && (backToKw pos (keywordEach [] X.env)).all (fun x=>x.1.isSome)
   && decide ([e].length+([]:List Keyword).length+(if ([]:List Keyword).isEmpty then 0 else 1)<30))=true:=by rfl) (hline:(apos.endLine == pos.line)=true:=by rfl) (hs:starEach [e] X.env=(false,eval e X.env)::starEach [] X.env:=by rfl) (hpl:(backTo pos (starEach [] X.env)).any (·.1)=false:=by rfl) (hK:X.K=p.K:=by rfl):Bx (PE X (.Call (.Attribute ob "count" apos) [e] [] pos) (tD p (A1 iG fo fr))):=
 ⟨v7 hK PySem.F.slot_list_count PySem.F.type_list_count Az xS ho.h ha.h hbase hfew hline hs hpl⟩
theorem GQ (ho:Bx (PE X ob (tD p fo))) (ha:Bx (PA X [e] (k8 p fr))) (hbase:attributeBase ob "index" X.env (eval ob X.env)=eval ob X.env:=by rfl) (hfew:((backTo pos (starEach [e] X.env)).all (fun x=>!x.1) && (backToKw pos (keywordEach [] X.env)).all (fun x=>x.1.isSome)
   && decide ([e].length+([]:List Keyword).length+(if ([]:List Keyword).isEmpty then 0 else 1)<30))=true:=by rfl) (hline:(apos.endLine == pos.line)=true:=by rfl) (hs:starEach [e] X.env=(false,eval e X.env)::starEach [] X.env:=by rfl) (hpl:(backTo pos (starEach [] X.env)).any (·.1)=false:=by rfl) (hK:X.K=p.K:=by rfl):Bx (PE X (.Call (.Attribute ob "index" apos) [e] [] pos) (tD p (A1 iF fo fr))):=
 ⟨v7 hK PySem.F.slot_list_index PySem.F.type_list_index Ay xR ho.h ha.h hbase hfew hline hs hpl⟩
end
structure Bn (P:Program) (w:World) (K:W.Frag) (mg:Str->Option Value) (base:Heap) (p:Pa) (k:Nat) (x:Str) (n:Nat) (F:List D->aB->ai D):Prop where
 len:∀ ds μ,ds.length≠n->F ds μ=.bad
 fn:∃ f fd ps,mg x=some (.ref f)/\W.keepIn K (.ref f)=true/\gF K fd ps []/\tI P w K mg base uW k f fd ps (AZ p n F)
theorem D9 {P:Program}{w:World}{K:W.Frag}{mg:Str->Option Value}{base:Heap}{p:Pa}{k n:Nat}{x qual:Str}{st:Stmt}{f:Addr}{fd:FuncData}{N ps:List Str}{fb:MS}
  (F:iz K x qual st f fd) (S:aS N ps (au st)) (hn:ps.length=n) (hm:mg x=some (.ref f)) (hb:gF K fd ps [])
  (body : ∀ (cdv : Value) (A : Around) (outer : List Env) (s : Shared) (H : Hp) (E : XK), d5 k (A.deeper (envOfC qual (au st) s.heap.objs.size f cdv)) ->
   Bx (iO (oB uW P w K mg base N qual (au st) f cdv A outer s H E).nox (bY st) (gI p fb))):Bn P w K mg base p (k+1) x n (iN n N.length fb):=by
 refine ⟨fun ds μ h=>by unfold iN;rw [Jt h],f,fd,ps,hm,F.kp,hb,?_⟩
 refine F.okH S (fun vs H Q E h=>h.1.trans hn.symm) fun cdv A outer s H vs Q E hr h=>?_
 refine ⟨_,(body cdv A outer s H E hr).h,?_⟩
 obtain ⟨hl,α,ds,μ,S1,R1,P1⟩:=h
 unfold iN at P1
 have hd:ds.length=n:=by rw [<- R1.length];exact hl
 rw [Js hd] at P1
 have P2:=nZ S1 P1
 unfold start
 rw [hl]
 refine ⟨α,_,μ,S1,jo R1 _,?_⟩
 cases e:fb (ds.map some++List.replicate (N.length - n) none) μ with
 | ret d μ'=>rw [e] at P2;exact fun H' α' v x s r=>P2 H' α' x s v r
 | next ρ μ'=>rw [e] at P2;exact fun H' α' σ' x s r=>P2 H' α' x s .non (bJ.mpr rfl)
 | exc x μ'=>rw [e] at P2;exact P2
 | brk ρ μ'=>rw [e] at P2;exact P2.elim
 | cnt ρ μ'=>rw [e] at P2;exact P2.elim
 | bad=>rw [e] at P2;exact P2.elim
theorem Br {X:Cx}{p:Pa}{k n:Nat}{x:Str}{F:List D->aB->ai D}{a:Expr}{es:List Expr}{fr:MA}{pos px:Pos} (h:Bn X.prog X.w X.K X.mg X.base p k x n F) (hr:d5 k X.A) (ha:Bx (PA X (a::es) (k8 p fr))) (hg:Gl X x:=by rfl) (hdb:(x == ("__debug__" : Str))=false:=by decide)
  (he:starEach (a::es) X.env=(false,eval a X.env)::starEach es X.env:=by rfl) (hpl:(backTo pos (starEach es X.env)).any (·.1)=false:=by rfl):Bx (PE X (.Call (.Name x px) (a::es) [] pos) (tD p (aC F fr))):=Bx.mk (by
 obtain ⟨f,fd,ps,h1,h2,h3,h4⟩:=h.fn
 refine (Al (dvs:=[]) (E:=E0) h4 hr hg h1 h2 h3 .nil yQ ha.h hdb he hpl).weak fun σ H Q ⟨α,ρ,μ,S,R,P⟩=>⟨α,ρ,μ,S,R,(aF.bind P).imp fun ds μ1 H1 α1 X1 S1 P1 vs rv=>?_⟩
 show AZ p n F (vs++[]) H1 Q E0
 rw [Kb]
 refine ⟨?_,α1,ds,μ1,S1,rv,P1⟩
 by_cases hl:ds.length=n
 ·rw [rv.length];exact hl
 ·rw [h.len ds μ1 hl] at P1;exact P1.elim)
theorem qm:bootBuiltins "ValueError" = some (.type "ValueError"):=PyProof.Rows.Boot.«ValueError»
def AC (K:W.Frag) (u:Value) (subs known:List Str):Bool:=known.all fun c=>match W.nsIn K mainGlobals c with
 | some (some (.ref C))=>W.excCls K C && W.kitOne K (.ref C) u == some (subs.contains c)
 | _=>false
theorem bI.of {K:W.Frag}{u:Value}{subs known:List Str} (h:AC K u subs known=true):bI K u subs known:=fun c hc=>by
 have q:=LM.mp h c hc
 split at q
 ·rename_i C e
  rw [KH] at q
  exact ⟨C,e,q.1,MH.mp q.2⟩
 ·cases q
def FH (K:W.Frag) (R:Addr) (known:List Str):Bool:=known.all fun c=>match W.nsIn K mainGlobals c with
 | some (some (.ref C))=>W.exmOne K (.ref C) (.ref R) == some true
 | _=>false
theorem tH.of {K:W.Frag}{r:Str}{R:Addr}{known:List Str} (h:FH K R known=true):tH K r R known:=fun c hc=>by
 have q:=LM.mp h c hc
 split at q
 ·rename_i C e
  exact ⟨C,e,MH.mp q⟩
 ·cases q
theorem sY.of {K:W.Frag}{base:Heap}{mg:Str->Option Value}{x nm q:Str}{C N:Addr}{bs bm:List Value}{hd:Bool}{sn:List Str}{sub:List Value}{ab:Bool}{col:Option Bool}{dd:Option Addr}{k0 k1 k2 k3 k5:Option Value} (X:K.In base) (G:base.Ns mainGlobals mg) (e:W.nsIn K mainGlobals x=some (some (.ref C)))
  (l:K.lookup C=some (excClassObj nm q C N bs bm hd sn sub ab col dd k0 k1 k2 k3 k5 "ValueError.__new__")) (h1:W.nsOkIn K N=true) (h2:W.nsIn K N "__init__" = some none) (h3:W.tailIn K [.type "ValueError",.type "Exception",.type "BaseException",.type "object"] bm=true):sY mg base x C:=
 ⟨_,_,_,_,⟨W.mg_of X G e,bm,N,nm,q,bs,hd,sn,sub,ab,col,dd,k0,k1,k2,k3,k5,_,X _ _ l,.of_isNs (W.isNs_of_in X h1),W.nsMap_none_of_in X h1 h2,W.tail_of_in X h3⟩,PySem.F.excBase_ValueError⟩
theorem Hm {P:Program}{w:World}{X:Cx}:jg (Gj P w) X E0:=fun _ _ _ _ _ _ _ h=>by
 obtain ⟨_,_,_,_,_,_,_,_,_,_,_,_,_,q⟩:=h
 exact q.elim
section
variable {X:Cx}{k n:Nat}{x:Str}{F:List D->aB->ai D}{a b c d:Expr}{es:List Expr}{fr:MA}{pos px:Pos}
theorem iZ {xw:DX->aB->Hp->List Addr->Prop} (h:jD X.prog X.w X.K X.mg X.base k x n F) (hr:fm k X.A) (ha:Bx (PA X (a::es) (k8 ⟨X.K,X.w,xw⟩ fr))) (hg:Gl X x:=by rfl) (hdb:(x == ("__debug__" : Str))=false:=by decide)
  (he:starEach (a::es) X.env=(false,eval a X.env)::starEach es X.env:=by rfl) (hpl:(backTo pos (starEach es X.env)).any (·.1)=false:=by rfl):Bx (PE X (.Call (.Name x px) (a::es) [] pos) (tD ⟨X.K,X.w,xw⟩ (aC (fun ds μ=>(F ds μ).nox) fr))):=Bx.mk (by
 obtain ⟨f,fd,ps,h1,h2,h3,h4⟩:=h.fn
 refine (nW (dvs:=[]) (E:=E0) h4 hr hg h1 h2 h3 .nil Hm ha.h hdb he hpl).weak fun σ H Q ⟨α,ρ,μ,S,R,P⟩=>⟨α,ρ,μ,S,R,(aF.bind P).imp fun ds μ1 H1 α1 X1 S1 P1 vs rv=>?_⟩
 show HV X.K X.w n F (vs++[]) H1 Q E0
 rw [Kb]
 have P2:aF (A6 X.K X.w E0) H1 α1 (F ds μ1) (RV (A6 X.K X.w E0) Q):=by
  cases e:F ds μ1 with
  | ok d μ'=>rw [e] at P1;exact P1
  | exc y μ'=>rw [e] at P1;exact False.elim P1
  | bad=>rw [e] at P1;exact P1
 refine ⟨?_,α1,ds,μ1,S1,rv,P2⟩
 by_cases hl:ds.length=n
 ·rw [rv.length];exact hl
 ·rw [h.len ds μ1 hl] at P2;exact P2.elim)
variable {p:Pa}{ta tb tc td:TE}{fa fb fc fd:ME}{op op' op'':CmpOp}{r r' r'':R2}{o1 o2 o3:D->D->aB->ai D}
end
def wz (K:W.Frag):V->List V->Hp->VK->Prop:=fun x vs H Q=>∃ l xs y qs q,x=.ref l/\vs=[y]/\H l=some (.lst xs)/\RdPs K H qs xs/\k9 K H q y/\PyData.canLayAll0 qs=true/\eH q=true/\(qs.any fun z=>PyData.eqv z q)=true/\qs.length<1000/\Q (.int (qs.findIdx fun z=>PyData.eqv z q:Nat)) H
section
variable {X:Cx}
theorem xQ (hu:X.A.units+64<cLine):Gr X "list.index" (wz X.K):=by
 intro pins s σ H x vs v us Q I rx rv h
 obtain ⟨l,xs,y,qs,q,rfl,rfl,hH,rq,ry,hc,hf,hany,hsz,hQ⟩:=h
 cases rx
 obtain ⟨u,rfl,ru⟩:=rv.one
 obtain ⟨z,its,n,r,hl,e⟩:=I.lstM hH
 obtain ⟨as,r1⟩:=readsAll_of I qs xs its rq r
 obtain ⟨bs,r2⟩:=dw I q y u ry ru
 have hd:=pG hf
 have hm:=SeqAt.readsAll_map qs _ _ hc r1
 have hlen:its.length=qs.length:=by rw [<- hm,Kr]
 have hlt:(qs.findIdx fun z=>PyData.eqv z q)<qs.length:=MX (by simpa using hany)
 have hb:∀ m (h1:m<its.length) (h2:m<qs.length),SeqAt.readOf s.heap its[m]=qs[m]:=fun m h1 h2=>by
  have:(its.map (SeqAt.readOf s.heap))[m]?=qs[m]?:=by rw [hm]
  rw [Km,My h1,My h2] at this
  exact Ju this
 refine KW F.slot_list_index ⟨_,e,rfl⟩ F.entry_list_index (F.args_list_index_2 _ _) (SeqAt.list_indexAt l its.toArray n none #[] u (fun y=>PyData.eqv (SeqAt.readOf s.heap y) q) (qs.findIdx fun z=>PyData.eqv z q) (by rw [Ka,hlen];exact hlt) (by omega) ?_ ?_) ⟨e,SeqAt.items_eqAt (vs:=its.toArray) r1 r2 hc (cz hf) ?_,?_⟩
 ·skip
  rw [MW,hb _ (by rw [hlen];exact hlt) hlt]
  exact List.findIdx_getElem (w:=hlt)
 ·intro m hm' hmj
  skip
  rw [MW,hb m (by rw [Ka] at hm';exact hm') (by omega)]
  have hf:=List.not_of_lt_findIdx hmj
  simpa using hf
 ·have := Kx (PyData.depthAll qs) q.depth
  show X.A.units+1+_<_
  omega
 ·exact ⟨.int (qs.findIdx fun z=>PyData.eqv z q:Nat),H,I.tok _,⟨s.toks,rfl⟩,hQ⟩
end
def ka (d:D) (ds:List D) (μ:aB):ai D:=match d,ds with
 | .obj n,[x]=>match μ[n]?,mX μ x with
  | some (.lst xs),some q=>match fq μ xs with
   | some qs=>if PyData.canLayAll0 qs=true/\eH q=true/\(qs.any fun z=>PyData.eqv z q)=true/\qs.length<1000 then .ok (.int (qs.findIdx fun z=>PyData.eqv z q:Nat)) μ else .bad
   | none=>.bad
  | _,_=>.bad
 | _,_=>.bad
section
variable {p:Pa}
theorem vA:Gs p ka (wz p.K):=by
 intro d ds v vs H α μ Q S rd rs P
 unfold ka at P
 split at P
 ·split at P
  ·split at P
   ·split at P
    ·rename_i xs q hx hq _ qs hqs hc
     obtain ⟨a,us,rfl,a1,h1,rr⟩:=cV S rd hx
     simp only [Reps] at rs
     obtain ⟨y,r',rfl,h3,rfl⟩:=rs
     exact ⟨a,us,y,qs,q,rfl,rfl,h1,lF S hqs rr,jJ S hq h3,hc.1,hc.2.1,hc.2.2.1,hc.2.2.2,P.now S _ (ar.mpr rfl)⟩
    ·exact P.elim
   ·exact P.elim
  ·exact P.elim
 ·exact P.elim
end
section
variable {X:Cx}{p:Pa}{e ob:Expr}{fo:ME}{fr:MA}{pos apos:Pos}
theorem Ed (hu:X.A.units+64<cLine) (ho:Bx (PE X ob (tD p fo))) (ha:Bx (PA X [e] (k8 p fr))) (hbase:attributeBase ob "index" X.env (eval ob X.env)=eval ob X.env:=by rfl) (hfew:((backTo pos (starEach [e] X.env)).all (fun x=>!x.1) && (backToKw pos (keywordEach [] X.env)).all (fun x=>x.1.isSome)
   && decide ([e].length+([]:List Keyword).length+(if ([]:List Keyword).isEmpty then 0 else 1)<30))=true:=by rfl) (hline:(apos.endLine == pos.line)=true:=by rfl) (hs:starEach [e] X.env=(false,eval e X.env)::starEach [] X.env:=by rfl) (hpl:(backTo pos (starEach [] X.env)).any (·.1)=false:=by rfl) (hK:X.K=p.K:=by rfl):Bx (PE X (.Call (.Attribute ob "index" apos) [e] [] pos) (tD p (A1 ka fo fr))):=
 ⟨v7 hK PySem.F.slot_list_index PySem.F.type_list_index (hK ▸ xQ hu) vA ho.h ha.h hbase hfew hline hs hpl⟩
end
end L2
namespace Lw
open PySem L2
section
variable {P:Program}{w:World}{K:W.Frag}{mg:Str->Option Value}{base:Heap}
structure Nm (mg:Str->Option Value):Prop where
 ValueError:mg "ValueError" = none
 bool:mg "bool" = none
 int:mg "int" = none
 isinstance:mg "isinstance" = none
 len:mg "len" = none
 list:mg "list" = none
 max:mg "max" = none
 min:mg "min" = none
 range:mg "range" = none
 repr:mg "repr" = none
 set:mg "set" = none
 sorted:mg "sorted" = none
 tuple:mg "tuple" = none
theorem ux:aS ["thing"] ["thing"] (au iI):=⟨rfl,rfl,rfl,by decide +kernel,rfl,by decide +kernel,by decide +kernel⟩
noncomputable def kZ:MS:=cu (oD (nA (la "int") (ak 0)) (tG (nA (la "bool") (ak 0))))
noncomputable def eR:List D->aB->ai D:=iN 1 1 kZ
theorem mU:aS ["thing", "least", "most"] ["thing", "least", "most"] (au dR):=⟨rfl,rfl,rfl,by decide +kernel,rfl,by decide +kernel,by decide +kernel⟩
noncomputable def eG:MS:=cu (oD (aC eR (ag (ak 0) (ax))) (oK (kr .LtE) (kr .LtE) (ak 1) (ak 0) (ak 2)))
noncomputable def bj:List D->aB->ai D:=iN 3 3 eG
theorem uz:aS ["many", "thing"] ["many", "thing"] (au iK):=⟨rfl,rfl,rfl,by decide +kernel,rfl,by decide +kernel,by decide +kernel⟩
noncomputable def pM:MS:=cu (aC bj (ag (ak 1) (ag (cC (.int 0)) (ag (az kq (ak 0) (cC (.int 1))) (ax)))))
noncomputable def ir:List D->aB->ai D:=iN 2 2 pM
theorem pP:aS ["web", "thing"] ["web", "thing"] (au fK):=⟨rfl,rfl,rfl,by decide +kernel,rfl,by decide +kernel,by decide +kernel⟩
noncomputable def iW:MS:=jZ (kE (lb (aC (fun ds μ=>(ir ds μ).nox) (ag (az c9 (ak 0) (cC (.int 0))) (ag (ak 1) (ax)))))) (rL "NoPlace") (di)
noncomputable def bG:List D->aB->ai D:=iN 2 2 iW
theorem pO:aS ["ties", "front"] ["ties", "front"] (au cP):=⟨rfl,rfl,rfl,by decide +kernel,rfl,by decide +kernel,by decide +kernel⟩
theorem jb:(["a", "b", "front"]:List Str).Nodup:=by decide +kernel
theorem ja:(["a", "b", "front"]:List Str).Nodup:=by decide +kernel
noncomputable def jx:ME:=ak 1
noncomputable def gR:MT:=fT (az (A7 false) (ak 0) (ak 2))
noncomputable def jw:ME:=ak 0
noncomputable def gQ:MT:=fT (az (A7 false) (ak 1) (ak 2))
noncomputable def kK:MS:=cu (az cv (bE (ia (ak 0)) [none,none,some 1] (gD 2 (bC (aj 0) (bC (aj 1) (gE)))) (gR) (jx)) (bE (ia (ak 0)) [none,none,some 1] (gD 2 (bC (aj 0) (bC (aj 1) (gE)))) (gQ) (jw)))
noncomputable def cG:List D->aB->ai D:=iN 2 2 kK
theorem cf:aS ["web", "start", "many", "ties", "fars", "far", "front", "place"] ["web", "start"] (au fG):=⟨rfl,rfl,rfl,by decide +kernel,rfl,by decide +kernel,by decide +kernel⟩
theorem pV:(["place", "fars"]:List Str).Nodup:=by decide +kernel
noncomputable def kJ:ME:=ak 0
noncomputable def iU:MT:=fT (az (rD false) (az c9 (ak 1) (ak 0)) (cC .non))
noncomputable def eA:MS:=bw (ak 5) (kD (ak 4) (ak 7))
noncomputable def d9:MS:=br (rp 5 lu (cC (.int 1)))
 (br (bw (bE (ia (aC cG (ag (ak 3) (ag (ak 6) (ax))))) [none,some 4] (aj 0) (iU) (kJ)) (aj 6))
 (kl (ia (ak 6)) (aj 7) eA))
noncomputable def nv:MS:=br (bw (ak 0) (gD 2 (bC (aj 2) (bC (aj 3) (gE)))))
 (br (bw (az jd (fZ (ag (cC .non) (ax))) (ak 2)) (aj 4))
 (br (bw (cC (.int 0)) (kD (ak 4) (ak 1)))
 (br (bw (cC (.int 0)) (aj 5))
 (br (bw (fZ (ag (ak 1) (ax))) (aj 6))
 (br (mv 100 (lb (ak 6)) d9)
 (cu (ak 4)))))))
noncomputable def cS:List D->aB->ai D:=iN 2 8 nv
theorem xD:aS ["web", "one", "other"] ["web", "one", "other"] (au kb):=⟨rfl,rfl,rfl,by decide +kernel,rfl,by decide +kernel,by decide +kernel⟩
noncomputable def lQ:MS:=br (qt (aC bG (ag (ak 0) (ag (ak 1) (ax)))))
 (br (qt (aC bG (ag (ak 0) (ag (ak 2) (ax)))))
 (cu (az c9 (aC (fun ds μ=>(cS ds μ).nox) (ag (ak 0) (ag (ak 1) (ax)))) (ak 2))))
noncomputable def dy:List D->aB->ai D:=iN 3 3 lQ
theorem vt:aS ["web", "place"] ["web", "place"] (au jl):=⟨rfl,rfl,rfl,by decide +kernel,rfl,by decide +kernel,by decide +kernel⟩
noncomputable def mS:MS:=br (qt (aC bG (ag (ak 0) (ag (ak 1) (ax)))))
 (cu (aC fw (ag (aC cY (ag (aC nC (ag (az cv (fZ (ag (ak 1) (ax))) (aC (fun ds μ=>(cG ds μ).nox) (ag (az c9 (ak 0) (cC (.int 1))) (ag (fZ (ag (ak 1) (ax))) (ax))))) (ax))) (ax))) (ax))))
noncomputable def dP:List D->aB->ai D:=iN 2 2 mS
theorem dQ:aS ["web", "k", "many", "ties", "one", "fars"] ["web", "k"] (au fF):=⟨rfl,rfl,rfl,by decide +kernel,rfl,by decide +kernel,by decide +kernel⟩
theorem pU:(["other", "one", "k", "fars"]:List Str).Nodup:=by decide +kernel
noncomputable def gA:ME:=bU (ag (ak 1) (ag (ak 0) (ax)))
noncomputable def gx:MT:=kF (fT (az (rD true) (az c9 (ak 3) (ak 0)) (cC .non))) (fT (az (kr .LtE) (az c9 (ak 3) (ak 0)) (ak 2)))
noncomputable def gy:MS:=br (bw (aC (fun ds μ=>(cS ds μ).nox) (ag (ak 0) (ag (ak 4) (ax)))) (aj 5))
 (rp 3 lu (bE (dZ km (ag (az cv (ak 4) (cC (.int 1))) (ag (ak 2) (ax)))) [none,some 4,some 1,some 5] (aj 0) (gx) (gA)))
noncomputable def jV:MS:=br (jZ (kE (lb (aC (fun ds μ=>(bj ds μ).nox) (ag (ak 1) (ag (cC (.int 1)) (ag (cC (.int 6)) (ax))))))) (rL "NoNumber") (di))
 (br (bw (az c9 (ak 0) (cC (.int 0))) (aj 2))
 (br (bw (fZ (ax)) (aj 3))
 (br (kl (dZ h7 (ag (ak 2) (ax))) (aj 4) gy)
 (cu (bU (ag (ak 2) (ag (aC fw (ag (ak 3) (ax))) (ax))))))))
noncomputable def aY:List D->aB->ai D:=iN 2 6 jV
theorem uw:aS ["web"] ["web"] (au iH):=⟨rfl,rfl,rfl,by decide +kernel,rfl,by decide +kernel,by decide +kernel⟩
noncomputable def pK:MS:=cu (aC (fun ds μ=>(aY ds μ).nox) (ag (ak 0) (ag (cC (.int 2)) (ax))))
noncomputable def eQ:List D->aB->ai D:=iN 1 1 pK
theorem iS:aS ["web", "k"] ["web"] (au gv):=⟨rfl,rfl,rfl,by decide +kernel,rfl,by decide +kernel,by decide +kernel⟩
noncomputable def fN:MS:=rp 1 lu (cC (.int 1))
noncomputable def l6:MS:=br (bw (cC (.int 1)) (aj 1))
 (br (mv 100 (fT (az (fX true) (aC (fun ds μ=>(aY ds μ).nox) (ag (ak 0) (ag (ak 1) (ax)))) (aC (fun ds μ=>(aY ds μ).nox) (ag (ak 0) (ag (az cv (ak 1) (cC (.int 1))) (ax)))))) fN)
 (cu (ak 1)))
noncomputable def fH:List D->aB->ai D:=iN 1 2 l6
theorem uy:aS ["web"] ["web"] (au iJ):=⟨rfl,rfl,rfl,by decide +kernel,rfl,by decide +kernel,by decide +kernel⟩
noncomputable def pL:MS:=cu (az (fX false) (aC eQ (ag (ak 0) (ax))) (ak 0))
noncomputable def iq:List D->aB->ai D:=iN 1 1 pL
theorem nF:aS ["_law_script", "_law_k"] ["_law_script", "_law_k"] (au eE):=⟨rfl,rfl,rfl,by decide +kernel,rfl,by decide +kernel,by decide +kernel⟩
noncomputable def iw:MS:=br (jZ (fT (az (kr .Lt) (ak 1) (aC p6 (ag (ak 0) (ax))))) (cu (az c9 (ak 0) (ak 1))) (di))
 (cu (cC (.int 0)))
noncomputable def dC:List D->aB->ai D:=iN 2 2 iw
theorem lV:aS ["_law_seed"] ["_law_seed"] (au g6):=⟨rfl,rfl,rfl,by decide +kernel,rfl,by decide +kernel,by decide +kernel⟩
noncomputable def nz:MS:=br (bw (az pZ (az cv (ak 0) (cC (.int 7919))) (cC (.int 2147483647))) (aj 0))
 (cu (az pZ (az cv (az cv (az jd (ak 0) (ak 0)) (az jd (cC (.int 48271)) (ak 0))) (cC (.int 12345))) (cC (.int 2147483629))))
noncomputable def fg:List D->aB->ai D:=iN 1 1 nz
theorem jX:aS ["_law_cell", "_law_left"] ["_law_cell"] (au fM):=⟨rfl,rfl,rfl,by decide +kernel,rfl,by decide +kernel,by decide +kernel⟩
noncomputable def kL:MS:=br (bw (aC u4 (ag (ak 0) (ag (az kq (cC (.int 0)) (ak 0)) (ax)))) (aj 1))
 (cu (fZ (ag (ak 1) (ag (aC m7 (ag (az (kr .GtE) (ak 1) (az rC (cC (.int 10)) (cC (.int 18)))) (ax))) (ag (az pZ (ak 1) (cC (.int 1000003))) (ax))))))
noncomputable def eC:List D->aB->ai D:=iN 1 2 kL
theorem lW:aS ["_law_pen", "_law_many", "_law_found"] ["_law_pen", "_law_many"] (au g7):=⟨rfl,rfl,rfl,by decide +kernel,rfl,by decide +kernel,by decide +kernel⟩
noncomputable def jW:MS:=br (jZ (fT (az (fX false) (az c9 (ak 0) (cC (.int 1))) (cC (.int 1)))) (br (bw (az pZ (az c9 (ak 0) (cC (.int 0))) (ak 1)) (aj 2))
 (br (bw (az tF (az c9 (ak 0) (cC (.int 0))) (ak 1)) (kD (ak 0) (cC (.int 0))))
 (cu (ak 2)))) (di))
 (br (bw (aC fg (ag (az cv (aC fg (ag (az c9 (ak 0) (cC (.int 2))) (ax))) (cC (.int 7))) (ax))) (kD (ak 0) (cC (.int 2))))
 (cu (az pZ (az tF (az c9 (ak 0) (cC (.int 2))) (cC (.int 64))) (ak 1))))
noncomputable def aZ:List D->aB->ai D:=iN 2 3 jW
theorem qd:aS ["_law_found"] ["_law_found"] (au gw):=⟨rfl,rfl,rfl,by decide +kernel,rfl,by decide +kernel,by decide +kernel⟩
noncomputable def sO:MS:=cu (oD (nA (la "int") (ak 0)) (tG (nA (la "bool") (ak 0))))
noncomputable def sN:List D->aB->ai D:=iN 1 1 sO
theorem gP:aS ["_law_e", "_law_marks"] ["_law_e"] (au eD):=⟨rfl,rfl,rfl,by decide +kernel,rfl,by decide +kernel,by decide +kernel⟩
noncomputable def iu:MS:=br (bw (fZ (ag (nA (kN ["NoPlace"] ["NoNumber", "NoPlace"]) (ak 0)) (ag (nA (kN ["NoNumber"] ["NoNumber", "NoPlace"]) (ak 0)) (ag (nA (kN [] ["NoNumber", "NoPlace"]) (ak 0)) (ag (nA (kN [] ["NoNumber", "NoPlace"]) (ak 0)) (ax)))))) (aj 1))
 (br (bw (az cv (ak 1) (fZ (ag (nA (kN [] ["NoNumber", "NoPlace"]) (ak 0)) (ag (nA (kN [] ["NoNumber", "NoPlace"]) (ak 0)) (ag (nA (kN [] ["NoNumber", "NoPlace"]) (ak 0)) (ag (nA (kN [] ["NoNumber", "NoPlace"]) (ak 0)) (ax))))))) (aj 1))
 (br (jZ (u5 (kE (lb (nA (kN ["NoNumber", "NoPlace"] ["NoNumber", "NoPlace"]) (ak 0)))) (fT (az (fX true) (A1 iG (ak 1) (ag (cC (.bl true)) (ax))) (cC (.int 1))))) (cu (cC (.str "other"))) (di))
 (cu (az c9 (fZ (ag (cC (.str "place")) (ag (cC (.str "number")) (ag (cC (.str "line")) (ag (cC (.str "root")) (ag (cC (.str "tree")) (ag (cC (.str "web")) (ag (cC (.str "text")) (ag (cC (.str "great")) (ax)))))))))) (A1 iF (ak 1) (ag (cC (.bl true)) (ax)))))))
noncomputable def bW:List D->aB->ai D:=iN 1 2 iu
theorem kH:aS ["_law_web", "_law_names", "_law_ties"] ["_law_web", "_law_names"] (au dg):=⟨rfl,rfl,rfl,by decide +kernel,rfl,by decide +kernel,by decide +kernel⟩
theorem ju:(["_law_one", "_law_other", "_law_names"]:List Str).Nodup:=by decide +kernel
theorem nP:(["_law_tie"]:List Str).Nodup:=by decide +kernel
noncomputable def fS:ME:=bU (ag (az c9 (ak 2) (ak 0)) (ag (az c9 (ak 2) (ak 1)) (ax)))
noncomputable def fR:ME:=bU (ag (aC yy (ag (ak 0) (ax))) (ag (aC u4 (ag (ak 0) (ax))) (ax)))
noncomputable def ma:MS:=br (bw (bE (ia (az c9 (ak 0) (cC (.int 1)))) [none,none,some 1] (gD 2 (bC (aj 0) (bC (aj 1) (gE)))) (bz) (fS)) (aj 2))
 (cu (bU (ag (az c9 (ak 0) (cC (.int 0))) (ag (aC fw (ag (aC cY (ag (aC nC (ag (bE (ia (ak 2)) [none] (aj 0) (bz) (fR)) (ax))) (ax))) (ax))) (ax)))))
noncomputable def fI:List D->aB->ai D:=iN 2 3 ma
theorem i9:aS ["_law_pen", "_law_many", "_law_left"] ["_law_pen", "_law_many"] (au cQ):=⟨rfl,rfl,rfl,by decide +kernel,rfl,by decide +kernel,by decide +kernel⟩
theorem k7:(["_law_place", "_law_left", "_law_pen"]:List Str).Nodup:=by decide +kernel
noncomputable def dn:ME:=A1 oJ (ak 1) (ag (aC aZ (ag (ak 2) (ag (aC p6 (ag (ak 1) (ax))) (ax)))) (ax))
noncomputable def jy:MS:=br (bw (aC mD (ag (ak 1) (ax))) (aj 2))
 (cu (aC fw (ag (bE (dZ h7 (ag (ak 1) (ax))) [none,some 2,some 0] (aj 0) (bz) (dn)) (ax))))
noncomputable def dc:List D->aB->ai D:=iN 2 3 jy
theorem cA:aS ["_law_web", "_law_many", "_law_far_here", "_law_place", "_law_size", "_law_one", "_law_other", "_law_a", "_law_b"] ["_law_web"] (au gH):=⟨rfl,rfl,rfl,by decide +kernel,rfl,by decide +kernel,by decide +kernel⟩
theorem qj:(["_law_place", "_law_many"]:List Str).Nodup:=by decide +kernel
noncomputable def fJ:ME:=az jd (fZ (ag (cC .non) (ax))) (ak 1)
noncomputable def jr:MS:=jZ (kF (fT (az (fX false) (az c9 (az c9 (ak 2) (ak 3)) (ak 7)) (az kq (ak 4) (cC (.int 1))))) (fT (az (rD false) (az c9 (az c9 (ak 2) (ak 3)) (ak 8)) (cC .non)))) (bw (ak 4) (kD (az c9 (ak 2) (ak 3)) (ak 8))) (di)
noncomputable def hV:MS:=kl (ia (fZ (ag (bU (ag (ak 5) (ag (ak 6) (ax)))) (ag (bU (ag (ak 6) (ag (ak 5) (ax)))) (ax))))) (gD 2 (bC (aj 7) (bC (aj 8) (gE)))) jr
noncomputable def g9:MS:=kl (ia (az c9 (ak 0) (cC (.int 1)))) (gD 2 (bC (aj 5) (bC (aj 6) (gE)))) hV
noncomputable def g8:MS:=br (bw (cC (.int 0)) (kD (az c9 (ak 2) (ak 3)) (ak 3)))
 (kl (dZ km (ag (cC (.int 1)) (ag (ak 1) (ax)))) (aj 4) g9)
noncomputable def pN:MS:=br (bw (az c9 (ak 0) (cC (.int 0))) (aj 1))
 (br (bw (bE (dZ h7 (ag (ak 1) (ax))) [none,some 1] (aj 0) (bz) (fJ)) (aj 2))
 (br (kl (dZ h7 (ag (ak 1) (ax))) (aj 3) g8)
 (cu (ak 2))))
noncomputable def eS:List D->aB->ai D:=iN 1 9 pN
theorem d8:aS ["_law_web", "_law_k", "_law_far_here", "_law_ties", "_law_one"] ["_law_web", "_law_k"] (au d7):=⟨rfl,rfl,rfl,by decide +kernel,rfl,by decide +kernel,by decide +kernel⟩
theorem nI:(["_law_b", "_law_one", "_law_k", "_law_far_here"]:List Str).Nodup:=by decide +kernel
noncomputable def fQ:ME:=bU (ag (ak 1) (ag (ak 0) (ax)))
noncomputable def dA:MT:=kF (fT (az (rD true) (az c9 (az c9 (ak 3) (ak 1)) (ak 0)) (cC .non))) (fT (az (kr .LtE) (az c9 (az c9 (ak 3) (ak 1)) (ak 0)) (ak 2)))
noncomputable def fO:MS:=bw (az cv (ak 3) (bE (dZ km (ag (az cv (ak 4) (cC (.int 1))) (ag (az c9 (ak 0) (cC (.int 0))) (ax)))) [none,some 4,some 1,some 2] (aj 0) (dA) (fQ))) (aj 3)
noncomputable def l7:MS:=br (bw (aC eS (ag (ak 0) (ax))) (aj 2))
 (br (bw (fZ (ax)) (aj 3))
 (br (kl (dZ h7 (ag (az c9 (ak 0) (cC (.int 0))) (ax))) (aj 4) fO)
 (cu (bU (ag (az c9 (ak 0) (cC (.int 0))) (ag (aC fw (ag (ak 3) (ax))) (ax)))))))
noncomputable def bS:List D->aB->ai D:=iN 2 5 l7
theorem aT:aS ["_law_pen", "_law_way", "_law_many", "_law_every", "_law_other", "_law_ties"] ["_law_pen"] (au ba):=⟨rfl,rfl,rfl,by decide +kernel,rfl,by decide +kernel,by decide +kernel⟩
theorem kB:(["_law_one", "_law_other"]:List Str).Nodup:=by decide +kernel
theorem kA:(["_law_pair", "_law_pen"]:List Str).Nodup:=by decide +kernel
theorem kz:(["_law_pair", "_law_pen"]:List Str).Nodup:=by decide +kernel
theorem ky:(["_law_place"]:List Str).Nodup:=by decide +kernel
theorem kx:(["_law_place"]:List Str).Nodup:=by decide +kernel
theorem kv:(["_law_place"]:List Str).Nodup:=by decide +kernel
theorem ku:(["_law_place", "_law_pen"]:List Str).Nodup:=by decide +kernel
noncomputable def iy:ME:=bU (ag (ak 0) (ag (ak 1) (ax)))
noncomputable def cZ:MS:=bw (az cv (ak 3) (bE (dZ h7 (ag (ak 4) (ax))) [none,some 4] (aj 0) (bz) (iy))) (aj 3)
noncomputable def eY:ME:=ak 0
noncomputable def eV:MT:=fT (az (fX false) (aC aZ (ag (ak 1) (ag (cC (.int 2)) (ax)))) (cC (.int 0)))
noncomputable def eX:ME:=ak 0
noncomputable def eU:MT:=fT (az (fX false) (aC aZ (ag (ak 1) (ag (cC (.int 3)) (ax)))) (cC (.int 0)))
noncomputable def c8:ME:=bU (ag (ak 0) (ag (az cv (ak 0) (cC (.int 1))) (ax)))
noncomputable def eW:ME:=bU (ag (ak 0) (ag (az cv (ak 0) (cC (.int 1))) (ax)))
noncomputable def c4:ME:=bU (ag (cC (.int 0)) (ag (ak 0) (ax)))
noncomputable def b8:ME:=bU (ag (aC aZ (ag (ak 1) (ag (ak 0) (ax)))) (ag (ak 0) (ax)))
noncomputable def jc:MS:=br (bw (aC aZ (ag (ak 0) (ag (cC (.int 7)) (ax)))) (aj 1))
 (br (bw (az cv (cC (.int 1)) (aC aZ (ag (ak 0) (ag (cC (.int 6)) (ax))))) (aj 2))
 (br (bw (fZ (ax)) (aj 3))
 (br (kl (dZ h7 (ag (ak 2) (ax))) (aj 4) cZ)
 (br (jZ (fT (az (fX false) (ak 1) (cC (.int 0)))) (bw (bE (ia (ak 3)) [none,some 0] (aj 0) (eV) (eY)) (aj 5)) (jZ (fT (az (fX false) (ak 1) (cC (.int 1)))) (bw (bE (ia (ak 3)) [none,some 0] (aj 0) (eU) (eX)) (aj 5)) (jZ (fT (az (fX false) (ak 1) (cC (.int 2)))) (bw (az cv (bE (dZ h7 (ag (az kq (ak 2) (cC (.int 1))) (ax))) [none] (aj 0) (bz) (c8)) (az jd (fZ (ag (bU (ag (cC (.int 0)) (ag (az kq (ak 2) (cC (.int 1))) (ax)))) (ax))) (aC m7 (ag (az (kr .Gt) (ak 2) (cC (.int 2))) (ax))))) (aj 5)) (jZ (fT (az (fX false) (ak 1) (cC (.int 3)))) (bw (bE (dZ h7 (ag (az kq (ak 2) (cC (.int 1))) (ax))) [none] (aj 0) (bz) (eW)) (aj 5)) (jZ (fT (az (fX false) (ak 1) (cC (.int 4)))) (bw (bE (dZ km (ag (cC (.int 1)) (ag (ak 2) (ax)))) [none] (aj 0) (bz) (c4)) (aj 5)) (bw (bE (dZ km (ag (cC (.int 1)) (ag (ak 2) (ax)))) [none,some 0] (aj 0) (bz) (b8)) (aj 5)))))))
 (cu (aC fI (ag (bU (ag (ak 2) (ag (aC fw (ag (ak 5) (ax))) (ax)))) (ag (aC dc (ag (ak 0) (ag (ak 2) (ax)))) (ax)))))))))
noncomputable def cR:List D->aB->ai D:=iN 1 6 jc
theorem ck:aS ["_law_pen", "_law_web", "_law_way", "_law_spot", "_law_one", "_law_pair"] ["_law_pen"] (au fL):=⟨rfl,rfl,rfl,by decide +kernel,rfl,by decide +kernel,by decide +kernel⟩
noncomputable def gB:MS:=br (bw (aC cR (ag (ak 0) (ax))) (aj 1))
 (br (bw (aC aZ (ag (ak 0) (ag (cC (.int 6)) (ax)))) (aj 2))
 (br (jZ (fT (az (kr .Lt) (ak 2) (cC (.int 3)))) (bw (aC bS (ag (ak 1) (ag (cC (.int 2)) (ax)))) (aj 1)) (di))
 (br (jZ (kF (fT (az (fX false) (ak 2) (cC (.int 0)))) (fT (az (fX true) (az c9 (ak 1) (cC (.int 1))) (bU (ax))))) (br (bw (aC aZ (ag (ak 0) (ag (aC p6 (ag (az c9 (ak 1) (cC (.int 1))) (ax))) (ax)))) (aj 3))
 (cu (bU (ag (az c9 (ak 1) (cC (.int 0))) (ag (az cv (Dm (az c9 (ak 1) (cC (.int 1))) (DR) (lj (ak 3))) (Dm (az c9 (ak 1) (cC (.int 1))) (lj (az cv (ak 3) (cC (.int 1)))) (DR))) (ax)))))) (di))
 (br (jZ (kF (fT (az (fX false) (ak 2) (cC (.int 1)))) (fT (az (kr .Gt) (az c9 (ak 1) (cC (.int 0))) (cC (.int 1))))) (br (bw (aC aZ (ag (ak 0) (ag (az c9 (ak 1) (cC (.int 0))) (ax)))) (aj 4))
 (br (bw (aC fw (ag (aC cY (ag (bU (ag (ak 4) (ag (az pZ (az cv (az cv (ak 4) (cC (.int 1))) (aC aZ (ag (ak 0) (ag (az kq (az c9 (ak 1) (cC (.int 0))) (cC (.int 1))) (ax))))) (az c9 (ak 1) (cC (.int 0)))) (ax)))) (ax))) (ax))) (aj 5))
 (cu (bU (ag (az c9 (ak 1) (cC (.int 0))) (ag (aC fw (ag (aC cY (ag (aC nC (ag (az cv (az c9 (ak 1) (cC (.int 1))) (bU (ag (ak 5) (ax)))) (ax))) (ax))) (ax))) (ax))))))) (di))
 (cu (ak 1))))))
noncomputable def eB:List D->aB->ai D:=iN 1 6 gB
theorem lU:aS ["_law_way", "_law_web", "_law_one", "_law_other", "_law_e"] ["_law_way", "_law_web", "_law_one", "_law_other"] (au g5):=⟨rfl,rfl,rfl,by decide +kernel,rfl,by decide +kernel,by decide +kernel⟩
noncomputable def cF:MS:=br (jZ (fT (az (fX false) (ak 0) (cC (.int 0)))) (cu (aC dy (ag (ak 1) (ag (ak 2) (ag (ak 3) (ax)))))) (di))
 (cu (HJ (fT (az (fX false) (ak 0) (cC (.int 1)))) (aC dP (ag (ak 1) (ag (ak 2) (ax)))) (aC aY (ag (ak 1) (ag (ak 2) (ax))))))
noncomputable def iV:MS:=cu (aC bW (ag (ak 4) (ax)))
noncomputable def ny:MS:=Bg ["NoNumber", "NoPlace"] 4 5 cF iV
noncomputable def bK:List D->aB->ai D:=iN 4 5 ny
theorem dh:aS ["_law_web", "_law_far_here", "_law_one", "_law_star", "_law_steps_here", "_law_still"] ["_law_web"] (au bF):=⟨rfl,rfl,rfl,by decide +kernel,rfl,by decide +kernel,by decide +kernel⟩
theorem nO:(["_law_other", "_law_web", "_law_one"]:List Str).Nodup:=by decide +kernel
theorem nN:(["_law_number"]:List Str).Nodup:=by decide +kernel
theorem nM:(["_law_other", "_law_far_here", "_law_one"]:List Str).Nodup:=by decide +kernel
theorem nL:(["_law_k", "_law_web"]:List Str).Nodup:=by decide +kernel
theorem nK:(["_law_k", "_law_web"]:List Str).Nodup:=by decide +kernel
theorem nJ:(["_law_one"]:List Str).Nodup:=by decide +kernel
noncomputable def dJ:ME:=aC cX (ag (aC (fun ds μ=>(dy ds μ).nox) (ag (ak 1) (ag (ak 2) (ag (ak 0) (ax))))) (ax))
noncomputable def dH:ME:=aC cX (ag (ak 0) (ax))
noncomputable def dG:ME:=ak 0
noncomputable def dB:MT:=fT (az (A7 false) (az c9 (az c9 (ak 1) (ak 2)) (ak 0)) (bU (ag (cC (.int 0)) (ag (cC (.int 1)) (ax)))))
noncomputable def fP:MS:=br (jZ (fT (az (fX true) (bE (dZ h7 (ag (az c9 (ak 0) (cC (.int 0))) (ax))) [none,some 0,some 2] (aj 0) (bz) (dJ)) (bE (ia (az c9 (ak 1) (ak 2))) [none] (aj 0) (bz) (dH)))) (cu (cC (.bl false))) (di))
 (br (bw (aC fw (ag (bE (dZ h7 (ag (az c9 (ak 0) (cC (.int 0))) (ax))) [none,some 1,some 2] (aj 0) (dB) (dG)) (ax))) (aj 3))
 (jZ (fT (az (sV true) (aC cX (ag (aC (fun ds μ=>(dP ds μ).nox) (ag (ak 0) (ag (ak 2) (ax)))) (ax))) (aC cX (ag (ak 3) (ax))))) (cu (cC (.bl false))) (di)))
noncomputable def dF:ME:=aC bS (ag (ak 1) (ag (ak 0) (ax)))
noncomputable def dE:ME:=aC cX (ag (aC (fun ds μ=>(aY ds μ).nox) (ag (ak 1) (ag (ak 0) (ax)))) (ax))
noncomputable def dD:ME:=aC cX (ag (ak 0) (ax))
noncomputable def l9:MS:=br (bw (aC eS (ag (ak 0) (ax))) (aj 1))
 (br (kl (dZ h7 (ag (az c9 (ak 0) (cC (.int 0))) (ax))) (aj 2) fP)
 (br (bw (bE (dZ km (ag (cC (.int 1)) (ag (cC (.int 8)) (ax)))) [none,some 0] (aj 0) (bz) (dF)) (aj 4))
 (br (jZ (fT (az (fX true) (bE (dZ km (ag (cC (.int 1)) (ag (cC (.int 7)) (ax)))) [none,some 0] (aj 0) (bz) (dE)) (bE (ia (Dm (ak 4) (DR) (lj (cC (.int 6))))) [none] (aj 0) (bz) (dD)))) (cu (cC (.bl false))) (di))
 (br (jZ (u5 (fT (az (sV true) (aC cX (ag (aC eQ (ag (ak 0) (ax))) (ax))) (aC cX (ag (az c9 (ak 4) (cC (.int 1))) (ax))))) (fT (az (sV true) (aC cX (ag (aC fH (ag (ak 0) (ax))) (ax))) (aC cX (ag (az cv (cC (.int 1)) (A1 ka (ak 4) (ag (az c9 (ak 4) (cC (.int 6))) (ax)))) (ax)))))) (cu (cC (.bl false))) (di))
 (br (bw (aC iq (ag (ak 0) (ax))) (aj 5))
 (cu (oD (nA (la "bool") (ak 5)) (az (fX false) (ak 5) (az (fX false) (az c9 (ak 4) (cC (.int 1))) (ak 0))))))))))
noncomputable def cD:List D->aB->ai D:=iN 1 6 l9
theorem mr:aS ["_law_script", "_law_cell", "_law_pen", "_law_web", "_law_bad"] ["_law_script"] (au kP):=⟨rfl,rfl,rfl,by decide +kernel,rfl,by decide +kernel,by decide +kernel⟩
noncomputable def n9:MS:=br (jZ (u5 (fT (az (fX true) (aC bK (ag (cC (.int 0)) (ag (ak 3) (ag (ak 4) (ag (cC .non) (ax)))))) (cC (.str "place")))) (fT (az (fX true) (aC bK (ag (cC (.int 0)) (ag (ak 3) (ag (cC (.int 0)) (ag (ak 4) (ax)))))) (cC (.str "place"))))) (cu (cC (.bl false))) (di))
 (jZ (fT (az (fX true) (aC bK (ag (cC (.int 1)) (ag (ak 3) (ag (ak 4) (ag (cC (.int 0)) (ax)))))) (cC (.str "place")))) (cu (cC (.bl false))) (di))
noncomputable def n6:MS:=jZ (fT (az (fX true) (aC bK (ag (cC (.int 2)) (ag (ak 3) (ag (ak 4) (ag (cC (.int 0)) (ax)))))) (cC (.str "number")))) (cu (cC (.bl false))) (di)
noncomputable def n5:MS:=br (bw (aC eC (ag (ak 1) (ax))) (aj 2))
 (br (bw (aC eB (ag (ak 2) (ax))) (aj 3))
 (br (jZ (kE (lb (aC cD (ag (ak 3) (ax))))) (cu (cC (.bl false))) (di))
 (br (kl (ia (fZ (ag (az c9 (ak 3) (cC (.int 0))) (ag (nA sU (cC (.int 1))) (ag (cC (.bl true)) (ag (cC .non) (ag (cC (.str "0")) (ag (bU (ag (cC (.int 0)) (ax))) (ag (fZ (ag (cC (.int 0)) (ax))) (ag (az rC (cC (.int 10)) (cC (.int 20))) (ax))))))))))) (aj 4) n9)
 (kl (ia (fZ (ag (cC (.int 0)) (ag (cC (.int 7)) (ag (nA sU (cC (.int 1))) (ag (cC (.bl true)) (ag (cC .non) (ag (cC (.str "2")) (ag (bU (ag (cC (.int 2)) (ax))) (ag (az jd (cC (.int 2)) (az rC (cC (.int 10)) (cC (.int 20)))) (ax))))))))))) (aj 4) n6))))
noncomputable def DN:MS:=br (jZ (u5 (kE (lb (aC cD (ag (bU (ag (cC (.int 1)) (ag (bU (ax)) (ax)))) (ax))))) (kE (lb (aC cD (ag (bU (ag (cC (.int 6)) (ag (bU (ax)) (ax)))) (ax)))))) (cu (cC (.bl false))) (di))
 (br (jZ (kE (lb (aC cD (ag (bU (ag (cC (.int 6)) (ag (bU (ag (bU (ag (cC (.int 0)) (ag (cC (.int 1)) (ax)))) (ag (bU (ag (cC (.int 1)) (ag (cC (.int 2)) (ax)))) (ag (bU (ag (cC (.int 2)) (ag (cC (.int 3)) (ax)))) (ag (bU (ag (cC (.int 3)) (ag (cC (.int 4)) (ax)))) (ag (bU (ag (cC (.int 4)) (ag (cC (.int 5)) (ax)))) (ax))))))) (ax)))) (ax))))) (cu (cC (.bl false))) (di))
 (br (kl (ia (az cv (fZ (ag (aC dC (ag (ak 0) (ag (cC (.int 0)) (ax)))) (ax))) (Dm (ak 0) (lj (cC (.int 1))) (lj (cC (.int 6)))))) (aj 1) n5)
 (cu (cC (.bl true)))))
noncomputable def tJ:List D->aB->ai D:=iN 1 5 DN
theorem uB (nm:Nm mg) {f:Addr}{fd:FuncData} (F:iz K "is_whole" "is_whole" iI f fd) (hm:mg "is_whole" = some (.ref f)):gk P w K mg base (fW K w) 1 "is_whole" 1 eR:=
 d2 F ux rfl hm (F.b1 (by rfl) fun _ _ _ _ _ _ _=>by rfl) fun cdv A outer s H E hr=>
 aN (bB (vX (tj (T:="int") (by decide) zC (by decide) (by decide) nm.isinstance nm.int (aG 0)) (vY (Do (tj (T:="bool") (by decide) sj (by decide) (by decide) nm.isinstance nm.bool (aG 0))))))
theorem mV (nm:Nm mg) {f:Addr}{fd:FuncData} (F:iz K "is_whole_from" "is_whole_from" dR f fd) (hm:mg "is_whole_from" = some (.ref f)) (d_is_whole:gk P w K mg base (fW K w) 1 "is_whole" 1 eR):gk P w K mg base (fW K w) 2 "is_whole_from" 3 bj:=
 d2 F mU rfl hm (F.b3 (by rfl) fun _ _ _ _ _ _ _ _ _=>by rfl) fun cdv A outer s H E hr=>
 aN (bB (vX (bo d_is_whole (hr.mono (by decide)) (aH (aG 0) (bc))) (vY (GS (lq (op:=.LtE) hr.units) (lq (op:=.LtE) hr.units) (aG 1) (aG 0) (aG 2)))))
theorem uD (nm:Nm mg) {f:Addr}{fd:FuncData} (F:iz K "is_place" "is_place" iK f fd) (hm:mg "is_place" = some (.ref f)) (d_is_whole_from:gk P w K mg base (fW K w) 2 "is_whole_from" 3 bj):gk P w K mg base (fW K w) 3 "is_place" 2 ir:=
 d2 F uz rfl hm (F.b2 (by rfl) fun _ _ _ _ _ _ _ _=>by rfl) fun cdv A outer s H E hr=>
 aN (bB (bo d_is_whole_from (hr.mono (by decide)) (aH (aG 1) (aH (bx) (aH (ou (aG 0) (bx)) (bc))))))
theorem pR (nm:Nm mg) {f:Addr}{fd:FuncData} (F:iz K "check_place" "check_place" fK f fd) (hm:mg "check_place" = some (.ref f)) {a_NoPlace:Addr} (k_NoPlace:W.nsIn K mainGlobals "NoPlace" = some (some (.ref a_NoPlace))) (o_NoPlace:sY mg base "NoPlace" a_NoPlace) (d_is_place:gk P w K mg base (fW K w) 3 "is_place" 2 ir):jD P w K mg base 4 "check_place" 2 bG:=
 rH F pP rfl hm (F.b2 (by rfl) fun _ _ _ _ _ _ _ _=>by rfl) fun cdv A outer s H E hr=>
 aN (gJ (ot (Dj (ly d_is_place (hr.mono (by decide)) (aH (bQ (aG 0) (bx)) (aH (aG 1) (bc)))))) (aN (we k_NoPlace o_NoPlace)) (eZ))
theorem pQ (nm:Nm mg) {f:Addr}{fd:FuncData} (F:iz K "next_places" "next_places" cP f fd) (hm:mg "next_places" = some (.ref f)):gk P w K mg base (fW K w) 1 "next_places" 2 cG:=
 d2 F pO rfl hm (F.b2 (by rfl) fun _ _ _ _ _ _ _ _=>by rfl) fun cdv A outer s H E hr=>
 aN (bB (dt (f6 (bN (N:=["ties", "front"]) (sc:=au cP) (Nc:=["a", "b", "front"]) (cap:=[none,none,some 1]) rfl rfl (by decide +kernel)) (uT (aG 0)) (fun _ _ _ _ _=>qu (gM (iX 0 jb) (gM (iX 1 jb) (qw)))) (fun _ _ _ _ _=>mZ (bO (DZ hr.units) (aG 0) (aG 2))) (fun _ _ _ _ _=>aG 1)) (f6 (bN (N:=["ties", "front"]) (sc:=au cP) (Nc:=["a", "b", "front"]) (cap:=[none,none,some 1]) rfl rfl (by decide +kernel)) (uT (aG 0)) (fun _ _ _ _ _=>qu (gM (iX 0 ja) (gM (iX 1 ja) (qw)))) (fun _ _ _ _ _=>mZ (bO (DZ hr.units) (aG 1) (aG 2))) (fun _ _ _ _ _=>aG 0))))
theorem sG (nm:Nm mg) {f:Addr}{fd:FuncData} (F:iz K "fars_from" "fars_from" fG f fd) (hm:mg "fars_from" = some (.ref f)) (d_next_places:gk P w K mg base (fW K w) 1 "next_places" 2 cG):gk P w K mg base (fW K w) 2 "fars_from" 2 cS:=
 d2 F cf rfl hm (F.b2 (by rfl) fun _ _ _ _ _ _ _ _=>by rfl) fun cdv A outer s H E hr=>
 aI (oz (aG 0) (qu (gM (iX 2 cf.nd) (gM (iX 3 cf.nd) (qw)))))
 (aI (bZ 4 cf.nd (qp (fU (aH (A5) (bc))) (aG 2)))
 (aI (oz (bx) (qv (aG 4) (aG 1)))
 (aI (bZ 5 cf.nd (bx))
 (aI (bZ 6 cf.nd (fU (aH (aG 1) (bc))))
 (aI (wx 100 MY (Dj (aG 6)) (aI (yJ 5 cf.nd (bx))
 (aI (jf 6 cf.nd (bN (N:=["web", "start", "many", "ties", "fars", "far", "front", "place"]) (sc:=au fG) (Nc:=["place", "fars"]) (cap:=[none,some 4]) rfl rfl (by decide +kernel)) (uT (bo d_next_places (hr.mono (by decide)) (aH (aG 3) (aH (aG 6) (bc))))) (fun _ _ _ _ _=>iX 0 pV) (fun _ _ _ _ _=>mZ (bO (DF) (bQ (aG 1) (aG 0)) (A5))) (fun _ _ _ _ _=>aG 0))
 (aN (jt MY (uT (aG 6)) (iX 7 cf.nd) (aN (oz (aG 5) (qv (aG 4) (aG 7)))))))))
 (aN (bB (aG 4))))))))
theorem xO (nm:Nm mg) {f:Addr}{fd:FuncData} (F:iz K "far_of" "far_of" kb f fd) (hm:mg "far_of" = some (.ref f)) (d_check_place:jD P w K mg base 4 "check_place" 2 bG) (d_fars_from:gk P w K mg base (fW K w) 2 "fars_from" 2 cS):jD P w K mg base 5 "far_of" 3 dy:=
 rH F xD rfl hm (F.b3 (by rfl) fun _ _ _ _ _ _ _ _ _=>by rfl) fun cdv A outer s H E hr=>
 aI (u7 (j3 d_check_place yP (hr.mono (by decide)) (aH (aG 0) (aH (aG 1) (bc)))))
 (aI (u7 (j3 d_check_place yP (hr.mono (by decide)) (aH (aG 0) (aH (aG 2) (bc)))))
 (aN (bB (bQ (ly d_fars_from (hr.mono (by decide)) (aH (aG 0) (aH (aG 1) (bc)))) (aG 2)))))
theorem vz (nm:Nm mg) {f:Addr}{fd:FuncData} (F:iz K "star_of" "star_of" jl f fd) (hm:mg "star_of" = some (.ref f)) (d_check_place:jD P w K mg base 4 "check_place" 2 bG) (d_next_places:gk P w K mg base (fW K w) 1 "next_places" 2 cG):jD P w K mg base 5 "star_of" 2 dP:=
 rH F vt rfl hm (F.b2 (by rfl) fun _ _ _ _ _ _ _ _=>by rfl) fun cdv A outer s H E hr=>
 aI (u7 (j3 d_check_place yP (hr.mono (by decide)) (aH (aG 0) (aH (aG 1) (bc)))))
 (aN (bB (bX gY nm.tuple (aH (bX lP nm.sorted (aH (bX (y0 hr.units) nm.set (aH (dt (fU (aH (aG 1) (bc))) (ly d_next_places (hr.mono (by decide)) (aH (bQ (aG 0) (bx)) (aH (fU (aH (aG 1) (bc))) (bc))))) (bc))) (bc))) (bc)))))
theorem sF (nm:Nm mg) {f:Addr}{fd:FuncData} (F:iz K "steps_web" "steps_web" fF f fd) (hm:mg "steps_web" = some (.ref f)) (c_MOST_STEPS:∃ t,mg "MOST_STEPS" = some (.int 6 t)) {a_NoNumber:Addr} (k_NoNumber:W.nsIn K mainGlobals "NoNumber" = some (some (.ref a_NoNumber))) (o_NoNumber:sY mg base "NoNumber" a_NoNumber) (d_is_whole_from:gk P w K mg base (fW K w) 2 "is_whole_from" 3 bj) (d_fars_from:gk P w K mg base (fW K w) 2 "fars_from" 2 cS):jD P w K mg base 3 "steps_web" 2 aY:=
 rH F dQ rfl hm (F.b2 (by rfl) fun _ _ _ _ _ _ _ _=>by rfl) fun cdv A outer s H E hr=>
 aI (gJ (ot (Dj (ly d_is_whole_from (hr.mono (by decide)) (aH (aG 1) (aH (bx) (aH (Ic c_MOST_STEPS) (bc))))))) (aN (we k_NoNumber o_NoNumber)) (eZ))
 (aI (bZ 2 dQ.nd (bQ (aG 0) (bx)))
 (aI (bZ 3 dQ.nd (fU (bc)))
 (aI (jt PassesOwn.leaving (nB nm.range (aH (aG 2) (bc))) (iX 4 dQ.nd) (aI (bZ 5 dQ.nd (ly d_fars_from (hr.mono (by decide)) (aH (aG 0) (aH (aG 4) (bc)))))
 (aN (yJ 3 dQ.nd (f6 (bN (N:=["web", "k", "many", "ties", "one", "fars"]) (sc:=au fF) (Nc:=["other", "one", "k", "fars"]) (cap:=[none,some 4,some 1,some 5]) rfl rfl (by decide +kernel)) (uZ nm.range (aH (dt (aG 4) (bx)) (aH (aG 2) (bc)))) (fun _ _ _ _ _=>iX 0 pU) (fun _ _ _ _ _=>mZ (rm (tq (bO (zr) (bQ (aG 3) (aG 0)) (A5)) (oE (bO (lq (op:=.LtE) hr.units) (bQ (aG 3) (aG 0)) (aG 2)))))) (fun _ _ _ _ _=>bV (aH (aG 1) (aH (aG 0) (bc)))))))))
 (aN (bB (bV (aH (aG 2) (aH (bX gY nm.tuple (aH (aG 3) (bc))) (bc)))))))))
theorem uA (nm:Nm mg) {f:Addr}{fd:FuncData} (F:iz K "two_step" "two_step" iH f fd) (hm:mg "two_step" = some (.ref f)) (d_steps_web:jD P w K mg base 3 "steps_web" 2 aY):gk P w K mg base (fW K w) 4 "two_step" 1 eQ:=
 d2 F uw rfl hm (F.b1 (by rfl) fun _ _ _ _ _ _ _=>by rfl) fun cdv A outer s H E hr=>
 aN (bB (iZ d_steps_web (hr.mono (by decide)) (aH (aG 0) (aH (bx) (bc)))))
theorem qe (nm:Nm mg) {f:Addr}{fd:FuncData} (F:iz K "still_from" "still_from" gv f fd) (hm:mg "still_from" = some (.ref f)) (d_steps_web:jD P w K mg base 3 "steps_web" 2 aY):gk P w K mg base (fW K w) 4 "still_from" 1 fH:=
 d2 F iS rfl hm (F.b1 (by rfl) fun _ _ _ _ _ _ _=>by rfl) fun cdv A outer s H E hr=>
 aI (bZ 1 iS.nd (bx))
 (aI (wx 100 MY (bO (rA hr.units) (iZ d_steps_web (hr.mono (by decide)) (aH (aG 0) (aH (aG 1) (bc)))) (iZ d_steps_web (hr.mono (by decide)) (aH (aG 0) (aH (dt (aG 1) (bx)) (bc))))) (aN (yJ 1 iS.nd (bx))))
 (aN (bB (aG 1))))
theorem uC (nm:Nm mg) {f:Addr}{fd:FuncData} (F:iz K "is_still" "is_still" iJ f fd) (hm:mg "is_still" = some (.ref f)) (d_two_step:gk P w K mg base (fW K w) 4 "two_step" 1 eQ):gk P w K mg base (fW K w) 5 "is_still" 1 iq:=
 d2 F uy rfl hm (F.b1 (by rfl) fun _ _ _ _ _ _ _=>by rfl) fun cdv A outer s H E hr=>
 aN (bB (tm (kn hr.units) (bo d_two_step (hr.mono (by decide)) (aH (aG 0) (bc))) (aG 0)))
theorem nH (nm:Nm mg) {f:Addr}{fd:FuncData} (F:iz K "_law_cell_at" "_law_cell_at" eE f fd) (hm:mg "_law_cell_at" = some (.ref f)):gk P w K mg base (fW K w) 1 "_law_cell_at" 2 dC:=
 d2 F nF rfl hm (F.b2 (by rfl) fun _ _ _ _ _ _ _ _=>by rfl) fun cdv A outer s H E hr=>
 aI (gJ (bO (lq (op:=.Lt) hr.units) (aG 1) (bX y6 nm.len (aH (aG 0) (bc)))) (aN (bB (bQ (aG 0) (aG 1)))) (eZ))
 (aN (bB (bx)))
theorem sI (nm:Nm mg) {f:Addr}{fd:FuncData} (F:iz K "_law_next" "_law_next" g6 f fd) (hm:mg "_law_next" = some (.ref f)):gk P w K mg base (fW K w) 1 "_law_next" 1 fg:=
 d2 F lV rfl hm (F.b1 (by rfl) fun _ _ _ _ _ _ _=>by rfl) fun cdv A outer s H E hr=>
 aI (bZ 0 lV.nd (qq (dt (aG 0) (bx)) (bx)))
 (aN (bB (qq (dt (dt (qp (aG 0) (aG 0)) (qp (bx) (aG 0))) (bx)) (bx))))
theorem pT (nm:Nm mg) {f:Addr}{fd:FuncData} (F:iz K "_law_pen_of" "_law_pen_of" fM f fd) (hm:mg "_law_pen_of" = some (.ref f)):gk P w K mg base (fW K w) 1 "_law_pen_of" 1 eC:=
 d2 F jX rfl hm (F.b1 (by rfl) fun _ _ _ _ _ _ _=>by rfl) fun cdv A outer s H E hr=>
 aI (bZ 1 jX.nd (bX DK nm.max (aH (aG 0) (aH (ou (bx) (aG 0)) (bc)))))
 (aN (bB (fU (aH (aG 1) (aH (bX DL nm.int (aH (tm (lq (op:=.GtE) hr.units) (aG 1) (yE (bx) (bx))) (bc))) (aH (qq (aG 1) (bx)) (bc)))))))
theorem sJ (nm:Nm mg) {f:Addr}{fd:FuncData} (F:iz K "_law_draw" "_law_draw" g7 f fd) (hm:mg "_law_draw" = some (.ref f)) (d__law_next:gk P w K mg base (fW K w) 1 "_law_next" 1 fg):gk P w K mg base (fW K w) 2 "_law_draw" 2 aZ:=
 d2 F lW rfl hm (F.b2 (by rfl) fun _ _ _ _ _ _ _ _=>by rfl) fun cdv A outer s H E hr=>
 aI (gJ (bO (kn hr.units) (bQ (aG 0) (bx)) (bx)) (aI (bZ 2 lW.nd (qq (bQ (aG 0) (bx)) (aG 1)))
 (aI (oz (za (bQ (aG 0) (bx)) (aG 1)) (qv (aG 0) (bx)))
 (aN (bB (aG 2))))) (eZ))
 (aI (oz (bo d__law_next (hr.mono (by decide)) (aH (dt (bo d__law_next (hr.mono (by decide)) (aH (bQ (aG 0) (bx)) (bc))) (bx)) (bc))) (qv (aG 0) (bx)))
 (aN (bB (qq (za (bQ (aG 0) (bx)) (bx)) (aG 1)))))
theorem qf (nm:Nm mg) {f:Addr}{fd:FuncData} (F:iz K "_law_whole" "_law_whole" gw f fd) (hm:mg "_law_whole" = some (.ref f)):gk P w K mg base (fW K w) 1 "_law_whole" 1 sN:=
 d2 F qd rfl hm (F.b1 (by rfl) fun _ _ _ _ _ _ _=>by rfl) fun cdv A outer s H E hr=>
 aN (bB (vX (tj (T:="int") (by decide) zC (by decide) (by decide) nm.isinstance nm.int (aG 0)) (vY (Do (tj (T:="bool") (by decide) sj (by decide) (by decide) nm.isinstance nm.bool (aG 0))))))
theorem nG (nm:Nm mg) {f:Addr}{fd:FuncData} (F:iz K "_law_kind_of" "_law_kind_of" eD f fd) (hm:mg "_law_kind_of" = some (.ref f)) {a_NoLine a_NoNumber a_NoPlace a_NoRoot a_NoText a_NoTree a_NoWeb a_TooGreat:Addr} (q_NoLine:bI K (.ref a_NoLine) [] ["NoNumber", "NoPlace"]) (q_NoNumber:bI K (.ref a_NoNumber) ["NoNumber"] ["NoNumber", "NoPlace"]) (q_NoPlace:bI K (.ref a_NoPlace) ["NoPlace"] ["NoNumber", "NoPlace"]) (q_NoRoot:bI K (.ref a_NoRoot) [] ["NoNumber", "NoPlace"]) (q_NoText:bI K (.ref a_NoText) [] ["NoNumber", "NoPlace"]) (q_NoTree:bI K (.ref a_NoTree) [] ["NoNumber", "NoPlace"]) (q_NoWeb:bI K (.ref a_NoWeb) [] ["NoNumber", "NoPlace"]) (q_TooGreat:bI K (.ref a_TooGreat) [] ["NoNumber", "NoPlace"]) (q_ValueError:bI K (.type "ValueError") ["NoNumber", "NoPlace"] ["NoNumber", "NoPlace"]) (m_NoLine:mg "NoLine" = some (.ref a_NoLine)) (m_NoNumber:mg "NoNumber" = some (.ref a_NoNumber)) (m_NoPlace:mg "NoPlace" = some (.ref a_NoPlace)) (m_NoRoot:mg "NoRoot" = some (.ref a_NoRoot)) (m_NoText:mg "NoText" = some (.ref a_NoText)) (m_NoTree:mg "NoTree" = some (.ref a_NoTree)) (m_NoWeb:mg "NoWeb" = some (.ref a_NoWeb)) (m_TooGreat:mg "TooGreat" = some (.ref a_TooGreat)):Bn P w K mg base (fW K w) 1 "_law_kind_of" 1 bW:=
 D9 F gP rfl hm (F.b1 (by rfl) fun _ _ _ _ _ _ _=>by rfl) fun cdv A outer s H E hr=>
 aI (bZ 1 gP.nd (fU (aH (m5 q_NoPlace nm.isinstance m_NoPlace (aG 0)) (aH (m5 q_NoNumber nm.isinstance m_NoNumber (aG 0)) (aH (m5 q_NoLine nm.isinstance m_NoLine (aG 0)) (aH (m5 q_NoRoot nm.isinstance m_NoRoot (aG 0)) (bc)))))))
 (aI (bZ 1 gP.nd (dt (aG 1) (fU (aH (m5 q_NoTree nm.isinstance m_NoTree (aG 0)) (aH (m5 q_NoWeb nm.isinstance m_NoWeb (aG 0)) (aH (m5 q_NoText nm.isinstance m_NoText (aG 0)) (aH (m5 q_TooGreat nm.isinstance m_TooGreat (aG 0)) (bc))))))))
 (aI (gJ (rm (Bd (ot (Dj (Ec q_ValueError nm.isinstance nm.ValueError qm (aG 0)))) (vZ (bO (rA hr.units) (GR (aG 1) (aH (uR) (bc))) (bx))))) (aN (bB (uQ))) (eZ))
 (aN (bB (bQ (fU (aH (uQ) (aH (uQ) (aH (uQ) (aH (uQ) (aH (uQ) (aH (uQ) (aH (uQ) (aH (uQ) (bc)))))))))) (GQ (aG 1) (aH (uR) (bc))))))))
theorem qi (nm:Nm mg) {f:Addr}{fd:FuncData} (F:iz K "_law_named" "_law_named" dg f fd) (hm:mg "_law_named" = some (.ref f)):gk P w K mg base (fW K w) 1 "_law_named" 2 fI:=
 d2 F kH rfl hm (F.b2 (by rfl) fun _ _ _ _ _ _ _ _=>by rfl) fun cdv A outer s H E hr=>
 aI (jf 2 kH.nd (bN (N:=["_law_web", "_law_names", "_law_ties"]) (sc:=au dg) (Nc:=["_law_one", "_law_other", "_law_names"]) (cap:=[none,none,some 1]) rfl rfl (by decide +kernel)) (uT (bQ (aG 0) (bx))) (fun _ _ _ _ _=>qu (gM (iX 0 ju) (gM (iX 1 ju) (qw)))) (fun _ _ _ _ _=>iB) (fun _ _ _ _ _=>bV (aH (bQ (aG 2) (aG 0)) (aH (bQ (aG 2) (aG 1)) (bc)))))
 (aN (bB (bV (aH (bQ (aG 0) (bx)) (aH (bX gY nm.tuple (aH (bX lP nm.sorted (aH (bX (y0 hr.units) nm.set (aH (f6 (bN (N:=["_law_web", "_law_names", "_law_ties"]) (sc:=au dg) (Nc:=["_law_tie"]) (cap:=[none]) rfl rfl (by decide +kernel)) (uT (aG 2)) (fun _ _ _ _ _=>iX 0 nP) (fun _ _ _ _ _=>iB) (fun _ _ _ _ _=>bV (aH (bX HD nm.min (aH (aG 0) (bc))) (aH (bX DK nm.max (aH (aG 0) (bc))) (bc))))) (bc))) (bc))) (bc))) (bc))))))
theorem mW (nm:Nm mg) {f:Addr}{fd:FuncData} (F:iz K "_law_names_by" "_law_names_by" cQ f fd) (hm:mg "_law_names_by" = some (.ref f)) (d__law_draw:gk P w K mg base (fW K w) 2 "_law_draw" 2 aZ):gk P w K mg base (fW K w) 3 "_law_names_by" 2 dc:=
 d2 F i9 rfl hm (F.b2 (by rfl) fun _ _ _ _ _ _ _ _=>by rfl) fun cdv A outer s H E hr=>
 aI (bZ 2 i9.nd (Eb nm.range nm.list (aH (aG 1) (bc))))
 (aN (bB (bX gY nm.tuple (aH (f6 (bN (N:=["_law_pen", "_law_many", "_law_left"]) (sc:=au cQ) (Nc:=["_law_place", "_law_left", "_law_pen"]) (cap:=[none,some 2,some 0]) rfl rfl (by decide +kernel)) (nB nm.range (aH (aG 1) (bc))) (fun _ _ _ _ _=>iX 0 k7) (fun _ _ _ _ _=>iB) (fun _ _ _ _ _=>GP (aG 1) (aH (bo d__law_draw (hr.mono (by decide)) (aH (aG 2) (aH (bX y6 nm.len (aH (aG 1) (bc))) (bc)))) (bc)))) (bc)))))
theorem uE (nm:Nm mg) {f:Addr}{fd:FuncData} (F:iz K "_law_far" "_law_far" gH f fd) (hm:mg "_law_far" = some (.ref f)):gk P w K mg base (fW K w) 1 "_law_far" 1 eS:=
 d2 F cA rfl hm (F.b1 (by rfl) fun _ _ _ _ _ _ _=>by rfl) fun cdv A outer s H E hr=>
 aI (bZ 1 cA.nd (bQ (aG 0) (bx)))
 (aI (jf 2 cA.nd (bN (N:=["_law_web", "_law_many", "_law_far_here", "_law_place", "_law_size", "_law_one", "_law_other", "_law_a", "_law_b"]) (sc:=au gH) (Nc:=["_law_place", "_law_many"]) (cap:=[none,some 1]) rfl rfl (by decide +kernel)) (nB nm.range (aH (aG 1) (bc))) (fun _ _ _ _ _=>iX 0 qj) (fun _ _ _ _ _=>iB) (fun _ _ _ _ _=>qp (fU (aH (A5) (bc))) (aG 1)))
 (aI (jt MY (nB nm.range (aH (aG 1) (bc))) (iX 3 cA.nd) (aI (oz (bx) (qv (bQ (aG 2) (aG 3)) (aG 3)))
 (aN (jt MY (uZ nm.range (aH (bx) (aH (aG 1) (bc)))) (iX 4 cA.nd) (aN (jt MY (uT (bQ (aG 0) (bx))) (qu (gM (iX 5 cA.nd) (gM (iX 6 cA.nd) (qw)))) (aN (jt MY (uT (fU (aH (bV (aH (aG 5) (aH (aG 6) (bc)))) (aH (bV (aH (aG 6) (aH (aG 5) (bc)))) (bc))))) (qu (gM (iX 7 cA.nd) (gM (iX 8 cA.nd) (qw)))) (aN (gJ (rm (tq (bO (kn hr.units) (bQ (bQ (aG 2) (aG 3)) (aG 7)) (ou (aG 4) (bx))) (oE (bO (DF) (bQ (bQ (aG 2) (aG 3)) (aG 8)) (A5))))) (aN (oz (aG 4) (qv (bQ (aG 2) (aG 3)) (aG 8)))) (eZ)))))))))))
 (aN (bB (aG 2)))))
theorem qg (nm:Nm mg) {f:Addr}{fd:FuncData} (F:iz K "_law_steps" "_law_steps" d7 f fd) (hm:mg "_law_steps" = some (.ref f)) (d__law_far:gk P w K mg base (fW K w) 1 "_law_far" 1 eS):gk P w K mg base (fW K w) 2 "_law_steps" 2 bS:=
 d2 F d8 rfl hm (F.b2 (by rfl) fun _ _ _ _ _ _ _ _=>by rfl) fun cdv A outer s H E hr=>
 aI (bZ 2 d8.nd (bo d__law_far (hr.mono (by decide)) (aH (aG 0) (bc))))
 (aI (bZ 3 d8.nd (fU (bc)))
 (aI (jt MY (nB nm.range (aH (bQ (aG 0) (bx)) (bc))) (iX 4 d8.nd) (aN (bZ 3 d8.nd (dt (aG 3) (f6 (bN (N:=["_law_web", "_law_k", "_law_far_here", "_law_ties", "_law_one"]) (sc:=au d7) (Nc:=["_law_b", "_law_one", "_law_k", "_law_far_here"]) (cap:=[none,some 4,some 1,some 2]) rfl rfl (by decide +kernel)) (uZ nm.range (aH (dt (aG 4) (bx)) (aH (bQ (aG 0) (bx)) (bc)))) (fun _ _ _ _ _=>iX 0 nI) (fun _ _ _ _ _=>mZ (rm (tq (bO (zr) (bQ (bQ (aG 3) (aG 1)) (aG 0)) (A5)) (oE (bO (lq (op:=.LtE) hr.units) (bQ (bQ (aG 3) (aG 1)) (aG 0)) (aG 2)))))) (fun _ _ _ _ _=>bV (aH (aG 1) (aH (aG 0) (bc)))))))))
 (aN (bB (bV (aH (bQ (aG 0) (bx)) (aH (bX gY nm.tuple (aH (aG 3) (bc))) (bc))))))))
theorem me (nm:Nm mg) {f:Addr}{fd:FuncData} (F:iz K "_law_sparse_by" "_law_sparse_by" ba f fd) (hm:mg "_law_sparse_by" = some (.ref f)) (d__law_draw:gk P w K mg base (fW K w) 2 "_law_draw" 2 aZ) (d__law_named:gk P w K mg base (fW K w) 1 "_law_named" 2 fI) (d__law_names_by:gk P w K mg base (fW K w) 3 "_law_names_by" 2 dc):gk P w K mg base (fW K w) 4 "_law_sparse_by" 1 cR:=
 d2 F aT rfl hm (F.b1 (by rfl) fun _ _ _ _ _ _ _=>by rfl) fun cdv A outer s H E hr=>
 aI (bZ 1 aT.nd (bo d__law_draw (hr.mono (by decide)) (aH (aG 0) (aH (bx) (bc)))))
 (aI (bZ 2 aT.nd (dt (bx) (bo d__law_draw (hr.mono (by decide)) (aH (aG 0) (aH (bx) (bc))))))
 (aI (bZ 3 aT.nd (fU (bc)))
 (aI (jt MY (nB nm.range (aH (aG 2) (bc))) (iX 4 aT.nd) (aN (bZ 3 aT.nd (dt (aG 3) (f6 (bN (N:=["_law_pen", "_law_way", "_law_many", "_law_every", "_law_other", "_law_ties"]) (sc:=au ba) (Nc:=["_law_one", "_law_other"]) (cap:=[none,some 4]) rfl rfl (by decide +kernel)) (nB nm.range (aH (aG 4) (bc))) (fun _ _ _ _ _=>iX 0 kB) (fun _ _ _ _ _=>iB) (fun _ _ _ _ _=>bV (aH (aG 0) (aH (aG 1) (bc)))))))))
 (aI (gJ (bO (kn hr.units) (aG 1) (bx)) (aN (jf 5 aT.nd (bN (N:=["_law_pen", "_law_way", "_law_many", "_law_every", "_law_other", "_law_ties"]) (sc:=au ba) (Nc:=["_law_pair", "_law_pen"]) (cap:=[none,some 0]) rfl rfl (by decide +kernel)) (uT (aG 3)) (fun _ _ _ _ _=>iX 0 kA) (fun _ _ _ _ _=>mZ (bO (kn hr.units) (bo d__law_draw (hr.mono (by decide)) (aH (aG 1) (aH (bx) (bc)))) (bx))) (fun _ _ _ _ _=>aG 0))) (aN (gJ (bO (kn hr.units) (aG 1) (bx)) (aN (jf 5 aT.nd (bN (N:=["_law_pen", "_law_way", "_law_many", "_law_every", "_law_other", "_law_ties"]) (sc:=au ba) (Nc:=["_law_pair", "_law_pen"]) (cap:=[none,some 0]) rfl rfl (by decide +kernel)) (uT (aG 3)) (fun _ _ _ _ _=>iX 0 kz) (fun _ _ _ _ _=>mZ (bO (kn hr.units) (bo d__law_draw (hr.mono (by decide)) (aH (aG 1) (aH (bx) (bc)))) (bx))) (fun _ _ _ _ _=>aG 0))) (aN (gJ (bO (kn hr.units) (aG 1) (bx)) (aN (bZ 5 aT.nd (dt (f6 (bN (N:=["_law_pen", "_law_way", "_law_many", "_law_every", "_law_other", "_law_ties"]) (sc:=au ba) (Nc:=["_law_place"]) (cap:=[none]) rfl rfl (by decide +kernel)) (nB nm.range (aH (ou (aG 2) (bx)) (bc))) (fun _ _ _ _ _=>iX 0 ky) (fun _ _ _ _ _=>iB) (fun _ _ _ _ _=>bV (aH (aG 0) (aH (dt (aG 0) (bx)) (bc))))) (qp (fU (aH (bV (aH (bx) (aH (ou (aG 2) (bx)) (bc)))) (bc))) (bX DL nm.int (aH (tm (lq (op:=.Gt) hr.units) (aG 2) (bx)) (bc))))))) (aN (gJ (bO (kn hr.units) (aG 1) (bx)) (aN (jf 5 aT.nd (bN (N:=["_law_pen", "_law_way", "_law_many", "_law_every", "_law_other", "_law_ties"]) (sc:=au ba) (Nc:=["_law_place"]) (cap:=[none]) rfl rfl (by decide +kernel)) (nB nm.range (aH (ou (aG 2) (bx)) (bc))) (fun _ _ _ _ _=>iX 0 kx) (fun _ _ _ _ _=>iB) (fun _ _ _ _ _=>bV (aH (aG 0) (aH (dt (aG 0) (bx)) (bc)))))) (aN (gJ (bO (kn hr.units) (aG 1) (bx)) (aN (jf 5 aT.nd (bN (N:=["_law_pen", "_law_way", "_law_many", "_law_every", "_law_other", "_law_ties"]) (sc:=au ba) (Nc:=["_law_place"]) (cap:=[none]) rfl rfl (by decide +kernel)) (uZ nm.range (aH (bx) (aH (aG 2) (bc)))) (fun _ _ _ _ _=>iX 0 kv) (fun _ _ _ _ _=>iB) (fun _ _ _ _ _=>bV (aH (bx) (aH (aG 0) (bc)))))) (aN (jf 5 aT.nd (bN (N:=["_law_pen", "_law_way", "_law_many", "_law_every", "_law_other", "_law_ties"]) (sc:=au ba) (Nc:=["_law_place", "_law_pen"]) (cap:=[none,some 0]) rfl rfl (by decide +kernel)) (uZ nm.range (aH (bx) (aH (aG 2) (bc)))) (fun _ _ _ _ _=>iX 0 ku) (fun _ _ _ _ _=>iB) (fun _ _ _ _ _=>bV (aH (bo d__law_draw (hr.mono (by decide)) (aH (aG 1) (aH (aG 0) (bc)))) (aH (aG 0) (bc)))))))))))))))
 (aN (bB (bo d__law_named (hr.mono (by decide)) (aH (bV (aH (aG 2) (aH (bX gY nm.tuple (aH (aG 5) (bc))) (bc)))) (aH (bo d__law_names_by (hr.mono (by decide)) (aH (aG 0) (aH (aG 2) (bc)))) (bc))))))))))
theorem pS (nm:Nm mg) {f:Addr}{fd:FuncData} (F:iz K "_law_web_by" "_law_web_by" fL f fd) (hm:mg "_law_web_by" = some (.ref f)) (d__law_sparse_by:gk P w K mg base (fW K w) 4 "_law_sparse_by" 1 cR) (d__law_draw:gk P w K mg base (fW K w) 2 "_law_draw" 2 aZ) (d__law_steps:gk P w K mg base (fW K w) 2 "_law_steps" 2 bS):gk P w K mg base (fW K w) 5 "_law_web_by" 1 eB:=
 d2 F ck rfl hm (F.b1 (by rfl) fun _ _ _ _ _ _ _=>by rfl) fun cdv A outer s H E hr=>
 aI (bZ 1 ck.nd (bo d__law_sparse_by (hr.mono (by decide)) (aH (aG 0) (bc))))
 (aI (bZ 2 ck.nd (bo d__law_draw (hr.mono (by decide)) (aH (aG 0) (aH (bx) (bc)))))
 (aI (gJ (bO (lq (op:=.Lt) hr.units) (aG 2) (bx)) (aN (bZ 1 ck.nd (bo d__law_steps (hr.mono (by decide)) (aH (aG 1) (aH (bx) (bc)))))) (eZ))
 (aI (gJ (rm (tq (bO (kn hr.units) (aG 2) (bx)) (oE (bO (rA hr.units) (bQ (aG 1) (bx)) (bV (bc)))))) (aI (bZ 3 ck.nd (bo d__law_draw (hr.mono (by decide)) (aH (aG 0) (aH (bX y6 nm.len (aH (bQ (aG 1) (bx)) (bc))) (bc)))))
 (aN (bB (bV (aH (bQ (aG 1) (bx)) (aH (dt (Bc (bQ (aG 1) (bx)) (rT) (lx (aG 3))) (Bc (bQ (aG 1) (bx)) (lx (dt (aG 3) (bx))) (rT))) (bc))))))) (eZ))
 (aI (gJ (rm (tq (bO (kn hr.units) (aG 2) (bx)) (oE (bO (lq (op:=.Gt) hr.units) (bQ (aG 1) (bx)) (bx))))) (aI (bZ 4 ck.nd (bo d__law_draw (hr.mono (by decide)) (aH (aG 0) (aH (bQ (aG 1) (bx)) (bc)))))
 (aI (bZ 5 ck.nd (bX gY nm.tuple (aH (bX lP nm.sorted (aH (bV (aH (aG 4) (aH (qq (dt (dt (aG 4) (bx)) (bo d__law_draw (hr.mono (by decide)) (aH (aG 0) (aH (ou (bQ (aG 1) (bx)) (bx)) (bc))))) (bQ (aG 1) (bx))) (bc)))) (bc))) (bc))))
 (aN (bB (bV (aH (bQ (aG 1) (bx)) (aH (bX gY nm.tuple (aH (bX lP nm.sorted (aH (bX (y0 hr.units) nm.set (aH (dt (bQ (aG 1) (bx)) (bV (aH (aG 5) (bc)))) (bc))) (bc))) (bc))) (bc)))))))) (eZ))
 (aN (bB (aG 1)))))))
theorem sH (nm:Nm mg) {f:Addr}{fd:FuncData} (F:iz K "_law_told" "_law_told" g5 f fd) (hm:mg "_law_told" = some (.ref f)) {a_RootError:Addr} (m_RootError:mg "RootError" = some (.ref a_RootError)) (kn_RootError:tH K "RootError" a_RootError ["NoNumber", "NoPlace"]) (d_far_of:jD P w K mg base 5 "far_of" 3 dy) (d_star_of:jD P w K mg base 5 "star_of" 2 dP) (d_steps_web:jD P w K mg base 3 "steps_web" 2 aY) (d__law_kind_of:Bn P w K mg base (fW K w) 1 "_law_kind_of" 1 bW):gk P w K mg base (fW K w) 6 "_law_told" 4 bK:=
 d2 F lU rfl hm (F.binds fun _ _ _ _ _ _ us hl=>match us,hl with | [_,_,_,_],_=>rfl) fun cdv A outer s H E hr=>
 aN (GO rP lU.nd kn_RootError m_RootError (fun pins E=>aI (gJ (bO (kn hr.units) (aG 0) (bx)) (aN (bB (j3 d_far_of (yO rP) (hr.mono (by decide)) (aH (aG 1) (aH (aG 2) (aH (aG 3) (bc))))))) (eZ))
 (aN (bB (HZ (bO (kn hr.units) (aG 0) (bx)) (j3 d_star_of (yO rP) (hr.mono (by decide)) (aH (aG 1) (aH (aG 2) (bc)))) (j3 d_steps_web (yO rP) (hr.mono (by decide)) (aH (aG 1) (aH (aG 2) (bc)))))))) (fun ea=>aN (bB (Br d__law_kind_of ((hr.h.mark _).mono (by decide)) (aH (aG 4) (bc))))))
theorem qh (nm:Nm mg) {f:Addr}{fd:FuncData} (F:iz K "_law_right" "_law_right" bF f fd) (hm:mg "_law_right" = some (.ref f)) (d__law_far:gk P w K mg base (fW K w) 1 "_law_far" 1 eS) (d_far_of:jD P w K mg base 5 "far_of" 3 dy) (d_star_of:jD P w K mg base 5 "star_of" 2 dP) (d__law_steps:gk P w K mg base (fW K w) 2 "_law_steps" 2 bS) (d_steps_web:jD P w K mg base 3 "steps_web" 2 aY) (d_two_step:gk P w K mg base (fW K w) 4 "two_step" 1 eQ) (d_still_from:gk P w K mg base (fW K w) 4 "still_from" 1 fH) (d_is_still:gk P w K mg base (fW K w) 5 "is_still" 1 iq):gk P w K mg base (fW K w) 6 "_law_right" 1 cD:=
 d2 F dh rfl hm (F.b1 (by rfl) fun _ _ _ _ _ _ _=>by rfl) fun cdv A outer s H E hr=>
 aI (bZ 1 dh.nd (bo d__law_far (hr.mono (by decide)) (aH (aG 0) (bc))))
 (aI (jt MY (nB nm.range (aH (bQ (aG 0) (bx)) (bc))) (iX 2 dh.nd) (aI (gJ (bO (rA hr.units) (f6 (bN (N:=["_law_web", "_law_far_here", "_law_one", "_law_star", "_law_steps_here", "_law_still"]) (sc:=au bF) (Nc:=["_law_other", "_law_web", "_law_one"]) (cap:=[none,some 0,some 2]) rfl rfl (by decide +kernel)) (nB nm.range (aH (bQ (aG 0) (bx)) (bc))) (fun _ _ _ _ _=>iX 0 nO) (fun _ _ _ _ _=>iB) (fun _ _ _ _ _=>bX (gu hr) nm.repr (aH (iZ d_far_of (hr.mono (by decide)) (aH (aG 1) (aH (aG 2) (aH (aG 0) (bc))))) (bc)))) (f6 (bN (N:=["_law_web", "_law_far_here", "_law_one", "_law_star", "_law_steps_here", "_law_still"]) (sc:=au bF) (Nc:=["_law_number"]) (cap:=[none]) rfl rfl (by decide +kernel)) (uT (bQ (aG 1) (aG 2))) (fun _ _ _ _ _=>iX 0 nN) (fun _ _ _ _ _=>iB) (fun _ _ _ _ _=>bX (gu hr) nm.repr (aH (aG 0) (bc))))) (aN (bB (uR))) (eZ))
 (aI (bZ 3 dh.nd (bX gY nm.tuple (aH (f6 (bN (N:=["_law_web", "_law_far_here", "_law_one", "_law_star", "_law_steps_here", "_law_still"]) (sc:=au bF) (Nc:=["_law_other", "_law_far_here", "_law_one"]) (cap:=[none,some 1,some 2]) rfl rfl (by decide +kernel)) (nB nm.range (aH (bQ (aG 0) (bx)) (bc))) (fun _ _ _ _ _=>iX 0 nM) (fun _ _ _ _ _=>mZ (bO (DZ hr.units) (bQ (bQ (aG 1) (aG 2)) (aG 0)) (bV (aH (bx) (aH (bx) (bc)))))) (fun _ _ _ _ _=>aG 0)) (bc))))
 (aN (gJ (bO (yU) (bX (gu hr) nm.repr (aH (iZ d_star_of (hr.mono (by decide)) (aH (aG 0) (aH (aG 2) (bc)))) (bc))) (bX (gu hr) nm.repr (aH (aG 3) (bc)))) (aN (bB (uR))) (eZ))))))
 (aI (jf 4 dh.nd (bN (N:=["_law_web", "_law_far_here", "_law_one", "_law_star", "_law_steps_here", "_law_still"]) (sc:=au bF) (Nc:=["_law_k", "_law_web"]) (cap:=[none,some 0]) rfl rfl (by decide +kernel)) (uZ nm.range (aH (bx) (aH (bx) (bc)))) (fun _ _ _ _ _=>iX 0 nL) (fun _ _ _ _ _=>iB) (fun _ _ _ _ _=>bo d__law_steps (hr.mono (by decide)) (aH (aG 1) (aH (aG 0) (bc)))))
 (aI (gJ (bO (rA hr.units) (f6 (bN (N:=["_law_web", "_law_far_here", "_law_one", "_law_star", "_law_steps_here", "_law_still"]) (sc:=au bF) (Nc:=["_law_k", "_law_web"]) (cap:=[none,some 0]) rfl rfl (by decide +kernel)) (uZ nm.range (aH (bx) (aH (bx) (bc)))) (fun _ _ _ _ _=>iX 0 nK) (fun _ _ _ _ _=>iB) (fun _ _ _ _ _=>bX (gu hr) nm.repr (aH (iZ d_steps_web (hr.mono (by decide)) (aH (aG 1) (aH (aG 0) (bc)))) (bc)))) (f6 (bN (N:=["_law_web", "_law_far_here", "_law_one", "_law_star", "_law_steps_here", "_law_still"]) (sc:=au bF) (Nc:=["_law_one"]) (cap:=[none]) rfl rfl (by decide +kernel)) (uT (Bc (aG 4) (rT) (lx (bx)))) (fun _ _ _ _ _=>iX 0 nJ) (fun _ _ _ _ _=>iB) (fun _ _ _ _ _=>bX (gu hr) nm.repr (aH (aG 0) (bc))))) (aN (bB (uR))) (eZ))
 (aI (gJ (rm (Bd (bO (yU) (bX (gu hr) nm.repr (aH (bo d_two_step (hr.mono (by decide)) (aH (aG 0) (bc))) (bc))) (bX (gu hr) nm.repr (aH (bQ (aG 4) (bx)) (bc)))) (vZ (bO (yU) (bX (gu hr) nm.repr (aH (bo d_still_from (hr.mono (by decide)) (aH (aG 0) (bc))) (bc))) (bX (gu hr) nm.repr (aH (dt (bx) (Ed hr.units (aG 4) (aH (bQ (aG 4) (bx)) (bc)))) (bc))))))) (aN (bB (uR))) (eZ))
 (aI (bZ 5 dh.nd (bo d_is_still (hr.mono (by decide)) (aH (aG 0) (bc))))
 (aN (bB (vX (tj (T:="bool") (by decide) sj (by decide) (by decide) nm.isinstance nm.bool (aG 5)) (vY (tm (kn hr.units) (aG 5) (tm (kn hr.units) (bQ (aG 4) (bx)) (aG 0))))))))))))
theorem F3 (nm:Nm mg) {f:Addr}{fd:FuncData} (F:iz K "law" "law" kP f fd) (d__law_right:gk P w K mg base (fW K w) 6 "_law_right" 1 cD) (d__law_cell_at:gk P w K mg base (fW K w) 1 "_law_cell_at" 2 dC) (d__law_pen_of:gk P w K mg base (fW K w) 1 "_law_pen_of" 1 eC) (d__law_web_by:gk P w K mg base (fW K w) 5 "_law_web_by" 1 eB) (d__law_told:gk P w K mg base (fW K w) 6 "_law_told" 4 bK):om P w K mg base uW 7 f fd ["_law_script"] (AZ (fW K w) 1 tJ):=
 Hy F mr rfl fun cdv A outer s H E hr=>
 aI (gJ (rm (Bd (ot (Dj (bo d__law_right (hr.mono (by decide)) (aH (bV (aH (bx) (aH (bV (bc)) (bc)))) (bc))))) (vZ (ot (Dj (bo d__law_right (hr.mono (by decide)) (aH (bV (aH (bx) (aH (bV (bc)) (bc)))) (bc)))))))) (aN (bB (uR))) (eZ))
 (aI (gJ (ot (Dj (bo d__law_right (hr.mono (by decide)) (aH (bV (aH (bx) (aH (bV (aH (bV (aH (bx) (aH (bx) (bc)))) (aH (bV (aH (bx) (aH (bx) (bc)))) (aH (bV (aH (bx) (aH (bx) (bc)))) (aH (bV (aH (bx) (aH (bx) (bc)))) (aH (bV (aH (bx) (aH (bx) (bc)))) (bc))))))) (bc)))) (bc))))) (aN (bB (uR))) (eZ))
 (aI (jt MY (uT (dt (fU (aH (bo d__law_cell_at (hr.mono (by decide)) (aH (aG 0) (aH (bx) (bc)))) (bc))) (Bc (aG 0) (lx (bx)) (lx (bx))))) (iX 1 mr.nd) (aI (bZ 2 mr.nd (bo d__law_pen_of (hr.mono (by decide)) (aH (aG 1) (bc))))
 (aI (bZ 3 mr.nd (bo d__law_web_by (hr.mono (by decide)) (aH (aG 2) (bc))))
 (aI (gJ (ot (Dj (bo d__law_right (hr.mono (by decide)) (aH (aG 3) (bc))))) (aN (bB (uR))) (eZ))
 (aI (jt MY (uT (fU (aH (bQ (aG 3) (bx)) (aH (Dp (bx)) (aH (uR) (aH (A5) (aH (uQ) (aH (bV (aH (bx) (bc))) (aH (fU (aH (bx) (bc))) (aH (yE (bx) (bx)) (bc))))))))))) (iX 4 mr.nd) (aI (gJ (rm (Bd (bO (rA hr.units) (bo d__law_told (hr.mono (by decide)) (aH (bx) (aH (aG 3) (aH (aG 4) (aH (A5) (bc)))))) (uQ)) (vZ (bO (rA hr.units) (bo d__law_told (hr.mono (by decide)) (aH (bx) (aH (aG 3) (aH (bx) (aH (aG 4) (bc)))))) (uQ))))) (aN (bB (uR))) (eZ))
 (aN (gJ (bO (rA hr.units) (bo d__law_told (hr.mono (by decide)) (aH (bx) (aH (aG 3) (aH (aG 4) (aH (bx) (bc)))))) (uQ)) (aN (bB (uR))) (eZ)))))
 (aN (jt MY (uT (fU (aH (bx) (aH (bx) (aH (Dp (bx)) (aH (uR) (aH (A5) (aH (uQ) (aH (bV (aH (bx) (bc))) (aH (qp (bx) (yE (bx) (bx))) (bc))))))))))) (iX 4 mr.nd) (aN (gJ (bO (rA hr.units) (bo d__law_told (hr.mono (by decide)) (aH (bx) (aH (aG 3) (aH (aG 4) (aH (bx) (bc)))))) (uQ)) (aN (bB (uR))) (eZ))))))))))
 (aN (bB (uR)))))
end
end Lw
namespace Lv
variable {adj:Int->Int->Prop}{p:Int}
def R (adj:Int->Int->Prop) (p:Int):Nat->Int->Prop
 | 0,q=>q=p
 | n+1,q=>R adj p n q\/∃ r,adj r q/\R adj p n r
def pY (adj:Int->Int->Prop) (p:Int):Nat->Int->Prop
 | 0,q=>q=p
 | n+1,q=>R adj p (n+1) q/\¬ R adj p n q
theorem R.up {n:Nat}{q:Int} (h:R adj p n q):R adj p (n+1) q:=.inl h
theorem R.mono {n m:Nat}{q:Int} (h:R adj p n q) (hm:n<=m):R adj p m q:=by
 induction hm with
 | refl=>exact h
 | step _ ih=>exact ih.up
theorem pY.r {n:Nat}{q:Int} (h:pY adj p n q):R adj p n q:=by
 cases n with
 | zero=>exact h
 | succ n=>exact h.1
theorem R.lev {n:Nat}{q:Int} (h:R adj p n q):∃ j,j<=n/\pY adj p j q:=by
 induction n with
 | zero=>exact ⟨0,J3 _,h⟩
 | succ n ih=>
  by_cases hr:R adj p n q
  ·obtain ⟨j, hj, hl⟩ := ih hr
   exact ⟨j,by omega,hl⟩
  ·exact ⟨n+1,J3 _,h,hr⟩
theorem pY.low {n j:Nat}{q:Int} (h:pY adj p n q) (hj:j<n):¬ R adj p j q:=by
 cases n with
 | zero=>omega
 | succ n=>exact fun hr=>h.2 (hr.mono (by omega))
theorem pY.one {n m:Nat}{q:Int} (h:pY adj p n q) (h':pY adj p m q):n=m:=by
 rcases Nat.lt_trichotomy n m with z | z | z
 ·exact absurd h.r (h'.low z)
 ·exact z
 ·exact absurd h'.r (h.low z)
theorem i3 {n:Nat}{q:Int}:pY adj p (n+1) q↔¬ R adj p n q/\∃ r,adj r q/\pY adj p n r:=by
 constructor
 ·rintro ⟨h1, h2⟩
  refine ⟨h2,?_⟩
  rcases h1 with h1 | ⟨r,ha,hr⟩
  ·exact absurd h1 h2
  ·refine ⟨r, ha, ?_⟩
   cases n with
   | zero=>exact hr
   | succ n=>exact ⟨hr,fun z=>h2 (.inr ⟨r,ha,z⟩)⟩
 ·rintro ⟨h1, r, ha, hr⟩
  exact ⟨.inr ⟨r,ha,hr.r⟩,h1⟩
def Up (adj:Int->Int->Prop) (p:Int) (D:Int->Prop) (n:Nat) (f:Int->Option Nat):Prop:=∀ q,D q->∀ j,f q=some j↔(j<=n/\pY adj p j q)
theorem Up.none {D:Int->Prop}{n:Nat}{f:Int->Option Nat} (h:Up adj p D n f) {q:Int} (hq:D q):f q=none↔¬ R adj p n q:=by
 constructor
 ·intro e hr
  obtain ⟨j,hj,hl⟩:=hr.lev
  have:=(h q hq j).mpr ⟨hj,hl⟩
  rw [e] at this;cases this
 ·intro hr
  cases e:f q with
  | none=>rfl
  | some j=>
   obtain ⟨hj,hl⟩:=(h q hq j).mp e
   exact absurd (hl.r.mono hj) hr
theorem wY {D:Int->Prop}{f:Int->Option Nat} (h:∀ q,D q->f q=if q=p then some 0 else Option.none):Up adj p D 0 f:=fun q hq j=>by
 rw [h q hq]
 by_cases e:q=p
 ·rw [Js e]
  constructor
  ·intro z;cases z;exact ⟨J3 _,e⟩
  ·rintro ⟨h1, _⟩
   have:j=0:=by omega
   rw [this]
 ·rw [Jt e]
  constructor
  ·intro z;cases z
  ·rintro ⟨h1, h2⟩
   have:j=0:=by omega
   subst this
   exact absurd h2 e
theorem Up.next {D:Int->Prop}{n:Nat}{f f':Int->Option Nat} (h:Up adj p D n f) (hD:∀ a b,adj a b->D a) (e:∀ q,D q->∀ j,f' q=some j↔(f q=some j\/(f q=Option.none/\j=n+1/\∃ r,adj r q/\f r=some n))):Up adj p D (n+1) f':=fun q hq j=>by
 rw [e q hq j]
 constructor
 ·rintro (z | ⟨z1, z2, r, z3, z4⟩)
  ·obtain ⟨hj, hl⟩ := (h q hq j).mp z
   exact ⟨by omega,hl⟩
  ·subst z2
   refine ⟨J3 _,i3.mpr ⟨(h.none hq).mp z1,r,z3,?_⟩⟩
   exact ((h r (hD r q z3) n).mp z4).2
 ·rintro ⟨hj, hl⟩
  by_cases hn:j<=n
  ·exact .inl ((h q hq j).mpr ⟨hn,hl⟩)
  ·have : j = n + 1 := by omega
   subst this
   obtain ⟨h1,r,ha,hr⟩:=i3.mp hl
   exact .inr ⟨(h.none hq).mpr h1,rfl,r,ha,(h r (hD r q ha) n).mpr ⟨J3 _,hr⟩⟩
def jB (adj:Int->Int->Prop) (p:Int) (D:Int->Prop) (f:Int->Option Nat):Prop:=∀ q,D q->∀ j,f q=some j↔pY adj p j q
theorem jB.eq {D:Int->Prop}{f g:Int->Option Nat} (h:jB adj p D f) (h':jB adj p D g) {q:Int} (hq:D q):f q=g q:=by
 apply Option.ext
 intro j
 rw [h q hq j,h' q hq j]
theorem pY.below {n:Nat}:∀ {q:Int},pY adj p n q->∀ j,j<=n->∃ r,pY adj p j r:=by
 induction n with
 | zero => intro q h j hj; exact ⟨q, by have : j = 0 := by omega
                                        subst this;exact h⟩
 | succ n ih=>
  intro q h j hj
  by_cases e:j=n+1
  ·subst e;exact ⟨q,h⟩
  ·obtain ⟨_, r, _, hr⟩ := i3.mp h
   exact ih hr j (by omega)
theorem Up.full {D:Int->Prop}{n:Nat}{f:Int->Option Nat} (h:Up adj p D n f) (hD:∀ a b,adj a b->D b) (e:∀ q,D q->¬ pY adj p (n+1) q):jB adj p D f:=fun q hq j=>by
 rw [h q hq j]
 constructor
 ·exact fun z=>z.2
 ·intro hl
  refine ⟨?_,hl⟩
  apply Nat.le_of_not_lt
  intro hj
  obtain ⟨r,hr⟩:=hl.below (n+1) (by omega)
  obtain ⟨_,s,hs,_⟩:=i3.mp hr
  exact e r (hD s r hs) hr
theorem rO {m:Nat} (hp:0<=p/\p<m) (hD:∀ a b,adj a b->0<=b/\b<m) {n:Nat}{q:Int} (h:pY adj p n q):n<m:=by
 have hr:∀ j,∃ r,j<=n->pY adj p j r:=fun j=>by
  by_cases hj:j<=n
  ·obtain ⟨r,hr⟩:=h.below j hj;exact ⟨r,fun _=>hr⟩
  ·exact ⟨0,fun z=>absurd z hj⟩
 let r:Nat->Int:=fun j=>(hr j).choose
 have hr':∀ j,j<=n->pY adj p j (r j):=fun j hj=>(hr j).choose_spec hj
 have rng:∀ j,j<=n->0<=r j/\r j<m:=fun j hj=>by
  have:=hr' j hj
  cases j with
  | zero=>rw [show r 0=p from this];exact hp
  | succ j=>
   obtain ⟨_,s,hs,_⟩:=i3.mp this
   exact hD s _ hs
 have nd:((List.range (n+1)).map fun j=>(r j).toNat).Nodup:=by
  rw [List.Nodup,Mp]
  refine List.Pairwise.imp_of_mem (R:=(·<·)) ?_ LJ
  intro a b ha hb hab e
  rw [JA] at ha hb
  have r1:=rng a (by omega)
  have r2:=rng b (by omega)
  have e':r a=r b:=by omega
  have h1:=hr' a (by omega)
  have h2:=hr' b (by omega)
  rw [e'] at h1
  have:=h1.one h2
  omega
 have sub:((List.range (n+1)).map fun j=>(r j).toNat) ⊆ List.range m:=fun x hx=>by
  obtain ⟨j,hj,rfl⟩:=Lp.mp hx
  rw [JA] at hj ⊢
  have:=rng j (by omega)
  omega
 have:=nd.length_le_of_subset sub
 rw [Kr,Lj,Lj] at this;omega
end Lv
namespace Lv
def kM (f:Int->Option Nat) (r:Int) (v:Nat):Int->Option Nat:=fun q=>if q=r then some v else f q
def yq (n:Nat) (f:Int->Option Nat) (qr:Int × Int):Int->Option Nat:=if f qr.1=some n/\f qr.2=none then kM f qr.2 (n+1) else f
theorem BC {n:Nat}{f0 f:Int->Option Nat}{done:List (Int × Int)}{qr:Int × Int}
  (h:∀ q j,f q=some j↔(f0 q=some j\/(f0 q=none/\j=n+1/\∃ r,(r,q)∈done/\f0 r=some n))) :
  ∀ q j,yq n f qr q=some j↔(f0 q=some j\/(f0 q=none/\j=n+1/\∃ r,(r,q)∈done++[qr]/\f0 r=some n)):=by
 intro q j
 have hn:∀ r,f r=some n↔f0 r=some n:=fun r=>by
  rw [h r n]
  constructor
  ·rintro (z | ⟨_, z, _⟩)
   ·exact z
   ·omega
  ·exact .inl
 have h0:∀ r,f r=none->f0 r=none:=fun r e=>by
  cases e0:f0 r with
  | none=>rfl
  | some i=>
   have:=(h r i).mpr (.inl e0)
   rw [e] at this;cases this
 obtain ⟨a,b⟩:=qr
 unfold yq
 dsimp only
 by_cases c:f a=some n/\f b=none
 ·rw [Js c]
  unfold kM
  by_cases e:q=b
  ·subst e
   rw [Js rfl]
   have z:=h0 q c.2
   constructor
   ·intro e; cases e
    exact .inr ⟨z,rfl,a,by simp,(hn a).mp c.1⟩
   ·rintro (y | ⟨_, y, _⟩)
    ·rw [z] at y;cases y
    ·rw [y]
  ·rw [Jt e, h q j]
   constructor
   ·rintro (y | ⟨y1, y2, r, y3, y4⟩)
    ·exact .inl y
    ·exact .inr ⟨y1,y2,r,JJ _ y3,y4⟩
   ·rintro (y | ⟨y1, y2, r, y3, y4⟩)
    ·exact .inl y
    ·rcases JI.mp y3 with y3 | y3
     ·exact .inr ⟨y1,y2,r,y3,y4⟩
     ·simp at y3;exact absurd y3.2 e
 ·rw [Jt c, h q j]
  constructor
  ·rintro (y | ⟨y1, y2, r, y3, y4⟩)
   ·exact .inl y
   ·exact .inr ⟨y1,y2,r,JJ _ y3,y4⟩
  ·rintro (y | ⟨y1, y2, r, y3, y4⟩)
   ·exact .inl y
   ·rcases JI.mp y3 with y3 | y3
    ·exact .inr ⟨y1,y2,r,y3,y4⟩
    ·simp at y3
     obtain ⟨rfl,rfl⟩:=y3
     have c2:f q≠none:=fun z=>c ⟨(hn r).mpr y4,z⟩
     cases e:f q with
     | none=>exact absurd e c2
     | some i=>
      have:=(h q i).mp e
      rcases this with w | ⟨w1,w2,w3⟩
      ·rw [y1] at w;cases w
      ·exact .inr ⟨y1,y2,w3⟩
theorem uh {n:Nat}{f0:Int->Option Nat}:∀ (qs done:List (Int × Int)) (f:Int->Option Nat),
  (∀ q j,f q=some j↔(f0 q=some j\/(f0 q=none/\j=n+1/\∃ r,(r,q)∈done/\f0 r=some n))) ->
  ∀ q j,qs.foldl (yq n) f q=some j↔(f0 q=some j\/(f0 q=none/\j=n+1/\∃ r,(r,q)∈done++qs/\f0 r=some n))
 | [],done,f,h=>by simpa using h
 | qr::qs,done,f,h=>by
  have:=uh qs (done++[qr]) (yq n f qr) (BC h)
  simpa [KS] using this
theorem z7 {adj:Int->Int->Prop}{p:Int}{D:Int->Prop}{n:Nat}{f:Int->Option Nat}{qs:List (Int × Int)} (h:Up adj p D n f) (hD:∀ a b,adj a b->D a) (ha:∀ a b,adj a b↔(a,b)∈qs):Up adj p D (n+1) (qs.foldl (yq n) f):=by
 refine h.next hD fun q hq j=>?_
 have:=uh (n:=n) (f0:=f) qs [] f (fun q j=>by simp) q j
 rw [this]
 simp only [K0,ha]
end Lv
namespace Lw
open PySem L2 RS
theorem bM:1000<=sizeLine:=by decide
theorem wm {μ:aB} (s:Int):∃ r:Int,fg [.int s] μ=.ok (.int r) μ:=by
 have h0:0<=(s+7919) % 2147483647:=MZ _ (by decide)
 have h1:(s+7919) % 2147483647<2147483647:=M7 _ (by decide)
 generalize ht:(s+7919) % 2147483647=t at h0 h1
 refine ⟨(t * t+48271 * t+12345) % 2147483629,?_⟩
 have c1:rF t t:=.inl ⟨by omega,by omega⟩
 have c2:rF 48271 t:=.inl ⟨by omega,by omega⟩
 unfold fg
 rw [fv]
 simp [nz,ht,c1,c2]
 exact cn (by simp)
def bT (a b c:Int):O:=.lst [.int a,.int b,.int c]
theorem nX {n:Nat}{a b c:Int}:(bT a b c).low n:=by simp [bT,O.low]
theorem Ew {μ:aB} (x:Int):∃ a b c:Int,eC [.int x] μ=.ok (.obj μ.length) (μ++[bT a b c]):=by
 have e:∀ i j:Int,u4 [.int i,.int j] μ=.ok (.int (if j > i then j else i)) μ:=fun _ _=>rfl
 have p1:yC 10 18:=⟨by decide,by decide,by decide⟩
 have ib:∀ k:Bool,∀ μ,m7 [.bl k] μ=.ok (.int (if k then 1 else 0)) μ:=fun _ _=>rfl
 refine ⟨(if 0 - x > x then 0 - x else x),(if dq .GtE (if 0 - x > x then 0 - x else x) (10 ^ (18:Int).toNat) then 1 else 0),(if 0 - x > x then 0 - x else x) % 1000003,?_⟩
 unfold eC
 rw [fv]
 have l3:(3:Nat)<=sizeLine:=by decide
 simp only [kL,aJ,aW,aD,aq,av,ah,ao,aA,aU,aa,af,ae,HB,e,cj,aE,bq,cW,List.set,List.replicate,M8,M9]
 have pw:rC (.int 10) (.int 18) μ=.ok (.int (10 ^ (18:Int).toNat)) μ:=kR p1
 have md:∀ x,pZ (.int x) (.int 1000003) μ=.ok (.int (x % 1000003)) μ:=fun x=>kR (show (0:Int)<1000003 by decide)
 simp only [pw,md,aa,af,dN,ib,K5,Lk,Js l3,ae,aV]
 rw [v9 (by simp)]
 rfl
theorem wt {μ:aB}{i:Nat}{a b c m:Int} (hp:μ[i]?=some (bT a b c)) (h0:0<m) (h1:m<1000) :
  ∃ r a' b' c':Int,0<=r/\r<m/\aZ [.obj i,.int m] μ=.ok (.int r) (μ.set i (bT a' b' c')):=by
 have hi:i<μ.length:=(JK.mp hp).1
 have hp':μ[i]?=some (.lst [.int a,.int b,.int c]):=hp
 have md:∀ {x:Int}{μ:aB},pZ (.int x) (.int m) μ=.ok (.int (x % m)) μ:=fun {x μ}=>kR (show (fun _ j=>(0:Int)<j) x m from h0)
 have fd:∀ {x:Int}{μ:aB},tF (.int x) (.int m) μ=.ok (.int (x / m)) μ:=fun {x μ}=>kR (show Bo x m from ⟨h0,by omega⟩)
 have f64:∀ {x:Int}{μ:aB},tF (.int x) (.int 64) μ=.ok (.int (x / 64)) μ:=fun {x μ}=>kR (show Bo x 64 from ⟨by decide,by decide⟩)
 unfold aZ
 rw [fu]
 by_cases hb:b=1
 ·subst hb
  refine ⟨a % m,a / m,1,c,MZ _ (by omega),M7 _ h0,?_⟩
  simp only [jW,aJ,bp,bD,aA,ah,ao,aU,aa,af]
  rw [dW hp' y9]
  simp only [aa,af,cb,K3,KA,aP,ae,aJ,aW,aA,ah,ao,aU]
  simp only [K4,Ky,KA,aJ,aW,aA,ah,ao,aU,aa,af]
  rw [dW hp' wc]
  simp only [aa,af,md,ae,cj,aE,List.replicate,M8,M9,ah,ao,aU,aA,aW,aJ]
  rw [dW hp' wc]
  simp only [aa,af,fd,ae,j8,ah,ao,aU]
  rw [lD hp' (my (by decide) (by simp))]
  simp only [aa,af,ae,aE,bq,ah,ao,rK,aV]
  exact wM (by simp only [CP]) (nX (a:=a / m) (b:=1) (c:=c))
 ·obtain ⟨s1, e1⟩ := wm (μ := μ) c
  obtain ⟨s2,e2⟩:=wm (μ:=μ) (s1+7)
  refine ⟨s2 / 64 % m,a,b,s2,MZ _ (by omega),M7 _ h0,?_⟩
  have hb':(b == 1)=false:=by simpa using hb
  simp only [jW,aJ,bp,bD,aA,ah,ao,aU,aa,af]
  rw [dW hp' y9]
  simp only [aa,af,cb,hb',aP,ae,K4,Ky,bH,aE,aJ,aW,aD,aq,av,aA,ah,ao,aU]
  rw [dW hp' DM]
  simp only [aa,af,e1,gr,e2,ae,j8,ah,ao,aU]
  rw [lD hp' (my (by decide) (by simp))]
  have hg:(μ.set i (.lst ([D.int a,D.int b,D.int c].set (2:Int).toNat (.int s2))))[i]?=some (.lst [D.int a,D.int b,D.int s2]):=by rw [JM hi];rfl
  simp only [aa,af,ae,aE,bq,aA,ah,ao,aU]
  rw [dW hg DM]
  simp only [aa,af,f64,md,ae,aV]
  exact wM (by simp) (nX (a:=a) (b:=b) (c:=s2))
theorem aL {μ g:aB}{i:Nat}{o:O} (h:μ[i]?=some o):(μ++g)[i]?=some o:=by
 rw [Kl (JK.mp h).1];exact h
theorem lB {μ g:aB}{i:Nat}{o:O} (h:i<μ.length):(μ++g).set i o=μ.set i o++g:=by
 rw [List.set_append_left _ _ h]
theorem gm {μ:aB}{i:Nat}{o:O} (h:i<μ.length):(μ.set i o)[i]?=some o:=JM h
theorem qU {β γ:Type}{f:β->γ}:∀ {l:List β}{i:Nat},(l.map f).eraseIdx i=(l.eraseIdx i).map f
 | [],_=>rfl
 | _::_,0=>rfl
 | x::r,i+1=>by simp [qU (l:=r) (i:=i)]
theorem CI {μ:aB}{i:Nat}{a b c:Int}{L:List Int}{ys:List D}{x:D} (hi:i<μ.length) (hL:0<L.length) (hL2:L.length<1000) :
  ∃ (r:Nat) (y:Int) (a' b' c':Int),L[r]?=some y/\dn [some x,some (.obj μ.length),some (.obj i)] ((μ.set i (bT a b c)++[.lst (L.map D.int)])++.lst ys::[]) =
   .ok (.int y) ((μ.set i (bT a' b' c')++[.lst ((L.eraseIdx r).map D.int)])++.lst ys::[]):=by
 have hn:((μ.set i (bT a b c)++[.lst (L.map D.int)])++.lst ys::[])[μ.length]?=some (.lst (L.map D.int)):=by
  have e:μ.length=(μ.set i (bT a b c)).length:=by simp
  rw [KS,e]
  exact aw
 have hp:((μ.set i (bT a b c)++[.lst (L.map D.int)])++.lst ys::[])[i]?=some (bT a b c):=aL (aL (gm hi))
 obtain ⟨r,a',b',c',h0,h1,e⟩:=wt (m:=(L.length:Int)) hp (by omega) (by omega)
 have hr:r.toNat<L.length:=by omega
 refine ⟨r.toNat,L[r.toNat],a',b',c',My hr,?_⟩
 have hset:((μ.set i (bT a b c)++[O.lst (L.map D.int)])++O.lst ys::[]).set i (bT a' b' c')=(μ.set i (bT a' b' c')++[O.lst (L.map D.int)])++O.lst ys::[]:=by
  rw [lB (by simp;omega),lB (by simpa using hi),List.set_set]
 have hn':((μ.set i (bT a' b' c')++[.lst (L.map D.int)])++.lst ys::[])[μ.length]?=some (.lst (L.map D.int)):=by
  have e:μ.length=(μ.set i (bT a' b' c')).length:=by simp
  rw [KS,e]
  exact aw
 have hl:sQ (.obj μ.length) ((μ.set i (bT a b c)++[.lst (L.map D.int)])++.lst ys::[])=true:=by
  unfold sQ;simp only [hn]
 unfold dn
 simp only [qx,ao,ah,aa,af,hl,KA,aq,av,aD]
 rw [Da hn]
 simp only [aa,af,Kr]
 rw [e]
 simp only [aa,af,hset]
 unfold oJ
 dsimp only
 rw [hn']
 dsimp only
 rw [my h0 (by simpa using h1)]
 dsimp only
 rw [Km,My hr]
 dsimp only [Option.map_some]
 rw [Js (by omega)]
 congr 1
 have e2:μ.length=(μ.set i (bT a' b' c')).length:=by simp
 rw [KS,e2]
 show (μ.set i (bT a' b' c')++O.lst (L.map D.int)::[O.lst ys]).set _ _=_
 rw [oQ,KS]
 congr 2
 congr 1
 exact qU
theorem vx {L:List Int}{r:Nat}{y:Int} (h:L[r]?=some y):L.Perm (y::L.eraseIdx r):=by
 induction L generalizing r with
 | nil=>simp at h
 | cons x l ih=>
  cases r with
  | zero=>simp at h;subst h;exact List.Perm.refl _
  | succ r=>
   simp at h
   exact ((ih h).cons x).trans (List.Perm.swap y x _)
theorem zP {μ:aB}{i:Nat}{a b c m:Int} (hp:μ[i]?=some (bT a b c)) (h0:1<=m) (h1:m<=6) :
  ∃ (ns:List Int) (a' b' c':Int),ns.Nodup/\(ns.length:Int)=m/\(∀ n∈ns,0<=n/\n<m)/\dc [.obj i,.int m] μ=.ok (.tup (ns.map D.int)) (μ.set i (bT a' b' c')):=by
 have hi:i<μ.length:=(JK.mp hp).1
 have h00:μ=μ.set i (bT a b c):=by
  apply Mm
  intro j
  by_cases hj:i=j
  ·subst hj;rw [gm hi];exact hp
  ·rw [JN hj]
 let N0:List Int:=(List.range m.toNat).map fun (k:Nat)=>(k:Int)
 have hN0:bh 0 m.toNat=N0.map D.int:=by
  simp only [bh,N0,Lh]
  apply Li;intro k _;simp
 have run:=i5 (src:=.fix (bh 0 m.toNat)) (g:=aj 0) (t:=bz) (e:=dn) (n:=μ.length+1)
  (fun xs ys ρ μ1 s=>s=[]/\∃ (o:Option D) (L ns:List Int) (a b c:Int),ρ=[o,some (.obj μ.length),some (.obj i)]/\μ1=μ.set i (bT a b c)++[.lst (L.map D.int)]/\ys=ns.map D.int/\(ns++L).Perm N0/\L.length=xs.length/\xs.length<=6)
  (fun ys ρ μ1 s ⟨_,o,L,ns,a,b,c,_,e,_⟩=>⟨by rw [e];simp,trivial⟩)
  (fun x r ys ρ μ1 s hJJ => by
   obtain ⟨es,o,L,ns,a,b,c,e1,e2,e3,e4,e5,e6⟩:=hJJ
   subst es
   refine ⟨by rw [e2];simp,trivial,[some x,some (.obj μ.length),some (.obj i)],μ1,[],true,μ1,[],by rw [e1];rfl,rfl,fun _=>?_,fun z=>by cases z⟩
   simp only [K5] at e5 e6
   obtain ⟨j,y,a',b',c',hj,e⟩:=CI (a:=a) (b:=b) (c:=c) (L:=L) (ys:=ys) (x:=x) hi (by omega) (by omega)
   rw [e2]
   refine ⟨.int y,_,[],e,?_,by simp,rfl,some x,L.eraseIdx j,ns++[y],a',b',c',rfl,rfl,by rw [e3];simp,?_,?_,by omega⟩
   ·rw [e3, Kr]
    have:=e4.length_eq
    have hN:N0.length=m.toNat:=by simp [N0]
    rw [Kq,hN] at this
    exact Jw (show ns.length<1000 by omega) bM
   ·rw [KS]
    exact (List.Perm.append_left ns (vx hj).symm).trans e4
   ·have hlt := (JK.mp hj).1
    rw [List.length_eraseIdx,Js hlt];omega)
  (xs:=bh 0 m.toNat) (ys:=[]) (ρ:=[none,some (.obj μ.length),some (.obj i)]) (μ1:=μ++[.lst (bh 0 m.toNat)]) (s:=[])
  ⟨rfl,none,N0,[],a,b,c,rfl,by rw [<- h00,hN0],rfl,by simp,by simp [N0,bh],by simp [bh];omega⟩
 obtain ⟨ys',ρ',μ1',s',⟨es,o,L,ns,a',b',c',f1,f2,f3,f4,f5,_⟩,run⟩:=run
 have hLn:L=[]:=MM (by simpa using f5)
 subst hLn es
 rw [Kb] at f4
 refine ⟨ns,a',b',c',?_,?_,fun n hn=>?_,?_⟩
 ·rw [f4.nodup_iff]
  simp only [N0]
  rw [List.nodup_iff_pairwise_ne,Mp]
  exact (Lr (n:=m.toNat)).imp fun h e=>h (by omega)
 ·have := f4.length_eq
  rw [this];simp [N0];omega
 ·have := f4.mem_iff.mp hn
  simp only [N0,Lp,JA] at this
  obtain ⟨k,hk,rfl⟩:=this
  omega
 ·unfold dc
  rw [fu]
  have lr:mD [.int m] μ=.ok (.obj μ.length) (μ++[.lst (bh 0 m.toNat)]):=by
   unfold mD;dsimp only;rw [Js (by omega)]
  simp only [jy,aJ,aW,aD,aq,av,ao,ah,aa,af,lr,ae,cj,aE,bq,bR,cc]
  simp only [List.replicate,M8,M9,ao,ah,aa,af]
  rw [fC (by omega) (by omega)]
  simp only [aa,af,bf,Kq,K5,Lk]
  rw [show iQ [none,some 2,some 0] [some (D.obj i),some (D.int m),some (D.obj μ.length)]=[none,some (.obj μ.length),some (.obj i)] from rfl]
  rw [run]
  simp only [aa,af]
  have hl:(μ1'++[O.lst ys'])[μ.length+1]?=some (.lst ys'):=by
   have:μ1'.length=μ.length+1:=by rw [f2];simp
   rw [<- this];exact aw
  rw [gW hl]
  simp only [ae,aV]
  rw [f2,f3,KS]
  exact vb (ip.mpr (by simp)) nX
def nS (m:Int) (k:List Int):Prop:=∃ a b:Int,k=[a,b]/\0<=a/\a<b/\b<m
theorem nS.prs {m:Int}{k:List Int} (h:nS m k) (hm:m<=6):k∈prs:=by
 obtain ⟨a,b,rfl,h1,h2,h3⟩:=h
 exact rZ h1 h2 (by omega)
def cH (d:D) (m:Int) (ks:List (List Int)):Prop:=d=.tup [.int m,.tup (ks.map ay)]/\1<=m/\m<=6/\(ks.Pairwise fun a b=>nR a<nR b)/\∀ k∈ks,nS m k
theorem ng {m:Int}{ks:List (List Int)} (h0:1<=m) (h1:m<=6) (hk:∀ k∈ks,nS m k):cH (.tup [.int m,.tup ((js ks).map ay)]) m (js ks):=by
 refine ⟨rfl,h0,h1,kS.filter _,fun k h=>?_⟩
 unfold js at h
 rw [Jz,ML] at h
 exact hk k h.2
theorem jP {m:Int}{ks:List (List Int)}{d:D} (h:cH d m ks):ks.length<=15:=by
 obtain ⟨_,_,hm,hp,hk⟩:=h
 have hn:ks.Nodup:=hp.imp fun h e=>by subst e;omega
 have hs:ks ⊆ prs:=fun k h=>(hk k h).prs hm
 have:=hn.length_le_of_subset hs
 rw [wA] at this
 exact this
def cT (p:Int × Int):D:=.tup [.int p.1,.int p.2]
theorem l2:(2:Nat)<=sizeLine:=by decide
theorem Iv {u v:Int}{μ:aB}:yy [.tup [.int u,.int v]] μ=.ok (.int (min u v)) μ:=rfl
theorem Iw {u v:Int}{μ:aB}:u4 [.tup [.int u,.int v]] μ=.ok (.int (max u v)) μ:=rfl
theorem zQ {μ:aB}{m:Int}{ps:List (Int × Int)}{ns:List Int} (h0:1<=m) (h1:m<=6) (hps:∀ p∈ps,0<=p.1/\p.1<m/\0<=p.2/\p.2<m/\p.1≠p.2) (hl:ps.length<1000)
  (hn:ns.Nodup) (hnl:(ns.length:Int)=m) (hnr:∀ n∈ns,0<=n/\n<m) :
  ∃ d ks,cH d m ks/\fI [.tup [.int m,.tup (ps.map cT)],.tup (ns.map D.int)] μ=.ok d μ:=by
 let nm:Int->Int:=fun k=>ns.getD k.toNat 0
 have nmD:∀ k,0<=k->k<m->atI (ns.map D.int) k=some (.int (nm k)):=fun k k0 k1=>by
  have hk:k.toNat<ns.length:=by omega
  refine oN k0 ?_
  rw [Km,My hk]
  simp [nm,Ml,My hk]
 have nmR:∀ k,0<=k->k<m->0<=nm k/\nm k<m:=fun k k0 k1=>by
  have hk:k.toNat<ns.length:=by omega
  have:nm k=ns[k.toNat]:=by simp [nm,Ml,My hk]
  rw [this];exact hnr _ (Mx hk)
 have nmI:∀ j k,0<=j->j<m->0<=k->k<m->j≠k->nm j≠nm k:=fun j k j0 j1 k0 k1 hjk e=>by
  have hj:j.toNat<ns.length:=by omega
  have hk:k.toNat<ns.length:=by omega
  have e1:nm j=ns[j.toNat]:=by simp [nm,Ml,My hj]
  have e2:nm k=ns[k.toNat]:=by simp [nm,Ml,My hk]
  rw [e1,e2] at e
  have:=(JL hn).mp e
  omega
 let qs:List (Int × Int):=ps.map fun p=>(nm p.1,nm p.2)
 let ks:List (List Int):=qs.map fun p=>[min p.1 p.2,max p.1 p.2]
 have hks:∀ k∈ks,nS m k:=fun k hk=>by
  simp only [ks,qs,Lh,Lp,Function.comp_apply] at hk
  obtain ⟨p,hp,rfl⟩:=hk
  obtain ⟨a1,a2,a3,a4,a5⟩:=hps p hp
  have b1:=nmR p.1 a1 a2
  have b2:=nmR p.2 a3 a4
  have b3:=nmI p.1 p.2 a1 a2 a3 a4 a5
  exact ⟨_,_,rfl,by omega,by omega,by omega⟩
 refine ⟨_,_,ng h0 h1 hks,?_⟩
 have c1:compLoop (.fix (ps.map cT)) μ.length (gD 2 (bC (aj 0) (bC (aj 1) gE))) bz fS (ps.map cT) [none,none,some (.tup (ns.map D.int))] (μ++[.lst []])=.ok (.obj μ.length) (μ++[.lst (qs.map cT)]):=by
  have:=de (src:=.fix (ps.map cT)) (g:=gD 2 (bC (aj 0) (bC (aj 1) gE))) (t:=bz) (e:=fS) (μ1:=μ) (q:=fun _=>true)
   (h:=fun d=>match d with | .tup [.int a,.int b]=>cT (nm a,nm b) | _=>.non) (fun ρ=>∃ o1 o2,ρ=[o1,o2,some (.tup (ns.map D.int))]) (fun _=>trivial) (xs:=ps.map cT) (acc:=[]) (ρ:=[none,none,some (.tup (ns.map D.int))]) ⟨none,none,rfl⟩
   (by rw [Kr,Lk];exact JB (by omega) bM)
   (fun x hx a ρ hJJ => by
    obtain ⟨o1,o2,ho⟩:=hJJ
    obtain ⟨p,hp,rfl⟩:=Lp.mp hx
    obtain ⟨a1,a2,a3,a4,a5⟩:=hps p hp
    refine ⟨[some (.int p.1),some (.int p.2),some (.tup (ns.map D.int))],⟨_,_,rfl⟩,by subst ho;rfl,rfl,fun _=>?_⟩
    unfold fS
    simp only [b9,aq,av,aA,ao,ah,aa,af]
    rw [rQ (nmD p.1 a1 a2)]
    simp only [aa,af]
    rw [rQ (nmD p.2 a3 a4)]
    simp only [aa,af,K5,Lk,Js l2]
    rfl)
  rw [this,Na.mpr (fun _ _=>rfl)]
  simp only [K0,Lh,qs]
  rfl
 have c2:compLoop (.own μ.length (qs.map cT)) (μ++[O.lst (qs.map cT)]).length (aj 0) bz fR (qs.map cT) [none] ((μ++[O.lst (qs.map cT)])++[.lst []])=.ok (.obj (μ++[O.lst (qs.map cT)]).length) ((μ++[O.lst (qs.map cT)])++[.lst (ks.map ay)]):=by
  have:=de (src:=.own μ.length (qs.map cT)) (g:=aj 0) (t:=bz) (e:=fR) (μ1:=μ++[O.lst (qs.map cT)]) (q:=fun _=>true)
   (h:=fun d=>match d with | .tup [.int a,.int b]=>ay [min a b,max a b] | _=>.non) (fun ρ=>∃ o1,ρ=[o1]) (fun a=>aL aw) (xs:=qs.map cT) (acc:=[]) (ρ:=[none]) ⟨none,rfl⟩
   (by rw [Kr,Lk];simp only [qs,Kr];exact JB (by omega) bM)
   (fun x hx a ρ hJJ => by
    obtain ⟨o1,ho⟩:=hJJ
    obtain ⟨p,hp,rfl⟩:=Lp.mp hx
    refine ⟨[some (cT p)],⟨_,rfl⟩,by subst ho;rfl,rfl,fun _=>?_⟩
    unfold fR cT
    simp only [b9,aq,av,aD,ah,aa,af,Iv,Iw,K5,Lk,Js l2]
    rfl)
  rw [this,Na.mpr (fun _ _=>rfl)]
  simp only [K0,Lh,ks]
  rfl
 have kd:lp (ks.map ay)=some ks:=oY fun k hk=>(hks k hk).prs h1
 unfold fI
 rw [fu]
 simp only [ma,aJ,aW,bR,dm,aA,ah,ao,aU,aa,af,j7,sg,bf]
 rw [show iQ [none,none,some 1] (some (D.tup [D.int m,D.tup (List.map cT ps)])::some (D.tup (List.map D.int ns))::List.replicate (3 - 2) none)=[none,none,some (.tup (ns.map D.int))] from rfl,c1]
 simp only [ae,cj,aE,bq,b9,aq,av,aD,aA,ah,ao,aU,aa,af,List.replicate,M8,M9,cL,bR,dm]
 rw [fB aw]
 simp only [aa,af,cO]
 rw [show iQ [none] _=[none] from rfl,c2]
 simp only [aa,af]
 have s1:nC [.obj (μ++[O.lst (qs.map cT)]).length] (μ++[O.lst (qs.map cT)]++[O.lst (ks.map ay)])=.ok (.obj (μ++[O.lst (qs.map cT)]++[O.lst (ks.map ay)]).length) ((μ++[O.lst (qs.map cT)]++[O.lst (ks.map ay)])++[.set (eJ ks)]):=by
  unfold nC;dsimp only;rw [aw];dsimp only;unfold oy;rw [kd]
 rw [s1]
 simp only [aa,af]
 have s2:∀ M:aB,cY [.obj M.length] (M++[.set (eJ ks)])=.ok (.obj (M++[O.set (eJ ks)]).length) ((M++[.set (eJ ks)])++[.lst ((js ks).map ay)]):=fun M=>by
  unfold cY;dsimp only;rw [aw];dsimp only;rw [nh]
 rw [s2]
 simp only [aa,af]
 rw [gW aw]
 simp only [aa,af,K5,Lk,Js l2,ae,aV]
 rw [KS,KS,KS]
 exact iR (by simp;exact ip.mpr (fun x hx=>by obtain ⟨k,_,rfl⟩:=Lp.mp hx;simp [ay];exact ip.mpr (by simp)))
theorem lL {n:Nat}{d:D}{m:Int}{ks:List (List Int)} (h:cH d m ks):d.low n:=by
 obtain ⟨rfl,_⟩:=h
 simp
 exact ip.mpr fun x hx=>by
  obtain ⟨k,_,rfl⟩:=Lp.mp hx
  simp [ay]
  exact ip.mpr (by simp)
theorem f7 {lo:Int}{n:Nat}:bh lo (n+1)=.int lo::bh (lo+1) n:=by
 unfold bh
 rw [Lg,KM,Lh]
 congr 1
 ·simp
 ·apply Li
  intro i _
  simp only [Function.comp_apply]
  congr 1
  omega
theorem hZ {lo:Int}:bh lo 0=[]:=rfl
theorem jL {lo:Int}{n:Nat} (h:bh lo n=[]):n=0:=by
 cases n with
 | zero=>rfl
 | succ n=>rw [f7] at h;cases h
theorem pb {x:D}:∀ k:Nat,(List.replicate k [x]).flatten=List.replicate k x
 | 0=>rfl
 | k+1=>by rw [KQ,KR,pb k];rfl
theorem l1:(1:Nat)<=sizeLine:=by decide
theorem IG {M:aB}{m:Nat}{x:D} (hm:m<=6):fJ [some x,some (.int m)] M=.ok (.obj (M.length+1)) (M++[.lst [.non],.lst (List.replicate m .non)]):=by
 unfold fJ
 simp only [aA,cW,aq,av,aU,aa,af,K5,Lk,Js l1,ao,ah]
 unfold jd
 dsimp only
 rw [aw]
 dsimp only
 have hz:(6:Nat)<=sizeLine:=by decide
 rw [Js (by refine ⟨by omega,by omega,?_⟩;simp only [K5,Lk];omega)]
 simp only [Kw,pb,Kq,K5,Lk,KS,Lm,K0]
end Lw
namespace Lw
open PySem L2 RS Lv
def jA:Option Nat->D
 | none=>.non
 | some n=>.int n
theorem xM (o:Option Nat):jA o=.non\/∃ i,jA o=.int i:=by
 cases o with
 | none=>exact .inl rfl
 | some n=>exact .inr ⟨n,rfl⟩
def cJ (m:Nat) (f:Int->Option Nat):List D:=(List.range m).map fun q:Nat=>jA (f q)
theorem jK {m:Nat}{f:Int->Option Nat}{q:Int} (q0:0<=q) (q1:q<m):atI (cJ m f) q=some (jA (f q)):=by
 refine oN q0 ?_
 unfold cJ
 rw [Km,Mn (by omega)]
 simp only [Option.map_some,LN q0]
theorem oU {m:Nat}{f:Int->Option Nat}{q:Int}{v:Nat} (q0:0<=q) (q1:q<m):(cJ m f).set q.toNat (.int v)=cJ m (kM f q v):=by
 unfold cJ
 apply Mm
 intro i
 rw [List.getElem?_set,Kr,Lj,Km,Km]
 by_cases e:q.toNat=i
 ·rw [Js e, Js (by omega), Mn (by omega), <- e]
  simp only [Option.map_some,LN q0,kM,Js rfl]
  rfl
 ·rw [Jt e]
  by_cases hi:i<m
  ·rw [Mn hi]
   simp only [Option.map_some,kM]
   rw [Jt (by omega)]
  ·rw [Mo (by rw [Lj]; omega)]
   rfl
def iP (T:Int->Int->Option Nat) (p:Int) (f:Int->Option Nat):Int->Int->Option Nat:=fun p'=>if p'=p then f else T p'
theorem mG {T:Int->Int->Option Nat}{p:Int}{f:Int->Option Nat}:iP T p f p=f:=Js rfl
theorem tT {T:Int->Int->Option Nat}{p:Int}{f g:Int->Option Nat}:iP (iP T p f) p g=iP T p g:=by
 funext p'
 unfold iP
 by_cases e:p'=p
 ·rw [Js e,Js e]
 ·rw [Jt e,Jt e,Jt e]
def FT (μ0:aB) (m a:Nat) (T:Int->Int->Option Nat) (μ:aB):Prop:=μ0.length<=a/\(∀ i,i<μ0.length->μ[i]?=μ0[i]?)/\∃ bs:List Nat,bs.Nodup/\μ[a]?=some (.lst (bs.map D.obj))/\bs.length=m /\
 ∀ (p b:Nat),bs[p]?=some b->μ0.length<=b/\b≠a/\μ[b]?=some (.lst (cJ m (T p)))
theorem FT.app {μ0 μ g:aB}{m a:Nat}{T:Int->Int->Option Nat} (h:FT μ0 m a T μ):FT μ0 m a T (μ++g):=by
 obtain ⟨h1,h2,bs,h0,h3,h4,h5⟩:=h
 have hl:μ0.length<=μ.length:=JB h1 (JC (JK.mp h3).1)
 refine ⟨h1,fun i hi=>?_,bs,h0,aL h3,h4,fun p b hb=>?_⟩
 ·rw [Kl (by omega)];exact h2 i hi
 ·obtain ⟨g1, g2, g3⟩ := h5 p b hb
  exact ⟨g1,g2,aL g3⟩
theorem FT.pre {μ0 μ:aB}{m a:Nat}{T:Int->Int->Option Nat} (h:FT μ0 m a T μ):∃ g,μ=μ0++g:=by
 obtain ⟨h1,h2,bs,h0,h3,h4,h5⟩:=h
 refine ⟨μ.drop μ0.length,?_⟩
 apply Mm
 intro i
 by_cases hi:i<μ0.length
 ·rw [Kl hi,h2 i hi]
 ·rw [Kj (by omega), LF]
  congr 1;omega
theorem FT.get {μ0 μ:aB}{m a:Nat}{T:Int->Int->Option Nat}{p:Int} (h:FT μ0 m a T μ) (p0:0<=p) (p1:p<m):∃ b,c9 (.obj a) (.int p) μ=.ok (.obj b) μ/\(∀ q:Int,0<=q->q<m->c9 (.obj b) (.int q) μ=.ok (jA (T p q)) μ) /\
  ∀ (q:Int) (v:Nat),0<=q->q<m->∃ μ',uY (.obj b) (.int q) (.int v) μ=.ok () μ'/\(∀ (n:Nat) xs t,μ[n]?=some (.lst xs)->D.tup t∈xs->μ'[n]?=some (.lst xs))/\FT μ0 m a (iP T p (kM (T p) q v)) μ':=by
 obtain ⟨h1,h2,bs,h0,h3,h4,h5⟩:=h
 have hp:p.toNat<bs.length:=by omega
 have hpe:((p.toNat:Nat):Int)=p:=LN p0
 obtain ⟨g1,g2,g3⟩:=h5 p.toNat bs[p.toNat] (My hp)
 rw [hpe] at g3
 refine ⟨bs[p.toNat],dW h3 (oN p0 (by rw [Km,My hp];rfl)),fun q q0 q1=>dW g3 (jK q0 q1),fun q v q0 q1=>?_⟩
 have hlen:(cJ m (T p)).length=m:=by unfold cJ;rw [Kr,Lj]
 refine ⟨_,lD g3 (my q0 (by rw [hlen];exact q1)),fun n xs t hn ht=>?_,h1,fun i hi=>?_,bs,h0,?_,h4,fun p' b hb=>?_⟩
 ·by_cases e : bs[p.toNat] = n
  ·subst e
   rw [g3] at hn
   cases hn
   unfold cJ at ht
   obtain ⟨j,_,hj⟩:=Lp.mp ht
   rcases xM (T p j) with z | ⟨i,z⟩ <;> (rw [z] at hj;cases hj)
  ·rw [JN e];exact hn
 ·rw [JN (by omega)];exact h2 i hi
 ·rw [JN (by omega)];exact h3
 ·obtain ⟨k1, k2, k3⟩ := h5 p' b hb
  obtain ⟨hp',hbe⟩:=JK.mp hb
  refine ⟨k1,k2,?_⟩
  by_cases e:p'=p.toNat
  ·subst e
   rw [hbe,gm (JK.mp (hbe ▸ g3)).1,oU q0 q1,hpe,mG]
  ·have hne : bs[p.toNat] ≠ b := fun z => e ((JL h0).mp (hbe.trans z.symm))
   rw [JN hne,k3]
   unfold iP
   rw [Jt (by omega)]
def sT (ks:List (List Int)):List (Int × Int):=ks.flatMap fun k=>match k with
 | [u,v]=>[(u,v),(v,u)]
 | _=>[]
def kj (ks:List (List Int)) (a b:Int):Prop:=(a,b)∈sT ks
theorem F6 {μ:aB}{o:Option Nat}{n:Nat}:fX false (jA o) (.int ((n:Int)+1 - 1)) μ=.ok (.bl (decide (o=some n))) μ:=by
 cases o with
 | none=>rfl
 | some k=>
  show fX false (.int k) (.int ((n:Int)+1 - 1)) μ=_
  rw [cb]
  simp only [K4,Ky]
  congr 2
  by_cases e:k=n
  ·subst e;simp
  ·have : ¬ (k : Int) = (n : Int) + 1 - 1 := by omega
   rw [Jq (show ¬ some k=some n by simp [e])]
   exact beq_eq_false_iff_ne.mpr this
theorem kg {o:Option Nat}:(jA o).isNon=decide (o=none):=by
 cases o <;> rfl
section
variable {μ0 μ:aB}{m a:Nat}{web:D}{M p u v q r:Int}{n:Nat}{T:Int->Int->Option Nat}{f:Int->Option Nat}
theorem IT (h:FT μ0 m a (iP T p f) μ) (p0:0<=p) (p1:p<m) (q0:0<=q) (q1:q<m) (r0:0<=r) (r1:r<m) :
  ∃ μ',jr [some web,some (.int M),some (.obj a),some (.int p),some (.int ((n:Int)+1)),some (.int u),some (.int v),some (.int q),some (.int r)] μ=.next [some web,some (.int M),some (.obj a),some (.int p),some (.int ((n:Int)+1)),some (.int u),some (.int v),some (.int q),some (.int r)] μ' /\
   (∀ (n:Nat) xs t,μ[n]?=some (.lst xs)->D.tup t∈xs->μ'[n]?=some (.lst xs))/\FT μ0 m a (iP T p (yq n f (q,r))) μ':=by
 obtain ⟨b,e1,e2,k⟩:=h.get p0 p1
 rw [mG] at k e2
 have sub1:∀ x:Int,kq (.int x) (.int 1) μ=.ok (.int (x - 1)) μ:=fun _=>rfl
 unfold jr
 simp only [bp,gX,bD,aA,ao,ah,aU,aa,af,e1,e2 q q0 q1,sub1,F6,aP]
 unfold yq
 dsimp only
 by_cases c1:f q=some n
 ·simp only [K1 c1, KA, e1, e2 r r0 r1, aa, af, rR, kg, K4, Ky, aP, ae]
  by_cases c2:f r=none
  ·obtain ⟨μ', g1, g2, g3⟩ := k r (n + 1) r0 r1
   rw [tT] at g3
   rw [show ((n+1:Nat):Int)=(n:Int)+1 by push_cast;rfl] at g1
   simp only [K1 c2,KA,aW,ao,ah,ae,j8,aA,aa,af,e1,g1]
   rw [Js ⟨c1,c2⟩]
   exact ⟨μ',rfl,g2,g3⟩
  ·simp only [Jq c2, K4, Ky, bH]
   rw [Jt fun z=>c2 z.2]
   exact ⟨μ,rfl,fun _ _ _ h _=>h,h⟩
 ·simp only [Jq c1, K4, Ky, ae, bH]
  rw [Jt fun z=>c1 z.1]
  exact ⟨μ,rfl,fun _ _ _ h _=>h,h⟩
theorem fr3 (h:FT μ0 m a (iP T p f) μ) (p0:0<=p) (p1:p<m) (u0:0<=u) (u1:u<m) (v0:0<=v) (v1:v<m) {o7 o8:Option D} :
  ∃ o7' o8' μ',hV [some web,some (.int M),some (.obj a),some (.int p),some (.int ((n:Int)+1)),some (.int u),some (.int v),o7,o8] μ=.next [some web,some (.int M),some (.obj a),some (.int p),some (.int ((n:Int)+1)),some (.int u),some (.int v),o7',o8'] μ'/\FT μ0 m a (iP T p (yq n (yq n f (u,v)) (v,u))) μ':=by
 unfold hV
 simp only [gN,dm,cW,aq,av,b9,ao,ah,aa,af,K5,Lk,Js l2]
 rw [fB aw]
 simp only [ae,cO]
 have hn:(μ++[O.lst [.tup [.int u,.int v],.tup [.int v,.int u]]])[μ.length]?=some (.lst [.tup [.int u,.int v],.tup [.int v,.int u]]):=aw
 obtain ⟨μ1,e1,e2,e3⟩:=IT (web:=web) (M:=M) (n:=n) (u:=u) (v:=v) (h.app (g:=[O.lst [.tup [.int u,.int v],.tup [.int v,.int u]]])) p0 p1 u0 u1 v0 v1
 have hn1:=e2 _ _ _ hn JE
 obtain ⟨μ2,f1,f2,f3⟩:=IT (web:=web) (M:=M) (n:=n) (u:=u) (v:=v) e3 p0 p1 v0 v1 u0 u1
 have hn2:=f2 _ _ _ hn1 JE
 refine ⟨some (.int v),some (.int u),μ2,?_,f3⟩
 have g1:gD 2 (bC (aj 7) (bC (aj 8) gE)) (.tup [.int u,.int v]) [some web,some (.int M),some (.obj a),some (.int p),some (.int ((n:Int)+1)),some (.int u),some (.int v),o7,o8] (μ++[O.lst [.tup [.int u,.int v],.tup [.int v,.int u]]])=.ok [some web,some (.int M),some (.obj a),some (.int p),some (.int ((n:Int)+1)),some (.int u),some (.int v),some (.int u),some (.int v)] (μ++[O.lst [.tup [.int u,.int v],.tup [.int v,.int u]]]):=rfl
 have g2:gD 2 (bC (aj 7) (bC (aj 8) gE)) (.tup [.int v,.int u]) [some web,some (.int M),some (.obj a),some (.int p),some (.int ((n:Int)+1)),some (.int u),some (.int v),some (.int u),some (.int v)] μ1=.ok [some web,some (.int M),some (.obj a),some (.int p),some (.int ((n:Int)+1)),some (.int u),some (.int v),some (.int v),some (.int u)] μ1:=rfl
 unfold ko
 rw [Js (show d3 (.own μ.length _) _ from hn),g1,ae,e1,nY]
 unfold ko
 rw [Js (show d3 (.own μ.length _) _ from hn1),g2,ae,f1,nY]
 unfold ko
 rw [Js (show d3 (.own μ.length _) _ from hn2)]
theorem Jj {ks:List (List Int)} (hk:∀ k∈ks,nS m k) (h:FT μ0 m a (iP T p f) μ) (p0:0<=p) (p1:p<m) {o5 o6 o7 o8:Option D} :
  ∃ o5' o6' o7' o8' μ',g9 [some (.tup [.int M,.tup (ks.map ay)]),some (.int M),some (.obj a),some (.int p),some (.int ((n:Int)+1)),o5,o6,o7,o8] μ=.next [some (.tup [.int M,.tup (ks.map ay)]),some (.int M),some (.obj a),some (.int p),some (.int ((n:Int)+1)),o5',o6',o7',o8'] μ'/\FT μ0 m a (iP T p ((sT ks).foldl (yq n) f)) μ':=by
 unfold g9
 simp only [gN,dm,aA,ah,aU,aa,af,j7,sg,ae,bf]
 have run:=gn (src:=.fix (ks.map ay)) (g:=gD 2 (bC (aj 5) (bC (aj 6) gE))) (fb:=hV)
  (fun xs ρ μ1=>∃ ys zs:List (List Int),xs=zs.map ay/\ks=ys++zs/\FT μ0 m a (iP T p ((sT ys).foldl (yq n) f)) μ1/\∃ o5 o6 o7 o8,ρ=[some (.tup [.int M,.tup (ks.map ay)]),some (.int M),some (.obj a),some (.int p),some (.int ((n:Int)+1)),o5,o6,o7,o8])
  (fun _ _ _=>trivial)
  (fun x xs ρ μ1 hJJ => by
   obtain ⟨ys,zs,hx,hks,hF,o5,o6,o7,o8,e⟩:=hJJ
   subst e
   cases zs with
   | nil=>cases hx
   | cons k zs=>
    injection hx with hx1 hx2
    subst hx1 hx2
    obtain ⟨u,v,rfl,u0,uv,v1⟩:=hk k (by rw [hks];simp)
    obtain ⟨o7',o8',μ3,e1,e3⟩:=fr3 (web:=.tup [.int M,.tup (ks.map ay)]) (M:=M) (n:=n) (u:=u) (v:=v) (o7:=o7) (o8:=o8) hF p0 p1 u0 (by omega) (by omega) v1
    refine ⟨trivial,_,μ1,_,μ3,rfl,e1,ys++[[u,v]],zs,rfl,by rw [hks];simp,?_,_,_,_,_,rfl⟩
    have:sT (ys++[[u,v]])=sT ys++[(u,v),(v,u)]:=by simp [sT]
    rw [this,LZ]
    exact e3)
  (xs:=ks.map ay) (ρ:=[some (.tup [.int M,.tup (ks.map ay)]),some (.int M),some (.obj a),some (.int p),some (.int ((n:Int)+1)),o5,o6,o7,o8]) (μ:=μ)
  ⟨[],ks,rfl,rfl,h,o5,o6,o7,o8,rfl⟩
 obtain ⟨ρ',μ',⟨ys,zs,hx,hks,hF,o5',o6',o7',o8',e⟩,run⟩:=run
 subst e
 have hz:zs=[]:=by cases zs with
  | nil=>rfl
  | cons=>cases hx
 subst hz
 rw [Kb] at hks
 subst hks
 exact ⟨o5',o6',o7',o8',μ',run,hF⟩
theorem fD {ks:List (List Int)} (hk:∀ k∈ks,nS m k) {x y:Int} (h:kj ks x y):(0<=x/\x<m)/\(0<=y/\y<m):=by
 unfold kj sT at h
 obtain ⟨k,hk',hm⟩:=Nb.mp h
 obtain ⟨u,v,rfl,u0,uv,v1⟩:=hk k hk'
 simp at hm
 omega
theorem fr5 {ks:List (List Int)} (hk:∀ k∈ks,nS m k) (h:FT μ0 m a (iP T p fun _=>none) μ) (p0:0<=p) (p1:p<m) (hm:m<=6) {o4 o5 o6 o7 o8:Option D} :
  ∃ o4' o5' o6' o7' o8' μ' f,g8 [some (.tup [.int m,.tup (ks.map ay)]),some (.int m),some (.obj a),some (.int p),o4,o5,o6,o7,o8] μ=.next [some (.tup [.int m,.tup (ks.map ay)]),some (.int m),some (.obj a),some (.int p),o4',o5',o6',o7',o8'] μ'/\FT μ0 m a (iP T p f) μ'/\jB (kj ks) p (fun q=>0<=q/\q<m) f:=by
 obtain ⟨b,e1,_,k⟩:=h.get p0 p1
 obtain ⟨μ1,e3,_,h1⟩:=k p 0 p0 p1
 rw [tT,mG] at h1
 unfold g8
 simp only [aJ,aW,aU,ae,j8,aA,ao,ah,aa,af,e1]
 rw [show (D.int 0)=.int ((0:Nat):Int) from rfl,e3]
 simp only [aa,af,ae,aE,gN,cc,aq,av,aU,ao,ah]
 rw [ji (by omega) (by omega) (by omega) (by omega)]
 simp only [ae,bf]
 have run:=gn (src:=.fix (bh 1 ((m:Int) - 1).toNat)) (g:=aj 4) (fb:=g9)
  (fun xs ρ μ1=>∃ (n c:Nat) (f:Int->Option Nat),xs=bh ((n:Int)+1) c/\n+1+c=m/\FT μ0 m a (iP T p f) μ1/\Up (kj ks) p (fun q=>0<=q/\q<m) n f/\∃ o4 o5 o6 o7 o8,ρ=[some (.tup [.int m,.tup (ks.map ay)]),some (.int m),some (.obj a),some (.int p),o4,o5,o6,o7,o8])
  (fun _ _ _=>trivial)
  (fun x xs ρ μ1 hJJ => by
   obtain ⟨n,c,f,hx,hc,hF,hU,o4,o5,o6,o7,o8,e⟩:=hJJ
   subst e
   cases c with
   | zero=>rw [hZ] at hx;cases hx
   | succ c=>
    rw [f7] at hx
    injection hx with hx1 hx2
    subst hx1 hx2
    obtain ⟨o5',o6',o7',o8',μ3,e1,e3⟩:=Jj (M:=m) (n:=n) (o5:=o5) (o6:=o6) (o7:=o7) (o8:=o8) hk hF p0 p1
    exact ⟨trivial,_,μ1,_,μ3,rfl,e1,n+1,c,_,by push_cast;rfl,by omega,e3,z7 hU (fun a b h=>(fD hk h).1) (fun a b=>Iff.rfl),_,_,_,_,_,rfl⟩)
  (xs:=bh 1 ((m:Int) - 1).toNat) (ρ:=[some (.tup [.int m,.tup (ks.map ay)]),some (.int m),some (.obj a),some (.int p),o4,o5,o6,o7,o8]) (μ:=μ1)
  ⟨0,m - 1,_,by rw [show ((m:Int) - 1).toNat=m - 1 by omega];rfl,by omega,h1,wY (fun q _=>by unfold kM;rfl),o4,o5,o6,o7,o8,rfl⟩
 obtain ⟨ρ',μ',⟨n,c,f,hx,hc,hF,hU,o4',o5',o6',o7',o8',e⟩,run⟩:=run
 subst e
 have hz:=jL hx.symm
 subst hz
 refine ⟨o4',o5',o6',o7',o8',μ',f,run,hF,hU.full (fun a b h=>(fD hk h).2) fun q hq hl=>?_⟩
 have:=rO (m:=m) ⟨p0,p1⟩ (fun a b h=>(fD hk h).2) hl
 omega
end
theorem qC {m:Nat}:cJ m (fun _=>none)=List.replicate m .non:=by
 unfold cJ jA
 rw [List.map_const',Lj]
theorem C4 {μ:aB}{m:Nat} (hm:m<=6):∃ (bs:List Nat) (s:aB),compLoop (.fix (bh 0 m)) μ.length (aj 0) bz fJ (bh 0 m) [none,some (.int m)] (μ++[.lst []])=.ok (.obj μ.length) (μ++.lst (bs.map D.obj)::s)/\bs.length=m/\bs.Nodup/\∀ b∈bs,∃ j,b=μ.length+1+j/\s[j]?=some (.lst (List.replicate m .non)):=by
 have run:=i5 (src:=.fix (bh 0 m)) (g:=aj 0) (t:=bz) (e:=fJ) (n:=μ.length)
  (fun xs ys ρ μ1 s=>μ1=μ/\(∃ o,ρ=[o,some (.int m)])/\∃ bs:List Nat,ys=bs.map D.obj/\bs.length+xs.length=m/\bs.Nodup/\∀ b∈bs,∃ j,b=μ.length+1+j/\s[j]?=some (.lst (List.replicate m .non)))
  (fun ys ρ μ1 s ⟨e,_⟩=>⟨by rw [e],trivial⟩)
  (fun x r ys ρ μ1 s hJJ => by
   obtain ⟨e1,⟨o,e2⟩,bs,e3,e4,e6,e5⟩:=hJJ
   subst e1 e2
   refine ⟨rfl,trivial,[some x,some (.int m)],_,s,true,_,s,rfl,rfl,fun _=>?_,fun z=>by cases z⟩
   have e:=IG (M:=μ1++.lst ys::s) (x:=x) hm
   simp only [K5] at e4
   refine ⟨.obj ((μ1++O.lst ys::s).length+1),μ1,s++[.lst [.non],.lst (List.replicate m .non)],by rw [e];simp,?_,rfl,rfl,⟨_,rfl⟩,bs++[(μ1++O.lst ys::s).length+1],by rw [e3];simp,by simp;omega,?_,fun b hb=>?_⟩
   ·rw [e3, Kr]
    exact Jw (show bs.length<1000 by omega) bM
   ·rw [LU]
    refine ⟨e6,by simp,fun b hb c hc=>?_⟩
    obtain ⟨j,f1,f2⟩:=e5 b hb
    have:=(JK.mp f2).1
    simp only [Lf,Kq,K5] at hc
    omega
   ·rcases JI.mp hb with z | z
    ·obtain ⟨j, f1, f2⟩ := e5 b z
     exact ⟨j,f1,aL f2⟩
    ·refine ⟨s.length + 1, ?_, ?_⟩
     ·simp only [Lf,Kq,K5] at z;omega
     ·rw [Kj (by omega)];simp)
  (xs:=bh 0 m) (ys:=[]) (ρ:=[none,some (.int m)]) (μ1:=μ) (s:=[])
  ⟨rfl,⟨_,rfl⟩,[],rfl,by simp [bh],by simp,by simp⟩
 obtain ⟨ys',ρ',μ1',s',⟨e1,_,bs,e3,e4,e6,e5⟩,run⟩:=run
 subst e1 e3
 exact ⟨bs,s',run,by simpa using e4,e6,e5⟩
theorem wq {μ:aB}{k:Nat}{ks:List (List Int)} (h:cH (.tup [.int k,.tup (ks.map ay)]) k ks):∃ a μ' T,eS [.tup [.int k,.tup (ks.map ay)]] μ=.ok (.obj a) μ'/\FT μ k a T μ'/\∀ p:Int,0<=p->p<k->jB (kj ks) p (fun q=>0<=q/\q<k) (T p):=by
 obtain ⟨_,h0,h1,hp,hk⟩:=h
 have hk6:k<=6:=by omega
 obtain ⟨bs,s,e1,e2,e4,e3⟩:=C4 (μ:=μ) hk6
 have F0:FT μ k μ.length (fun _ _=>none) (μ++.lst (bs.map D.obj)::s):=by
  refine ⟨J3 _,fun i hi=>by rw [Kl hi],bs,e4,aw,e2,fun p b hb=>?_⟩
  obtain ⟨j,rfl,f⟩:=e3 b (Ko hb)
  refine ⟨by omega,by omega,?_⟩
  rw [Kj (by omega),show μ.length+1+j - μ.length=j+1 by omega,qC]
  exact f
 have run:=gn (src:=.fix (bh 0 k)) (g:=aj 3) (fb:=g8)
  (fun xs ρ μ1=>∃ (n c:Nat) (T:Int->Int->Option Nat),xs=bh n c/\n+c=k/\FT μ k μ.length T μ1/\(∀ p:Int,(n:Int)<=p->T p=fun _=>none)/\(∀ p:Int,0<=p->p<n->jB (kj ks) p (fun q=>0<=q/\q<k) (T p))/\∃ o3 o4 o5 o6 o7 o8,ρ=[some (.tup [.int k,.tup (ks.map ay)]),some (.int k),some (.obj μ.length),o3,o4,o5,o6,o7,o8])
  (fun _ _ _=>trivial)
  (fun x xs ρ μ1 hJJ => by
   obtain ⟨n,c,T,hx,hc,hF,hN,hU,o3,o4,o5,o6,o7,o8,e⟩:=hJJ
   subst e
   cases c with
   | zero=>rw [hZ] at hx;cases hx
   | succ c=>
    rw [f7] at hx
    injection hx with hx1 hx2
    subst hx1 hx2
    have hT:iP T n (fun _=>none)=T:=by
     funext p'
     unfold iP
     by_cases e:p'=(n:Int)
     ·rw [Js e,e,hN n (Int.le_refl _)]
     ·rw [Jt e]
    obtain ⟨o4',o5',o6',o7',o8',μ3,f,g1,g3,g4⟩:=fr5 (T:=T) (p:=(n:Int)) (o4:=o4) (o5:=o5) (o6:=o6) (o7:=o7) (o8:=o8) hk (by rw [hT];exact hF) (by omega) (by omega) hk6
    refine ⟨trivial,_,μ1,_,μ3,rfl,g1,n+1,c,_,by push_cast;rfl,by omega,g3,fun p hp=>?_,fun p p0 p1=>?_,_,_,_,_,_,_,rfl⟩
    ·unfold iP
     rw [Jt (by omega)]
     exact hN p (by omega)
    ·unfold iP
     by_cases e:p=(n:Int)
     ·rw [Js e,e];exact g4
     ·rw [Jt e];exact hU p p0 (by omega))
  (xs:=bh 0 k) (ρ:=[some (.tup [.int k,.tup (ks.map ay)]),some (.int k),some (.obj μ.length),none,none,none,none,none,none]) (μ:=μ++.lst (bs.map D.obj)::s)
  ⟨0,k,_,rfl,by omega,F0,fun _ _=>rfl,fun p p0 p1=>by omega,_,_,_,_,_,_,rfl⟩
 obtain ⟨ρ',μ',⟨n,c,T,hx,hc,hF,hN,hU,o3,o4,o5,o6,o7,o8,e⟩,run⟩:=run
 subst e
 have hz:=jL hx.symm
 subst hz
 have hnk:n=k:=by omega
 subst hnk
 refine ⟨μ.length,μ',T,?_,hF,hU⟩
 unfold eS
 rw [fv]
 simp only [pN,aJ,aW,aA,ah,aU,aa,af,cL,ae,cj,aE,bR,cc,aq,av]
 simp only [List.replicate,M8,M9,ao,ah,aa,af]
 rw [fC (by omega) (by omega)]
 simp only [aa,af,bf,Kw]
 rw [show iQ [none,some 1] [some (D.tup [D.int n,D.tup (List.map ay ks)]),some (D.int n),none,none,none,none,none,none,none]=[none,some (.int n)] from rfl,e1]
 simp only [ae,cj,aE,aJ,gN,cc,aq,av,M8,M9,ao,ah,aa,af]
 rw [fC (by omega) (by omega)]
 simp only [ae,bf,Kw]
 rw [run]
 simp only [aE,bq,ao,ah,ae,aV]
 exact v9 (by simp)
def DQ (k:Int):Option Nat->Bool
 | some j=>decide ((j:Int)<=k)
 | none=>false
def iA (T:Int->Int->Option Nat) (k p lo:Int) (c:Nat):List (List Int):=(((List.range c).map fun i:Nat=>lo+(i:Int)).filter fun q=>DQ k (T p q)).map fun q=>[p,q]
def w9 (m:Nat) (T:Int->Int->Option Nat) (k:Int):List (List Int):=(List.range m).flatMap fun p:Nat=>iA T k p ((p:Int)+1) (m - (p+1))
theorem oS {T:Int->Int->Option Nat}{k p lo:Int}{c:Nat}:(iA T k p lo c).length<=c:=by
 unfold iA
 rw [Kr]
 refine JB (List.length_filter_le _ _) ?_
 rw [Kr,Lj]
 exact J3 _
theorem oR {T:Int->Int->Option Nat}{k p lo:Int}{c:Nat}{x:List Int} (h:x∈iA T k p lo c):∃ q:Int,x=[p,q]/\lo<=q/\q<lo+c:=by
 unfold iA at h
 obtain ⟨q,hq,rfl⟩:=Lp.mp h
 obtain ⟨hq,_⟩:=Jz.mp hq
 obtain ⟨i,hi,rfl⟩:=Lp.mp hq
 rw [JA] at hi
 exact ⟨_,rfl,by omega,by omega⟩
theorem B5 {T:Int->Int->Option Nat}{k p lo:Int}{c:Nat}:(iA T k p lo c).Pairwise fun a b=>nR a<nR b:=by
 unfold iA
 rw [Mp]
 apply List.Pairwise.filter
 rw [Mp]
 exact LJ.imp fun {a b} h=>by show p * 6+(lo+(a:Int))<p * 6+(lo+(b:Int));omega
theorem lH {m:Nat}{T:Int->Int->Option Nat}{k:Int} (h0:1<=m) (h1:m<=6):cH (.tup [.int m,.tup ((w9 m T k).map ay)]) m (w9 m T k):=by
 refine ⟨rfl,by omega,by omega,?_,fun x hx=>?_⟩
 ·unfold w9
  rw [List.pairwise_flatMap]
  refine ⟨fun p _=>B5,?_⟩
  refine List.Pairwise.imp_of_mem (R:=(·<·)) ?_ LJ
  intro a b ha hb hab x hx y hy
  rw [JA] at ha hb
  obtain ⟨q,rfl,q0,q1⟩:=oR hx
  obtain ⟨r,rfl,r0,r1⟩:=oR hy
  show (a:Int) * 6+q<(b:Int) * 6+r
  omega
 ·unfold w9 at hx
  obtain ⟨p,hp,hx⟩:=Nb.mp hx
  rw [JA] at hp
  obtain ⟨q,rfl,q0,q1⟩:=oR hx
  exact ⟨_,_,rfl,by omega,by omega,by omega⟩
theorem tU {T:Int->Int->Option Nat}{k p lo:Int}{c:Nat}:((bh lo c).filter fun d=>match d with | .int q=>DQ k (T p q) | _=>false).map (fun d=>match d with | .int q=>ay [p,q] | _=>.non)=(iA T k p lo c).map ay:=by
 unfold bh iA
 rw [Nd,Lh,Nd,Lh,Lh]
 rfl
section
variable {μ0 μ:aB}{m a:Nat}{p q:Int}{k:Int}{T:Int->Int->Option Nat}
theorem zJ (h:FT μ0 m a T μ) (p0:0<=p) (p1:p<m) (q0:0<=q) (q1:q<m):dA [some (.int q),some (.int p),some (.int k),some (.obj a)] μ=.ok (DQ k (T p q)) μ:=by
 obtain ⟨b,e1,e2,_⟩:=h.get p0 p1
 unfold dA
 simp only [gX,bD,aA,ao,ah,aU,aa,af,e1,e2 q q0 q1,rR,kg,aP]
 cases e:T p q with
 | none=>rfl
 | some j=>
  simp only [Jq (show ¬ some j=none by simp),LY,KA,dN,aa,af,aP,jA]
  rfl
theorem zK (h:FT μ0 m a T μ) (hm:m<=6) (p0:0<=p) (p1:p<m) :
  compLoop (.fix (bh (p+1) ((m:Int) - (p+1)).toNat)) μ.length (aj 0) dA fQ (bh (p+1) ((m:Int) - (p+1)).toNat) [none,some (.int p),some (.int k),some (.obj a)] (μ++[.lst []])=.ok (.obj μ.length) (μ++[.lst ((iA T k p (p+1) ((m:Int) - (p+1)).toNat).map ay)]):=by
 have:=de (src:=.fix (bh (p+1) ((m:Int) - (p+1)).toNat)) (g:=aj 0) (t:=dA) (e:=fQ) (μ1:=μ) (q:=fun d=>match d with | .int q=>DQ k (T p q) | _=>false)
  (h:=fun d=>match d with | .int q=>ay [p,q] | _=>.non) (fun ρ=>∃ o,ρ=[o,some (.int p),some (.int k),some (.obj a)]) (fun _=>trivial) (xs:=bh (p+1) ((m:Int) - (p+1)).toNat) (acc:=[]) (ρ:=[none,some (.int p),some (.int k),some (.obj a)]) ⟨none,rfl⟩
  (by unfold bh;rw [Kr,Lk,Lj];exact JB (by omega) bM)
  (fun x hx acc ρ hJJ => by
   obtain ⟨o,ho⟩:=hJJ
   unfold bh at hx
   obtain ⟨i,hi,rfl⟩:=Lp.mp hx
   rw [JA] at hi
   subst ho
   refine ⟨[some (.int (p+1+(i:Int))),some (.int p),some (.int k),some (.obj a)],⟨_,rfl⟩,rfl,zJ (h.app) p0 p1 (by omega) (by omega),fun _=>?_⟩
   unfold fQ
   simp only [b9,aq,av,ao,ah,aa,af,K5,Lk,Js l2]
   rfl)
 rw [this,tU]
 rfl
end
theorem jR {m:Nat}{T:Int->Int->Option Nat}{k:Int} (h:m<=6):∀ n,((List.range n).flatMap fun p:Nat=>iA T k p ((p:Int)+1) (m - (p+1))).length<=6 * n
 | 0=>by simp
 | n+1=>by
  rw [Nf,Ng,Kq]
  have:=jR (T:=T) (k:=k) h n
  have h2:=oS (T:=T) (k:=k) (p:=n) (lo:=(n:Int)+1) (c:=m - (n+1))
  simp only [Nh,Ni,Kb]
  omega
theorem mF {μ:aB}{m:Nat}{k:Int}{ks:List (List Int)} (h:cH (.tup [.int m,.tup (ks.map ay)]) m ks):∃ T,(∀ p:Int,0<=p->p<m->jB (kj ks) p (fun q=>0<=q/\q<m) (T p)) /\
  bS [.tup [.int m,.tup (ks.map ay)],.int k] μ=.ok (.tup [.int m,.tup ((w9 m T k).map ay)]) μ:=by
 obtain ⟨a,μf,T,ef,hF,hT⟩:=wq (μ:=μ) h
 obtain ⟨_,h0,h1,hp,hk⟩:=h
 have hm6:m<=6:=by omega
 refine ⟨T,hT,?_⟩
 have run:=gn (src:=.fix (bh 0 m)) (g:=aj 4) (fb:=fO)
  (fun xs ρ μ1=>∃ (n c t:Nat) (o4:Option D),xs=bh n c/\n+c=m/\ρ=[some (.tup [.int m,.tup (ks.map ay)]),some (.int k),some (.obj a),some (.obj t),o4]/\FT μ m a T μ1/\μ1[t]?=some (.lst (((List.range n).flatMap fun p:Nat=>iA T k p ((p:Int)+1) (m - (p+1))).map ay)))
  (fun _ _ _=>trivial)
  (fun x r ρ μ1 hJJ => by
   obtain ⟨n,c,t,o4,e1,e3,e4,e5,e6⟩:=hJJ
   subst e4
   cases c with
   | zero=>rw [hZ] at e1;cases e1
   | succ c=>
    rw [f7] at e1
    injection e1 with ex er
    subst ex er
    have q3:=zK (k:=k) (p:=(n:Int)) e5 hm6 (by omega) (by omega)
    rw [show ((m:Int) - ((n:Int)+1)).toNat=m - (n+1) by omega] at q3
    have hlen:=jR (T:=T) (k:=k) hm6 n
    have hrow:=oS (T:=T) (k:=k) (p:=n) (lo:=(n:Int)+1) (c:=m - (n+1))
    refine ⟨trivial,_,μ1,[some (.tup [.int m,.tup (ks.map ay)]),some (.int k),some (.obj a),some (.obj (μ1.length+1)),some (.int n)],(μ1++[O.lst ((iA T k n ((n:Int)+1) (m - (n+1))).map ay)])++[O.lst (((List.range (n+1)).flatMap fun p:Nat=>iA T k p ((p:Int)+1) (m - (p+1))).map ay)],rfl,?_,n+1,c,μ1.length+1,some (.int n),by push_cast;rfl,by omega,rfl,(e5.app).app,?_⟩
    ·show fO [some (.tup [.int m, .tup (ks.map ay)]), some (.int k), some (.obj a), some (.obj t), some (.int n)] μ1 = _
     unfold fO
     simp only [aW,aA,ao,ah,aa,af,bR,cc,aq,av,aU,gr,cL]
     rw [ji (by omega) (by omega) (by omega) (by omega)]
     simp only [aa,af,bf]
     rw [show ((m:Int) - ((n:Int)+1)).toNat=m - (n+1) by omega]
     rw [show iQ [none,some 4,some 1,some 2] [some (D.tup [D.int ↑m,D.tup (List.map ay ks)]),some (D.int k),some (D.obj a),some (D.obj t),some (D.int n)]=[none,some (.int n),some (.int k),some (.obj a)] from rfl,q3]
     simp only [aa,af]
     unfold cv
     dsimp only
     rw [aL e6,aw]
     dsimp only
     rw [Js (by
      rw [Kr,Kr]
      exact JB (show _<=1000 by omega) bM)]
     simp only [ae,cj]
     simp only [Kq,K5,Lk,M8,M9,Nf,Ng,Lz,Nh,Ni,Kb]
    ·have : μ1.length + 1 = (μ1 ++ [O.lst ((iA T k n ((n : Int) + 1) (m - (n + 1))).map ay)]).length := by simp
     rw [this];exact aw)
  (xs:=bh 0 m) (ρ:=[some (.tup [.int m,.tup (ks.map ay)]),some (.int k),some (.obj a),some (.obj μf.length),none]) (μ:=μf++[.lst []])
  ⟨0,m,μf.length,none,rfl,by omega,rfl,hF.app,aw⟩
 obtain ⟨ρ',μ',⟨n,c,t,o4,e1,e3,e4,e5,e6⟩,run⟩:=run
 subst e4
 have hz:=jL e1.symm
 subst hz
 have hnm:n=m:=by omega
 subst hnm
 have hg:cH (.tup [.int n,.tup ((w9 n T k).map ay)]) n (w9 n T k):=lH (by omega) hm6
 obtain ⟨g,hpre⟩:=e5.pre
 unfold bS
 rw [fu]
 simp only [l7,aJ,aW,aD,aq,av,ah,aa,af,ef,ae,cj,aE,cW]
 have l0:(0:Nat)<=sizeLine:=Le _
 simp only [Lk,Js l0,ae,aE,List.replicate,M8,M9,aJ,gN,cc,aq,av,aA,ah,aU,aa,af,cL]
 rw [fC (by omega) (by omega)]
 simp only [ae,bf,Kw]
 rw [run]
 simp only [aE,bq,b9,aq,av,aA,aD,ao,ah,aU,aa,af,cL]
 rw [gW e6]
 simp only [aa,af,K5,Lk,Js l2,ae,aV]
 rw [hpre]
 exact iR (lL hg)
theorem oZ {μ:aB}:∀ fs:List Int,fq μ (fs.map D.int)=some (fs.map PyData.int)
 | []=>rfl
 | x::fs=>by simp only [KM,fq,oZ fs];rfl
theorem o9:∀ fs:List Int,PyData.canLayAll0 (fs.map PyData.int)=true/\PyData.depthAll (fs.map PyData.int)=0
 | []=>by simp [PyData.canLayAll0,PyData.depthAll]
 | x::fs=>by
  have:=o9 fs
  simp only [KM,PyData.canLayAll0,PyData.depthAll,PyData.canLay0,PyData.depth,this.1,this.2]
  exact ⟨rfl,rfl⟩
theorem wK {μ:aB}{F:Nat}{fs:List Int}{a:Int} (h:μ[F]?=some (.lst (fs.map D.int))):A7 false (.int a) (.obj F) μ=.ok (.bl (decide (a∈fs))) μ:=by
 have e1:mX μ (.int a)=some (.int a):=rfl
 have e2:mX μ (.obj F)=some (.list (fs.map PyData.int)):=by
  unfold mX
  dsimp only
  rw [h]
  dsimp only
  rw [oZ]
  rfl
 have f1:eH (.int a)=true:=rfl
 have f2:eH (.list (fs.map PyData.int))=true:=by
  have:=o9 fs
  simp only [eH,PyData.canLay0,this.1,PyData.depth,this.2,Nj]
  rfl
 unfold A7
 rw [e1,e2]
 dsimp only [zt]
 rw [Js ⟨f1,f2⟩]
 simp only [K4,Ky]
 congr 2
 rw [List.any_map]
 apply J8.mpr
 rw [List.any_eq_true,ML]
 constructor
 ·rintro ⟨x, hx, e⟩
  have:x=a:=by simpa [PyData.eqv] using e
  subst this;exact hx
 ·intro hx
  exact ⟨a,hx,by simp [PyData.eqv]⟩
theorem jj {m:Int}{ks:List (List Int)} (hk:∀ k∈ks,nS m k) {a b:Int}:kj ks a b↔([a,b]∈ks\/[b,a]∈ks):=by
 unfold kj sT
 rw [Nb]
 constructor
 ·rintro ⟨k, hk', hm⟩
  obtain ⟨u,v,rfl,_⟩:=hk k hk'
  simp at hm
  rcases hm with ⟨rfl,rfl⟩ | ⟨rfl,rfl⟩
  ·exact .inl hk'
  ·exact .inr hk'
 ·rintro (h | h)
  ·exact ⟨_,h,by simp⟩
  ·exact ⟨_,h,by simp⟩
theorem mL {m:Int}{t e:List Int->Int}:∀ {ks:List (List Int)},(∀ k∈ks,nS m k)->∀ (P:Int->Bool),∃ l:List Int,
  ((ks.map ay).filter (fun d=>match d with | .tup [.int a,.int b]=>P (t [a,b]) | _=>false)).map (fun d=>match d with | .tup [.int a,.int b]=>.int (e [a,b]) | _=>.non)=l.map D.int/\l.length<=ks.length/\∀ x,x∈l↔∃ k∈ks,P (t k)=true/\x=e k
 | [],_,P=>⟨[],rfl,J3 _,by simp⟩
 | k::ks,h,P=>by
  obtain ⟨l,e1,e2,e3⟩:=mL (t:=t) (e:=e) (ks:=ks) (fun x hx=>h x (JF _ hx)) P
  obtain ⟨a,b,rfl,_⟩:=h k JE
  rw [KM,MU]
  show ∃ l:List Int,List.map _ (if P (t [a,b])=true then _ else _)=_/\_
  by_cases c:P (t [a,b])=true
  ·rw [Js c, KM, e1]
   refine ⟨e [a,b]::l,rfl,by simp;omega,fun x=>?_⟩
   simp only [JG,e3]
   constructor
   ·rintro (rfl | ⟨k, hk, z⟩)
    ·exact ⟨[a,b],.inl rfl,c,rfl⟩
    ·exact ⟨k,.inr hk,z⟩
   ·rintro ⟨k, rfl | hk, z1, z2⟩
    ·exact .inl z2
    ·exact .inr ⟨k,hk,z1,z2⟩
  ·rw [Jt c, e1]
   refine ⟨l,rfl,by simp;omega,fun x=>?_⟩
   simp only [JG,e3]
   constructor
   ·rintro ⟨k,hk,z⟩;exact ⟨k,.inr hk,z⟩
   ·rintro ⟨k, rfl | hk, z1, z2⟩
    ·exact absurd z1 c
    ·exact ⟨k,hk,z1,z2⟩
def Bi:List Int->Int
 | [a,_]=>a
 | _=>0
def Be:List Int->Int
 | [_,b]=>b
 | _=>0
theorem tR {μ:aB}{m:Int}{F:Nat}{fs:List Int}{ks:List (List Int)} (hk:∀ k∈ks,nS m k) (hl:ks.length<=15) (h:μ[F]?=some (.lst (fs.map D.int))) :
  ∃ (t:Nat) (g:aB) (ns:List Int),cG [.tup (ks.map ay),.obj F] μ=.ok (.obj t) (μ++g)/\(μ++g)[t]?=some (.lst (ns.map D.int))/\ns.length<=30/\μ.length<=t/\∀ q,q∈ns↔∃ r∈fs,kj ks r q:=by
 obtain ⟨l1,a1,a2,a3⟩:=mL (t:=Bi) (e:=Be) hk fun x=>decide (x∈fs)
 obtain ⟨l2',b1,b2,b3⟩:=mL (t:=Be) (e:=Bi) hk fun x=>decide (x∈fs)
 have c1:=de (src:=.fix (ks.map ay)) (g:=gD 2 (bC (aj 0) (bC (aj 1) (gE)))) (t:=gR) (e:=jx) (μ1:=μ)
  (q:=fun d=>match d with | .tup [.int a,.int b]=>decide (Bi [a,b]∈fs) | _=>false) (h:=fun d=>match d with | .tup [.int a,.int b]=>.int (Be [a,b]) | _=>.non)
  (fun ρ=>∃ o1 o2,ρ=[o1,o2,some (.obj F)]) (fun _=>trivial) (xs:=ks.map ay) (acc:=[]) (ρ:=[none,none,some (.obj F)]) ⟨_,_,rfl⟩
  (by rw [Kr,Lk];exact JB (by omega) bM)
  (fun x hx a ρ hJJ => by
   obtain ⟨o1,o2,ho⟩:=hJJ
   obtain ⟨k,hk',rfl⟩:=Lp.mp hx
   obtain ⟨u,v,rfl,_⟩:=hk k hk'
   subst ho
   refine ⟨[some (.int u),some (.int v),some (.obj F)],⟨_,_,rfl⟩,rfl,?_,fun _=>rfl⟩
   unfold gR
   simp only [bD,aA,ao,ah,aa,af]
   rw [wK (aL h)]
   rfl)
 have c2:=fun M:aB=>fun hM:M[F]?=some (.lst (fs.map D.int))=>de (src:=.fix (ks.map ay)) (g:=gD 2 (bC (aj 0) (bC (aj 1) (gE)))) (t:=gQ) (e:=jw) (μ1:=M)
  (q:=fun d=>match d with | .tup [.int a,.int b]=>decide (Be [a,b]∈fs) | _=>false) (h:=fun d=>match d with | .tup [.int a,.int b]=>.int (Bi [a,b]) | _=>.non)
  (fun ρ=>∃ o1 o2,ρ=[o1,o2,some (.obj F)]) (fun _=>trivial) (xs:=ks.map ay) (acc:=[]) (ρ:=[none,none,some (.obj F)]) ⟨_,_,rfl⟩
  (by rw [Kr,Lk];exact JB (by omega) bM)
  (fun x hx a ρ hJJ => by
   obtain ⟨o1,o2,ho⟩:=hJJ
   obtain ⟨k,hk',rfl⟩:=Lp.mp hx
   obtain ⟨u,v,rfl,_⟩:=hk k hk'
   subst ho
   refine ⟨[some (.int u),some (.int v),some (.obj F)],⟨_,_,rfl⟩,rfl,?_,fun _=>rfl⟩
   unfold gQ
   simp only [bD,aA,ao,ah,aa,af]
   rw [wK (aL hM)]
   rfl)
 rw [K0,a1] at c1
 have c2':=c2 (μ++[O.lst (l1.map D.int)]) (aL h)
 rw [K0,b1] at c2'
 refine ⟨((μ++[O.lst (l1.map D.int)])++[O.lst (l2'.map D.int)]).length,([O.lst (l1.map D.int)]++[O.lst (l2'.map D.int)])++[O.lst ((l1++l2').map D.int)],l1++l2',?_,?_,by rw [Kq];omega,by simp,fun q=>?_⟩
 ·unfold cG
  rw [fu]
  simp only [kK,bq,aA,bR,dm,ah,aa,af,sg,bf,List.replicate]
  rw [show iQ [none,none,some 1] (some (D.tup (List.map ay ks))::some (D.obj F)::List.replicate (2 - 2) none)=[none,none,some (.obj F)] from rfl,c1]
  simp only [aa,af]
  rw [c2']
  simp only [aa,af]
  have ad:cv (.obj μ.length) (.obj (μ++[O.lst (l1.map D.int)]).length) ((μ++[O.lst (l1.map D.int)])++[O.lst (l2'.map D.int)])=.ok (.obj ((μ++[O.lst (l1.map D.int)])++[O.lst (l2'.map D.int)]).length) (((μ++[O.lst (l1.map D.int)])++[O.lst (l2'.map D.int)])++[O.lst ((l1++l2').map D.int)]):=by
   unfold cv
   dsimp only
   rw [aw,aL aw]
   dsimp only
   rw [Js,Lz]
   rw [Kr,Kr]
   exact JB (show _<=1000 by omega) bM
  rw [ad,ae,aV,v9 (by simp)]
  simp only [KS]
 ·rw [<- KS,<- KS];exact aw
 ·rw [JI, a3, b3]
  constructor
  ·rintro (⟨k, hk', z1, z2⟩ | ⟨k, hk', z1, z2⟩)
   ·obtain ⟨u, v, rfl, _⟩ := hk k hk'
    subst z2
    exact ⟨u,Nk z1,(jj hk).mpr (.inl hk')⟩
   ·obtain ⟨u, v, rfl, _⟩ := hk k hk'
    subst z2
    exact ⟨v,Nk z1,(jj hk).mpr (.inr hk')⟩
  ·rintro ⟨r, hr, ha⟩
   rcases (jj hk).mp ha with z | z
   ·exact .inl ⟨_,z,K1 hr,rfl⟩
   ·exact .inr ⟨_,z,K1 hr,rfl⟩
theorem jQ {μ:aB}{i j:Nat}{o o':O} (h:μ[j]?=some o') (ne:i≠j):(μ.set i o)[j]?=some o':=by rw [JN ne];exact h
def gT (k:List Int):PyData:=.tuple (k.map PyData.int)
theorem qG {μ:aB}{m:Int}:∀ {ks:List (List Int)},(∀ k∈ks,nS m k)->fq μ (ks.map ay)=some (ks.map gT)
 | [],_=>rfl
 | k::ks,h=>by
  obtain ⟨a,b,rfl,_⟩:=h k JE
  have ih:=qG (μ:=μ) fun x hx=>h x (JF _ hx)
  simp only [KM,fq,ih]
  rfl
theorem ke {μ:aB}{m:Int}:∀ {ks:List (List Int)},(∀ k∈ks,nS m k)->toPs μ (ks.map ay)=some (ks.map gT)
 | [],_=>rfl
 | k::ks,h=>by
  obtain ⟨a,b,rfl,_⟩:=h k JE
  have ih:=ke (μ:=μ) fun x hx=>h x (JF _ hx)
  simp only [KM,toPs,ih]
  rfl
theorem kf {m:Int}:∀ {ks:List (List Int)},(∀ k∈ks,nS m k)->PyData.canLayAll0 (ks.map gT)=true/\PyData.depthAll (ks.map gT)<=1
 | [],_=>by simp [PyData.canLayAll0,PyData.depthAll]
 | k::ks,h=>by
  obtain ⟨a,b,rfl,_⟩:=h k JE
  have ih:=kf fun x hx=>h x (JF _ hx)
  simp only [KM,PyData.canLayAll0,PyData.depthAll,ih.1,gT,KL,PyData.canLay0,PyData.depth]
  refine ⟨rfl,?_⟩
  have:=ih.2
  omega
def fk (m:Int) (ks:List (List Int)):PyData:=.tuple [.int m,.tuple (ks.map gT)]
theorem nT {μ:aB}{d:D}{m:Int}{ks:List (List Int)} (h:cH d m ks):mX μ d=some (fk m ks):=by
 obtain ⟨rfl,_,_,_,hk⟩:=h
 have e:rf μ (.tup (ks.map ay))=some (.tuple (ks.map gT)):=by
  simp only [rf,ke hk,Option.map_some]
 unfold mX
 dsimp only
 simp only [fq,uX,rf,e,ke hk,Option.map_some,La]
 rfl
theorem nU {d:D}{m:Int}{ks:List (List Int)} (h:cH d m ks):eH (fk m ks)=true:=by
 obtain ⟨_,_,_,_,hk⟩:=h
 have:=kf hk
 simp only [eH,fk,PyData.canLay0,PyData.canLayAll0,this.1,PyData.depth,PyData.depthAll,Nj,Bool.and_true]
 exact K1 (by have:=this.2;omega)
end Lw
namespace Lw
open PySem L2 RS
def Pn (μ0:aB) (i:Nat) (μ:aB):Prop:=∃ a b c g,μ=μ0.set i (bT a b c)++g
theorem Pn.app {μ0 μ g:aB}{i:Nat} (h:Pn μ0 i μ):Pn μ0 i (μ++g):=by
 obtain ⟨a,b,c,g',rfl⟩:=h
 exact ⟨a,b,c,g'++g,by rw [KS]⟩
theorem Pn.get {μ0 μ:aB}{i:Nat} (h:Pn μ0 i μ) (hi:i<μ0.length):∃ a b c,μ[i]?=some (bT a b c):=by
 obtain ⟨a,b,c,g',rfl⟩:=h
 exact ⟨a,b,c,aL (gm hi)⟩
theorem Pn.set {μ0 μ:aB}{i:Nat}{a b c:Int} (h:Pn μ0 i μ) (hi:i<μ0.length):Pn μ0 i (μ.set i (bT a b c)):=by
 obtain ⟨a',b',c',g',rfl⟩:=h
 exact ⟨a,b,c,g',by rw [lB (by simpa using hi),List.set_set]⟩
theorem Pn.len {μ0 μ:aB}{i:Nat} (h:Pn μ0 i μ):μ0.length<=μ.length:=by
 obtain ⟨a',b',c',g',rfl⟩:=h
 simp
theorem Pn.self {μ0:aB}{i:Nat}{a b c:Int} (h:μ0[i]?=some (bT a b c)):Pn μ0 i μ0:=by
 refine ⟨a,b,c,[],?_⟩
 rw [Kb]
 apply Mm
 intro j
 by_cases e:i=j
 ·subst e;rw [gm (JK.mp h).1,h]
 ·rw [JN e]
theorem Pn.draw {μ0 μ:aB}{i:Nat}{m:Int} (h:Pn μ0 i μ) (hi:i<μ0.length) (h0:0<m) (h1:m<1000) :
  ∃ r a b c:Int,0<=r/\r<m/\aZ [.obj i,.int m] μ=.ok (.int r) (μ.set i (bT a b c))/\Pn μ0 i (μ.set i (bT a b c)):=by
 obtain ⟨a,b,c,hp⟩:=h.get hi
 obtain ⟨r,a',b',c',r0,r1,e⟩:=wt hp h0 h1
 exact ⟨r,a',b',c',r0,r1,e,h.set hi⟩
theorem Pn.gc {μ0 μ:aB}{i:Nat}{d:D} (h:Pn μ0 i μ) (hd:d.low μ0.length):∃ a b c,og μ0 (.ok d μ)=.ok d (μ0.set i (bT a b c)):=by
 obtain ⟨a,b,c,g',rfl⟩:=h
 exact ⟨a,b,c,vb hd nX⟩
theorem lN {μ1:aB}{e:ME}{rest:Ro}{f:Int->Int × Int}{lo:Int}{n:Nat} (hn:n<1000) (he:∀ v a,e (some (.int v)::rest) (μ1++[.lst a])=.ok (cT (f v)) (μ1++[.lst a])) :
  compLoop (.fix (bh lo n)) μ1.length (aj 0) bz e (bh lo n) (none::rest) (μ1++[.lst []])=.ok (.obj μ1.length) (μ1++[.lst (((List.range n).map fun k:Nat=>f (lo+(k:Int))).map cT)]):=by
 have:=de (src:=.fix (bh lo n)) (g:=aj 0) (t:=bz) (e:=e) (μ1:=μ1) (q:=fun _=>true)
  (h:=fun d=>match d with | .int a=>cT (f a) | _=>.non) (fun ρ=>∃ o,ρ=o::rest) (fun _=>trivial) (xs:=bh lo n) (acc:=[]) (ρ:=none::rest) ⟨none,rfl⟩
  (by unfold bh;rw [Kr,Lk,Lj];exact JB (by omega) bM)
  (fun x hx a ρ hJJ => by
   obtain ⟨o,ho⟩:=hJJ
   unfold bh at hx
   obtain ⟨k,hk,rfl⟩:=Lp.mp hx
   exact ⟨_,⟨_,rfl⟩,by subst ho;rfl,rfl,fun _=>he _ _⟩)
 rw [this,Na.mpr (fun _ _=>rfl)]
 unfold bh
 simp only [K0,Lh]
 rfl
def Gp (m:Int) (ps:List (Int × Int)):Prop:=ps.length<=40/\∀ p∈ps,0<=p.1/\p.1<m/\0<=p.2/\p.2<m/\p.1≠p.2
theorem pH {μ0 μ1:aB}{i t:Nat}{m:Int}{k:Int}{ps:List (Int × Int)} (hi:i<μ0.length) (ht:μ0.length<=t) (h:Pn μ0 i μ1) (hl:μ1[t]?=some (.lst (ps.map cT))) (hps:Gp m ps) (k0:0<k) (k1:k<1000) :
  ∃ qs μ2,Gp m qs/\Pn μ0 i μ2/\μ2.length=μ1.length/\compLoop (.own t (ps.map cT)) μ1.length (aj 0) (fT (az (fX false) (aC aZ (ag (ak 1) (ag (cC (.int k)) (ax)))) (cC (.int 0)))) (ak 0) (ps.map cT) [none,some (.obj i)] (μ1++[.lst []])=.ok (.obj μ1.length) (μ2++[.lst (qs.map cT)]):=by
 have run:=i5 (src:=.own t (ps.map cT)) (g:=aj 0) (t:=(fT (az (fX false) (aC aZ (ag (ak 1) (ag (cC (.int k)) (ax)))) (cC (.int 0))))) (e:=ak 0) (n:=μ1.length)
  (fun xs ys ρ μ2 s=>s=[]/\μ2.length=μ1.length/\Pn μ0 i μ2/\μ2[t]?=some (.lst (ps.map cT))/\(∃ o,ρ=[o,some (.obj i)])/\∃ rs qs:List (Int × Int),xs=rs.map cT/\ys=qs.map cT/\qs.length+rs.length<=40/\(∀ p∈rs,0<=p.1/\p.1<m/\0<=p.2/\p.2<m/\p.1≠p.2)/\(∀ p∈qs,0<=p.1/\p.1<m/\0<=p.2/\p.2<m/\p.1≠p.2))
  (fun ys ρ μ2 s ⟨_,e1,_,e2,_⟩=>⟨e1,aL e2⟩)
  (fun x r ys ρ μ2 s hJJ => by
   obtain ⟨es,e1,e2,e3,⟨o,e4⟩,rs,qs,e5,e6,e7,e8,e9⟩:=hJJ
   subst es e4 e6
   cases rs with
   | nil=>cases e5
   | cons p rs=>
    injection e5 with ex er
    subst ex er
    obtain ⟨v,a,b,c,v0,v1,ed,hp⟩:=(e2.app (g:=[.lst (qs.map cT)])).draw hi k0 k1
    have i2:i<μ2.length:=Jw hi e2.len
    rw [lB i2] at ed
    refine ⟨e1,aL e3,[some (cT p),some (.obj i)],μ2,[],v == 0,μ2.set i (bT a b c),[],rfl,?_,fun hc=>?_,fun hc=>?_⟩
    ·simp only [bD,aA,aD,aq,av,ao,ah,aU,aa,af,ed,cb,K4,Ky,aP]
    ·refine ⟨cT p, μ2.set i (bT a b c), [], by rw [ah], ?_, by simpa using e1, rfl, by simpa using e1, e2.set hi, jQ e3 (by omega), ⟨_, rfl⟩, rs, qs ++ [p], rfl, by simp, by simp at e7 ⊢; omega, fun q hq => e8 q (JF _ hq), fun q hq => ?_⟩
     ·rw [Kr]
      simp only [K5] at e7
      exact Jw (show qs.length<1000 by omega) bM
     ·rcases JI.mp hq with z | z
      ·exact e9 q z
      ·simp at z;subst z;exact e8 _ JE
    ·exact ⟨rfl,by simpa using e1,e2.set hi,jQ e3 (by omega),⟨_,rfl⟩,rs,qs,rfl,rfl,by simp at e7 ⊢;omega,fun q hq=>e8 q (JF _ hq),e9⟩)
  (xs:=ps.map cT) (ys:=[]) (ρ:=[none,some (.obj i)]) (μ1:=μ1) (s:=[])
  ⟨rfl,rfl,h,hl,⟨_,rfl⟩,ps,[],rfl,rfl,by have:=hps.1;simpa using this,hps.2,by simp⟩
 obtain ⟨ys',ρ',μ2,s',⟨es,e1,e2,e3,⟨o,e4⟩,rs,qs,e5,e6,e7,e8,e9⟩,run⟩:=run
 subst es e6
 exact ⟨qs,μ2,⟨by omega,e9⟩,e2,e1,run⟩
theorem vI {μ0 μ1:aB}{i:Nat}{m:Int} (hi:i<μ0.length) (h:Pn μ0 i μ1) (m0:1<=m) (m1:m<=6) :
  ∃ qs μ2,Gp m qs/\Pn μ0 i μ2/\μ2.length=μ1.length/\compLoop (.fix (bh 1 (m - 1).toNat)) μ1.length (aj 0) bz b8 (bh 1 (m - 1).toNat) [none,some (.obj i)] (μ1++[.lst []])=.ok (.obj μ1.length) (μ2++[.lst (qs.map cT)]):=by
 have run:=i5 (src:=.fix (bh 1 (m - 1).toNat)) (g:=aj 0) (t:=bz) (e:=b8) (n:=μ1.length)
  (fun xs ys ρ μ2 s=>s=[]/\μ2.length=μ1.length/\Pn μ0 i μ2/\(∃ o,ρ=[o,some (.obj i)])/\∃ (lo:Int) (n:Nat) (qs:List (Int × Int)),xs=bh lo n/\1<=lo/\lo+n=m/\ys=qs.map cT/\qs.length+n<=40/\(∀ p∈qs,0<=p.1/\p.1<m/\0<=p.2/\p.2<m/\p.1≠p.2))
  (fun ys ρ μ2 s ⟨_,e1,_⟩=>⟨e1,trivial⟩)
  (fun x r ys ρ μ2 s hJJ => by
   obtain ⟨es,e1,e2,⟨o,e4⟩,lo,n,qs,e5,e6,e7,e8,e9,e10⟩:=hJJ
   subst es e4 e8
   cases n with
   | zero=>rw [hZ] at e5;cases e5
   | succ n=>
    rw [f7] at e5
    injection e5 with ex er
    subst ex er
    obtain ⟨v,a,b,c,v0,v1,ed,hp⟩:=(e2.app (g:=[.lst (qs.map cT)])).draw (m:=lo) hi (by omega) (by omega)
    have i2:i<μ2.length:=Jw hi e2.len
    rw [lB i2] at ed
    refine ⟨e1,trivial,[some (.int lo),some (.obj i)],μ2,[],true,μ2,[],rfl,rfl,fun hc=>?_,fun hc=>nomatch hc⟩
    refine ⟨cT (v,lo),μ2.set i (bT a b c),[],?_,?_,by simpa using e1,rfl,by simpa using e1,e2.set hi,⟨_,rfl⟩,lo+1,n,qs++[(v,lo)],rfl,by omega,by omega,by simp,by simp;omega,fun q hq=>?_⟩
    ·unfold b8
     simp only [b9,aD,aq,av,ao,ah,aU,aa,af,ed,K5,Lk,Js l2]
     rfl
    ·rw [Kr]
     exact Jw (show qs.length<1000 by omega) bM
    ·rcases JI.mp hq with z | z
     ·exact e10 q z
     ·simp at z;subst z;exact ⟨v0,by omega,by omega,by omega,by dsimp only;omega⟩)
  (xs:=bh 1 (m - 1).toNat) (ys:=[]) (ρ:=[none,some (.obj i)]) (μ1:=μ1) (s:=[])
  ⟨rfl,rfl,h,⟨_,rfl⟩,1,_,[],rfl,by omega,by omega,rfl,by simp;omega,by simp⟩
 obtain ⟨ys',ρ',μ2,s',⟨es,e1,e2,⟨o,e4⟩,lo,n,qs,e5,e6,e7,e8,e9,e10⟩,run⟩:=run
 subst es e8
 exact ⟨qs,μ2,⟨by omega,e10⟩,e2,e1,run⟩
noncomputable def gh:MS:=(jZ (fT (az (fX false) (ak 1) (cC (.int 0)))) (bw (bE (ia (ak 3)) [none,some 0] (aj 0) (eV) (eY)) (aj 5)) (jZ (fT (az (fX false) (ak 1) (cC (.int 1)))) (bw (bE (ia (ak 3)) [none,some 0] (aj 0) (eU) (eX)) (aj 5)) (jZ (fT (az (fX false) (ak 1) (cC (.int 2)))) (bw (az cv (bE (dZ h7 (ag (az kq (ak 2) (cC (.int 1))) (ax))) [none] (aj 0) (bz) (c8)) (az jd (fZ (ag (bU (ag (cC (.int 0)) (ag (az kq (ak 2) (cC (.int 1))) (ax)))) (ax))) (aC m7 (ag (az (kr .Gt) (ak 2) (cC (.int 2))) (ax))))) (aj 5)) (jZ (fT (az (fX false) (ak 1) (cC (.int 3)))) (bw (bE (dZ h7 (ag (az kq (ak 2) (cC (.int 1))) (ax))) [none] (aj 0) (bz) (eW)) (aj 5)) (jZ (fT (az (fX false) (ak 1) (cC (.int 4)))) (bw (bE (dZ km (ag (cC (.int 1)) (ag (ak 2) (ax)))) [none] (aj 0) (bz) (c4)) (aj 5)) (bw (bE (dZ km (ag (cC (.int 1)) (ag (ak 2) (ax)))) [none,some 0] (aj 0) (bz) (b8)) (aj 5)))))))
theorem BX {μ0 μ1:aB}{i t:Nat}{m w:Int}{ps:List (Int × Int)}{o4:Option D} (hi:i<μ0.length) (ht:μ0.length<=t) (h:Pn μ0 i μ1) (hl:μ1[t]?=some (.lst (ps.map cT))) (hps:Gp m ps) (m0:1<=m) (m1:m<=6) :
  ∃ (o:Nat) (qs:List (Int × Int)) (μ2:aB),Gp m qs/\Pn μ0 i μ2/\μ2[o]?=some (.lst (qs.map cT))/\gh [some (.obj i),some (.int w),some (.int m),some (.obj t),o4,none] μ1=.next [some (.obj i),some (.int w),some (.int m),some (.obj t),o4,some (.obj o)] μ2:=by
 unfold gh
 have r1:∀ n a,c8 (some (.int n)::[]) (μ1++[.lst a])=.ok (cT (n,n+1)) (μ1++[.lst a]):=fun n a=>by
  unfold c8
  simp only [b9,aq,av,aA,ah,aU,aa,af,gr,K5,Lk,Js l2]
  rfl
 have r2:∀ n a,eW (some (.int n)::[]) (μ1++[.lst a])=.ok (cT (n,n+1)) (μ1++[.lst a]):=r1
 have r3:∀ n a,c4 (some (.int n)::[]) (μ1++[.lst a])=.ok (cT (0,n)) (μ1++[.lst a]):=fun n a=>by
  unfold c4
  simp only [b9,aq,av,aA,ah,aU,aa,af,gr,K5,Lk,Js l2]
  rfl
 have sb:kq (.int m) (.int 1) μ1=.ok (.int (m - 1)) μ1:=rfl
 have rn:(List.range (m - 1).toNat).length<=5:=by rw [Lj];omega
 have pth:∀ p∈(List.range (m - 1).toNat).map (fun k:Nat=>(((0:Int)+(k:Int)),(0:Int)+(k:Int)+1)),0<=p.1/\p.1<m/\0<=p.2/\p.2<m/\p.1≠p.2:=fun p hp=>by
  obtain ⟨k,hk,rfl⟩:=Lp.mp hp
  rw [JA] at hk
  dsimp only
  omega
 by_cases w0:w=0
 ·subst w0
  obtain ⟨qs,μ2,q1,q2,q3,q4⟩:=pH (k:=2) hi ht h hl hps (by decide) (by decide)
  refine ⟨μ1.length,qs,μ2++[.lst (qs.map cT)],q1,q2.app,by rw [<- q3];exact aw,?_⟩
  simp only [bp,bD,aA,ao,ah,aU,aa,af,cb,K3,aP,ae,K4,Ky,KA,aW,bR,dm]
  rw [fB hl]
  simp only [aa,af,cO]
  rw [show iQ [none,some 0] [some (D.obj i),some (.int 0),some (.int m),some (.obj t),o4,none]=[none,some (.obj i)] from rfl]
  unfold eV eY
  rw [q4]
  rfl
 have w0':(w == 0)=false:=by simpa using w0
 by_cases w1:w=1
 ·subst w1
  obtain ⟨qs,μ2,q1,q2,q3,q4⟩:=pH (k:=3) hi ht h hl hps (by decide) (by decide)
  refine ⟨μ1.length,qs,μ2++[.lst (qs.map cT)],q1,q2.app,by rw [<- q3];exact aw,?_⟩
  simp only [bp,bD,aA,ao,ah,aU,aa,af,cb,w0',K3,aP,ae,K4,Ky,KA,aW,bR,dm]
  rw [fB hl]
  simp only [aa,af,cO]
  rw [show iQ [none,some 0] [some (D.obj i),some (.int 1),some (.int m),some (.obj t),o4,none]=[none,some (.obj i)] from rfl]
  unfold eU eX
  rw [q4]
  rfl
 have w1':(w == 1)=false:=by simpa using w1
 by_cases w2:w=2
 ·subst w2
  let ps1:List (Int × Int):=(List.range (m - 1).toNat).map (fun k:Nat=>(((0:Int)+(k:Int)),(0:Int)+(k:Int)+1))
  let ps2:List (Int × Int):=(List.replicate (if dq .Gt m 2 then (1:Int) else 0).toNat [((0:Int),m - 1)]).flatten
  have hb:ps2=if dq .Gt m 2 then [((0:Int),m - 1)] else []:=by
   simp only [ps2]
   cases dq .Gt m 2 <;> rfl
  have hb2:ps2.length<=1/\∀ p∈ps2,p=(0,m - 1)/\2<m:=by
   rw [hb]
   by_cases z:dq .Gt m 2=true
   ·rw [Js z]
    have:2<m:=by simpa [dq] using z
    simp [this]
   ·rw [Jt z];simp
  refine ⟨_,ps1++ps2,((μ1++[O.lst (ps1.map cT)]++[O.lst [cT (0,m - 1)]])++[O.lst (ps2.map cT)])++[O.lst ((ps1++ps2).map cT)],⟨?_,fun p hp=>?_⟩,((h.app).app.app).app,aw,?_⟩
  ·rw [Kq]
   have:ps1.length<=5:=by simp only [ps1,Kr];exact rn
   omega
  ·rcases JI.mp hp with z | z
   ·exact pth p z
   ·obtain ⟨rfl, z2⟩ := hb2.2 p z
    dsimp only
    omega
  ·simp only [bp, bD, aA, ao, ah, aU, aa, af, cb, w0', w1', K3, aP, ae, K4, Ky, KA, aW, bR, cc, aq, av, sb]
   rw [fC (by omega) (by omega)]
   simp only [aa,af,bf]
   rw [show iQ [none] _=[none] from rfl,lN (f:=fun v=>(v,v+1)) (by omega) r1]
   have l1:(1:Nat)<=sizeLine:=by decide
   have sb':∀ μ,kq (.int m) (.int 1) μ=.ok (.int (m - 1)) μ:=fun _=>rfl
   have ib:∀ k:Bool,∀ μ,m7 [.bl k] μ=.ok (.int (if k then 1 else 0)) μ:=fun _ _=>rfl
   simp only [aa,af,cW,b9,aq,av,aA,ao,ah,aU,sb',K5,Lk,Js l2,Js l1,aD,dN,ib]
   have mu:∀ M:aB,jd (.obj M.length) (.int (if dq .Gt m 2=true then 1 else 0)) (M++[O.lst [cT (0,m - 1)]])=.ok (.obj (M++[O.lst [cT (0,m - 1)]]).length) ((M++[O.lst [cT (0,m - 1)]])++[O.lst (ps2.map cT)]):=fun M=>by
    unfold jd
    dsimp only
    rw [aw]
    dsimp only
    have:(List.replicate (if dq .Gt m 2=true then (1:Int) else 0).toNat [cT (0,m - 1)]).flatten=ps2.map cT:=by
     simp only [ps2]
     cases dq .Gt m 2 <;> rfl
    rw [this,Js]
    have l1':(1:Nat)<=sizeLine:=by decide
    cases dq .Gt m 2
    ·exact ⟨by decide,by decide,Le _⟩
    ·exact ⟨by decide,by decide,l1'⟩
   rw [show (D.tup [D.int 0,D.int (m - 1)])=cT (0,m - 1) from rfl,mu]
   simp only [aa,af]
   have ad:cv (.obj μ1.length) (.obj (μ1++[O.lst (ps1.map cT)]++[O.lst [cT (0,m - 1)]]).length) ((μ1++[O.lst (ps1.map cT)]++[O.lst [cT (0,m - 1)]])++[O.lst (ps2.map cT)])=.ok (.obj ((μ1++[O.lst (ps1.map cT)]++[O.lst [cT (0,m - 1)]])++[O.lst (ps2.map cT)]).length) (((μ1++[O.lst (ps1.map cT)]++[O.lst [cT (0,m - 1)]])++[O.lst (ps2.map cT)])++[O.lst ((ps1++ps2).map cT)]):=by
    unfold cv
    dsimp only
    rw [aw,aL (aL aw)]
    dsimp only
    rw [Js,Lz]
    have e1:((List.range (m - 1).toNat).map (fun k:Nat=>(((0:Int)+(k:Int)),(0:Int)+(k:Int)+1))).length<=5:=by rw [Kr];exact rn
    have e2:((ps1.map cT).length:Nat)<=5:=by rw [Kr];exact e1
    have e3:((ps2.map cT).length:Nat)<=1:=by rw [Kr];exact hb2.1
    exact JB (show _<=1000 by omega) bM
   rw [ad]
   rfl
 have w2':(w == 2)=false:=by simpa using w2
 by_cases w3:w=3
 ·subst w3
  refine ⟨μ1.length,(List.range (m - 1).toNat).map (fun k:Nat=>(((0:Int)+(k:Int)),(0:Int)+(k:Int)+1)),μ1++[.lst _],⟨by rw [Kr];omega,pth⟩,h.app,aw,?_⟩
  simp only [bp,bD,aA,ao,ah,aU,aa,af,cb,w0',w1',w2',K3,aP,ae,K4,Ky,KA,aW,bR,cc,aq,av,sb]
  rw [fC (by omega) (by omega)]
  simp only [aa,af,bf]
  rw [show iQ [none] _=[none] from rfl,lN (f:=fun v=>(v,v+1)) (by omega) r2]
  rfl
 have w3':(w == 3)=false:=by simpa using w3
 by_cases w4:w=4
 ·subst w4
  refine ⟨μ1.length,(List.range (m - 1).toNat).map (fun k:Nat=>((0:Int),(1:Int)+(k:Int))),μ1++[.lst _],⟨by rw [Kr];omega,fun p hp=>?_⟩,h.app,aw,?_⟩
  ·obtain ⟨k, hk, rfl⟩ := Lp.mp hp
   rw [JA] at hk
   dsimp only
   omega
  simp only [bp,bD,aA,ao,ah,aU,aa,af,cb,w0',w1',w2',w3',K3,aP,ae,K4,Ky,KA,aW,bR,cc,aq,av,sb]
  rw [ji (by omega) (by omega) (by omega) (by omega)]
  simp only [aa,af,bf]
  rw [show iQ [none] _=[none] from rfl,lN (f:=fun v=>(0,v)) (by omega) r3]
  rfl
 have w4':(w == 4)=false:=by simpa using w4
 obtain ⟨qs,μ2,q1,q2,q3,q4⟩:=vI hi h m0 m1
 refine ⟨μ1.length,qs,μ2++[.lst (qs.map cT)],q1,q2.app,by rw [<- q3];exact aw,?_⟩
 simp only [bp,bD,aA,ao,ah,aU,aa,af,cb,w0',w1',w2',w3',w4',aP,ae,K4,Ky,aW,bR,cc,aq,av]
 rw [ji (by omega) (by omega) (by omega) (by omega)]
 simp only [aa,af,bf]
 rw [show iQ [none,some 0] [some (D.obj i),some (.int w),some (.int m),some (.obj t),o4,none]=[none,some (.obj i)] from rfl,q4]
 rfl
theorem i7 {n:Nat}{d:D}{m:Int}{ks:List (List Int)} (h:cH d m ks):d.low n:=lL h
theorem xr {μ:aB}{i:Nat}{a b c:Int} (hp:μ[i]?=some (bT a b c)):∃ d m ks a' b' c',cH d m ks/\cR [.obj i] μ=.ok d (μ.set i (bT a' b' c')):=by
 have hi:i<μ.length:=(JK.mp hp).1
 have P0:Pn μ i μ:=Pn.self hp
 obtain ⟨w,a1,b1,c1,w0,w1,ew,P1⟩:=P0.draw (m:=7) hi (by decide) (by decide)
 generalize hM1:μ.set i (bT a1 b1 c1)=M1 at ew P1
 obtain ⟨m',a2,b2,c2,m0,m1,em,P2⟩:=P1.draw (m:=6) hi (by decide) (by decide)
 generalize hM2:M1.set i (bT a2 b2 c2)=M2 at em P2
 have run:=gn (src:=.fix (bh 0 (1+m').toNat)) (g:=aj 4) (fb:=cZ)
  (fun xs ρ μ1 => ∃ (lo : Int) (n : Nat) (t : Nat) (ps : List (Int × Int)) (o4 : Option D), xs = bh lo n /\ 0 <= lo /\ lo + n = 1 + m' /\ ρ = [some (.obj i), some (.int w), some (.int (1 + m')), some (.obj t), o4, none] /\ Pn μ i μ1 /\ μ.length <= t /\ μ1[t]? = some (.lst (ps.map cT)) /\
   (ps.length:Int)<=6 * lo/\(∀ p∈ps,0<=p.1/\p.1<p.2/\p.2<lo))
  (fun _ _ _=>trivial)
  (fun x r ρ μ1 hJJ => by
   obtain ⟨lo,n,t,ps,o4,e1,e2,e3,e4,e5,e6,e7,e8,e9⟩:=hJJ
   subst e4
   cases n with
   | zero=>rw [hZ] at e1;cases e1
   | succ n=>
    rw [f7] at e1
    injection e1 with ex er
    subst ex er
    let qs:List (Int × Int):=(List.range lo.toNat).map fun k:Nat=>((0:Int)+(k:Int),lo)
    have hq:(qs.length:Int)=lo:=by simp only [qs,Kr,Lj];omega
    refine ⟨trivial,_,μ1,[some (.obj i),some (.int w),some (.int (1+m')),some (.obj (μ1.length+1)),some (.int lo),none],(μ1++[O.lst (qs.map cT)])++[O.lst ((ps++qs).map cT)],rfl,?_,lo+1,n,μ1.length+1,ps++qs,some (.int lo),rfl,by omega,by omega,rfl,e5.app.app,?_,?_,?_,fun p hp=>?_⟩
    ·show cZ [some (.obj i), some (.int w), some (.int (1 + m')), some (.obj t), some (.int lo), none] μ1 = _
     unfold cZ
     simp only [aW,aA,ao,ah,aa,af,bR,cc,aq,av]
     rw [fC (by omega) (by omega)]
     simp only [aa,af,bf]
     rw [show iQ [none,some 4] [some (D.obj i),some (.int w),some (.int (1+m')),some (.obj t),some (.int lo),none]=[none,some (.int lo)] from rfl,
      lN (f:=fun v=>(v,lo)) (by omega) (fun v a=>by
       unfold iy
       simp only [b9,aq,av,ao,ah,aa,af,K5,Lk,Js l2]
       rfl)]
     simp only [aa,af]
     unfold cv
     dsimp only
     rw [aL e7,aw]
     dsimp only
     rw [Js (by
      rw [Kr,Kr]
      have:qs.length=((List.range lo.toNat).map fun k:Nat=>((0:Int)+(k:Int),lo)).length:=rfl
      rw [<- this]
      exact JB (show _<=1000 by omega) bM)]
     simp only [ae,cj]
     simp only [Kq,K5,Lk,M8,M9,Lz]
     rfl
    ·have := e5.len
     omega
    ·have : μ1.length + 1 = (μ1 ++ [O.lst (qs.map cT)]).length := by simp
     rw [this];exact aw
    ·rw [Kq];push_cast;omega
    ·rcases JI.mp hp with z | z
     ·have:=e9 p z;omega
     ·simp only [qs] at z
      obtain ⟨k,hk,rfl⟩:=Lp.mp z
      rw [JA] at hk
      dsimp only
      omega)
  (xs:=bh 0 (1+m').toNat) (ρ:=[some (.obj i),some (.int w),some (.int (1+m')),some (.obj M2.length),none,none]) (μ:=M2++[.lst []])
  ⟨0,(1+m').toNat,M2.length,[],none,rfl,by omega,by omega,rfl,P2.app,P2.len,aw,by simp,by simp⟩
 obtain ⟨ρ',M3,⟨lo,n,t,ps,o4,e1,e2,e3,e4,e5,e6,e7,e8,e9⟩,run⟩:=run
 subst e4
 have hn:=jL e1.symm
 subst hn
 obtain ⟨o,qs,M4,q1,q2,q3,q4⟩:=BX (m:=1+m') (w:=w) (o4:=o4) hi e6 e5 e7 ⟨by omega,fun p hp=>by have:=e9 p hp;omega⟩ (by omega) (by omega)
 obtain ⟨a5,b5,c5,hp4⟩:=q2.get hi
 obtain ⟨ns,a6,b6,c6,n1,n2,n3,n4⟩:=zP hp4 (m:=1+m') (by omega) (by omega)
 obtain ⟨d,ks,g1,g2⟩:=zQ (μ:=M4.set i (bT a6 b6 c6)) (m:=1+m') (by omega) (by omega) q1.2 (by have:=q1.1;omega) n1 n2 n3
 obtain ⟨a7,b7,c7,hg⟩:=(q2.set (a:=a6) (b:=b6) (c:=c6) hi).gc (i7 g1)
 refine ⟨d,1+m',ks,a7,b7,c7,g1,?_⟩
 unfold cR
 rw [fv]
 simp only [jc,aJ,aW,aD,aq,av,ah,aU,aa,af,ew,ae,cj,aE,List.replicate,M8,M9,aA,hM1,em,hM2,gr,cW,Lk,Js (Le sizeLine),gN,cc,ao]
 rw [fC (by omega) (by omega)]
 simp only [ae,bf]
 rw [run]
 simp only [aE,aJ]
 have hW:=q4
 unfold gh at hW
 rw [hW]
 simp only [aE,bq,aD,aq,av,ao,ah,b9,aa,af]
 rw [gW q3]
 simp only [aa,af,K5,Lk,Js l2,n4,g2,ae,aV]
 exact hg
theorem zO {μ:aB}{d:D}{m k:Int}{ks:List (List Int)} (h:cH d m ks):∃ d' ks',cH d' m ks'/\bS [d,.int k] μ=.ok d' μ:=by
 have hd:=h.1
 have hm:1<=m/\m<=6:=⟨h.2.1,h.2.2.1⟩
 subst hd
 obtain ⟨n,rfl⟩:∃ n:Nat,m=(n:Int):=⟨m.toNat,by omega⟩
 obtain ⟨T,_,e⟩:=mF (μ:=μ) (k:=k) h
 exact ⟨_,_,lH (by omega) (by omega),e⟩
theorem xK {m:Int}{ks:List (List Int)} (h:∀ k∈ks,nS m k):eH (.tuple (ks.map gT))=true:=by
 have:=kf h
 simp only [eH,PyData.canLay0,this.1,PyData.depth,Nj]
 exact K1 (by omega)
theorem wI {μ:aB}{m:Int}{ks:List (List Int)} (h:∀ k∈ks,nS m k):fX true (.tup (ks.map ay)) (.tup []) μ=.ok (.bl (!ks.isEmpty)) μ:=by
 have e1:mX μ (.tup (ks.map ay))=some (.tuple (ks.map gT)):=by
  simp only [mX,qG h,Option.map_some]
 have e2:mX μ (.tup [])=some (.tuple []):=rfl
 unfold fX
 rw [e1,e2]
 dsimp only
 rw [Js ⟨xK h,by decide⟩]
 congr 2
 cases ks with
 | nil=>rfl
 | cons k ks=>simp [PyData.eqv,PyData.eqvAll]
theorem AH {m:Int}{ks ks':List (List Int)}{d:D} (h:cH d m ks) (hs:ks'.Sublist ks):cH (.tup [.int m,.tup (ks'.map ay)]) m ks':=by
 obtain ⟨_,h0,h1,hp,hk⟩:=h
 exact ⟨rfl,h0,h1,hp.sublist hs,fun k hk'=>hk k (hs.subset hk')⟩
theorem Gd {β:Type}{xs:List β}{r:Nat} (h:r<=xs.length):kO xs none (some (r:Int))=xs.take r:=by
 unfold kO
 rw [HT.sIx_none,HT.sIx_nat]
 simp [Nat.min_eq_left h]
theorem AR {β:Type}{xs:List β}{r:Nat} (h:r<=xs.length):kO xs (some (r:Int)) none=xs.drop r:=by
 unfold kO
 rw [HT.sIx_none,HT.sIx_nat,Nat.min_eq_left h]
 exact Lo (by rw [KB];exact J3 _)
theorem G5 {a b:Int}{μ:aB}:cY [.tup [.int a,.int b]] μ=.ok (.obj μ.length) (μ++[.lst [.int (min a b),.int (max a b)]]):=by
 have e:[min a b,max a b]=lh [a,b]:=by
  refine oP ?_ (by simp;omega)
  by_cases h:a<=b
  ·rw [Nl h,Np h]
  ·rw [Nq (by omega), Nr (by omega)]
   exact List.Perm.swap a b []
 have e2:iY [.int a,.int b]=some [a,b]:=rfl
 unfold cY
 dsimp only
 rw [e2]
 dsimp only
 rw [Js (show [a,b].length<64 from (by decide:2<64)),<- e]
 rfl
theorem zM {μ:aB}{i:Nat}{a b c:Int} (hp:μ[i]?=some (bT a b c)):∃ d m ks a' b' c',cH d m ks/\eB [.obj i] μ=.ok d (μ.set i (bT a' b' c')):=by
 have hi:i<μ.length:=(JK.mp hp).1
 obtain ⟨d0,m,ks0,a0,b0,c0,g0,e0⟩:=xr hp
 have P0:Pn μ i (μ.set i (bT a0 b0 c0)):=⟨a0,b0,c0,[],by simp⟩
 generalize hM0:μ.set i (bT a0 b0 c0)=M0 at e0 P0
 obtain ⟨w,a1,b1,c1,w0,w1,ew,P1⟩:=P0.draw (m:=6) hi (by decide) (by decide)
 generalize hM1:M0.set i (bT a1 b1 c1)=M1 at ew P1
 have cmpw:dq .Lt w 3=decide (w<3):=rfl
 have st:∃ d ks,cH d m ks/\jZ (fT (az (kr .Lt) (ak 2) (cC (.int 3)))) (bw (aC bS (ag (ak 1) (ag (cC (.int 2)) (ax)))) (aj 1)) (di) [some (.obj i),some d0,some (.int w),none,none,none] M1=.next [some (.obj i),some d,some (.int w),none,none,none] M1:=by
  obtain ⟨d',ks',g',e'⟩:=zO (μ:=M1) (k:=2) g0
  by_cases hw:w<3
  ·refine ⟨d', ks', g', ?_⟩
   simp only [bp,bD,aA,ao,ah,aU,aa,af,dN,cmpw,K1 hw,aP,ae,KA,aW,aD,aq,av,e',cj,M8,M9]
  ·refine ⟨d0, ks0, g0, ?_⟩
   simp only [bp,bD,aA,ao,ah,aU,aa,af,dN,cmpw,Jq hw,aP,ae,K4,Ky,bH]
 obtain ⟨d,ks,g,es⟩:=st
 have hlow:=fun n=>i7 (n:=n) g
 have hg:=g
 obtain ⟨rfl,h0,h1,hpw,hk⟩:=hg
 unfold eB
 rw [fv]
 have sub1:∀ x y:Int,∀ μ,kq (.int x) (.int y) μ=.ok (.int (x - y)) μ:=fun _ _ _=>rfl
 by_cases z0:w=0/\ks≠[]
 ·obtain ⟨rfl, hne⟩ := z0
  have hlen:=jP g
  have hpos:0<ks.length:=MQ.mpr hne
  have hem:ks.isEmpty=false:=by simpa using hne
  obtain ⟨r,a2,b2,c2,r0,r1,er,P2⟩:=P1.draw (m:=(ks.length:Int)) hi (by omega) (by omega)
  generalize hM2:M1.set i (bT a2 b2 c2)=M2 at er P2
  obtain ⟨rn,rfl⟩:∃ rn:Nat,r=(rn:Int):=⟨r.toNat,by omega⟩
  have gs:cH (.tup [.int m,.tup ((ks.take rn++ks.drop (rn+1)).map ay)]) m (ks.take rn++ks.drop (rn+1)):=by
   refine AH g ?_
   have:=List.Sublist.append (List.Sublist.refl (ks.take rn)) (List.drop_sublist 1 (ks.drop rn))
   rwa [Lx,List.drop_drop] at this
  obtain ⟨a7,b7,c7,hgc⟩:=P2.gc (i7 gs)
  refine ⟨_,m,_,a7,b7,c7,gs,?_⟩
  simp only [gB,aJ,aW,aD,aq,av,ah,ao,aU,aa,af,e0,hM0,ae,cj,aE,List.replicate,M8,M9,ew,hM1]
  rw [es]
  simp only [aE,aJ,bp,gX,bD,aA,ao,ah,aU,aa,af,cb,K3,K4,Ky,KA,aP,j7,b9,av,Lk,Js (Le sizeLine),wI hk,hem,LY,ae,aW,aD,aq,C9,Kr,er,hM2,cj,M8,M9,bq,cL,yX,zx,pd,vc,gr]
  have s1:∀ μ,yn (.tup (ks.map ay)) none (some (rn:Int)) μ=.ok (.tup ((ks.map ay).take rn)) μ:=fun μ=>by
   unfold yn;dsimp only;rw [Gd (by rw [Kr];omega)]
  have s2:∀ μ,yn (.tup (ks.map ay)) (some ((rn:Int)+1)) none μ=.ok (.tup ((ks.map ay).drop (rn+1))) μ:=fun μ=>by
   unfold yn;dsimp only;rw [show ((rn:Int)+1)=((rn+1:Nat):Int) by push_cast;rfl,AR (by rw [Kr];omega)]
  simp only [s1,s2,aa,af]
  have s3:∀ μ,cv (.tup ((ks.map ay).take rn)) (.tup ((ks.map ay).drop (rn+1))) μ=.ok (.tup ((ks.take rn++ks.drop (rn+1)).map ay)) μ:=fun μ=>by
   unfold cv
   dsimp only
   rw [Js,Lz,LA,LB]
   rw [Kh,KB,Kr]
   exact JB (show _<=1000 by omega) bM
  simp only [s3,aa,af,K5,Lk,Js l2,ae,rK,aV]
  exact hgc
 ·
  have t0:kF (fT (az (fX false) (ak 2) (cC (.int 0)))) (fT (az (fX true) (az c9 (ak 1) (cC (.int 1))) (bU (ax)))) [some (.obj i),some (.tup [.int m,.tup (ks.map ay)]),some (.int w),none,none,none] M1=.ok false M1:=by
   by_cases hw:w=0
   ·subst hw
    have hem:ks.isEmpty=true:=by
     cases ks with
     | nil=>rfl
     | cons x y=>exact absurd ⟨rfl,by simp⟩ z0
    simp only [gX,bD,aA,ao,ah,aU,aa,af,cb,K3,K4,Ky,KA,aP,j7,b9,av,Lk,Js (Le sizeLine),wI hk,hem,LO]
   ·have hw' : (w == 0) = false := by simpa using hw
    simp only [gX,bD,aA,ao,ah,aU,aa,af,cb,hw',K4,Ky,aP]
  by_cases z1:w=1/\1<m
  ·obtain ⟨rfl, hm⟩ := z1
   obtain ⟨u,a2,b2,c2,u0,u1,eu,P2⟩:=P1.draw (m:=m) hi (by omega) (by omega)
   generalize hM2:M1.set i (bT a2 b2 c2)=M2 at eu P2
   obtain ⟨v,a3,b3,c3,v0,v1,ev,P3⟩:=P2.draw (m:=m - 1) hi (by omega) (by omega)
   generalize hM3:M2.set i (bT a3 b3 c3)=M3 at ev P3
   have hx0:0<=(u+1+v) % m:=MZ _ (by omega)
   have hx1:(u+1+v) % m<m:=M7 _ (by omega)
   have hxne:(u+1+v) % m≠u:=by
    by_cases hh:u+1+v<m
    ·rw [Int.emod_eq_of_lt (by omega) hh];omega
    ·rw [show u+1+v=(u+1+v - m)+m by omega,Int.add_emod_right,Int.emod_eq_of_lt (by omega) (by omega)];omega
   have md:∀ x μ,pZ (.int x) (.int m) μ=.ok (.int (x % m)) μ:=fun x μ=>kR (show (fun _ j=>(0:Int)<j) x m by show 0<m;omega)
   generalize hx:(u+1+v) % m=x at hx0 hx1 hxne
   have hks:∀ k∈ks++[[min u x,max u x]],nS m k:=fun k hk'=>by
    rcases JI.mp hk' with z | z
    ·exact hk k z
    ·simp at z;subst z;exact ⟨_,_,rfl,by omega,by omega,by omega⟩
   have gs:=ng h0 h1 hks
   have kd:lp ((ks++[[min u x,max u x]]).map ay)=some (ks++[[min u x,max u x]]):=oY fun k hk=>(hks k hk).prs h1
   obtain ⟨a7,b7,c7,hgc⟩:=(((P3.app (g:=[.lst [.int (min u x),.int (max u x)]])).app (g:=[.set (eJ (ks++[[min u x,max u x]]))])).app (g:=[.lst ((js (ks++[[min u x,max u x]])).map ay)])).gc (i7 gs)
   refine ⟨_,m,_,a7,b7,c7,gs,?_⟩
   have cm:dq .Gt m 1=true:=by simpa [dq] using hm
   have l1:(1:Nat)<=sizeLine:=by decide
   have s3:∀ μ,cv (.tup (ks.map ay)) (.tup [.tup [.int (min u x),.int (max u x)]]) μ=.ok (.tup ((ks++[[min u x,max u x]]).map ay)) μ:=fun μ=>by
    unfold cv
    dsimp only
    rw [Js,Lz]
    ·rfl
    ·have := jP g
     rw [Kr]
     simp only [K5,Lk]
     exact JB (show _<=1000 by omega) bM
   have s4:∀ μ,nC [.tup ((ks++[[min u x,max u x]]).map ay)] μ=.ok (.obj μ.length) (μ++[.set (eJ (ks++[[min u x,max u x]]))]):=fun μ=>by
    unfold nC;dsimp only;unfold oy;rw [kd]
   have s5:∀ M:aB,cY [.obj M.length] (M++[.set (eJ (ks++[[min u x,max u x]]))])=.ok (.obj (M++[O.set (eJ (ks++[[min u x,max u x]]))]).length) ((M++[.set (eJ (ks++[[min u x,max u x]]))])++[.lst ((js (ks++[[min u x,max u x]])).map ay)]):=fun M=>by
    unfold cY;dsimp only;rw [aw];dsimp only;rw [nh]
   simp only [gB,aJ,aW,aD,aq,av,ah,ao,aU,aa,af,e0,hM0,ae,cj,aE,List.replicate,M8,M9,ew,hM1]
   rw [es]
   simp only [aE]
   rw [aJ,bp,t0]
   simp only [ae,K4,Ky,bH,aE,aJ,bp,gX,bD,aA,ao,ah,aU,aa,af,cb,K3,KA,aP,cL,dN,cm,aW,aD,aq,av,eu,hM2,cj,M8,M9,b9,sub1,ev,hM3,gr,md,hx,K5,Lk,Js l2,Js l1,G5]
   rw [gW aw]
   simp only [aa,af,ae,cj,M8,M9,aE,bq,b9,aq,av,aA,aD,ao,ah,aU,cL,j7,K5,Lk,Js l2,Js l1,s3,s4,s5]
   rw [gW aw]
   simp only [aa,af,ae,K5,Lk,Js l2,rK,aV]
   exact hgc
  ·have t1:kF (fT (az (fX false) (ak 2) (cC (.int 1)))) (fT (az (kr .Gt) (az c9 (ak 1) (cC (.int 0))) (cC (.int 1)))) [some (.obj i),some (.tup [.int m,.tup (ks.map ay)]),some (.int w),none,none,none] M1=.ok false M1:=by
    by_cases hw:w=1
    ·subst hw
     have cm:dq .Gt m 1=false:=by
      have:¬ 1<m:=fun h=>z1 ⟨rfl,h⟩
      simpa [dq] using this
     simp only [gX,bD,aA,ao,ah,aU,aa,af,cb,K3,K4,Ky,KA,aP,cL,dN,cm]
    ·have hw' : (w == 1) = false := by simpa using hw
     simp only [gX,bD,aA,ao,ah,aU,aa,af,cb,hw',K4,Ky,aP]
   obtain ⟨a7,b7,c7,hgc⟩:=P1.gc (i7 g)
   refine ⟨_,m,_,a7,b7,c7,g,?_⟩
   simp only [gB,aJ,aW,aD,aq,av,ah,ao,aU,aa,af,e0,hM0,ae,cj,aE,List.replicate,M8,M9,ew,hM1]
   rw [es]
   simp only [aE]
   rw [aJ,bp,t0]
   simp only [ae,K4,Ky,bH,aE]
   rw [aJ,bp,t1]
   simp only [ae,K4,Ky,bH,aE,bq,ao,ah,aV]
   exact hgc
end Lw
namespace Lv
def xc (ks:List (List Int)) (a b:Int):Bool:=decide ([min a b,max a b]∈ks)
def rg (m:Nat):List Int:=(List.range m).map Int.ofNat
def gS (m:Nat) (ks:List (List Int)) (p:Int):List Int:=(rg m).filter fun q=>decide (q=p) || xc ks p q
theorem kQ {m:Nat}{p:Int}:p∈rg m↔0<=p/\p<m:=by
 unfold rg
 rw [Lp]
 constructor
 ·rintro ⟨i, hi, rfl⟩
  have:=JA.mp hi
  exact ⟨Int.natCast_nonneg _,by simpa using this⟩
 ·rintro ⟨h0, h1⟩
  exact ⟨p.toNat,JA.mpr (by omega),by simp;omega⟩
theorem rM {m:Nat}:(rg m).length=m:=by simp [rg]
theorem Hb {m:Nat}:(rg m).Pairwise (·<·):=by
 unfold rg
 rw [Mp]
 exact LJ.imp fun h=>by simpa using h
structure Jn (m k:Nat) (w:List Int):Prop where
 len:w.length=k+1
 nd:w.Nodup
 rng:∀ p∈w,0<=p/\p<(m:Int)
theorem jR {m:Nat}{f:List Int->List (List Int)} (h:∀ w,(f w).length<=m):∀ l:List (List Int),(l.flatMap f).length<=l.length * m
 | []=>by simp
 | w::l=>by
  rw [Nh,Kq,K5,Nat.succ_mul]
  have:=h w;have:=jR h l;omega
end Lv
namespace Lw
open PySem L2 RS Lv
theorem gG {U:Type}{en:U->D}{src:rj}{g:MG}{t:MT}{e:ME}{μ1:aB}{q:U->Bool}{h:U->D} (R:Ro->Prop) (ho:∀ a,d3 src (μ1++[.lst a])) :
  ∀ {us:List U}{acc:List D}{ρ:Ro},R ρ->acc.length+us.length<=sizeLine->(∀ x∈us,∀ a ρ,R ρ->∃ ρ1,R ρ1/\g (en x) ρ (μ1++[.lst a])=.ok ρ1 (μ1++[.lst a])/\t ρ1 (μ1++[.lst a])=.ok (q x) (μ1++[.lst a])/\(q x=true->e ρ1 (μ1++[.lst a])=.ok (h x) (μ1++[.lst a]))) ->
   compLoop src μ1.length g t e (us.map en) ρ (μ1++[.lst acc])=.ok (.obj μ1.length) (μ1++[.lst (acc++(us.filter q).map h)])
 | [],acc,ρ,hr,hl,he=>by
  rw [KL]
  unfold compLoop
  rw [Js (ho acc)]
  simp
 | x::xs,acc,ρ,hr,hl,he=>by
  obtain ⟨ρ1,r1,e1,e2,e3⟩:=he x JE acc ρ hr
  rw [KM]
  unfold compLoop
  rw [Js (ho acc),e1]
  simp only [af,aa]
  rw [e2]
  simp only [af,aa]
  have he':=fun y hy=>he y (JF _ hy)
  simp only [K5] at hl
  cases hq:q x with
  | false=>
   rw [Jt JX,gG R ho r1 (by omega) he',MU,hq]
   rfl
  | true=>
   rw [Js rfl,e3 hq]
   simp only [af,aa]
   rw [mI (by omega)]
   simp only [aa,af]
   rw [gG R ho r1 (by simp;omega) he',MU,hq]
   simp
theorem i4 {U:Type}:∀ {us:List U},us.filter (fun _=>true)=us
 | []=>rfl
 | _::us=>by rw [MU,Js rfl,i4]
def DS:D->Bool
 | .int _=>true
 | _=>false
def uO (m:Nat):D->Bool
 | .int i=>decide (0<=i/\i<(m:Int))
 | _=>false
def oa (μ:aB) (d:D):Prop:=DO μ d≠none
theorem CB {μ:aB}{n:Nat} (h:oa μ (.obj n)):(∃ xs,μ[n]?=some (.lst xs))\/μ[n]?=some .dic:=by
 unfold oa DO at h
 dsimp only at h
 split at h
 ·rename_i xs e;exact .inl ⟨xs,e⟩
 ·rename_i e;exact .inr e
 ·exact absurd rfl h
theorem CV {μ:aB}{d:D} (h:oa μ d):∃ b,la "int" d μ=.ok (.bl b) μ/\(b=true->∃ c,la "bool" d μ=.ok (.bl c) μ/\(!c)=DS d)/\(b=false->DS d=false):=by
 cases d with
 | non=>exact ⟨false,rfl,nofun,fun _=>rfl⟩
 | bl b=>exact ⟨true,rfl,fun _=>⟨true,rfl,rfl⟩,nofun⟩
 | int i=>exact ⟨true,rfl,fun _=>⟨false,rfl,rfl⟩,nofun⟩
 | str x=>exact ⟨false,rfl,nofun,fun _=>rfl⟩
 | tup xs=>exact ⟨false,rfl,nofun,fun _=>rfl⟩
 | frz xs=>exact ⟨false,rfl,nofun,fun _=>rfl⟩
 | obj n=>
  refine ⟨false,?_,nofun,fun _=>rfl⟩
  unfold la DO
  rcases CB h with ⟨xs,e⟩ | e <;> simp only [e] <;> rfl
theorem tP {μ:aB}{d:D} (h:oa μ d):eR [d] μ=.ok (.bl (DS d)) μ:=by
 obtain ⟨b,h1,h2,h3⟩:=CV h
 unfold eR
 rw [fv]
 simp only [kZ,List.replicate,bq,j9,wQ,jI,ah,aa,af,h1,aP]
 cases b with
 | false=>
  rw [Jt JX,ae,aV,h3 rfl]
  exact cn (by simp)
 | true=>
  obtain ⟨c,c1,c2⟩:=h2 rfl
  rw [Js rfl,c1]
  simp only [aa,af,aP,ae,aV,c2]
  exact cn (by simp)
theorem tQ {μ:aB}{m:Nat}{d:D} (h:oa μ d):ir [.int m,d] μ=.ok (.bl (uO m d)) μ:=by
 have hw:bj [d,.int 0,.int ((m:Int) - 1)] μ=.ok (.bl (uO m d)) μ:=by
  unfold bj
  rw [mC]
  simp only [eG,List.replicate,bq,j9,aD,aq,av,ah,ao,aa,af,tP h,aP,pf]
  cases d with
  | int i=>
   rw [show DS (.int i)=true from rfl,Js rfl]
   simp only [dN,aa,af,aP]
   by_cases c:dq .LtE 0 i=true
   ·rw [Js c, ae, aV]
    rw [show dq .LtE i ((m:Int) - 1)=uO m (.int i) from by
     have c':(0:Int)<=i:=Nk c
     show decide (i<=(m:Int) - 1)=decide (0<=i/\i<(m:Int))
     exact Mj.mpr ⟨fun z=>⟨c',by omega⟩,fun z=>by omega⟩]
    exact cn (by simp)
   ·rw [Jt c, ae, aV]
    rw [show uO m (.int i)=false from by
     have c':¬ (0:Int)<=i:=fun z=>c (K1 z)
     exact Jq (fun z=>c' z.1)]
    exact cn (by simp)
  | _=>
   rw [show DS _=false from rfl,Jt JX,ae,aV]
   exact cn (by simp)
 unfold ir
 rw [fu]
 simp only [pM,List.replicate,bq,aD,aq,av,ah,ao,aU,aA,aa,af]
 rw [show kq (.int m) (.int 1) μ=.ok (.int ((m:Int) - 1)) μ from rfl]
 simp only [aa,af,hw,ae,aV]
 exact cn (by simp)
theorem lJ {μ:aB}{m:Nat}{x:D}{p:Int} (h:0<=p/\p<(m:Int)):bG [.tup [.int m,x],.int p] μ=.ok .non μ:=by
 unfold bG
 rw [fu]
 simp only [iW,List.replicate,bp,gq,ig,aD,aq,av,aA,ah,ao,aU,aa,af,cL]
 rw [tQ (show oa μ (.int p) from nofun),show uO m (.int p)=true from K1 h]
 simp only [aa,af,gp,LO,ae,K4,Ky,bH,Ao]
 exact cn (by simp)
abbrev Gh (w:List Int):D:=.tup (w.map D.int)
theorem kT:∀ (l acc:List Int),acc.Nodup->(l.foldl (fun acc k=>if k∈acc then acc else acc++[k]) acc).Nodup/\∀ x,x∈l.foldl (fun acc k=>if k∈acc then acc else acc++[k]) acc↔x∈acc\/x∈l
 | [],acc,h=>⟨h,fun x=>by simp⟩
 | y::l,acc,h=>by
  rw [KU]
  by_cases c:y∈acc
  ·rw [Js c]
   have ih:=kT l acc h
   refine ⟨ih.1,fun x=>?_⟩
   rw [ih.2 x,JG]
   constructor
   ·rintro (z | z)
    ·exact .inl z
    ·exact .inr (.inr z)
   ·rintro (z | rfl | z)
    ·exact .inl z
    ·exact .inl c
    ·exact .inr z
  ·rw [Jt c]
   have ih:=kT l (acc++[y]) (by rw [LU];exact ⟨h,by simp,fun a ha b hb=>by simp at hb;subst hb;exact fun e=>c (e ▸ ha)⟩)
   refine ⟨ih.1,fun x=>?_⟩
   rw [ih.2 x,JG,JI,Lf,or_assoc]
theorem xv {m:Nat}{ks:List (List Int)}{p:Int}{ns:List Int} (h:∀ q,q∈ns↔q∈gS m ks p):lh (ij ns)=gS m ks p:=by
 have d:=kT ns [] LI
 have up:(gS m ks p).Pairwise (·<·):=Hb.filter _
 refine (oP ?_ (up.imp fun {a b} h=>Int.le_of_lt h)).symm
 refine (LK (up.imp fun {a b} h=>by omega) d.1).mpr fun q=>?_
 rw [d.2 q,<- h q]
 simp
theorem tL {m:Int}{ks:List (List Int)} (hk:∀ k∈ks,nS m k) {p q:Int}:xc ks p q=true↔[p,q]∈ks\/[q,p]∈ks:=by
 unfold xc
 rw [ML]
 have asc:∀ {a b:Int},[a,b]∈ks->a<b:=fun h=>by
  obtain ⟨u,v,e,_,h2,_⟩:=hk _ h
  simp at e;rw [e.1,e.2];exact h2
 constructor
 ·intro h
  have:=asc h
  by_cases c:p<=q
  ·left;rw [Nl c,Np c] at h;exact h
  ·right;rw [Nq (by omega),Nr (by omega)] at h;exact h
 ·rintro (h | h)
  ·have := asc h
   rw [Nl (by omega),Np (by omega)];exact h
  ·have := asc h
   rw [Nq (by omega),Nr (by omega)];exact h
theorem ue:∀ {ns:List Int},iY (ns.map D.int)=some ns
 | []=>rfl
 | n::ns=>by simp [iY,ue (ns:=ns)]
theorem C0 {ns:List Int} (h:∀ n∈ns,0<=n/\n<6):yv (ns.map D.int)=some ns:=by
 unfold yv
 rw [ue]
 dsimp only
 rw [Js (LM.mpr fun n hn=>K1 (h n hn))]
theorem BI {μ:aB}{m:Nat}{ks:List (List Int)}{p:Int} (h:cH (.tup [.int m,.tup (ks.map ay)]) m ks) (hp:0<=p/\p<(m:Int)):dP [.tup [.int m,.tup (ks.map ay)],.int p] μ=.ok (Gh (gS m ks p)) μ:=by
 have hl:=jP h
 obtain ⟨_,h0,h1,_,hk⟩:=h
 have eN:(μ++[O.lst [.int p]]++[O.lst [.int p]])[(μ++[O.lst [.int p]]).length]?=some (.lst ([p].map D.int)):=aw
 obtain ⟨t,g,ns,e1,e2,e3,e4,e5⟩:=tR (μ:=μ++[O.lst [.int p]]++[O.lst [.int p]]) hk hl eN
 have mem:∀ q,q∈p::ns↔q∈gS m ks p:=fun q=>by
  unfold gS
  rw [JG,e5 q,Jz,kQ]
  simp only [Lf,exists_eq_left,MR,ML,jj hk,tL hk]
  constructor
  ·rintro (rfl | z)
   ·exact ⟨hp,.inl rfl⟩
   ·refine ⟨?_, .inr z⟩
    rcases z with z | z <;> (obtain ⟨u,v,e,h3,h4,h5⟩:=hk _ z;simp at e;obtain ⟨ea,eb⟩:=e;subst ea eb;exact ⟨by omega,by omega⟩)
  ·rintro ⟨_, z | z⟩
   ·exact .inl z
   ·exact .inr z
 have rng:∀ n∈p::ns,0<=n/\n<6:=fun n hn=>by
  have:=kQ.mp (Jz.mp ((mem n).mp hn)).1
  omega
 unfold dP
 rw [fu]
 have l1:([D.int p]:List D).length<=sizeLine:=JB (by simp) bM
 simp only [mS,List.replicate,aJ,lE,aD,aq,av,ah,ao,aa,af,lJ hp,ae,aE,bq,aA,cW,Js l1,aU,j7,e1]
 have ad:cv (.obj μ.length) (.obj t) (μ++[O.lst [.int p]]++[O.lst [.int p]]++g)=.ok (.obj (μ++[O.lst [.int p]]++[O.lst [.int p]]++g).length) ((μ++[O.lst [.int p]]++[O.lst [.int p]]++g)++[O.lst ((p::ns).map D.int)]):=by
  unfold cv
  dsimp only
  rw [e2,aL (aL aw)]
  dsimp only
  rw [Js]
  ·rfl
  ·rw [Kr]
   exact JB (show _<=1000 by simp;omega) bM
 rw [ad]
 simp only [aa,af]
 have st:∀ M:aB,nC [.obj M.length] (M++[O.lst ((p::ns).map D.int)])=.ok (.obj (M++[O.lst ((p::ns).map D.int)]).length) ((M++[O.lst ((p::ns).map D.int)])++[O.iset (ij (p::ns))]):=fun M=>by
  unfold nC
  dsimp only
  rw [aw]
  dsimp only
  unfold oy
  rw [show lp ((p::ns).map D.int)=none from rfl,C0 rng]
 rw [st]
 simp only [aa,af]
 have so:∀ M:aB,cY [.obj M.length] (M++[O.iset (ij (p::ns))])=.ok (.obj (M++[O.iset (ij (p::ns))]).length) ((M++[O.iset (ij (p::ns))])++[.lst ((gS m ks p).map D.int)]):=fun M=>by
  unfold cY
  dsimp only
  rw [aw]
  dsimp only
  rw [xv mem]
 rw [so]
 simp only [aa,af]
 rw [gW aw]
 simp only [ae,aV]
 simp only [KS]
 exact iR (by simp only [CN];exact ip.mpr fun x hx=>by obtain ⟨k,_,rfl⟩:=Lp.mp hx;simp)
theorem zg {m:Nat}:bh 0 ((m:Int)).toNat=(rg m).map D.int:=by
 unfold bh rg
 rw [Lh]
 simp
theorem dz {f g:MS}{ρ ρ':Ro}{μ μ':aB} (h:f ρ μ=.next ρ' μ'):br f g ρ μ=g ρ' μ':=by rw [aJ,h,aE]
def rE (v:Nat) (f:Int->Option Nat) (qs:List Int):Int->Option Nat:=qs.foldl (fun f q=>kM f q v) f
theorem pq {v:Nat}:∀ (qs:List Int) (f:Int->Option Nat) (q:Int),rE v f qs q=if q∈qs then some v else f q
 | [],f,q=>by simp [rE]
 | x::qs,f,q=>by
  have:=pq (v:=v) qs (kM f x v) q
  unfold rE at this ⊢
  rw [KU,this]
  by_cases h:q∈qs
  ·rw [Js h,Js (JF _ h)]
  ·rw [Jt h]
   unfold kM
   by_cases e:q=x
   ·rw [Js e,Js (by simp [e])]
   ·rw [Jt e,Jt (by simp [e,h])]
section
variable {μ0:aB}{m A:Nat}{p:Int}{ks:List (List Int)}{w:D}
theorem C6 {M:aB}{A t n:Nat}{f:Int->Option Nat}{fs:List Int}{o0 o1 o2 o3:Option D}{o7:Option D} (hA:M[A]?=some (.lst (cJ m f))) (ht:M[t]?=some (.lst (fs.map D.int))) (hne:A≠t) (hfs:∀ q∈fs,0<=q/\q<(m:Int)) :
  ∃ o7',kl (ia (ak 6)) (aj 7) eA [o0,o1,o2,o3,some (.obj A),some (.int n),some (.obj t),o7] M=.next [o0,o1,o2,o3,some (.obj A),some (.int n),some (.obj t),o7'] (M.set A (.lst (cJ m (rE n f fs)))):=by
 have hAl:A<M.length:=(JK.mp hA).1
 have run:=gn (src:=.own t (fs.map D.int)) (g:=aj 7) (fb:=eA)
  (fun xs ρ μ1=>∃ ys zs:List Int,xs=zs.map D.int/\fs=ys++zs/\μ1=M.set A (.lst (cJ m (rE n f ys)))/\∃ o7,ρ=[o0,o1,o2,o3,some (.obj A),some (.int n),some (.obj t),o7])
  (fun ρ μ1 ⟨ys,zs,_,_,e,_⟩=>by subst e;exact jQ ht hne)
  (fun x xs ρ μ1 hJJ => by
   obtain ⟨ys,zs,hx,hf,e,o7,eρ⟩:=hJJ
   subst e eρ
   cases zs with
   | nil=>cases hx
   | cons z zs=>
    injection hx with h1 h2
    subst h1 h2
    have hz:=hfs z (by rw [hf];simp)
    have hlen:(cJ m (rE n f ys)).length=m:=by unfold cJ;rw [Kr,Lj]
    refine ⟨jQ ht hne,_,_,[o0,o1,o2,o3,some (.obj A),some (.int n),some (.obj t),some (.int z)],M.set A (.lst (cJ m (rE n f (ys++[z])))),rfl,?_,ys++[z],zs,rfl,by rw [hf];simp,rfl,_,rfl⟩
    show eA [o0,o1,o2,o3,some (.obj A),some (.int n),some (.obj t),some (.int z)] _=_
    unfold eA
    simp only [aW,ao,ah,ae,j8,aa,af]
    rw [lD (gm hAl) (my hz.1 (by rw [hlen];exact hz.2)),oU hz.1 hz.2]
    simp only [aa,af,ae,List.set_set]
    unfold rE
    rw [LZ]
    rfl)
  (xs:=fs.map D.int) (ρ:=[o0,o1,o2,o3,some (.obj A),some (.int n),some (.obj t),o7]) (μ:=M)
  ⟨[], fs, rfl, rfl, by
   apply Mm
   intro j
   by_cases e:A=j
   ·subst e;rw [gm hAl,hA];rfl
   ·rw [JN e],_,rfl⟩
 obtain ⟨ρ',μ',⟨ys,zs,hx,hf,e,o7',eρ⟩,run⟩:=run
 subst e eρ
 have hz:zs=[]:=by cases zs with
  | nil=>rfl
  | cons=>cases hx
 subst hz
 rw [Kb] at hf
 subst hf
 refine ⟨o7',?_⟩
 simp only [gN,dm,ao,ah,aa,af]
 rw [fB ht]
 simp only [ae,cO]
 exact run
theorem C5 {M:aB}{A t n:Nat}{f:Int->Option Nat}{fs:List Int}{o0 o1 o2 o7:Option D} (hk:∀ k∈ks,nS m k) (hl:ks.length<=15) (hA:M[A]?=some (.lst (cJ m f))) (ht:M[t]?=some (.lst (fs.map D.int))) (hne:A≠t)
  (hU:Up (kj ks) p (fun q=>0<=q/\q<m) n f) (hfs:∀ q,q∈fs↔((0<=q/\q<(m:Int))/\f q=some n)) :
  ∃ (t':Nat) (fs':List Int) (f':Int->Option Nat) (g:aB) (o7':Option D),d9 [o0,o1,o2,some (.tup (ks.map ay)),some (.obj A),some (.int n),some (.obj t),o7] M=.next [o0,o1,o2,some (.tup (ks.map ay)),some (.obj A),some (.int ((n+1:Nat):Int)),some (.obj t'),o7'] ((M++g).set A (.lst (cJ m f'))) /\
   (M++g)[t']?=some (.lst (fs'.map D.int))/\A≠t'/\Up (kj ks) p (fun q=>0<=q/\q<m) (n+1) f'/\∀ q,q∈fs'↔((0<=q/\q<(m:Int))/\f' q=some (n+1)):=by
 obtain ⟨s,g,ns,e1,e2,e3,e4,e5⟩:=tR hk hl ht
 have hA':=aL (g:=g) hA
 have hAl:A<M.length:=(JK.mp hA).1
 have hnsD:∀ q∈ns,0<=q/\q<(m:Int):=fun q hq=>by
  obtain ⟨r,_,ha⟩:=(e5 q).mp hq
  exact (fD hk ha).2
 have c:=de (src:=.own s (ns.map D.int)) (g:=aj 0) (t:=iU) (e:=kJ) (μ1:=M++g) (q:=fun d=>match d with | .int q=>decide (f q=none) | _=>false) (h:=fun d=>d)
  (fun ρ=>∃ o,ρ=[o,some (.obj A)]) (fun a=>aL e2) (xs:=ns.map D.int) (acc:=[]) (ρ:=[none,some (.obj A)]) ⟨_,rfl⟩
  (by rw [Kr,Lk];exact JB (by omega) bM)
  (fun x hx a ρ hJJ => by
   obtain ⟨o,ho⟩:=hJJ
   obtain ⟨q,hq,rfl⟩:=Lp.mp hx
   subst ho
   refine ⟨[some (.int q),some (.obj A)],⟨_,rfl⟩,rfl,?_,fun _=>rfl⟩
   unfold iU
   simp only [bD,aA,ao,ah,aU,aa,af]
   rw [dW (aL hA') (jK (hnsD q hq).1 (hnsD q hq).2)]
   simp only [aa,af,rR,kg,K4,Ky,aP])
 have hfl:((ns.map D.int).filter fun d=>match d with | .int q=>decide (f q=none) | _=>false).map (fun d=>d)=(ns.filter fun q=>decide (f q=none)).map D.int:=by
  rw [List.map_id',Nd]
  rfl
 rw [K0,hfl] at c
 have hmem:∀ q,q∈(ns.filter fun q=>decide (f q=none))↔(f q=none/\∃ r,kj ks r q/\f r=some n):=fun q=>by
  rw [Jz,ML,e5]
  constructor
  ·rintro ⟨⟨r, hr, ha⟩, hn⟩
   exact ⟨hn,r,ha,((hfs r).mp hr).2⟩
  ·rintro ⟨hn, r, ha, hr⟩
   exact ⟨⟨r,(hfs r).mpr ⟨(fD hk ha).1,hr⟩,ha⟩,hn⟩
 have hD':∀ q,q∈(ns.filter fun q=>decide (f q=none))->0<=q/\q<(m:Int):=fun q hq=>hnsD q (Jz.mp hq).1
 have hne':A≠(M++g).length:=by rw [Kq];omega
 obtain ⟨o7',er⟩:=C6 (m:=m) (n:=n+1) (f:=f) (fs:=ns.filter fun q=>decide (f q=none)) (o0:=o0) (o1:=o1) (o2:=o2) (o3:=some (.tup (ks.map ay))) (o7:=o7) (M:=(M++g)++[O.lst ((ns.filter fun q=>decide (f q=none)).map D.int)]) (aL hA') aw hne' hD'
 refine ⟨(M++g).length,ns.filter fun q=>decide (f q=none),rE (n+1) f (ns.filter fun q=>decide (f q=none)),g++[O.lst ((ns.filter fun q=>decide (f q=none)).map D.int)],o7',?_,by rw [<- KS];exact aw,hne',?_,fun q=>?_⟩
 ·unfold d9
  have s1:rp 5 lu (cC (.int 1)) [o0,o1,o2,some (.tup (ks.map ay)),some (.obj A),some (.int n),some (.obj t),o7] M=.next [o0,o1,o2,some (.tup (ks.map ay)),some (.obj A),some (.int ((n+1:Nat):Int)),some (.obj t),o7] M:=by
   push_cast;rfl
  rw [dz s1,aJ,aW,bR,dm,aD]
  simp only [aq,av,ao,ah,aa,af,e1]
  rw [fB e2]
  simp only [aa,af,cO]
  rw [show iQ [none,some 4] [o0,o1,o2,some (.tup (ks.map ay)),some (.obj A),some (.int ((n+1:Nat):Int)),some (.obj t),o7]=[none,some (.obj A)] from rfl,c]
  simp only [ae,cj,M8,M9,aE]
  rw [er,<- KS]
 ·refine hU.next (fun a b h => (fD hk h).1) fun q hq j => ?_
  rw [pq]
  by_cases hm:q∈ns.filter fun q=>decide (f q=none)
  ·rw [Js hm]
   have:=(hmem q).mp hm
   constructor
   ·intro e;cases e;exact .inr ⟨this.1,rfl,this.2⟩
   ·rintro (z | ⟨_, z, _⟩)
    ·rw [this.1] at z;cases z
    ·rw [z]
  ·rw [Jt hm]
   constructor
   ·exact .inl
   ·rintro (z | ⟨z1, z2, z3⟩)
    ·exact z
    ·exact absurd ((hmem q).mpr ⟨z1,z3⟩) hm
 ·rw [pq]
  constructor
  ·intro hm
   exact ⟨hD' q hm,by rw [Js hm]⟩
  ·rintro ⟨hq, z⟩
   by_cases hm:q∈ns.filter fun q=>decide (f q=none)
   ·exact hm
   ·rw [Jt hm] at z
    have:=((hU q hq (n+1)).mp z).1
    omega
end
theorem ui {μ0:aB}{m A:Nat}{p:Int}{ks:List (List Int)}{o0 o1 o2:Option D} (hk:∀ k∈ks,nS m k) (hl:ks.length<=15) (hp:0<=p/\p<(m:Int)) (hA0:μ0.length<=A) :
  ∀ (c n:Nat) (f:Int->Option Nat) (fs:List Int) (M:aB) (t:Nat) (o7:Option D),M[A]?=some (.lst (cJ m f))->M[t]?=some (.lst (fs.map D.int))->A≠t->Up (kj ks) p (fun q=>0<=q/\q<m) n f ->
   (∀ q,q∈fs↔((0<=q/\q<(m:Int))/\f q=some n))->(∀ i,i<μ0.length->M[i]?=μ0[i]?)->n<=m->m<n+c ->
   ∃ ρ' M' f',je (lb (ak 6)) d9 c [o0,o1,o2,some (.tup (ks.map ay)),some (.obj A),some (.int n),some (.obj t),o7] M=.next ρ' M'/\(∃ o5 o6 o7,ρ'=[o0,o1,o2,some (.tup (ks.map ay)),some (.obj A),o5,o6,o7]) /\
    M'[A]?=some (.lst (cJ m f'))/\(∀ i,i<μ0.length->M'[i]?=μ0[i]?)/\jB (kj ks) p (fun q=>0<=q/\q<m) f'
 | 0,n,f,fs,M,t,o7,hA,ht,hne,hU,hfs,hpre,h1,h2=>by omega
 | c+1,n,f,fs,M,t,o7,hA,ht,hne,hU,hfs,hpre,h1,h2=>by
  have tr:lb (ak 6) [o0,o1,o2,some (.tup (ks.map ay)),some (.obj A),some (.int n),some (.obj t),o7] M=.ok (!(fs.map D.int).isEmpty) M:=by
   simp only [ig,ao,ah,aa,af]
   unfold xb
   dsimp only
   rw [ht]
  unfold je
  rw [tr,ae]
  cases fs with
  | nil=>
   refine ⟨_,M,f,rfl,⟨_,_,_,rfl⟩,hA,hpre,hU.full (fun a b h=>(fD hk h).2) fun q hq hl=>?_⟩
   obtain ⟨_,r,ha,hr⟩:=i3.mp hl
   have:=(hfs r).mpr ⟨(fD hk ha).1,(hU r (fD hk ha).1 n).mpr ⟨J3 _,hr⟩⟩
   cases this
  | cons x fs=>
   have hx:=(hfs x).mp JE
   have hnm:n<m:=rO (m:=m) hp (fun a b h=>(fD hk h).2) ((hU x hx.1 n).mp hx.2).2
   obtain ⟨t',fs',f',g,o7',e,ht',hne',hU',hfs'⟩:=C5 (o0:=o0) (o1:=o1) (o2:=o2) (o7:=o7) hk hl hA ht hne hU hfs
   have hAl:A<(M++g).length:=by rw [Kq];have:=(JK.mp hA).1;omega
   rw [Js (show (!(List.map D.int (x::fs)).isEmpty)=true from rfl),e,nY]
   exact ui hk hl hp hA0 c (n+1) f' fs' ((M++g).set A (.lst (cJ m f'))) t' o7' (gm hAl) (jQ ht' hne') hne' hU' hfs' (fun i hi=>by
    rw [JN (by omega),Kl (by have:=(JK.mp hA).1;omega)];exact hpre i hi) (by omega) (by omega)
theorem wo {μ:aB}{m:Nat}{p:Int}{ks:List (List Int)} (h:cH (.tup [.int m,.tup (ks.map ay)]) m ks) (p0:0<=p) (p1:p<(m:Int)) :
  ∃ A μ' f,cS [.tup [.int m,.tup (ks.map ay)],.int p] μ=.ok (.obj A) (μ++μ')/\(μ++μ')[A]?=some (.lst (cJ m f))/\μ.length<=A/\jB (kj ks) p (fun q=>0<=q/\q<m) f:=by
 have hlen:=jP h
 obtain ⟨_,h0,h1,hpw,hk⟩:=h
 have hm6:m<=6:=by omega
 let M0:aB:=(μ++[.lst [.non]])++[.lst (cJ m fun _=>none)]
 have hM0:M0[(μ++[O.lst [.non]]).length]?=some (.lst (cJ m fun _=>none)):=aw
 have hlen0:(cJ m fun _=>none).length=m:=by unfold cJ;rw [Kr,Lj]
 let A:Nat:=(μ++[O.lst [.non]]).length
 have hAl:A<M0.length:=(JK.mp hM0).1
 let M1:aB:=M0.set A (.lst (cJ m (kM (fun _=>none) p 0)))
 have hM1:M1[A]?=some (.lst (cJ m (kM (fun _=>none) p 0))):=gm hAl
 have hpreM:∀ i,i<μ.length->(M1++[O.lst [.int p]])[i]?=μ[i]?:=fun i hi=>by
  have:i<M1.length:=by simp only [M1,M0,KO,Kq];omega
  rw [Kl this]
  simp only [M1]
  rw [JN (by simp only [A,Kq];omega)]
  simp only [M0]
  rw [KS,Kl hi]
 obtain ⟨ρ',M',f',ew,⟨o5,o6,o7,eρ⟩,hA',hpre,hF⟩:=ui (μ0:=μ) (o0:=some (.tup [.int m,.tup (ks.map ay)])) (o1:=some (.int p)) (o2:=some (.int m)) hk hlen ⟨p0,p1⟩ (show μ.length<=A by simp only [A,Kq];omega) 100 0 (kM (fun _=>none) p 0) [p] (M1++[O.lst [.int p]]) M1.length none
  (aL hM1) aw (by simp only [M1, KO]; omega) (wY fun q _ => by unfold kM; rfl) (fun q => by
   unfold kM
   rw [Lf]
   constructor
   ·rintro rfl;exact ⟨⟨p0,p1⟩,by rw [Js rfl]⟩
   ·rintro ⟨_, z⟩
    by_cases e:q=p
    ·exact e
    ·rw [Jt e] at z;cases z) hpreM (by omega) (by omega)
 subst eρ
 obtain ⟨g,hg⟩:∃ g,M'=μ++g:=by
  refine ⟨M'.drop μ.length,?_⟩
  apply Mm
  intro i
  by_cases hi:i<μ.length
  ·rw [Kl hi,hpre i hi]
  ·rw [Kj (by omega), LF]
   congr 1;omega
 refine ⟨A,g,f',?_,by rw [<- hg];exact hA',by simp only [A,Kq];omega,hF⟩
 unfold cS
 rw [fu]
 have l2':[D.int m,D.tup (ks.map ay)].length=2:=rfl
 have s1:bw (ak 0) (gD 2 (bC (aj 2) (bC (aj 3) (gE)))) [some (.tup [.int m,.tup (ks.map ay)]),some (.int p),none,none,none,none,none,none] μ=.next [some (.tup [.int m,.tup (ks.map ay)]),some (.int p),some (.int m),some (.tup (ks.map ay)),none,none,none,none] μ:=by
  simp only [aW,ah,ae,Dc,Js l2',AL,Dd,cj,aa,af,M8,M9]
 have s2:bw (az jd (fZ (ag (cC .non) (ax))) (ak 2)) (aj 4) [some (.tup [.int m,.tup (ks.map ay)]),some (.int p),some (.int m),some (.tup (ks.map ay)),none,none,none,none] μ=.next [some (.tup [.int m,.tup (ks.map ay)]),some (.int p),some (.int m),some (.tup (ks.map ay)),some (.obj A),none,none,none] M0:=by
  simp only [aW,aA,cW,aq,av,aU,aa,af,K5,Lk,Js l1,ao,ah]
  unfold jd
  dsimp only
  rw [aw]
  dsimp only
  have hz:(6:Nat)<=sizeLine:=by decide
  rw [Js (by refine ⟨by omega,by omega,?_⟩;simp only [K5,Lk];omega)]
  simp only [Kw,pb,ae,cj,M8,M9,M0,A,qC]
 have s3:bw (cC (.int 0)) (kD (ak 4) (ak 1)) [some (.tup [.int m,.tup (ks.map ay)]),some (.int p),some (.int m),some (.tup (ks.map ay)),some (.obj A),none,none,none] M0=.next [some (.tup [.int m,.tup (ks.map ay)]),some (.int p),some (.int m),some (.tup (ks.map ay)),some (.obj A),none,none,none] M1:=by
  simp only [aW,aU,ae,j8,ao,ah,aa,af]
  rw [lD hM0 (my p0 (by rw [hlen0];exact p1)),show (D.int 0)=.int ((0:Nat):Int) from rfl,oU p0 p1]
  rfl
 have s4:bw (cC (.int 0)) (aj 5) [some (.tup [.int m,.tup (ks.map ay)]),some (.int p),some (.int m),some (.tup (ks.map ay)),some (.obj A),none,none,none] M1=.next [some (.tup [.int m,.tup (ks.map ay)]),some (.int p),some (.int m),some (.tup (ks.map ay)),some (.obj A),some (.int ((0:Nat):Int)),none,none] M1:=rfl
 have s5:bw (fZ (ag (ak 1) (ax))) (aj 6) [some (.tup [.int m,.tup (ks.map ay)]),some (.int p),some (.int m),some (.tup (ks.map ay)),some (.obj A),some (.int ((0:Nat):Int)),none,none] M1=.next [some (.tup [.int m,.tup (ks.map ay)]),some (.int p),some (.int m),some (.tup (ks.map ay)),some (.obj A),some (.int ((0:Nat):Int)),some (.obj M1.length),none] (M1++[O.lst [.int p]]):=by
  simp only [aW,cW,aq,av,ao,ah,aa,af,K5,Lk,Js l1,ae,cj,M8,M9]
 unfold nv
 simp only [List.replicate]
 rw [dz s1,dz s2,dz s3,dz s4,dz s5,dz (show mv 100 (lb (ak 6)) d9 _ _=_ from ew)]
 simp only [bq,ao,ah,ae,aV]
 rw [v9 (by simp only [CO,A,Kq];omega),hg]
theorem xj {μ:aB}{k:Int} (h0:1<=k) (h1:k<=6):bj [.int k,.int 1,.int 6] μ=.ok (.bl true) μ:=by
 have w:eR [.int k] μ=.ok (.bl true) μ:=by
  unfold eR
  rw [fv]
  have e1:la "int" (.int k) μ=.ok (.bl true) μ:=rfl
  have e2:la "bool" (.int k) μ=.ok (.bl false) μ:=rfl
  simp only [kZ,bq,j9,jI,wQ,ah,aa,af,e1,e2,aP,KA,LY,ae,aV]
  exact cn (by simp)
 unfold bj
 rw [mC]
 simp only [eG,bq,j9,aD,aq,av,ao,ah,aa,af,w,aP,KA,pf,dN]
 rw [show dq .LtE 1 k=true from K1 h0,show dq .LtE k 6=true from K1 h1]
 simp only [aP,aa,af,KA,ae,aV]
 exact cn (by simp)
theorem EN {m:Nat}{f g:Int->Option Nat} (h:∀ q:Int,0<=q/\q<(m:Int)->f q=g q):cJ m f=cJ m g:=by
 unfold cJ
 apply Li
 intro i hi
 rw [JA] at hi
 rw [h i (by omega)]
theorem By {M:aB}{m A:Nat}{p k:Int}{T:Int->Int->Option Nat} (hA:M[A]?=some (.lst (cJ m (T p)))) (hm:m<=6) (p0:0<=p) (p1:p<m) :
  compLoop (.fix (bh (p+1) ((m:Int) - (p+1)).toNat)) M.length (aj 0) gx gA (bh (p+1) ((m:Int) - (p+1)).toNat) [none,some (.int p),some (.int k),some (.obj A)] (M++[.lst []])=.ok (.obj M.length) (M++[.lst ((iA T k p (p+1) ((m:Int) - (p+1)).toNat).map ay)]):=by
 have:=de (src:=.fix (bh (p+1) ((m:Int) - (p+1)).toNat)) (g:=aj 0) (t:=gx) (e:=gA) (μ1:=M) (q:=fun d=>match d with | .int q=>DQ k (T p q) | _=>false)
  (h:=fun d=>match d with | .int q=>ay [p,q] | _=>.non) (fun ρ=>∃ o,ρ=[o,some (.int p),some (.int k),some (.obj A)]) (fun _=>trivial) (xs:=bh (p+1) ((m:Int) - (p+1)).toNat) (acc:=[]) (ρ:=[none,some (.int p),some (.int k),some (.obj A)]) ⟨none,rfl⟩
  (by unfold bh;rw [Kr,Lk,Lj];exact JB (by omega) bM)
  (fun x hx acc ρ ⟨o, ho⟩ => by
   unfold bh at hx
   obtain ⟨i,hi,rfl⟩:=Lp.mp hx
   rw [JA] at hi
   subst ho
   refine ⟨[some (.int (p+1+(i:Int))),some (.int p),some (.int k),some (.obj A)],⟨_,rfl⟩,rfl,?_,fun _=>?_⟩
   ·have hix := dW (μ := M ++ [.lst acc]) (aL hA) (jK (f := T p) (m := m) (q := p + 1 + (i : Int)) (by omega) (by omega))
    unfold gx
    simp only [gX,bD,aA,ao,ah,aU,aa,af,hix,rR,kg,aP]
    cases e:T p (p+1+(i:Int)) with
    | none=>rfl
    | some j=>
     simp only [Jq (show ¬ some j=none by simp),LY,KA,dN,aa,af,aP,jA]
     rfl
   ·unfold gA
    simp only [b9,aq,av,ao,ah,aa,af,K5,Lk,Js l2]
    rfl)
 rw [this,K0]
 exact JR (fun z=>ai.ok (D.obj M.length) (M++[O.lst z])) (tU (T:=T) (k:=k) (p:=p) (lo:=p+1) (c:=((m:Int) - (p+1)).toNat))
theorem xq {μ:aB}{m:Nat}{k:Int}{ks:List (List Int)}{T:Int->Int->Option Nat} (h:cH (.tup [.int m,.tup (ks.map ay)]) m ks) (k0:1<=k) (k1:k<=6)
  (hT:∀ p:Int,0<=p->p<m->jB (kj ks) p (fun q=>0<=q/\q<m) (T p)) :
  aY [.tup [.int m,.tup (ks.map ay)],.int k] μ=.ok (.tup [.int m,.tup ((w9 m T k).map ay)]) μ:=by
 have hG:=h
 obtain ⟨_,h0,h1,hp,hk⟩:=h
 have hm6:m<=6:=by omega
 have run:=gn (src:=.fix (bh 0 m)) (g:=aj 4) (fb:=gy)
  (fun xs ρ μ1=>∃ (n c:Nat) (o4 o5:Option D),xs=bh n c/\n+c=m/\ρ=[some (.tup [.int m,.tup (ks.map ay)]),some (.int k),some (.int m),some (.obj μ.length),o4,o5]/\(∀ i,i<μ.length->μ1[i]?=μ[i]?)/\μ1[μ.length]?=some (.lst (((List.range n).flatMap fun p:Nat=>iA T k p ((p:Int)+1) (m - (p+1))).map ay)))
  (fun _ _ _=>trivial)
  (fun x r ρ μ1 ⟨n, c, o4, o5, e1, e3, e4, e5, e6⟩ => by
   subst e4
   cases c with
   | zero=>rw [hZ] at e1;cases e1
   | succ c=>
    rw [f7] at e1
    injection e1 with ex er
    subst ex er
    obtain ⟨A,g,f,ef,hA,hAl,hF⟩:=wo (μ:=μ1) (p:=(n:Int)) hG (by omega) (by omega)
    have hrow:cJ m f=cJ m (T n):=EN fun q hq=>hF.eq (hT n (by omega) (by omega)) hq
    rw [hrow] at hA
    have q3:=By (k:=k) (p:=(n:Int)) hA hm6 (by omega) (by omega)
    rw [show ((m:Int) - ((n:Int)+1)).toNat=m - (n+1) by omega] at q3
    have hlen:=jR (T:=T) (k:=k) hm6 n
    have hrl:=oS (T:=T) (k:=k) (p:=n) (lo:=(n:Int)+1) (c:=m - (n+1))
    have hml:μ.length<μ1.length:=(JK.mp e6).1
    have e6':((μ1++g)++[O.lst ((iA T k n ((n:Int)+1) (m - (n+1))).map ay)])[μ.length]?=some (.lst (((List.range n).flatMap fun p:Nat=>iA T k p ((p:Int)+1) (m - (p+1))).map ay)):=aL (aL e6)
    refine ⟨trivial,_,μ1,[some (.tup [.int m,.tup (ks.map ay)]),some (.int k),some (.int m),some (.obj μ.length),some (.int n),some (.obj A)],((μ1++g)++[O.lst ((iA T k n ((n:Int)+1) (m - (n+1))).map ay)]).set μ.length (O.lst (((List.range (n+1)).flatMap fun p:Nat=>iA T k p ((p:Int)+1) (m - (p+1))).map ay)),rfl,?_,n+1,c,some (.int n),some (.obj A),by push_cast;rfl,by omega,rfl,fun i hi=>?_,?_⟩
    ·show gy [some (.tup [.int m, .tup (ks.map ay)]), some (.int k), some (.int m), some (.obj μ.length), some (.int n), o5] μ1 = _
     unfold gy
     have s1:bw (aC (fun ds μ=>(cS ds μ).nox) (ag (ak 0) (ag (ak 4) (ax)))) (aj 5) [some (.tup [.int m,.tup (ks.map ay)]),some (.int k),some (.int m),some (.obj μ.length),some (.int n),o5] μ1=.next [some (.tup [.int m,.tup (ks.map ay)]),some (.int k),some (.int m),some (.obj μ.length),some (.int n),some (.obj A)] (μ1++g):=by
      simp only [aW,aD,aq,av,ao,ah,aa,af,ef,ae,cj,M8,M9]
     rw [dz s1]
     unfold rp
     simp only [ao,ah,ae,bR,cc,aq,av,aA,aU,aa,af,gr]
     rw [ji (by omega) (by omega) (by omega) (by omega)]
     simp only [aa,af,bf]
     rw [show ((m:Int) - ((n:Int)+1)).toNat=m - (n+1) by omega]
     rw [show iQ [none,some 4,some 1,some 5] [some (D.tup [D.int ↑m,D.tup (List.map ay ks)]),some (D.int k),some (.int m),some (D.obj μ.length),some (D.int n),some (.obj A)]=[none,some (.int n),some (.int k),some (.obj A)] from rfl,q3]
     simp only [ae,af]
     unfold lu
     dsimp only
     rw [e6',aw]
     dsimp only
     rw [Js (by
      rw [Kr,Kr]
      exact JB (show _<=1000 by omega) bM)]
     simp only [ae,af,M8,M9,Nf,Ng,Lz,Nh,Ni,Kb]
    ·rw [JN (by omega), KS, Kl (by omega)]
     exact e5 i hi
    ·exact gm (by rw [Kq,Kq];omega))
  (xs:=bh 0 m) (ρ:=[some (.tup [.int m,.tup (ks.map ay)]),some (.int k),some (.int m),some (.obj μ.length),none,none]) (μ:=μ++[.lst []])
  ⟨0,m,none,none,rfl,by omega,rfl,fun i hi=>by rw [Kl hi],aw⟩
 obtain ⟨ρ',μ',⟨n,c,o4,o5,e1,e3,e4,e5,e6⟩,run⟩:=run
 subst e4
 have hz:=jL e1.symm
 subst hz
 have hnm:n=m:=by omega
 subst hnm
 have hg:cH (.tup [.int n,.tup ((w9 n T k).map ay)]) n (w9 n T k):=lH (by omega) hm6
 obtain ⟨g,hpre⟩:∃ g,μ'=μ++g:=by
  refine ⟨μ'.drop μ.length,?_⟩
  apply Mm
  intro i
  by_cases hi:i<μ.length
  ·rw [Kl hi,e5 i hi]
  ·rw [Kj (by omega), LF]
   congr 1;omega
 unfold aY
 rw [fu]
 simp only [jV,List.replicate]
 rw [aJ,bp,gq,ig,aD]
 simp only [aq,av,ao,ah,aU,aa,af,xj k0 k1,gp,LO,ae,K4,Ky,bH,aE]
 simp only [aJ,aW,aA,ah,aU,aa,af,cL,ae,cj,aE,M8,M9,cW,av,Lk,Js (Le sizeLine),gN,cc,aq,ao]
 rw [fC (by omega) (by omega)]
 simp only [ae,af,bf,Kw]
 rw [run]
 simp only [aE,bq,b9,aq,av,aA,aD,ao,ah,aU,aa,af]
 rw [gW e6]
 simp only [aa,af,K5,Lk,Js l2,ae,aV]
 rw [hpre]
 exact iR (lL hg)
end Lw
namespace Lv
section
variable {adj adj':Int->Int->Prop}{D:Int->Prop}{p:Int}
theorem R.add {q:Int}{n:Nat} (h:R adj p n q):∀ {k:Nat}{r:Int},R adj q k r->R adj p (n+k) r
 | 0,r,e=>by have:r=q:=e;subst this;exact h
 | k+1,r,e=>by
  rcases e with e | ⟨t,e1,e2⟩
  ·exact .inl (R.add h e)
  ·exact .inr ⟨t,e1,R.add h e2⟩
theorem R.one {a b:Int} (h:adj a b):R adj a 1 b:=.inr ⟨a,h,rfl⟩
theorem R.self {n:Nat}:R adj p n p:=R.mono (n:=0) (show p=p from rfl) (Le n)
theorem wd (hs:∀ a b,adj a b->adj b a):∀ {n:Nat}{q:Int},R adj p n q->R adj q n p
 | 0,q,h=>by have:q=p:=h;exact this.symm
 | n+1,q,h=>by
  rcases h with h | ⟨r,h1,h2⟩
  ·exact .inl (wd hs h)
  ·have := R.add (R.one (hs _ _ h1)) (wd hs h2)
   rw [Nat.add_comm] at this
   exact this
theorem sx {k:Nat} (hD:∀ a b,adj a b->D a) (h:∀ q,D q->R adj p (k+1) q->R adj p k q) (hD':∀ a b,adj a b->D b) (hp:D p):∀ {n:Nat}{q:Int},R adj p (k+n) q->R adj p k q
 | 0,q,e=>e
 | n+1,q,e=>by
  rcases e with e | ⟨r,e1,e2⟩
  ·exact sx hD h hD' hp e
  ·exact h q (hD' _ _ e1) (.inr ⟨r,e1,sx hD h hD' hp e2⟩)
theorem R.most {m:Nat} (hp:0<=p/\p<(m:Int)) (hD:∀ a b,adj a b->0<=b/\b<(m:Int)) {n:Nat}{q:Int} (h:R adj p n q):R adj p (m - 1) q:=by
 obtain ⟨j,_,hl⟩:=R.lev h
 have:=rO (m:=m) hp hD hl
 exact hl.r.mono (by omega)
end
end Lv
namespace Lw
open PySem L2 RS Lv
theorem zb:∀ {xs ys:List (List Int)},xs.Pairwise (fun a b=>nR a<nR b)->ys.Pairwise (fun a b=>nR a<nR b)->(∀ k,k∈xs↔k∈ys)->xs=ys
 | [],ys,_,_,h=>by
  cases ys with
  | nil=>rfl
  | cons y ys=>exact absurd ((h y).mpr JE) Md
 | x::xs,[],_,_,h=>absurd ((h x).mp JE) Md
 | x::xs,y::ys,hx,hy,h=>by
  obtain ⟨x1,x2⟩:=Ly.mp hx
  obtain ⟨y1,y2⟩:=Ly.mp hy
  have e:x=y:=by
   rcases JG.mp ((h x).mp JE) with z | z
   ·exact z
   ·rcases JG.mp ((h y).mpr JE) with u | u
    ·exact u.symm
    ·have:=y1 x z;have:=x1 y u;omega
  subst e
  congr 1
  refine zb x2 y2 fun k=>?_
  constructor
  ·intro hk
   rcases JG.mp ((h k).mp (JF _ hk)) with z | z
   ·subst z;have:=x1 k hk;omega
   ·exact z
  ·intro hk
   rcases JG.mp ((h k).mpr (JF _ hk)) with z | z
   ·subst z;have:=y1 k hk;omega
   ·exact z
theorem lM {d d':D}{m m':Int}{ks ks':List (List Int)} (h:cH d m ks) (h':cH d' m' ks') (e:∀ a b:Int,[a,b]∈ks↔[a,b]∈ks'):ks=ks':=by
 refine zb h.2.2.2.1 h'.2.2.2.1 fun k=>?_
 constructor
 ·intro hk
  obtain ⟨a,b,rfl,_⟩:=h.2.2.2.2 k hk
  exact (e a b).mp hk
 ·intro hk
  obtain ⟨a,b,rfl,_⟩:=h'.2.2.2.2 k hk
  exact (e a b).mpr hk
abbrev bg (m:Nat) (ks:List (List Int)):D:=.tup [.int m,.tup (ks.map ay)]
abbrev GW (m:Nat) (ks:List (List Int)):Prop:=cH (bg m ks) m ks
open Classical in
noncomputable def fj (m:Nat) (ks:List (List Int)) (k:Nat):List (List Int):=prs.filter fun x=>decide (x.getD 1 0<(m:Int)/\R (kj ks) (x.getD 0 0) k (x.getD 1 0))
open Classical in
theorem mn {m k:Nat}{ks:List (List Int)}{a b:Int} (hm:m<=6):[a,b]∈fj m ks k↔(0<=a/\a<b/\b<(m:Int)/\R (kj ks) a k b):=by
 unfold fj
 rw [Jz,Nt]
 constructor
 ·rintro ⟨h1, h2, h3⟩
  obtain ⟨c,d,e,g1,g2,g3⟩:=ff h1
  injection e with e1 e2
  injection e2 with e2 _
  subst e1 e2
  exact ⟨g1,g2,h2,h3⟩
 ·rintro ⟨h1, h2, h3, h4⟩
  exact ⟨rZ h1 h2 (by omega),h3,h4⟩
theorem fA {m k:Nat}{ks:List (List Int)} (h0:1<=m) (hm:m<=6):GW m (fj m ks k):=by
 refine ⟨rfl,by omega,by omega,kS.filter _,fun x hx=>?_⟩
 obtain ⟨a,b,rfl,g1,g2,g3⟩:=ff (Jz.mp hx).1
 obtain ⟨h1,h2,h3,_⟩:=(mn hm).mp hx
 exact ⟨a,b,rfl,h1,h2,h3⟩
theorem BE {m:Nat}{T:Int->Int->Option Nat}{k:Int}{a b:Int}:[a,b]∈w9 m T k↔(0<=a/\a<b/\b<(m:Int)/\DQ k (T a b)=true):=by
 unfold w9 iA
 rw [Nb]
 constructor
 ·rintro ⟨p, hp, h⟩
  obtain ⟨q,hq,e⟩:=Lp.mp h
  injection e with e1 e2
  injection e2 with e2 _
  subst e1 e2
  obtain ⟨h1,h2⟩:=Jz.mp hq
  obtain ⟨i,hi,e⟩:=Lp.mp h1
  have:=JA.mp hi
  have:=JA.mp hp
  exact ⟨by omega,by omega,by omega,h2⟩
 ·rintro ⟨h1, h2, h3, h4⟩
  refine ⟨a.toNat,JA.mpr (by omega),Lp.mpr ⟨b,Jz.mpr ⟨Lp.mpr ⟨(b - a - 1).toNat,JA.mpr (by omega),by omega⟩,?_⟩,?_⟩⟩
  ·rw [LN h1];exact h4
  ·rw [LN h1]
theorem DC {m k:Nat}{ks:List (List Int)}{p q:Int}{f:Int->Option Nat} (h:jB (kj ks) p (fun q=>0<=q/\q<(m:Int)) f) (hq:0<=q/\q<(m:Int)):DQ k (f q)=true↔R (kj ks) p k q:=by
 constructor
 ·intro e
  cases c:f q with
  | none=>rw [c] at e;cases e
  | some n=>
   rw [c] at e
   have hn:(n:Int)<=k:=Nk e
   exact ((h q hq n).mp c).r.mono (by omega)
 ·intro e
  obtain ⟨j,hj,hl⟩:=R.lev e
  rw [(h q hq j).mpr hl]
  exact K1 (by omega)
theorem zd {m k:Nat}{ks:List (List Int)}{T:Int->Int->Option Nat} (h0:1<=m) (hm:m<=6) (hT:∀ p:Int,0<=p->p<m->jB (kj ks) p (fun q=>0<=q/\q<m) (T p)):w9 m T k=fj m ks k:=by
 refine lM (lH h0 hm) (fA h0 hm) fun a b=>?_
 rw [BE,mn hm]
 constructor
 ·rintro ⟨h1, h2, h3, h4⟩
  exact ⟨h1,h2,h3,(DC (hT a h1 (by omega)) ⟨by omega,h3⟩).mp h4⟩
 ·rintro ⟨h1, h2, h3, h4⟩
  exact ⟨h1,h2,h3,(DC (hT a h1 (by omega)) ⟨by omega,h3⟩).mpr h4⟩
theorem v5 {μ:aB}{m k:Nat}{ks:List (List Int)} (h:GW m ks) (k0:1<=k) (k1:k<=6):aY [bg m ks,.int k] μ=.ok (bg m (fj m ks k)) μ:=by
 have h0:1<=m:=by have:=h.2.1;omega
 have hm:m<=6:=by have:=h.2.2.1;omega
 obtain ⟨T,hT,_⟩:=mF (μ:=μ) (k:=(2:Int)) h
 rw [xq (T:=T) h (by omega) (by omega) hT,zd h0 hm hT]
theorem wk {μ:aB}{m:Nat}{ks:List (List Int)} (h:GW m ks):eQ [bg m ks] μ=.ok (bg m (fj m ks 2)) μ:=by
 have:=v5 (μ:=μ) (k:=2) h (by decide) (by decide)
 rw [show ((2:Nat):Int)=2 from rfl] at this
 unfold eQ
 rw [fv]
 simp only [pK,List.replicate,bq,aD,aq,av,ah,aU,aa,af,this,ae,aV]
 exact cn (lL (fA (by have:=h.2.1;omega) (by have:=h.2.2.1;omega)))
theorem mJ {m:Int}:∀ {xs ys:List (List Int)},(∀ k∈xs,nS m k)->(∀ k∈ys,nS m k)->(PyData.eqvAll (xs.map gT) (ys.map gT)=true↔xs=ys)
 | [],[],_,_=>by simp [PyData.eqvAll]
 | [],_::_,_,_=>by simp [PyData.eqvAll]
 | _::_,[],_,_=>by simp [PyData.eqvAll]
 | x::xs,y::ys,hx,hy=>by
  have ih:=mJ (xs:=xs) (ys:=ys) (fun k h=>hx k (JF _ h)) (fun k h=>hy k (JF _ h))
  obtain ⟨a,b,rfl,_⟩:=hx x JE
  obtain ⟨c,d,rfl,_⟩:=hy y JE
  simp only [KM,PyData.eqvAll,KH,ih,gT,PyData.eqv,KL,MH,List.cons.injEq]
theorem HX {μ:aB}{neg:Bool}{m:Nat}{ks ks':List (List Int)} (h:GW m ks) (h':GW m ks'):fX neg (bg m ks) (bg m ks') μ=.ok (.bl (if neg then !decide (ks=ks') else decide (ks=ks'))) μ:=by
 have e:PyData.eqv (fk m ks) (fk m ks')=decide (ks=ks'):=by
  apply J8.mpr
  rw [Nt,<- mJ h.2.2.2.2 h'.2.2.2.2]
  simp only [fk,PyData.eqv,PyData.eqvAll,K3,Nj,Bool.and_true]
 unfold fX
 rw [nT h,nT h']
 dsimp only
 rw [Js ⟨nU h,nU h'⟩,e]
end Lw
namespace Lw
open PySem L2 RS Lv
section
variable {m:Nat}{ks:List (List Int)}
theorem GW.m0 (h:GW m ks):1<=m:=by have:=h.2.1;omega
theorem GW.m6 (h:GW m ks):m<=6:=by have:=h.2.2.1;omega
theorem GL (h:GW m ks) {a b:Int} (e:kj ks a b):kj ks b a:=(jj h.2.2.2.2).mpr ((jj h.2.2.2.2).mp e).symm
theorem Bj (h:GW m ks) {a b:Int} (e:kj ks a b):(0<=a/\a<(m:Int))/\(0<=b/\b<(m:Int)):=fD h.2.2.2.2 e
theorem v3 {j k:Nat} (h:GW m ks) (hjk:j<=k) {x:List Int} (hx:x∈fj m ks j):x∈fj m ks k:=by
 obtain ⟨a,b,rfl,_⟩:=(fA (k:=j) (ks:=ks) h.m0 h.m6).2.2.2.2 x hx
 rw [mn h.m6] at hx ⊢
 exact ⟨hx.1,hx.2.1,hx.2.2.1,hx.2.2.2.mono hjk⟩
theorem Gv {k:Nat} (h:GW m ks) {a b:Int} (ha:0<=a/\a<(m:Int)) (hb:0<=b/\b<(m:Int)):R (kj ks) a k b↔(a=b\/[min a b,max a b]∈fj m ks k):=by
 rw [mn h.m6]
 constructor
 ·intro e
  by_cases z:a=b
  ·exact .inl z
  ·refine .inr ⟨by omega, by omega, by omega, ?_⟩
   by_cases u:a<b
   ·rw [show min a b=a by omega,show max a b=b by omega];exact e
   ·rw [show min a b=b by omega,show max a b=a by omega];exact wd (fun _ _=>GL h) e
 ·rintro (rfl | ⟨h1, h2, h3, h4⟩)
  ·exact R.self
  ·by_cases u : a < b
   ·rw [show min a b=a by omega,show max a b=b by omega] at h4;exact h4
   ·rw [show min a b=b by omega,show max a b=a by omega] at h4;exact wd (fun _ _=>GL h) h4
theorem zI {k n:Nat} (h:GW m ks) (e:fj m ks k=fj m ks (k+1)) (hn:k<=n):fj m ks n=fj m ks k:=by
 refine lM (fA h.m0 h.m6) (fA h.m0 h.m6) fun a b=>?_
 constructor
 ·intro hx
  rw [mn h.m6] at hx ⊢
  obtain ⟨h1,h2,h3,h4⟩:=hx
  refine ⟨h1,h2,h3,?_⟩
  have ha:0<=a/\a<(m:Int):=⟨h1,by omega⟩
  refine sx (D:=fun q=>0<=q/\q<(m:Int)) (n:=n - k) (fun a b e=>(Bj h e).1) (fun q hq z=>?_) (fun a b e=>(Bj h e).2) ha (by rw [show k+(n - k)=n by omega];exact h4)
  rw [Gv h ha hq,e,<- Gv h ha hq]
  exact z
 ·exact fun hx=>v3 h hn hx
theorem BD (h:GW m ks):fj m ks 5=fj m ks 6:=by
 refine lM (fA h.m0 h.m6) (fA h.m0 h.m6) fun a b=>⟨fun hx=>v3 h (by decide) hx,fun hx=>?_⟩
 rw [mn h.m6] at hx ⊢
 obtain ⟨h1,h2,h3,h4⟩:=hx
 have:=h.m6
 exact ⟨h1,h2,h3,(R.most (m:=m) ⟨h1,by omega⟩ (fun a b e=>(Bj h e).2) h4).mono (by omega)⟩
def lz (m:Nat) (ks:List (List Int)) (k:Nat):Prop:=1<=k/\k<=5/\fj m ks k=fj m ks (k+1)/\∀ j,1<=j->j<k->fj m ks j≠fj m ks (j+1)
theorem xm {k j:Nat} (a:lz m ks k) (b:lz m ks j):k=j:=by
 rcases Nat.lt_trichotomy k j with z | z | z
 ·exact absurd a.2.2.1 (b.2.2.2 k a.1 z)
 ·exact z
 ·exact absurd b.2.2.1 (a.2.2.2 j b.1 z)
end
theorem jT {M:aB}{m:Nat}{ks:List (List Int)} (h:GW m ks):∀ (c n k:Nat),1<=k->k+n=5->n<c->(∀ j,1<=j->j<k->fj m ks j≠fj m ks (j+1)) ->
  ∃ k',lz m ks k'/\je (fT (az (fX true) (aC (fun ds μ=>(aY ds μ).nox) (ag (ak 0) (ag (ak 1) (ax)))) (aC (fun ds μ=>(aY ds μ).nox) (ag (ak 0) (ag (az cv (ak 1) (cC (.int 1))) (ax)))))) fN c [some (bg m ks),some (.int k)] M=.next [some (bg m ks),some (.int k')] M
 | 0,n,k,_,_,h2,_=>by omega
 | c+1,n,k,k0,h1,h2,h3=>by
  have k5:k<=5:=by omega
  have s1:=v5 (μ:=M) (k:=k) h k0 (by omega)
  have s2:=v5 (μ:=M) (k:=k+1) h (by omega) (by omega)
  rw [show ((k+1:Nat):Int)=(k:Int)+1 from by omega] at s2
  have tr:fT (az (fX true) (aC (fun ds μ=>(aY ds μ).nox) (ag (ak 0) (ag (ak 1) (ax)))) (aC (fun ds μ=>(aY ds μ).nox) (ag (ak 0) (ag (az cv (ak 1) (cC (.int 1))) (ax))))) [some (bg m ks),some (.int k)] M=.ok (!decide (fj m ks k=fj m ks (k+1))) M:=by
   simp only [bD,aA,aD,aq,av,ah,ao,aU,aa,af,s1,gr,s2]
   rw [HX (fA h.m0 h.m6) (fA h.m0 h.m6),Js rfl]
   simp only [aa,af,aP]
  unfold je
  rw [tr,ae]
  by_cases e:fj m ks k=fj m ks (k+1)
  ·rw [K1 e, Jt (by decide)]
   exact ⟨k,⟨k0,k5,e,h3⟩,rfl⟩
  ·rw [Jq e, Js (show (!false) = true from rfl)]
   have:fN [some (bg m ks),some (.int k)] M=.next [some (bg m ks),some (.int ((k+1:Nat):Int))] M:=by
    unfold fN
    show rp 1 lu (cC (.int 1)) [some (bg m ks),some (.int k)] M=_
    rfl
   rw [this,nY]
   cases n with
   | zero=>
    have:k=5:=by omega
    subst this
    exact absurd (BD h) e
   | succ n=>
    exact jT h c n (k+1) (by omega) (by omega) (by omega) fun j j1 j2=>by
     by_cases z:j=k
     ·subst z;exact e
     ·exact h3 j j1 (by omega)
theorem zN {μ:aB}{m:Nat}{ks:List (List Int)} (h:GW m ks):∃ k,lz m ks k/\∀ μ,fH [bg m ks] μ=.ok (.int k) μ:=by
 obtain ⟨k,hk,_⟩:=jT (M:=μ) h 100 4 1 (by decide) (by decide) (by decide) (fun j a b=>by omega)
 refine ⟨k,hk,fun μ=>?_⟩
 obtain ⟨k',hk',run⟩:=jT (M:=μ) h 100 4 1 (by decide) (by decide) (by decide) (fun j a b=>by omega)
 have:=xm hk hk'
 subst this
 unfold fH
 rw [fv]
 unfold l6 mv
 simp only [List.replicate,aJ,aW,aU,ae,af,cj,M8,M9,aE]
 rw [show ((1:Nat):Int)=1 from rfl] at run
 rw [run]
 simp only [aE,bq,ao,ah,ae,af,aV]
 exact cn (by simp)
end Lw
namespace Lw
open PySem L2 RS Lv
end Lw
namespace Lw
open PySem L2 RS Lv
section
variable {m:Nat}{ks:List (List Int)}
noncomputable def F1 (m:Nat) (ks:List (List Int)):List D:=(List.range 6).map fun i=>bg m (fj m ks (i+1))
structure FS (μ:aB) (m:Nat) (ks:List (List Int)) (M:aB):Prop where
 pre:∃ g,M=μ++g
 at_:M[μ.length]?=some (.lst (F1 m ks))
theorem Jh (h:GW m ks) (k:Nat):GW m (fj m ks k):=fA h.m0 h.m6
theorem vn {μ:aB} (h:GW m ks):iq [bg m ks] μ=.ok (.bl (decide (fj m ks 2=ks))) μ:=by
 unfold iq
 rw [fv]
 simp only [pL,List.replicate,bq,aA,aD,aq,av,ah,aa,af,wk h]
 rw [HX (Jh h 2) h]
 simp only [K4,Ky,ae,af,aV]
 exact cn (by simp)
end
end Lw
namespace Lw
open PySem L2 RS Lv
section
variable {m:Nat}{ks:List (List Int)}{ns:List Int}
theorem Ap {o:Option Nat}{n:Nat}:(jA o).low n:=by cases o <;> simp [jA]
theorem BJ {μ:aB}{a b:Int} (h:GW m ks) (ha:0<=a/\a<(m:Int)) (hb:0<=b/\b<(m:Int)):∃ o:Option Nat,dy [bg m ks,.int a,.int b] μ=.ok (jA o) μ/\∀ j,o=some j↔pY (kj ks) a j b:=by
 obtain ⟨A,g,f,e1,e2,e3,e4⟩:=wo (μ:=μ) h ha.1 ha.2
 refine ⟨f b,?_,fun j=>e4 b hb j⟩
 unfold dy
 rw [mC]
 simp only [lQ,List.replicate,aJ,lE,aD,aq,av,ah,ao,aa,af,lJ ha,lJ hb,ae,aE,bq,aA,e1]
 rw [dW e2 (jK hb.1 hb.2)]
 simp only [ae,af,aV]
 exact iR Ap
theorem Hu {μ:aB}{o:Option Nat}:A7 false (jA o) (.tup [.int 0,.int 1]) μ=.ok (.bl (decide (o=some 0\/o=some 1))) μ:=by
 cases o with
 | none=>rfl
 | some n=>
  show ai.ok (D.bl (((0:Int) == (n:Int)) || (((1:Int) == (n:Int)) || false))) μ=_
  congr 2
  apply J8.mpr
  rw [Bool.or_false,MR,MH,MH,ML]
  constructor
  ·rintro (z | z)
   ·left;congr 1;omega
   ·right;congr 1;omega
  ·rintro (z | z)
   ·left;injection z with z;omega
   ·right;injection z with z;omega
theorem Aw {a b:Int} (h:GW m ks) {o:Option Nat} (ho:∀ j,o=some j↔pY (kj ks) a j b):(o=some 0\/o=some 1)↔(b=a\/xc ks a b=true):=by
 rw [ho 0,ho 1,tL h.2.2.2.2,<- jj h.2.2.2.2]
 constructor
 ·rintro (z | ⟨z1, z2⟩)
  ·exact .inl z
  ·rcases z1 with z1 | ⟨r, r1, r2⟩
   ·exact absurd z1 z2
   ·have : r = a := r2
    subst this;exact .inr r1
 ·rintro (z | z)
  ·exact .inl z
  ·by_cases e : b = a
   ·exact .inl e
   ·exact .inr ⟨R.one z,e⟩
end
end Lw
namespace Lw
open PySem L2 RS Lv
theorem kc {a:Int} (h0:0<=a) (h1:a<7):PyData.showable (.int a)=true/\PyData.leavesShort 8 (.int a)=true/\PyData.weight (.int a)<=3:=by
 have:a=0\/a=1\/a=2\/a=3\/a=4\/a=5\/a=6:=by omega
 rcases this with rfl|rfl|rfl|rfl|rfl|rfl|rfl <;> decide +kernel
theorem pD {m:Int} (hm:m<=6):∀ {ks:List (List Int)},(∀ k∈ks,nS m k)->PyData.showableAll (ks.map gT)=true/\PyData.leavesShortAll 8 (ks.map gT)=true/\PyData.weightAll (ks.map gT)<=9 * ks.length
 | [],_=>by simp [PyData.showableAll,PyData.leavesShortAll,PyData.weightAll]
 | k::ks,h=>by
  obtain ⟨a,b,rfl,a0,ab,bm⟩:=h k JE
  have ih:=pD hm fun x hx=>h x (JF _ hx)
  have ha:=kc (a:=a) a0 (by omega)
  have hb:=kc (a:=b) (by omega) (by omega)
  simp only [KM,KL,gT,PyData.showableAll,PyData.leavesShortAll,PyData.weightAll,PyData.showable,PyData.leavesShort,PyData.weight] at ih ha hb ⊢
  refine ⟨by simp only [ha.1,hb.1,ih.1,LR],by simp only [ha.2.1,hb.2.1,ih.2.1,LR],?_⟩
  simp only [K5]
  omega
theorem qI {d:PyData} (h1:d.showable=true) (h2:d.canLay0=true) (h3:d.depth<=60) (h4:d.leavesShort 8=true) (h5:d.weight<=1000):rN d=true:=by
 have hs:=PyData.shown_le 8 (J3 _) d h4
 have hz:(10008:Nat)<=sizeLine:=by decide
 unfold rN
 rw [h1,PyData.hasDict_of_canLay d h2,K1 h3,K1 (show d.shown.length<=sizeLine by omega)]
 rfl
theorem z9 {μ:aB}{d:D}{m:Int}{ks:List (List Int)} (h:cH d m ks):oA [d] μ=.ok (.str (fk m ks).shown) μ:=by
 have e:=nT (μ:=μ) h
 have hl:=jP h
 have hr:va d=true:=by rw [h.1];rfl
 obtain ⟨_,h0,h1,_,hk⟩:=h
 have s:=pD h1 hk
 have l:=kf hk
 have si:=kc (a:=m) (by omega) (by omega)
 unfold oA
 dsimp only
 rw [e]
 dsimp only
 rw [Js ⟨hr,qI (by simp only [fk,PyData.showable,PyData.showableAll] at si ⊢;simp only [si.1,s.1,LR]) (by simp only [fk,PyData.canLay0,PyData.canLayAll0,l.1,LR]) (by simp only [fk,PyData.depth,PyData.depthAll];have:=l.2;omega) (by simp only [fk,PyData.leavesShort,PyData.leavesShortAll] at si ⊢;simp only [si.2.1,s.2.1,LR]) (by simp only [fk,PyData.weight,PyData.weightAll] at si ⊢;have:=s.2.2;omega)⟩]
theorem IU {μ:aB}{neg:Bool}{x:Str}:sV neg (.str x) (.str x) μ=.ok (.bl (!neg)) μ:=by
 unfold sV
 dsimp only
 rw [K1 rfl]
 cases neg <;> rfl
theorem mH {μ:aB}{m:Nat}{ks:List (List Int)} (h:GW m ks):cX [bg m ks] μ=.ok (.str (fk m ks).shown) μ:=z9 h
section
variable {m:Nat}{ks:List (List Int)}{M:aB}{a0 a1 a2 a5 a6 a7 a8 a9 a10 a12:Option D}
end
def pW (x:Str):Prop:=∀ c∈x.cps.toList,c<0x110000
theorem pW.ok {x:Str} (h:pW x):PyData.strOk x=true:=by
 unfold PyData.strOk
 rw [<- Array.all_toList,LM]
 exact fun c hc=>K1 (h c hc)
theorem wF (i:Int):pW ((toString i:String):Str):=fun c hc=>by
 refine Nat.lt_of_not_le fun z=>?_
 exact PyProof.Rows.int_text_free' c ⟨by omega,by omega⟩ i hc
theorem jh {x:Str} (h:(x.cps.toList.all fun c=>decide (c<0x110000))=true):pW x:=fun c hc=>by
 simpa using LM.mp h c hc
theorem wG {x y:Str} (h:pW x) (g:pW y):pW (x++y):=fun c hc=>by
 rcases PyProof.Rows.mem_cps_append.mp hc with z | z
 ·exact h c z
 ·exact g c z
theorem As {xs:List Str} (h:∀ x∈xs,pW x):pW (Str.join ", " xs):=fun c hc=>by
 rcases (PyProof.Rows.mem_join _ c xs).mp hc with ⟨t,ht,z⟩ | ⟨_,z⟩
 ·exact h t ht c z
 ·exact jh (x:=((", " : String):Str)) (by decide) c z
theorem wH:∀ {xs:List PyData},(∀ x∈xs,pW x.shown)->∀ t∈PyData.shownAll xs,pW t
 | [],_,t,ht=>by simp only [PyData.shownAll] at ht;cases ht
 | x::xs,h,t,ht=>by
  simp only [PyData.shownAll] at ht
  rcases JG.mp ht with rfl | ht
  ·exact h x JE
  ·exact wH (fun y hy=>h y (JF _ hy)) t ht
theorem r9 {xs:List PyData} (h:∀ x∈xs,pW x.shown):pW (PyData.tuple xs).shown:=by
 rw [PyData.shown_tuple]
 refine wG (wG (jh (by decide)) (As (wH h))) ?_
 split
 ·exact jh (by decide)
 ·exact jh (by decide)
theorem yR (i:Int):pW (PyData.int i).shown:=by rw [PyData.shown_int];exact wF i
theorem CC {m:Int}{ks:List (List Int)} (hk:∀ k∈ks,nS m k):pW (fk m ks).shown:=by
 unfold fk
 refine r9 fun x hx=>?_
 rcases JG.mp hx with rfl | hx
 ·exact yR _
 rcases JG.mp hx with rfl | hx
 ·refine r9 fun y hy => ?_
  obtain ⟨k,hk',rfl⟩:=Lp.mp hy
  obtain ⟨a,b,rfl,_⟩:=hk k hk'
  refine r9 fun z hz=>?_
  rcases JG.mp hz with rfl | hz
  ·exact yR _
  rcases JG.mp hz with rfl | hz
  ·exact yR _
  ·cases hz
 ·cases hx
def sS:Option Nat->Str
 | none => "None"
 | some n=>((toString (n:Int):String):Str)
theorem Ho (o:Option Nat):pW (sS o):=by
 cases o with
 | none=>exact jh (by decide)
 | some n=>exact wF _
theorem oV {μ:aB}{o:Option Nat} (h:∀ n,o=some n->n<=6):cX [jA o] μ=.ok (.str (sS o)) μ:=by
 cases o with
 | none=>rfl
 | some n=>
  have:=h n rfl
  show cX [.int (n:Int)] μ=_
  unfold cX
  dsimp only
  rw [Js]
  ·rfl
  ·have : n = 0 \/ n = 1 \/ n = 2 \/ n = 3 \/ n = 4 \/ n = 5 \/ n = 6 := by omega
   rcases this with rfl|rfl|rfl|rfl|rfl|rfl|rfl <;> decide
theorem tM {μ:aB}:∀ {xs:List Str},(∀ x∈xs,pW x)->fq μ (xs.map D.str)=some (xs.map PyData.str)/\PyData.canLayAll0 (xs.map PyData.str)=true/\PyData.depthAll (xs.map PyData.str)=0
 | [],_=>⟨rfl,rfl,rfl⟩
 | x::xs,h=>by
  obtain ⟨h1,h2,h3⟩:=tM (μ:=μ) fun y hy=>h y (JF _ hy)
  have hx:=(h x JE).ok
  refine ⟨?_,?_,?_⟩
  ·simp only [KM,fq,h1,uX,rf,Option.map_some,La]
  ·simp only [KM,PyData.canLayAll0,PyData.canLay0,hx,h2,LR]
  ·simp only [KM,PyData.depthAll,PyData.depth,h3];rfl
theorem wU {M:aB}{a b:Nat}{xs:List Str} (hx:∀ x∈xs,pW x) (h:M[a]?=some (.lst (xs.map D.str))) (g:M[b]?=some (.lst (xs.map D.str))):fX true (.obj a) (.obj b) M=.ok (.bl false) M:=by
 obtain ⟨h1,h2,h3⟩:=tM (μ:=M) hx
 have ea:mX M (.obj a)=some (.list (xs.map PyData.str)):=by unfold mX;dsimp only;rw [h];dsimp only;rw [h1];rfl
 have eb:mX M (.obj b)=some (.list (xs.map PyData.str)):=by unfold mX;dsimp only;rw [g];dsimp only;rw [h1];rfl
 have f:eH (.list (xs.map PyData.str))=true:=by
  simp only [eH,PyData.canLay0,h2,PyData.depth,h3,Nj];rfl
 unfold fX
 rw [ea,eb]
 dsimp only
 rw [Js ⟨f,f⟩,Js rfl,SeqAt.eqv_refl _ (cz f)]
 rfl
def DP (w:List Int):PyData:=.tuple (w.map PyData.int)
theorem qL:∀ {w:List Int},(∀ p∈w,0<=p/\p<7)->PyData.showableAll (w.map PyData.int)=true/\PyData.leavesShortAll 8 (w.map PyData.int)=true/\PyData.weightAll (w.map PyData.int)<=4 * w.length
 | [],_=>by simp [PyData.showableAll,PyData.leavesShortAll,PyData.weightAll]
 | a::w,h=>by
  have ih:=qL fun x hx=>h x (JF _ hx)
  have ha:=kc (a:=a) (h a JE).1 (h a JE).2
  simp only [KM,PyData.showableAll,PyData.leavesShortAll,PyData.weightAll] at ih ha ⊢
  refine ⟨by simp only [ha.1,ih.1,LR],by simp only [ha.2.1,ih.2.1,LR],?_⟩
  simp only [K5]
  omega
theorem wy {μ:aB}{w:List Int} (h:∀ p∈w,0<=p/\p<7) (hl:w.length<=100):cX [Gh w] μ=.ok (.str (DP w).shown) μ:=by
 have e:mX μ (Gh w)=some (DP w):=by simp only [mX,oZ,Option.map_some];rfl
 have s:=qL h
 have l:=o9 w
 show oA [Gh w] μ=_
 unfold oA
 dsimp only
 rw [e]
 dsimp only
 rw [Js ⟨rfl,qI (by simp only [DP,PyData.showable];exact s.1) (by simp only [DP,PyData.canLay0];exact l.1) (by simp only [DP,PyData.depth,l.2];decide) (by simp only [DP,PyData.leavesShort];exact s.2.1) (by simp only [DP,PyData.weight];have:=s.2.2;omega)⟩]
theorem xt {μ:aB}{m k:Nat}{ks:List (List Int)} (h:GW m ks):bS [bg m ks,.int k] μ=.ok (bg m (fj m ks k)) μ:=by
 obtain ⟨T,hT,e⟩:=mF (μ:=μ) (k:=(k:Int)) h
 rw [e,zd h.m0 h.m6 hT]
theorem Bq {μ:aB}{m:Nat}{ks:List (List Int)} (h:GW m ks):rf μ (bg m ks)=some (fk m ks):=by
 simp only [bg,rf,toPs,ke h.2.2.2.2,Option.map_some,La]
 rfl
theorem GK {m:Nat}{ks ks':List (List Int)} (h:GW m ks) (h':GW m ks'):PyData.eqv (fk m ks) (fk m ks')=decide (ks=ks'):=by
 apply J8.mpr
 rw [Nt,<- mJ h.2.2.2.2 h'.2.2.2.2]
 simp only [fk,PyData.eqv,PyData.eqvAll,K3,Nj,Bool.and_true]
section
variable {m:Nat}{ks:List (List Int)}
noncomputable def fe (m:Nat) (ks:List (List Int)) (n:Nat):List D:=(List.range n).map fun i=>bg m (fj m ks (i+1))
noncomputable def jG (m:Nat) (ks:List (List Int)) (n:Nat):List Str:=(List.range n).map fun i=>(fk m (fj m ks (i+1))).shown
theorem uS (h:GW m ks) (k:Nat):GW m (fj m ks k):=fA h.m0 h.m6
theorem B1 {μ:aB} (h:GW m ks):compLoop (.fix (bh 1 7)) μ.length (aj 0) bz dF (bh 1 7) [none,some (bg m ks)] (μ++[.lst []])=.ok (.obj μ.length) (μ++[.lst (fe m ks 7)]):=by
 have c:=gG (U:=Nat) (en:=fun i=>.int (1+(i:Int))) (src:=.fix (bh 1 7)) (g:=aj 0) (t:=bz) (e:=dF) (μ1:=μ) (q:=fun _=>true) (h:=fun i=>bg m (fj m ks (i+1))) (fun ρ=>∃ o,ρ=[o,some (bg m ks)]) (fun _=>trivial) (us:=List.range 7) (acc:=[]) (ρ:=[none,some (bg m ks)]) ⟨_,rfl⟩
  (by rw [Lk,Lj];exact JB (by decide) bM)
  (fun i hi a ρ hJJ => by
   obtain ⟨o,e⟩:=hJJ
   subst e
   refine ⟨[some (.int (1+(i:Int))),some (bg m ks)],⟨_,rfl⟩,rfl,rfl,fun _=>?_⟩
   unfold dF
   simp only [aD,aq,av,ah,ao,aa]
   have:=xt (μ:=μ++[.lst a]) (k:=i+1) h
   rw [show ((i+1:Nat):Int)=1+(i:Int) from by omega] at this
   exact this)
 rw [i4,K0] at c
 exact c
theorem z6 {μ:aB} (h:GW m ks):compLoop (.fix (bh 1 6)) μ.length (aj 0) bz dE (bh 1 6) [none,some (bg m ks)] (μ++[.lst []])=.ok (.obj μ.length) (μ++[.lst ((jG m ks 6).map D.str)]):=by
 have c:=gG (U:=Nat) (en:=fun i=>.int (1+(i:Int))) (src:=.fix (bh 1 6)) (g:=aj 0) (t:=bz) (e:=dE) (μ1:=μ) (q:=fun _=>true) (h:=fun i=>.str (fk m (fj m ks (i+1))).shown) (fun ρ=>∃ o,ρ=[o,some (bg m ks)]) (fun _=>trivial) (us:=List.range 6) (acc:=[]) (ρ:=[none,some (bg m ks)]) ⟨_,rfl⟩
  (by rw [Lk,Lj];exact JB (by decide) bM)
  (fun i hi a ρ hJJ => by
   obtain ⟨o,e⟩:=hJJ
   subst e
   have h6:=JA.mp hi
   refine ⟨[some (.int (1+(i:Int))),some (bg m ks)],⟨_,rfl⟩,rfl,rfl,fun _=>?_⟩
   unfold dE
   have:=v5 (μ:=μ++[.lst a]) (k:=i+1) h (by omega) (by omega)
   rw [show ((i+1:Nat):Int)=1+(i:Int) from by omega] at this
   simp only [aD,aq,av,ah,ao,aa,this,af,mH (uS h _)])
 rw [i4,K0] at c
 rw [show (jG m ks 6).map D.str=(List.range 6).map fun i=>D.str (fk m (fj m ks (i+1))).shown from by unfold jG;rw [Lh];rfl]
 exact c
theorem xE {M:aB}{t:Nat} (h:GW m ks) (ht:M[t]?=some (.lst (fe m ks 6))):compLoop (.own t (fe m ks 6)) M.length (aj 0) bz dD (fe m ks 6) [none] (M++[.lst []])=.ok (.obj M.length) (M++[.lst ((jG m ks 6).map D.str)]):=by
 have c:=gG (U:=Nat) (en:=fun i=>bg m (fj m ks (i+1))) (src:=.own t (fe m ks 6)) (g:=aj 0) (t:=bz) (e:=dD) (μ1:=M) (q:=fun _=>true) (h:=fun i=>.str (fk m (fj m ks (i+1))).shown) (fun ρ=>∃ o,ρ=[o]) (fun _=>aL ht) (us:=List.range 6) (acc:=[]) (ρ:=[none]) ⟨_,rfl⟩
  (by rw [Lk,Lj];exact JB (by decide) bM)
  (fun i hi a ρ hJJ => by
   obtain ⟨o,e⟩:=hJJ
   subst e
   refine ⟨[some (bg m (fj m ks (i+1)))],⟨_,rfl⟩,rfl,rfl,fun _=>?_⟩
   unfold dD
   simp only [aD,aq,av,ah,ao,aa,mH (uS h _)])
 rw [i4,K0] at c
 rw [show (jG m ks 6).map D.str=(List.range 6).map fun i=>D.str (fk m (fj m ks (i+1))).shown from by unfold jG;rw [Lh];rfl]
 exact c
theorem AG (h:GW m ks) {n:Nat}:∀ x∈jG m ks n,pW x:=fun x hx=>by
 obtain ⟨i,_,rfl⟩:=Lp.mp hx
 exact CC (uS h _).2.2.2.2
theorem uf {μ:aB} (h:GW m ks):∀ l:List Nat,fq μ (l.map fun i=>bg m (fj m ks (i+1)))=some (l.map fun i=>fk m (fj m ks (i+1)))/\PyData.canLayAll0 (l.map fun i=>fk m (fj m ks (i+1)))=true
 | []=>⟨rfl,rfl⟩
 | i::l=>by
  obtain ⟨h1,h2⟩:=uf (μ:=μ) h l
  refine ⟨?_,?_⟩
  ·rw [KM, KM]
   unfold fq
   rw [show uX μ (bg m (fj m ks (i+1)))=rf μ (bg m (fj m ks (i+1))) from rfl,Bq (uS h _),h1]
   rfl
  ·rw [KM]
   unfold PyData.canLayAll0
   rw [cz (nU (uS h (i+1))),h2]
   rfl
theorem vF {M:aB}{t k:Nat} (h:GW m ks) (s:lz m ks k) (ht:M[t]?=some (.lst (fe m ks 7))):ka (.obj t) [bg m (fj m ks 7)] M=.ok (.int ((k - 1:Nat):Int)) M:=by
 obtain ⟨k1,k5,ek,hk⟩:=s
 obtain ⟨h1,h2⟩:=uf (μ:=M) h (List.range 7)
 have e7:fj m ks 7=fj m ks k:=zI h ek (by omega)
 have fi:∀ (l:List Nat),((l.map fun i=>fk m (fj m ks (i+1))).findIdx fun z=>PyData.eqv z (fk m (fj m ks 7)))=l.findIdx fun i=>decide (fj m ks (i+1)=fj m ks 7):=fun l=>by
  induction l with
  | nil=>rfl
  | cons i l ih=>
   rw [KM,List.findIdx_cons,List.findIdx_cons,ih,GK (uS h _) (uS h _)]
 have no:∀ j,1<=j->j<k->fj m ks j≠fj m ks 7:=fun j j1 jk e=>by
  refine hk j j1 jk (lM (uS h _) (uS h _) fun a b=>⟨fun hx=>v3 h (by omega) hx,fun hx=>?_⟩)
  rw [e]
  exact v3 h (by omega) hx
 have hidx:((List.range 7).findIdx fun i=>decide (fj m ks (i+1)=fj m ks 7))=k - 1:=by
  refine (List.findIdx_eq (by rw [Lj];omega)).mpr ⟨?_,fun j hj=>?_⟩
  ·rw [List.getElem_range,ML,e7,Nat.sub_add_cancel k1]
  ·rw [List.getElem_range, decide_eq_false_iff_not]
   exact no (j+1) (by omega) (by omega)
 unfold ka
 dsimp only
 rw [ht,nT (uS h 7)]
 dsimp only
 unfold fe
 rw [h1]
 dsimp only
 rw [Js,fi,hidx]
 refine ⟨h2,nU (uS h 7),?_,by simp⟩
 rw [List.any_eq_true]
 refine ⟨fk m (fj m ks 7),Lp.mpr ⟨6,by simp,rfl⟩,by rw [GK (uS h _) (uS h _)];simp⟩
end
theorem FT.row {μ0 μ:aB}{m a:Nat}{T:Int->Int->Option Nat}{p:Int} (h:FT μ0 m a T μ) (p0:0<=p) (p1:p<m):∃ b,c9 (.obj a) (.int p) μ=.ok (.obj b) μ/\μ[b]?=some (.lst (cJ m (T p))):=by
 obtain ⟨h1,h2,bs,h0,h3,h4,h5⟩:=h
 have hp:p.toNat<bs.length:=by omega
 have hpe:((p.toNat:Nat):Int)=p:=LN p0
 obtain ⟨g1,g2,g3⟩:=h5 p.toNat bs[p.toNat] (My hp)
 rw [hpe] at g3
 exact ⟨bs[p.toNat],dW h3 (oN p0 (by rw [Km,My hp];rfl)),g3⟩
section
variable {m:Nat}{ks:List (List Int)}{T:Int->Int->Option Nat}{M μ0:aB}{a:Nat}{p:Int}
def fY (m:Nat) (f:Int->Option Nat):List Str:=(rg m).map fun q=>sS (f q)
theorem B4 {f:Int->Option Nat}:∀ x∈fY m f,pW x:=fun x hx=>by
 obtain ⟨q,_,rfl⟩:=Lp.mp hx
 exact Ho _
theorem wN (h:GW m ks) (hp:0<=p/\p<(m:Int)) (hT:jB (kj ks) p (fun q=>0<=q/\q<(m:Int)) (T p)) {q:Int} (hq:0<=q/\q<(m:Int)):∀ n,T p q=some n->n<=6:=fun n e=>by
 have:=rO hp (fun a b e=>(Bj h e).2) ((hT q hq n).mp e)
 have:=h.m6
 omega
theorem B2 (h:GW m ks) (hp:0<=p/\p<(m:Int)) (hT:jB (kj ks) p (fun q=>0<=q/\q<(m:Int)) (T p)):compLoop (.fix ((rg m).map D.int)) M.length (aj 0) bz dJ ((rg m).map D.int) [none,some (bg m ks),some (.int p)] (M++[.lst []])=.ok (.obj M.length) (M++[.lst ((fY m (T p)).map D.str)]):=by
 have c:=gG (U:=Int) (en:=D.int) (src:=.fix ((rg m).map D.int)) (g:=aj 0) (t:=bz) (e:=dJ) (μ1:=M) (q:=fun _=>true) (h:=fun q=>.str (sS (T p q))) (fun ρ=>∃ o,ρ=[o,some (bg m ks),some (.int p)]) (fun _=>trivial) (us:=rg m) (acc:=[]) (ρ:=[none,some (bg m ks),some (.int p)]) ⟨_,rfl⟩
  (by rw [Lk,rM];exact JB (by have:=h.m6;omega) bM)
  (fun q hq a ρ hJJ => by
   obtain ⟨o,e⟩:=hJJ
   subst e
   have hq':=kQ.mp hq
   obtain ⟨f,e1,e2⟩:=BJ (μ:=M++[.lst a]) h hp hq'
   have ef:f=T p q:=by
    cases ef:f with
    | some j=>exact ((hT q hq' j).mpr ((e2 j).mp ef)).symm
    | none=>
     cases et:T p q with
     | none=>rfl
     | some j=>have:=(e2 j).mpr ((hT q hq' j).mp et);rw [ef] at this;cases this
   subst ef
   refine ⟨[some (.int q),some (bg m ks),some (.int p)],⟨_,rfl⟩,rfl,rfl,fun _=>?_⟩
   unfold dJ
   simp only [aD,aq,av,ah,ao,aa,e1,af,oV (wN h hp hT hq')])
 rw [i4,K0] at c
 rw [show (fY m (T p)).map D.str=(rg m).map fun q=>D.str (sS (T p q)) from by unfold fY;rw [Lh];rfl]
 exact c
theorem EM {b:Nat} (h:GW m ks) (hp:0<=p/\p<(m:Int)) (hT:jB (kj ks) p (fun q=>0<=q/\q<(m:Int)) (T p)) (hb:M[b]?=some (.lst (cJ m (T p)))):compLoop (.own b (cJ m (T p))) M.length (aj 0) bz dH (cJ m (T p)) [none] (M++[.lst []])=.ok (.obj M.length) (M++[.lst ((fY m (T p)).map D.str)]):=by
 have er:cJ m (T p)=(rg m).map fun q=>jA (T p q):=by unfold cJ rg;rw [Lh];rfl
 have c:=gG (U:=Int) (en:=fun q=>jA (T p q)) (src:=.own b (cJ m (T p))) (g:=aj 0) (t:=bz) (e:=dH) (μ1:=M) (q:=fun _=>true) (h:=fun q=>.str (sS (T p q))) (fun ρ=>∃ o,ρ=[o]) (fun _=>aL hb) (us:=rg m) (acc:=[]) (ρ:=[none]) ⟨_,rfl⟩
  (by rw [Lk,rM];exact JB (by have:=h.m6;omega) bM)
  (fun q hq a ρ hJJ => by
   obtain ⟨o,e⟩:=hJJ
   subst e
   refine ⟨[some (jA (T p q))],⟨_,rfl⟩,rfl,rfl,fun _=>?_⟩
   unfold dH
   simp only [aD,aq,av,ah,ao,aa,oV (wN h hp hT (kQ.mp hq))])
 rw [i4,K0,<- er] at c
 rw [show (fY m (T p)).map D.str=(rg m).map fun q=>D.str (sS (T p q)) from by unfold fY;rw [Lh];rfl]
 exact c
theorem B0 (h:GW m ks) (hF:FT μ0 m a T M) (hp:0<=p/\p<(m:Int)) (hT:jB (kj ks) p (fun q=>0<=q/\q<(m:Int)) (T p)):compLoop (.fix ((rg m).map D.int)) M.length (aj 0) dB dG ((rg m).map D.int) [none,some (.obj a),some (.int p)] (M++[.lst []])=.ok (.obj M.length) (M++[.lst ((gS m ks p).map D.int)]):=by
 have c:=gG (U:=Int) (en:=D.int) (src:=.fix ((rg m).map D.int)) (g:=aj 0) (t:=dB) (e:=dG) (μ1:=M) (q:=fun q=>decide (q=p) || xc ks p q) (h:=D.int) (fun ρ=>∃ o,ρ=[o,some (.obj a),some (.int p)]) (fun _=>trivial) (us:=rg m) (acc:=[]) (ρ:=[none,some (.obj a),some (.int p)]) ⟨_,rfl⟩
  (by rw [Lk,rM];exact JB (by have:=h.m6;omega) bM)
  (fun q hq y ρ hJJ => by
   obtain ⟨o,e⟩:=hJJ
   subst e
   have hq':=kQ.mp hq
   obtain ⟨b,e1,e2⟩:=FT.row (hF.app (g:=[.lst y])) hp.1 hp.2
   have n2:([.int 0,.int 1]:List D).length<=sizeLine:=JB (show (2:Nat)<=1000 by decide) bM
   refine ⟨[some (.int q),some (.obj a),some (.int p)],⟨_,rfl⟩,rfl,?_,fun _=>by unfold dG;rw [ah]⟩
   unfold dB
   simp only [bD,aA,aq,av,ah,ao,aU,aa,e1,dW e2 (jK hq'.1 hq'.2),b9,Js n2,Hu,aP]
   congr 1
   apply J8.mpr
   rw [ML,MR,ML]
   exact Aw h fun j=>hT q hq' j)
 rw [K0] at c
 exact c
theorem tN {q:Int} (hm:m<=6) (hq:q∈gS m ks p):0<=q/\q<7:=by
 have:=kQ.mp (Jz.mp hq).1
 omega
theorem tO (hm:m<=6):(gS m ks p).length<=100:=by
 have:=List.length_filter_le (fun q=>decide (q=p) || xc ks p q) (rg m)
 unfold gS
 rw [rM] at this
 omega
theorem B3 (h:GW m ks) (hF:FT μ0 m a T M) (hp:0<=p/\p<(m:Int)) (hT:jB (kj ks) p (fun q=>0<=q/\q<(m:Int)) (T p)) {o3 o4 o5:Option D}:∃ o3' g,
  fP [some (bg m ks),some (.obj a),some (.int p),o3,o4,o5] M=.next [some (bg m ks),some (.obj a),some (.int p),o3',o4,o5] (M++g):=by
 have m0:=h.m0
 have m6:=h.m6
 obtain ⟨b,e1,e2⟩:=FT.row (hF.app (g:=[.lst ((fY m (T p)).map D.str)])) hp.1 hp.2
 have r1:=B2 (M:=M) h hp hT
 have r2:=EM (M:=M++[.lst ((fY m (T p)).map D.str)]) h hp hT e2
 have eq:=wU (M:=M++[.lst ((fY m (T p)).map D.str)]++[.lst ((fY m (T p)).map D.str)]) (a:=M.length) (b:=(M++[O.lst ((fY m (T p)).map D.str)]).length) B4 (aL aw) aw
 have r3:=B0 (M:=M++[.lst ((fY m (T p)).map D.str)]++[.lst ((fY m (T p)).map D.str)]) h (hF.app.app) hp hT
 have rr:h7 [.int (m:Int)]=fun μ=>ai.ok (.fix ((rg m).map D.int)) μ:=by
  funext μ
  rw [fC (by omega) (by omega),zg]
 refine ⟨some (Gh (gS m ks p)),[.lst ((fY m (T p)).map D.str)]++[.lst ((fY m (T p)).map D.str)]++[.lst ((gS m ks p).map D.int)],?_⟩
 unfold fP
 have s1:bE (dZ h7 (ag (az c9 (ak 0) (cC (.int 0))) (ax))) [none,some 0,some 2] (aj 0) (bz) (dJ) [some (bg m ks),some (.obj a),some (.int p),o3,o4,o5] M=.ok (.obj M.length) (M++[.lst ((fY m (T p)).map D.str)]):=by
  simp only [bR,cc,aq,av,aA,ah,aU,aa,cL,rr,bf]
  exact r1
 have s2:bE (ia (az c9 (ak 1) (ak 2))) [none] (aj 0) (bz) (dH) [some (bg m ks),some (.obj a),some (.int p),o3,o4,o5] (M++[.lst ((fY m (T p)).map D.str)])=.ok (.obj (M++[O.lst ((fY m (T p)).map D.str)]).length) (M++[.lst ((fY m (T p)).map D.str)]++[.lst ((fY m (T p)).map D.str)]):=by
  simp only [bR,dm,aA,ah,ao,aa,e1]
  rw [fB e2]
  simp only [aa,cO]
  exact r2
 have s3:bE (dZ h7 (ag (az c9 (ak 0) (cC (.int 0))) (ax))) [none,some 1,some 2] (aj 0) (dB) (dG) [some (bg m ks),some (.obj a),some (.int p),o3,o4,o5] (M++[.lst ((fY m (T p)).map D.str)]++[.lst ((fY m (T p)).map D.str)])=.ok (.obj (M++[O.lst ((fY m (T p)).map D.str)]++[O.lst ((fY m (T p)).map D.str)]).length) (M++[.lst ((fY m (T p)).map D.str)]++[.lst ((fY m (T p)).map D.str)]++[.lst ((gS m ks p).map D.int)]):=by
  simp only [bR,cc,aq,av,aA,ah,aU,aa,cL,rr,bf]
  exact r3
 rw [aJ,bp,bD,aA,s1]
 simp only [aa]
 rw [s2]
 simp only [aa,eq,aP,ae,K4,Ky,bH,aE]
 rw [aJ,aW,aD,aq,s3]
 simp only [aa,av]
 rw [gW aw]
 simp only [ae,cj,aE,M8,M9]
 simp only [bp,bD,aA,aD,aq,av,ah,ao,aa]
 rw [BI h hp]
 simp only [af,aa]
 rw [show (D.tup ((gS m ks p).map D.int))=Gh (gS m ks p) from rfl,wy (fun q hq=>tN m6 hq) (tO m6)]
 simp only [aa]
 rw [wy (fun q hq=>tN m6 hq) (tO m6)]
 simp only [aa,IU,LO,aP,ae,K4,Ky,bH,KS]
end
end Lw
namespace Lw
open PySem L2 RS Lv
section
variable {m:Nat}{ks:List (List Int)}
theorem AQ (n:Nat):kO (fe m ks 7) none (some 6)=fe m ks 6:=by
 unfold kO fe
 rw [Kr,Lj]
 have h6:HT.sIx 7 7 (some 6)=6:=by decide
 have h0:HT.sIx 7 0 none=0:=by decide
 rw [h6,h0]
 rfl
theorem wL {M:aB}{t i:Nat}{n:Int} (e:n=(i:Int)) (hi:i<7) (ht:M[t]?=some (.lst (fe m ks 7))):c9 (.obj t) (.int n) M=.ok (bg m (fj m ks (i+1))) M:=by
 subst e
 refine dW ht (oN (by omega) ?_)
 rw [Kw]
 unfold fe
 rw [Km,Mn hi]
 rfl
theorem lI {μ:aB} (h:GW m ks):cD [bg m ks] μ=.ok (.bl true) μ:=by
 have m0:=h.m0
 have m6:=h.m6
 obtain ⟨a,μf,T,ef,hF,hT⟩:=wq (μ:=μ) h
 obtain ⟨gf,hpre⟩:=hF.pre
 obtain ⟨ρ1,M1,hJ,run⟩:=gn (src:=.fix ((rg m).map D.int)) (g:=aj 2) (fb:=fP)
  (fun xs ρ μ1=>∃ l:List Int,xs=l.map D.int/\(∀ q∈l,0<=q/\q<(m:Int))/\∃ o2 o3 g,ρ=[some (bg m ks),some (.obj a),o2,o3,none,none]/\μ1=μf++g)
  (fun _ _ _=>trivial)
  (fun x r ρ μ1 hJJ => by
   obtain ⟨l,el,hl,o2,o3,g,eρ,eμ⟩:=hJJ
   subst eρ eμ
   cases l with
   | nil=>cases el
   | cons p l=>
    injection el with ex er
    subst ex er
    have hp:=hl p JE
    obtain ⟨o3',g',e⟩:=B3 (M:=μf++g) (o3:=o3) (o4:=none) (o5:=none) h hF.app hp (hT p hp.1 hp.2)
    exact ⟨trivial,_,_,_,_,rfl,e,l,rfl,fun q hq=>hl q (JF _ hq),_,_,g++g',rfl,by rw [KS]⟩)
  (xs:=(rg m).map D.int) (ρ:=[some (bg m ks),some (.obj a),none,none,none,none]) (μ:=μf)
  ⟨rg m,rfl,fun q hq=>kQ.mp hq,none,none,[],rfl,by rw [Kb]⟩
 obtain ⟨l,_,_,o2,o3,g,eρ,eM⟩:=hJ
 subst eρ
 let M2:aB:=M1++[O.lst (fe m ks 7)]
 let M3:aB:=M2++[O.lst ((jG m ks 6).map D.str)]
 let M4:aB:=M3++[O.lst (fe m ks 6)]
 let M5:aB:=M4++[O.lst ((jG m ks 6).map D.str)]
 have t2:M2[M1.length]?=some (.lst (fe m ks 7)):=aw
 have t3:M3[M1.length]?=some (.lst (fe m ks 7)):=aL t2
 have t5:M5[M1.length]?=some (.lst (fe m ks 7)):=aL (aL t3)
 have r6:=B1 (μ:=M1) h
 have r7:=z6 (μ:=M2) h
 have sl:yn (.obj M1.length) none (some 6) M3=.ok (.obj M3.length) M4:=by
  unfold yn
  dsimp only
  rw [t3]
  dsimp only
  rw [AQ 0]
 have r8:=xE (M:=M4) (t:=M3.length) h aw
 have eq:=wU (M:=M5) (a:=M2.length) (b:=M4.length) (AG h) (aL (aL aw)) aw
 have rr:h7 [.int (m:Int)]=fun μ=>ai.ok (.fix ((rg m).map D.int)) μ:=by
  funext μ
  rw [fC (by omega) (by omega),zg]
 obtain ⟨k,sk,est⟩:=zN (μ:=M5) h
 have ix:=vF h sk t5
 have ek:(1:Int)+((k - 1:Nat):Int)=(k:Int):=by have:=sk.1;omega
 have rk:∀ μ,cX [.int (k:Int)] μ=.ok (.str (sS (some k))) μ:=fun μ=>oV (o:=some k) fun n e=>by cases e;have:=sk.2.1;omega
 have s1:∀ o2 o3,bE (dZ km (ag (cC (.int 1)) (ag (cC (.int 8)) (ax)))) [none,some 0] (aj 0) (bz) (dF) [some (bg m ks),some (.obj a),o2,o3,none,none] M1=.ok (.obj M1.length) M2:=fun o2 o3=>by
  simp only [bR,cc,aq,av,aU,aa]
  rw [ji (by decide) (by decide) (by decide) (by decide)]
  simp only [aa,bf]
  exact r6
 have s2:∀ o2 o3 o4,bE (dZ km (ag (cC (.int 1)) (ag (cC (.int 7)) (ax)))) [none,some 0] (aj 0) (bz) (dE) [some (bg m ks),some (.obj a),o2,o3,o4,none] M2=.ok (.obj M2.length) M3:=fun o2 o3 o4=>by
  simp only [bR,cc,aq,av,aU,aa]
  rw [ji (by decide) (by decide) (by decide) (by decide)]
  simp only [aa,bf]
  exact r7
 have s3:∀ o2 o3,bE (ia (Dm (ak 4) (DR) (lj (cC (.int 6))))) [none] (aj 0) (bz) (dD) [some (bg m ks),some (.obj a),o2,o3,some (.obj M1.length),none] M3=.ok (.obj M4.length) M5:=fun o2 o3=>by
  simp only [bR,dm,yX,zx,pd,aU,vc,ao,ah,aa,sl]
  rw [fB (show M4[M3.length]?=some (.lst (fe m ks 6)) from aw)]
  simp only [aa,cO]
  exact r8
 have w1:c9 (.obj M1.length) (.int 1) M5=.ok (bg m (fj m ks 2)) M5:=wL (i:=1) rfl (by decide) t5
 have w6:c9 (.obj M1.length) (.int 6) M5=.ok (bg m (fj m ks 7)) M5:=wL (i:=6) rfl (by decide) t5
 have il:sQ (.obj M1.length) M5=true:=by unfold sQ;dsimp only;rw [t5]
 unfold cD
 rw [fv]
 simp only [l9,List.replicate]
 rw [aJ,aW,aD,aq]
 simp only [ah,av,aa,ef,ae,cj,aE,M8,M9]
 rw [aJ,gN]
 simp only [cc,aq,av,aA,ah,aU,aa,cL,rr,ae,bf]
 rw [run]
 simp only [aE]
 rw [aJ,aW,s1]
 simp only [ae,cj,aE,M8,M9]
 rw [aJ,bp,bD,aA,s2]
 simp only [aa]
 rw [s3]
 simp only [aa,eq,aP,ae,K4,Ky,bH,aE]
 rw [aJ,bp,mz,bD,aA]
 simp only [aD,aq,av,ah,ao,aA,aU,aa,wk h,mH (uS h _),w1,IU,LO,aP,K4,Ky,bD,est,rk,qx,il,KA,w6,ix,gr,ek,ae,bH,aE]
 rw [aJ,aW]
 simp only [aD,aq,av,ah,aa,vn h,ae,cj,aE,M8,M9]
 simp only [bq,j9,jI,ao,ah,aa]
 rw [show la "bool" (.bl (decide (fj m ks 2=ks))) M5=.ok (.bl true) M5 from rfl]
 simp only [aa,aP,KA,aA,ao,ah,aU,w1,HX (uS h 2) h,F5,K4,Ky,K3,ae,aV]
 show og μ (.ok (.bl true) (M1++[O.lst (fe m ks 7)]++[O.lst ((jG m ks 6).map D.str)]++[O.lst (fe m ks 6)]++[O.lst ((jG m ks 6).map D.str)]))=_
 rw [eM,hpre]
 simp only [KS]
 exact iR (by simp)
end
end Lw
namespace Lw
open PySem L2 RS Lv
theorem mB {subs known:List Str}{n:Nat}{c:Str}{μ:aB} (h:μ[n]?=some (.exc c)) (hk:known.contains c=true):kN subs known (.obj n) μ=.ok (.bl (subs.contains c)) μ:=by
 unfold kN
 dsimp only
 rw [h]
 dsimp only
 rw [Js hk]
theorem sv {μ:aB}{a b:Nat}{xs ys:List D} (h:μ[a]?=some (.lst xs)) (g:μ[b]?=some (.lst ys)) (hn:xs.length+ys.length<=1000000):cv (.obj a) (.obj b) μ=.ok (.obj μ.length) (μ++[.lst (xs++ys)]):=by
 unfold cv
 simp only [h,g]
 rw [Js (JB hn (by decide))]
theorem l4:(4:Nat)<=sizeLine:=by decide
theorem l8:(8:Nat)<=sizeLine:=by decide
abbrev iC:List D:=[.str "place",.str "number",.str "line",.str "root",.str "tree",.str "web",.str "text",.str "great"]
theorem dM:(["NoNumber"]:List Str).contains "NoNumber" = true:=by decide +kernel
theorem dX:(["NoPlace"]:List Str).contains "NoNumber" = false:=by decide +kernel
theorem iT:([]:List Str).contains "NoNumber" = false:=by decide +kernel
theorem cE:(["NoNumber", "NoPlace"]:List Str).contains "NoNumber" = true:=by decide +kernel
theorem mT {μ:aB}{n:Nat} (h:μ[n]?=some (.exc "NoNumber")):bW [.obj n] μ=.ok (.str "number") μ:=by
 have h1:(μ++[O.lst [D.bl false,D.bl true,D.bl false,D.bl false]])[n]?=some (.exc "NoNumber"):=aL h
 have h2:(μ++[O.lst [D.bl false,D.bl true,D.bl false,D.bl false]]++[O.lst [D.bl false,D.bl false,D.bl false,D.bl false]])[n]?=some (.exc "NoNumber"):=aL h1
 have h3:(μ++[O.lst [D.bl false,D.bl true,D.bl false,D.bl false]]++[O.lst [D.bl false,D.bl false,D.bl false,D.bl false]]++[O.lst ([D.bl false,D.bl true,D.bl false,D.bl false]++[D.bl false,D.bl false,D.bl false,D.bl false])])[n]?=some (.exc "NoNumber"):=aL h2
 have m3:(μ++[O.lst [D.bl false,D.bl true,D.bl false,D.bl false]]++[O.lst [D.bl false,D.bl false,D.bl false,D.bl false]]++[O.lst ([D.bl false,D.bl true,D.bl false,D.bl false]++[D.bl false,D.bl false,D.bl false,D.bl false])])[(μ++[O.lst [D.bl false,D.bl true,D.bl false,D.bl false]]++[O.lst [D.bl false,D.bl false,D.bl false,D.bl false]]).length]?=some (.lst ([D.bl false,D.bl true,D.bl false,D.bl false]++[D.bl false,D.bl false,D.bl false,D.bl false])):=aw
 have m4:(μ++[O.lst [D.bl false,D.bl true,D.bl false,D.bl false]]++[O.lst [D.bl false,D.bl false,D.bl false,D.bl false]]++[O.lst ([D.bl false,D.bl true,D.bl false,D.bl false]++[D.bl false,D.bl false,D.bl false,D.bl false])]++[O.lst iC])[(μ++[O.lst [D.bl false,D.bl true,D.bl false,D.bl false]]++[O.lst [D.bl false,D.bl false,D.bl false,D.bl false]]).length]?=some (.lst ([D.bl false,D.bl true,D.bl false,D.bl false]++[D.bl false,D.bl false,D.bl false,D.bl false])):=aL m3
 have k4:(μ++[O.lst [D.bl false,D.bl true,D.bl false,D.bl false]]++[O.lst [D.bl false,D.bl false,D.bl false,D.bl false]]++[O.lst ([D.bl false,D.bl true,D.bl false,D.bl false]++[D.bl false,D.bl false,D.bl false,D.bl false])]++[O.lst iC])[(μ++[O.lst [D.bl false,D.bl true,D.bl false,D.bl false]]++[O.lst [D.bl false,D.bl false,D.bl false,D.bl false]]++[O.lst ([D.bl false,D.bl true,D.bl false,D.bl false]++[D.bl false,D.bl false,D.bl false,D.bl false])]).length]?=some (.lst iC):=aw
 have a1:=sv (μ:=μ++[O.lst [D.bl false,D.bl true,D.bl false,D.bl false]]++[O.lst [D.bl false,D.bl false,D.bl false,D.bl false]]) (a:=μ.length) (b:=(μ++[O.lst [D.bl false,D.bl true,D.bl false,D.bl false]]).length) (xs:=[D.bl false,D.bl true,D.bl false,D.bl false]) (ys:=[D.bl false,D.bl false,D.bl false,D.bl false]) (aL aw) aw (by decide)
 have c1:iG (.obj (μ++[O.lst [D.bl false,D.bl true,D.bl false,D.bl false]]++[O.lst [D.bl false,D.bl false,D.bl false,D.bl false]]).length) [.bl true] (μ++[O.lst [D.bl false,D.bl true,D.bl false,D.bl false]]++[O.lst [D.bl false,D.bl false,D.bl false,D.bl false]]++[O.lst ([D.bl false,D.bl true,D.bl false,D.bl false]++[D.bl false,D.bl false,D.bl false,D.bl false])])=.ok (.int 1) (μ++[O.lst [D.bl false,D.bl true,D.bl false,D.bl false]]++[O.lst [D.bl false,D.bl false,D.bl false,D.bl false]]++[O.lst ([D.bl false,D.bl true,D.bl false,D.bl false]++[D.bl false,D.bl false,D.bl false,D.bl false])]):=by
  unfold iG
  dsimp only
  rw [m3]
  rfl
 have i1:iF (.obj (μ++[O.lst [D.bl false,D.bl true,D.bl false,D.bl false]]++[O.lst [D.bl false,D.bl false,D.bl false,D.bl false]]).length) [.bl true] (μ++[O.lst [D.bl false,D.bl true,D.bl false,D.bl false]]++[O.lst [D.bl false,D.bl false,D.bl false,D.bl false]]++[O.lst ([D.bl false,D.bl true,D.bl false,D.bl false]++[D.bl false,D.bl false,D.bl false,D.bl false])]++[O.lst iC])=.ok (.int 1) (μ++[O.lst [D.bl false,D.bl true,D.bl false,D.bl false]]++[O.lst [D.bl false,D.bl false,D.bl false,D.bl false]]++[O.lst ([D.bl false,D.bl true,D.bl false,D.bl false]++[D.bl false,D.bl false,D.bl false,D.bl false])]++[O.lst iC]):=by
  unfold iF
  dsimp only
  rw [m4]
  dsimp only
  rw [Js ⟨rfl,by decide,rfl⟩]
  rfl
 have e3:sQ (.obj (μ++[O.lst [D.bl false,D.bl true,D.bl false,D.bl false]]++[O.lst [D.bl false,D.bl false,D.bl false,D.bl false]]).length) (μ++[O.lst [D.bl false,D.bl true,D.bl false,D.bl false]]++[O.lst [D.bl false,D.bl false,D.bl false,D.bl false]]++[O.lst ([D.bl false,D.bl true,D.bl false,D.bl false]++[D.bl false,D.bl false,D.bl false,D.bl false])])=true:=by unfold sQ;dsimp only;rw [m3]
 have e4:sQ (.obj (μ++[O.lst [D.bl false,D.bl true,D.bl false,D.bl false]]++[O.lst [D.bl false,D.bl false,D.bl false,D.bl false]]).length) (μ++[O.lst [D.bl false,D.bl true,D.bl false,D.bl false]]++[O.lst [D.bl false,D.bl false,D.bl false,D.bl false]]++[O.lst ([D.bl false,D.bl true,D.bl false,D.bl false]++[D.bl false,D.bl false,D.bl false,D.bl false])]++[O.lst iC])=true:=by unfold sQ;dsimp only;rw [m4]
 unfold bW
 rw [fv]
 simp only [iu,List.replicate,aJ,aW,cW,aq,av,jI,ah,aa,mB h cE,dM,dX,iT,cE]
 rw [Js (show [D.bl false,D.bl true,D.bl false,D.bl false].length<=sizeLine from l4)]
 simp only [ae]
 rw [show aj 1 (D.obj μ.length) [some (D.obj n),none] (μ++[O.lst [D.bl false,D.bl true,D.bl false,D.bl false]])=.ok [some (D.obj n),some (D.obj μ.length)] (μ++[O.lst [D.bl false,D.bl true,D.bl false,D.bl false]]) from rfl]
 simp only [ae,aE,aJ,aW,aA,cW,aq,av,jI,ah,ao,aa,mB h1 cE,dM,dX,iT,cE]
 rw [Js (show [D.bl false,D.bl false,D.bl false,D.bl false].length<=sizeLine from l4)]
 simp only [aa]
 rw [a1]
 simp only [ae]
 rw [show aj 1 (D.obj (μ++[O.lst [D.bl false,D.bl true,D.bl false,D.bl false]]++[O.lst [D.bl false,D.bl false,D.bl false,D.bl false]]).length) [some (D.obj n),some (D.obj μ.length)] (μ++[O.lst [D.bl false,D.bl true,D.bl false,D.bl false]]++[O.lst [D.bl false,D.bl false,D.bl false,D.bl false]]++[O.lst ([D.bl false,D.bl true,D.bl false,D.bl false]++[D.bl false,D.bl false,D.bl false,D.bl false])])=.ok [some (D.obj n),some (D.obj (μ++[O.lst [D.bl false,D.bl true,D.bl false,D.bl false]]++[O.lst [D.bl false,D.bl false,D.bl false,D.bl false]]).length)] (μ++[O.lst [D.bl false,D.bl true,D.bl false,D.bl false]]++[O.lst [D.bl false,D.bl false,D.bl false,D.bl false]]++[O.lst ([D.bl false,D.bl true,D.bl false,D.bl false]++[D.bl false,D.bl false,D.bl false,D.bl false])]) from rfl]
 simp only [ae,aE,aJ,bp,mz,gq,ig,jI,aA,aq,av,ah,ao,aU,aa,mB h3 cE,dM,dX,iT,cE,gp,LO,K4,Ky]
 unfold fT
 simp only [aA,qx,aq,av,ah,ao,aU,aa,e3,KA,c1,cb,aP]
 rw [show (!((1:Int) == 1))=false from rfl]
 simp only [ae,K4,Ky,bH,aE,bq,aA,cW,aq,av,aU,aa]
 rw [Js (show [D.str "place",D.str "number",D.str "line",D.str "root",D.str "tree",D.str "web",D.str "text",D.str "great"].length<=sizeLine from l8)]
 simp only [aa,qx,aq,av,ao,ah,aU,e4,KA,i1]
 rw [dW (xs:=iC) (d:=.str "number") k4 rfl]
 simp only [ae,aV,KS]
 exact iR (by simp)
theorem dY:(["NoNumber"]:List Str).contains "NoPlace" = false:=by decide +kernel
theorem eT:(["NoPlace"]:List Str).contains "NoPlace" = true:=by decide +kernel
theorem jq:([]:List Str).contains "NoPlace" = false:=by decide +kernel
theorem cg:(["NoNumber", "NoPlace"]:List Str).contains "NoPlace" = true:=by decide +kernel
theorem gO {μ:aB}{n:Nat} (h:μ[n]?=some (.exc "NoPlace")):bW [.obj n] μ=.ok (.str "place") μ:=by
 have h1:(μ++[O.lst [D.bl true,D.bl false,D.bl false,D.bl false]])[n]?=some (.exc "NoPlace"):=aL h
 have h2:(μ++[O.lst [D.bl true,D.bl false,D.bl false,D.bl false]]++[O.lst [D.bl false,D.bl false,D.bl false,D.bl false]])[n]?=some (.exc "NoPlace"):=aL h1
 have h3:(μ++[O.lst [D.bl true,D.bl false,D.bl false,D.bl false]]++[O.lst [D.bl false,D.bl false,D.bl false,D.bl false]]++[O.lst ([D.bl true,D.bl false,D.bl false,D.bl false]++[D.bl false,D.bl false,D.bl false,D.bl false])])[n]?=some (.exc "NoPlace"):=aL h2
 have m3:(μ++[O.lst [D.bl true,D.bl false,D.bl false,D.bl false]]++[O.lst [D.bl false,D.bl false,D.bl false,D.bl false]]++[O.lst ([D.bl true,D.bl false,D.bl false,D.bl false]++[D.bl false,D.bl false,D.bl false,D.bl false])])[(μ++[O.lst [D.bl true,D.bl false,D.bl false,D.bl false]]++[O.lst [D.bl false,D.bl false,D.bl false,D.bl false]]).length]?=some (.lst ([D.bl true,D.bl false,D.bl false,D.bl false]++[D.bl false,D.bl false,D.bl false,D.bl false])):=aw
 have m4:(μ++[O.lst [D.bl true,D.bl false,D.bl false,D.bl false]]++[O.lst [D.bl false,D.bl false,D.bl false,D.bl false]]++[O.lst ([D.bl true,D.bl false,D.bl false,D.bl false]++[D.bl false,D.bl false,D.bl false,D.bl false])]++[O.lst iC])[(μ++[O.lst [D.bl true,D.bl false,D.bl false,D.bl false]]++[O.lst [D.bl false,D.bl false,D.bl false,D.bl false]]).length]?=some (.lst ([D.bl true,D.bl false,D.bl false,D.bl false]++[D.bl false,D.bl false,D.bl false,D.bl false])):=aL m3
 have k4:(μ++[O.lst [D.bl true,D.bl false,D.bl false,D.bl false]]++[O.lst [D.bl false,D.bl false,D.bl false,D.bl false]]++[O.lst ([D.bl true,D.bl false,D.bl false,D.bl false]++[D.bl false,D.bl false,D.bl false,D.bl false])]++[O.lst iC])[(μ++[O.lst [D.bl true,D.bl false,D.bl false,D.bl false]]++[O.lst [D.bl false,D.bl false,D.bl false,D.bl false]]++[O.lst ([D.bl true,D.bl false,D.bl false,D.bl false]++[D.bl false,D.bl false,D.bl false,D.bl false])]).length]?=some (.lst iC):=aw
 have a1:=sv (μ:=μ++[O.lst [D.bl true,D.bl false,D.bl false,D.bl false]]++[O.lst [D.bl false,D.bl false,D.bl false,D.bl false]]) (a:=μ.length) (b:=(μ++[O.lst [D.bl true,D.bl false,D.bl false,D.bl false]]).length) (xs:=[D.bl true,D.bl false,D.bl false,D.bl false]) (ys:=[D.bl false,D.bl false,D.bl false,D.bl false]) (aL aw) aw (by decide)
 have c1:iG (.obj (μ++[O.lst [D.bl true,D.bl false,D.bl false,D.bl false]]++[O.lst [D.bl false,D.bl false,D.bl false,D.bl false]]).length) [.bl true] (μ++[O.lst [D.bl true,D.bl false,D.bl false,D.bl false]]++[O.lst [D.bl false,D.bl false,D.bl false,D.bl false]]++[O.lst ([D.bl true,D.bl false,D.bl false,D.bl false]++[D.bl false,D.bl false,D.bl false,D.bl false])])=.ok (.int 1) (μ++[O.lst [D.bl true,D.bl false,D.bl false,D.bl false]]++[O.lst [D.bl false,D.bl false,D.bl false,D.bl false]]++[O.lst ([D.bl true,D.bl false,D.bl false,D.bl false]++[D.bl false,D.bl false,D.bl false,D.bl false])]):=by
  unfold iG
  dsimp only
  rw [m3]
  rfl
 have i1:iF (.obj (μ++[O.lst [D.bl true,D.bl false,D.bl false,D.bl false]]++[O.lst [D.bl false,D.bl false,D.bl false,D.bl false]]).length) [.bl true] (μ++[O.lst [D.bl true,D.bl false,D.bl false,D.bl false]]++[O.lst [D.bl false,D.bl false,D.bl false,D.bl false]]++[O.lst ([D.bl true,D.bl false,D.bl false,D.bl false]++[D.bl false,D.bl false,D.bl false,D.bl false])]++[O.lst iC])=.ok (.int 0) (μ++[O.lst [D.bl true,D.bl false,D.bl false,D.bl false]]++[O.lst [D.bl false,D.bl false,D.bl false,D.bl false]]++[O.lst ([D.bl true,D.bl false,D.bl false,D.bl false]++[D.bl false,D.bl false,D.bl false,D.bl false])]++[O.lst iC]):=by
  unfold iF
  dsimp only
  rw [m4]
  dsimp only
  rw [Js ⟨rfl,by decide,rfl⟩]
  rfl
 have e3:sQ (.obj (μ++[O.lst [D.bl true,D.bl false,D.bl false,D.bl false]]++[O.lst [D.bl false,D.bl false,D.bl false,D.bl false]]).length) (μ++[O.lst [D.bl true,D.bl false,D.bl false,D.bl false]]++[O.lst [D.bl false,D.bl false,D.bl false,D.bl false]]++[O.lst ([D.bl true,D.bl false,D.bl false,D.bl false]++[D.bl false,D.bl false,D.bl false,D.bl false])])=true:=by unfold sQ;dsimp only;rw [m3]
 have e4:sQ (.obj (μ++[O.lst [D.bl true,D.bl false,D.bl false,D.bl false]]++[O.lst [D.bl false,D.bl false,D.bl false,D.bl false]]).length) (μ++[O.lst [D.bl true,D.bl false,D.bl false,D.bl false]]++[O.lst [D.bl false,D.bl false,D.bl false,D.bl false]]++[O.lst ([D.bl true,D.bl false,D.bl false,D.bl false]++[D.bl false,D.bl false,D.bl false,D.bl false])]++[O.lst iC])=true:=by unfold sQ;dsimp only;rw [m4]
 unfold bW
 rw [fv]
 simp only [iu,List.replicate,aJ,aW,cW,aq,av,jI,ah,aa,mB h cg,dY,eT,jq,cg]
 rw [Js (show [D.bl true,D.bl false,D.bl false,D.bl false].length<=sizeLine from l4)]
 simp only [ae]
 rw [show aj 1 (D.obj μ.length) [some (D.obj n),none] (μ++[O.lst [D.bl true,D.bl false,D.bl false,D.bl false]])=.ok [some (D.obj n),some (D.obj μ.length)] (μ++[O.lst [D.bl true,D.bl false,D.bl false,D.bl false]]) from rfl]
 simp only [ae,aE,aJ,aW,aA,cW,aq,av,jI,ah,ao,aa,mB h1 cg,dY,eT,jq,cg]
 rw [Js (show [D.bl false,D.bl false,D.bl false,D.bl false].length<=sizeLine from l4)]
 simp only [aa]
 rw [a1]
 simp only [ae]
 rw [show aj 1 (D.obj (μ++[O.lst [D.bl true,D.bl false,D.bl false,D.bl false]]++[O.lst [D.bl false,D.bl false,D.bl false,D.bl false]]).length) [some (D.obj n),some (D.obj μ.length)] (μ++[O.lst [D.bl true,D.bl false,D.bl false,D.bl false]]++[O.lst [D.bl false,D.bl false,D.bl false,D.bl false]]++[O.lst ([D.bl true,D.bl false,D.bl false,D.bl false]++[D.bl false,D.bl false,D.bl false,D.bl false])])=.ok [some (D.obj n),some (D.obj (μ++[O.lst [D.bl true,D.bl false,D.bl false,D.bl false]]++[O.lst [D.bl false,D.bl false,D.bl false,D.bl false]]).length)] (μ++[O.lst [D.bl true,D.bl false,D.bl false,D.bl false]]++[O.lst [D.bl false,D.bl false,D.bl false,D.bl false]]++[O.lst ([D.bl true,D.bl false,D.bl false,D.bl false]++[D.bl false,D.bl false,D.bl false,D.bl false])]) from rfl]
 simp only [ae,aE,aJ,bp,mz,gq,ig,jI,aA,aq,av,ah,ao,aU,aa,mB h3 cg,dY,eT,jq,cg,gp,LO,K4,Ky]
 unfold fT
 simp only [aA,qx,aq,av,ah,ao,aU,aa,e3,KA,c1,cb,aP]
 rw [show (!((1:Int) == 1))=false from rfl]
 simp only [ae,K4,Ky,bH,aE,bq,aA,cW,aq,av,aU,aa]
 rw [Js (show [D.str "place",D.str "number",D.str "line",D.str "root",D.str "tree",D.str "web",D.str "text",D.str "great"].length<=sizeLine from l8)]
 simp only [aa,qx,aq,av,ao,ah,aU,e4,KA,i1]
 rw [dW (xs:=iC) (d:=.str "place") k4 rfl]
 simp only [ae,aV,KS]
 exact iR (by simp)
theorem j4 {x:DX}{μ:aB}{g:MS}:(SO.exc x μ).bind g=.exc x μ:=MJ (MK _)
theorem jM {x:DX}{μ:aB}:(SO.exc x μ).out=.exc x μ:=MJ (MK _)
theorem eP {β:Type}{x:DX}{μ:aB}{f:β->aB->SO}:(ai.exc x μ:ai β).bindS f=.exc x μ:=MJ (MK _)
theorem oI {x:DX}{μ μ':aB}:og μ (.exc x μ')=.exc x μ':=MJ (MK _)
theorem uj {c:Str}{ρ:Ro}{μ:aB}:rL c ρ μ=.exc ⟨c,[]⟩ μ:=MJ (MK _)
section
variable {m:Nat}{ks:List (List Int)}{μ:aB}
theorem vg {x d:D} (h:oa μ d) (hn:uO m d=false):bG [.tup [.int m,x],d] μ=.exc ⟨"NoPlace",[]⟩ μ:=by
 unfold bG
 rw [fu]
 simp only [iW,List.replicate,bp,gq,ig,aD,aq,av,aA,ah,ao,aU,aa,cL]
 rw [tQ h,hn]
 simp only [af,aa,gp,LY,ae,KA,uj,jM,oI]
theorem C7 {d e:D} (h:oa μ d) (hn:uO m d=false):dy [bg m ks,d,e] μ=.exc ⟨"NoPlace",[]⟩ μ:=by
 unfold dy
 rw [mC]
 simp only [lQ,List.replicate,aJ,lE,aD,aq,av,ah,ao,aa,vg h hn,eP,j4,jM,oI]
theorem AK {d:D}{p:Int} (hp:0<=p/\p<(m:Int)) (h:oa μ d) (hn:uO m d=false):dy [bg m ks,.int p,d] μ=.exc ⟨"NoPlace",[]⟩ μ:=by
 unfold dy
 rw [mC]
 simp only [lQ,List.replicate,aJ,lE,aD,aq,av,ah,ao,aa,lJ hp,vg h hn,ae,aE,eP,j4,jM,oI]
theorem zG {d:D} (h:oa μ d) (hn:uO m d=false):dP [bg m ks,d] μ=.exc ⟨"NoPlace",[]⟩ μ:=by
 unfold dP
 rw [fu]
 simp only [mS,List.replicate,aJ,lE,aD,aq,av,ah,ao,aa,vg h hn,eP,j4,jM,oI]
def DT:D->Bool
 | .int i=>decide (1<=i/\i<=6)
 | _=>false
theorem xk {d:D} (h:oa μ d) (hn:DT d=false):bj [d,.int 1,.int 6] μ=.ok (.bl false) μ:=by
 unfold bj
 rw [mC]
 simp only [eG,List.replicate,bq,j9,aD,aq,av,ah,ao,aa,tP h,aP,pf]
 cases d with
 | int i=>
  rw [show DS (.int i)=true from rfl,Js rfl]
  simp only [dN,aa,aP]
  by_cases c:dq .LtE 1 i=true
  ·rw [Js c, ae, aV]
   rw [show dq .LtE i 6=false from by
    have c':(1:Int)<=i:=Nk c
    have:=of_decide_eq_false hn
    exact Jq (by omega)]
   exact cn (by simp)
  ·rw [Jt c, ae, aV]
   exact cn (by simp)
 | _=>
  rw [show DS _=false from rfl,Jt JX,ae,aV]
  exact cn (by simp)
theorem xn {d:D} (h:oa μ d) (hn:DT d=false):aY [bg m ks,d] μ=.exc ⟨"NoNumber",[]⟩ μ:=by
 unfold aY
 rw [fu]
 simp only [jV,List.replicate]
 rw [aJ,bp,gq,ig,aD]
 simp only [aq,av,ao,ah,aU,aa,xk h hn,af,gp,LY,ae,KA,uj,j4,jM,oI]
theorem nV {a b c d:D}{cl w:Str} (e:cF [some a,some b,some c,some d,none] μ=.exc ⟨cl,[]⟩ μ) (hk:(["NoNumber", "NoPlace"]:List Str).contains cl=true) (kd:∀ (μ:aB) (n:Nat),μ[n]?=some (.exc cl)->bW [.obj n] μ=.ok (.str w) μ):bK [a,b,c,d] μ=.ok (.str w) μ:=by
 unfold bK
 rw [HA (show ([a,b,c,d]:List D).length=4 from rfl)]
 simp only [ny,KM,KL,List.replicate,Lm,K0]
 unfold Bg
 rw [show cF [some a,some b,some c,some d,none] μ=.exc ⟨cl,[]⟩ μ from e]
 dsimp only
 rw [Js hk]
 rw [show iV ((List.replicate 5 none).set 4 (some (D.obj μ.length))) (μ++[O.exc cl])=.ret (.str w) (μ++[O.exc cl]) from by
  simp only [iV,bq,aD,aq,av,List.replicate,List.set,ao,ah,aa,kd (μ++[O.exc cl]) μ.length aw,ae]]
 show og μ (.ok (.str w) (μ++[O.exc cl]))=_
 exact iR (by simp)
theorem Ei {d e:D} (h:oa μ d) (hn:uO m d=false):bK [.int 0,bg m ks,d,e] μ=.ok (.str "place") μ:=
 nV (cl:="NoPlace") (by simp only [cF,aJ,bp,bD,aA,ah,ao,aU,aa,cb,K4,Ky,K3,aP,ae,KA,bq,aD,aq,av,C7 h hn,eP,j4]) cg fun μ n h=>gO h
theorem Bv {d:D} (m0:1<=m) (h:oa μ d) (hn:uO m d=false):bK [.int 0,bg m ks,.int 0,d] μ=.ok (.str "place") μ:=
 nV (cl:="NoPlace") (by simp only [cF,aJ,bp,bD,aA,ah,ao,aU,aa,cb,K4,Ky,K3,aP,ae,KA,bq,aD,aq,av,AK (p:=0) (m:=m) ⟨by decide,by omega⟩ h hn,eP,j4]) cg fun μ n h=>gO h
theorem Bu {d e:D} (h:oa μ d) (hn:uO m d=false):bK [.int 1,bg m ks,d,e] μ=.ok (.str "place") μ:=
 nV (cl:="NoPlace") (by
  simp only [cF,aJ,bp,bD,aA,ah,ao,aU,aa,cb,K4,Ky,aP,ae]
  rw [show ((1:Int) == 0)=false from rfl]
  simp only [K4,Ky,bH,aE,bq,DH,bD,aA,ah,aU,aa,cb,K3,aP,KA,aD,aq,av,ao,zG h hn,eP]) cg fun μ n h=>gO h
theorem zE {d e:D} (h:oa μ d) (hn:DT d=false):bK [.int 2,bg m ks,d,e] μ=.ok (.str "number") μ:=
 nV (cl:="NoNumber") (by
  simp only [cF,aJ,bp,bD,aA,ah,ao,aU,aa,cb,K4,Ky,aP,ae]
  rw [show ((2:Int) == 0)=false from rfl]
  simp only [K4,Ky,bH,aE,bq,DH,bD,aA,ah,aU,aa,cb,aP,aD,aq,av,ao]
  rw [show ((2:Int) == 1)=false from rfl]
  simp only [K4,Ky,xn h hn,eP]) cE fun μ n h=>mT h
end
theorem zz {μ:aB}{x:Str} (h:pW x):fX true (.str x) (.str x) μ=.ok (.bl false) μ:=by
 have f:eH (.str x)=true:=by simp only [eH,PyData.canLay0,h.ok,PyData.depth,Nj];rfl
 unfold fX
 rw [show mX μ (.str x)=some (.str x) from rfl]
 dsimp only
 rw [Js ⟨f,f⟩,Js rfl,SeqAt.eqv_refl _ (cz f)]
 rfl
theorem AM {μ:aB}:fX true (.str "place") (.str "place") μ=.ok (.bl false) μ:=zz (jh (by decide))
theorem x9 {μ:aB}:fX true (.str "number") (.str "number") μ=.ok (.bl false) μ:=zz (jh (by decide))
theorem yV {m:Nat}{i:Int} (h:¬ (0<=i/\i<(m:Int))):uO m (.int i)=false:=Jq h
theorem v8 {i:Int} (h:¬ (1<=i/\i<=6)):DT (.int i)=false:=Jq h
theorem DB {μ:aB}:rC (.int 10) (.int 20) μ=.ok (.int 100000000000000000000) μ:=by
 rw [show (rC:D->D->aB->ai D)=Dl yC fun i j=>.int (i ^ j.toNat) from rfl,kR (show yC 10 20 from ⟨by decide,by decide,by decide⟩)]
 rfl
theorem Hs {μ:aB}:jd (.int 2) (.int 100000000000000000000) μ=.ok (.int 200000000000000000000) μ:=by
 rw [C8 (show rF 2 100000000000000000000 from .inl ⟨by decide,by decide⟩)]
 rfl
section
variable {m:Nat}{ks:List (List Int)}{M:aB}{a0 a1 a2:Option D}
theorem Gf (h:GW m ks) {d:D} (ho:oa M d) (hn:uO m d=false):n9 [a0,a1,a2,some (bg m ks),some d] M=.next [a0,a1,a2,some (bg m ks),some d] M:=by
 unfold n9
 simp only [aJ,bp,mz,bD,aA,aD,aq,av,ao,ah,aU,aa,Ei ho hn,Bv h.m0 ho hn,Bu ho hn,AM,aP,ae,K4,Ky,bH,aE]
theorem Ge (h:GW m ks) {d:D} (ho:oa M d) (hn:DT d=false):n6 [a0,a1,a2,some (bg m ks),some d] M=.next [a0,a1,a2,some (bg m ks),some d] M:=by
 unfold n6
 simp only [aJ,bp,mz,bD,aA,aD,aq,av,ao,ah,aU,aa,zE ho hn,x9,aP,ae,K4,Ky,bH,aE]
theorem sm {t:Nat}{all:List D}{fb:MS} (Pq:D->Prop) (hb:∀ d,Pq d->fb [a0,a1,a2,some (bg m ks),some d] M=.next [a0,a1,a2,some (bg m ks),some d] M) (ht:M[t]?=some (.lst all)):∀ (ds:List D) (o4:Option D),(∀ d∈ds,Pq d) ->
  ∃ o4',ko (.own t all) (aj 4) fb ds [a0,a1,a2,some (bg m ks),o4] M=.next [a0,a1,a2,some (bg m ks),o4'] M
 | [],o4,_=>⟨o4,by unfold ko;rw [Js (show d3 (.own t all) M from ht)]⟩
 | d::ds,o4,h=>by
  obtain ⟨o4',e⟩:=sm Pq hb ht ds (some d) fun x hx=>h x (JF _ hx)
  refine ⟨o4',?_⟩
  unfold ko
  rw [Js (show d3 (.own t all) M from ht)]
  simp only [cj,ae,M8,M9]
  rw [hb d (h d JE)]
  exact e
end
theorem C2 {d:D}{m:Int}{ks:List (List Int)} (h:cH d m ks):∃ n:Nat,m=(n:Int)/\d=bg n ks/\GW n ks:=by
 obtain ⟨n,rfl⟩:∃ n:Nat,m=(n:Int):=⟨m.toNat,by have:=h.2.1;omega⟩
 have hd:=h.1
 subst hd
 exact ⟨n,rfl,rfl,h⟩
theorem CM {M:aB}{x:Int}{a0 a2 a3 a4:Option D}:∃ (g:aB) (b2 b3 b4:Option D),
  n5 [a0,some (.int x),a2,a3,a4] M=.next [a0,some (.int x),b2,b3,b4] (M++g):=by
 obtain ⟨a,b,c,ep⟩:=Ew (μ:=M) x
 have hp:(M++[bT a b c])[M.length]?=some (bT a b c):=aw
 obtain ⟨d,mi,ks,a',b',c',g,ew⟩:=zM hp
 have hs:(M++[bT a b c]).set M.length (bT a' b' c')=M++[bT a' b' c']:=oQ
 rw [hs] at ew
 obtain ⟨m,rfl,rfl,h⟩:=C2 g
 have m0:=h.m0
 have m6:=h.m6
 let M1:aB:=M++[bT a' b' c']
 let bads:List D:=[.int m,.int (-1),.bl true,.non,.str "0",.tup [.int 0],.obj M1.length,.int 100000000000000000000]
 let M2:aB:=M1++[O.lst [.int 0]]++[O.lst bads]
 let bads2:List D:=[.int 0,.int 7,.int (-1),.bl true,.non,.str "2",.tup [.int 2],.int 200000000000000000000]
 let M3:aB:=M2++[O.lst bads2]
 have n8:(8:Nat)<=sizeLine:=l8
 have n1:(1:Nat)<=sizeLine:=l1
 have hb:∀ y∈bads,oa M2 y/\uO m y=false:=by
  intro y hy
  simp only [bads,JG,Md,Me] at hy
  rcases hy with rfl|rfl|rfl|rfl|rfl|rfl|rfl|rfl
  ·exact ⟨nofun,yV (by omega)⟩
  ·exact ⟨nofun,yV (by omega)⟩
  ·exact ⟨nofun,rfl⟩
  ·exact ⟨nofun,rfl⟩
  ·exact ⟨nofun,rfl⟩
  ·exact ⟨nofun,rfl⟩
  ·refine ⟨?_, rfl⟩
   unfold oa DO
   dsimp only
   rw [show M2[M1.length]?=some (.lst [.int 0]) from aL aw]
   exact nofun
  ·exact ⟨nofun,yV (by omega)⟩
 have hb2:∀ y∈bads2,oa M3 y/\DT y=false:=by
  intro y hy
  simp only [bads2,JG,Md,Me] at hy
  rcases hy with rfl|rfl|rfl|rfl|rfl|rfl|rfl|rfl
  ·exact ⟨nofun,v8 (by omega)⟩
  ·exact ⟨nofun,v8 (by omega)⟩
  ·exact ⟨nofun,v8 (by omega)⟩
  ·exact ⟨nofun,rfl⟩
  ·exact ⟨nofun,rfl⟩
  ·exact ⟨nofun,rfl⟩
  ·exact ⟨nofun,rfl⟩
  ·exact ⟨nofun,v8 (by omega)⟩
 obtain ⟨o4,e4⟩:=sm (M:=M2) (a0:=a0) (a1:=some (.int x)) (a2:=some (.obj M.length)) (m:=m) (ks:=ks) (t:=(M1++[O.lst [.int 0]]).length) (all:=bads) (fb:=n9) (fun y=>oa M2 y/\uO m y=false) (fun y hy=>Gf h hy.1 hy.2) aw bads a4 hb
 obtain ⟨o5,e5⟩:=sm (M:=M3) (a0:=a0) (a1:=some (.int x)) (a2:=some (.obj M.length)) (m:=m) (ks:=ks) (t:=M2.length) (all:=bads2) (fb:=n6) (fun y=>oa M3 y/\DT y=false) (fun y hy=>Ge h hy.1 hy.2) aw bads2 o4 hb2
 refine ⟨[bT a' b' c']++[O.lst [.int 0]]++[O.lst bads]++[O.lst bads2],some (.obj M.length),some (bg m ks),o5,?_⟩
 have l1':fZ (ag (az c9 (ak 3) (cC (.int 0))) (ag (nA sU (cC (.int 1))) (ag (cC (.bl true)) (ag (cC .non) (ag (cC (.str "0")) (ag (bU (ag (cC (.int 0)) (ax))) (ag (fZ (ag (cC (.int 0)) (ax))) (ag (az rC (cC (.int 10)) (cC (.int 20))) (ax))))))))) [a0,some (.int x),some (.obj M.length),some (bg m ks),a4] M1=.ok (.obj (M1++[O.lst [.int 0]]).length) M2:=by
  simp only [cW,aq,av,aA,jI,zy,b9,ao,ah,aU,aa,cL,DB,K5,Lk]
  simp only [Js (show 0+1<=sizeLine from l1),aa,K5,Lk]
  rw [Js (show 0+1+1+1+1+1+1+1+1<=sizeLine from l8)]
 have l2':fZ (ag (cC (.int 0)) (ag (cC (.int 7)) (ag (nA sU (cC (.int 1))) (ag (cC (.bl true)) (ag (cC .non) (ag (cC (.str "2")) (ag (bU (ag (cC (.int 2)) (ax))) (ag (az jd (cC (.int 2)) (az rC (cC (.int 10)) (cC (.int 20)))) (ax))))))))) [a0,some (.int x),some (.obj M.length),some (bg m ks),o4] M2=.ok (.obj M2.length) M3:=by
  simp only [cW,aq,av,aA,jI,zy,b9,ao,ah,aU,aa,DB,Hs,K5,Lk]
  simp only [Js (show 0+1<=sizeLine from l1),aa,K5,Lk]
  rw [Js (show 0+1+1+1+1+1+1+1+1<=sizeLine from l8)]
 unfold n5
 rw [aJ,aW]
 simp only [aD,aq,av,ao,ah,aa,ep,ae,cj,M8,M9,aE]
 rw [aJ,aW]
 simp only [aD,aq,av,ao,ah,aa,ew,ae,cj,M8,M9,aE]
 rw [aJ,bp]
 simp only [gq,ig,aD,aq,av,ao,ah,aa,lI h,gp,LO,ae,K4,Ky,bH,aE]
 rw [aJ,gN,dm,l1',aa,fB (show M2[(M1++[O.lst [.int 0]]).length]?=some (.lst bads) from aw),ae,cO,e4,aE]
 rw [gN,dm,l2',aa,fB (show M3[M2.length]?=some (.lst bads2) from aw),ae,cO,e5]
 simp only [M3,M2,M1,KS]
theorem BK {μ:aB}{ns:List Int}:∃ x:Int,dC [.frz (ns.map D.int),.int 0] μ=.ok (.int x) μ:=by
 unfold dC
 rw [fu]
 cases ns with
 | nil=>
  refine ⟨0,?_⟩
  simp only [iw,KL,List.replicate,aJ,bp,bD,aA,ao,ah,aD,aq,av,wR,Lk,aa,dN]
  rw [show dq .Lt 0 ((0:Nat):Int)=false from rfl]
  simp only [aP,ae,K4,Ky,bH,aE,bq,aU,aV]
  exact cn (by simp)
 | cons x r=>
  refine ⟨x,?_⟩
  simp only [iw,KM,List.replicate,aJ,bp,bD,aA,ao,ah,aD,aq,av,wR,K5,aa,dN]
  rw [show dq .Lt 0 (((r.map D.int).length+1:Nat):Int)=true from K1 (by omega)]
  simp only [aP,ae,KA,bq,aA,ao,ah,aa]
  rw [F4 wc]
  simp only [ae,rK,aV]
  exact cn (by simp)
theorem zw {m:Nat} (h0:1<=m) (h6:m<=6):GW m []:=⟨rfl,by omega,by omega,List.Pairwise.nil,fun k hk=>by cases hk⟩
theorem FX:GW 6 [[0,1],[1,2],[2,3],[3,4],[4,5]]:=by
 refine ⟨rfl,by decide,by decide,by decide,fun k hk=>?_⟩
 simp only [JG,Md,Me] at hk
 rcases hk with rfl|rfl|rfl|rfl|rfl <;> exact ⟨_,_,rfl,by decide,by decide,by decide⟩
theorem Ex (ns:List Int):∃ μ',tJ [.frz (ns.map D.int)] []=.ok (.bl true) μ':=by
 obtain ⟨x0,ex0⟩:=BK (μ:=[]) (ns:=ns)
 obtain ⟨xs,hxs,hxl⟩:∃ xs:List Int,kO (ns.map D.int) (some 1) (some 6)=xs.map D.int/\xs.length<=6:=by
  refine ⟨(ns.drop (HT.sIx ns.length 0 (some 1))).take (HT.sIx ns.length ns.length (some 6) - HT.sIx ns.length 0 (some 1)),?_,?_⟩
  ·unfold kO
   rw [Kr,LA,LB]
  ·rw [Kh]
   have h6:HT.sIx ns.length ns.length (some 6)=min 6 ns.length:=HT.sIx_nat _ _ 6
   omega
 obtain ⟨L,hL⟩:∃ L:List Int,L=x0::xs:=⟨_,rfl⟩
 let M5:aB:=([O.lst [.int x0]]++[O.lst (xs.map D.int)])++[O.lst (L.map D.int)]
 have h5:M5[2]?=some (.lst (L.map D.int)):=rfl
 obtain ⟨ρ3,M6,_,run3⟩:=gn (src:=.own 2 (L.map D.int)) (g:=aj 1) (fb:=n5)
  (fun zs ρ μ=>μ[2]?=some (O.lst (L.map D.int))/\(∃ rs:List Int,zs=rs.map D.int)/\∃ o0 o1 o2 o3 o4,ρ=[o0,o1,o2,o3,o4])
  (fun ρ μ hJJ=>hJJ.1)
  (fun x r ρ μ hJJ => by
   obtain ⟨h2,⟨rs,er⟩,o0,o1,o2,o3,o4,eρ⟩:=hJJ
   subst eρ
   cases rs with
   | nil=>cases er
   | cons y rs=>
    injection er with ex er
    subst ex er
    obtain ⟨g,b2,b3,b4,e1⟩:=CM (M:=μ) (x:=y) (a0:=o0) (a2:=o2) (a3:=o3) (a4:=o4)
    exact ⟨h2,_,μ,_,_,rfl,e1,aL h2,⟨rs,rfl⟩,_,_,_,_,_,rfl⟩)
  (xs:=L.map D.int) (ρ:=[some (.frz (ns.map D.int)),none,none,none,none]) (μ:=M5)
  ⟨h5,⟨L,rfl⟩,_,_,_,_,_,rfl⟩
 have hend:∃ μ',og [] (.ok (.bl true) M6)=.ok (.bl true) μ':=by
  rcases FY (μ:=[]) (d:=.bl true) (μ':=M6) with e | ⟨e,_⟩ <;> exact ⟨_,e⟩
 obtain ⟨μ',hend⟩:=hend
 refine ⟨μ',?_⟩
 unfold tJ
 rw [fv]
 unfold DN
 have l1:([.int x0]:List D).length<=sizeLine:=by show 1<=sizeLine;decide
 have sl:∀ μ,yn (.frz (ns.map D.int)) (some 1) (some 6) μ=.ok (.obj μ.length) (μ++[.lst (xs.map D.int)]):=fun μ=>by
  unfold yn;dsimp only;rw [hxs]
 have ad:cv (.obj 0) (.obj 1) ([O.lst [.int x0]]++[O.lst (xs.map D.int)])=.ok (.obj 2) M5:=by
  have:=sv (μ:=[O.lst [.int x0]]++[O.lst (xs.map D.int)]) (a:=0) (b:=1) rfl rfl (show ([.int x0]:List D).length+(xs.map D.int).length<=1000000 by rw [Kr];simp only [K5,Lk];omega)
  rw [this]
  simp only [M5,hL]
  rfl
 have w1:∀ ρ,bU (ag (cC (.int 1)) (ag (bU (ax)) (ax))) ρ []=.ok (bg 1 []) []:=fun ρ=>by
  simp only [b9,aq,av,aU,aa,Lk,Js (Le sizeLine),K5,Js (show 0+1+1<=sizeLine from l2)]
  rfl
 have w6:∀ ρ,bU (ag (cC (.int 6)) (ag (bU (ax)) (ax))) ρ []=.ok (bg 6 []) []:=fun ρ=>by
  simp only [b9,aq,av,aU,aa,Lk,Js (Le sizeLine),K5,Js (show 0+1+1<=sizeLine from l2)]
  rfl
 have l5:0+1+1+1+1+1<=sizeLine:=JB (by decide) l8
 have ww:∀ ρ,bU (ag (cC (.int 6)) (ag (bU (ag (bU (ag (cC (.int 0)) (ag (cC (.int 1)) (ax)))) (ag (bU (ag (cC (.int 1)) (ag (cC (.int 2)) (ax)))) (ag (bU (ag (cC (.int 2)) (ag (cC (.int 3)) (ax)))) (ag (bU (ag (cC (.int 3)) (ag (cC (.int 4)) (ax)))) (ag (bU (ag (cC (.int 4)) (ag (cC (.int 5)) (ax)))) (ax))))))) (ax))) ρ []=.ok (bg 6 [[0,1],[1,2],[2,3],[3,4],[4,5]]) []:=fun ρ=>by
  simp only [b9,aq,av,aU,aa,Lk,K5,Js (show 0+1+1<=sizeLine from l2),Js l5]
  rfl
 simp only [List.replicate]
 rw [aJ,bp,mz,gq,ig,aD,aq,w1]
 simp only [av,aa,lI (zw (m:=1) (by decide) (by decide)),gp,LO,K4,Ky]
 rw [gq,ig,aD,aq,w6]
 simp only [av,aa,lI (zw (m:=6) (by decide) (by decide)),gp,LO,ae,K4,Ky,bH,aE]
 rw [aJ,bp,gq,ig,aD,aq,ww]
 simp only [av,aa,lI FX,gp,LO,ae,K4,Ky,bH,aE]
 rw [aJ,gN,dm,aA,cW,aq,aD,aq,ah,aa,aq,aU,aa,av,aa,aa,aa,ex0,aa,av,aa,aa]
 simp only [Js l1,aa,yX,ah,pd,aU,vc]
 rw [sl,aa]
 rw [show cv (.obj ([]:aB).length) (.obj (([]:aB)++[O.lst [.int x0]]).length) (([]:aB)++[O.lst [.int x0]]++[O.lst (xs.map D.int)])=_ from ad]
 rw [aa,fB h5,ae,cO,run3,aE,bq,aU,ae,aV]
 exact hend
end Lw
namespace Lw
open PySem PySem.Spec PyProof.Rows L2 RS
theorem cM (P:Params) (f:Addr) (n m:Str) (t:Tok) (c:Addr) (st:Stmt) (l:(Kz P).lookup f=some (fo n st m t c)) (q:W.codeIn (Kz P) (.ref c) n=true):iz (Kz P) n n st f (W.fnOf n n (dO st) (bY st) (au st) .none .none .none (.str m t) none (.ref c) .none):=FZ l q (by unfold W.keepIn;dsimp only;rw [l];rfl)
theorem Gg {l:W.OpenLaw}{w:World}{h:Heap}{mg:Str->Option Value}{fa:Addr} (X:(Kz w.params).In h) (G:h.Ns mainGlobals mg) (hfa:mg "law" = some (.ref fa)) :
  ∃ fd:FuncData,(∀ (s:Shared) (v:Value),BindsTo s fd ⟨[v],[]⟩ [("_law_script",v)])/\∀ base:Heap,(Kz w.params).In base->base.Ns mainGlobals mg->om l.prog w (Kz w.params) mg base uW 7 fa fd ["_law_script"] (AZ (fW (Kz w.params) w) 1 tJ):=by
 have e:=hfa.symm.trans (W.mg_of X G (v:=.ref 315) (by kernel_rfl))
 cases e
 have nm:Nm mg:=⟨W.mg_none_of X G (by kernel_rfl),W.mg_none_of X G (by kernel_rfl),W.mg_none_of X G (by kernel_rfl),W.mg_none_of X G (by kernel_rfl),W.mg_none_of X G (by kernel_rfl),W.mg_none_of X G (by kernel_rfl),W.mg_none_of X G (by kernel_rfl),W.mg_none_of X G (by kernel_rfl),W.mg_none_of X G (by kernel_rfl),W.mg_none_of X G (by kernel_rfl),W.mg_none_of X G (by kernel_rfl),W.mg_none_of X G (by kernel_rfl),W.mg_none_of X G (by kernel_rfl)⟩
 have c_MOST_STEPS:=W.mg_of X G (n:="MOST_STEPS") (v:=(.int 6 392)) (by kernel_rfl)
 have F:=cM w.params 315 "law" "law_rootwebs_k03_far_stars_and_steps" 459 314 kP (by kernel_rfl) (by kernel_rfl)
 refine ⟨W.fnOf "law" "law" (dO kP) (bY kP) (au kP) .none .none .none (.str "law_rootwebs_k03_far_stars_and_steps" 459) none (.ref 314) .none,fun s v=>.of_eq rfl,fun base Xb Gb=>?_⟩
 have d_is_whole:=uB (P:=l.prog) (w:=w) (base:=base)  nm (cM w.params 151 "is_whole" "rootwebs.kinds" 364 150 iI (by kernel_rfl) (by kernel_rfl)) (W.mg_of X G (by kernel_rfl))
 have d_is_whole_from:=mV (P:=l.prog) (w:=w) (base:=base)  nm (cM w.params 158 "is_whole_from" "rootwebs.kinds" 364 157 dR (by kernel_rfl) (by kernel_rfl)) (W.mg_of X G (by kernel_rfl)) d_is_whole
 have d_is_place:=uD (P:=l.prog) (w:=w) (base:=base)  nm (cM w.params 165 "is_place" "rootwebs.kinds" 364 164 iK (by kernel_rfl) (by kernel_rfl)) (W.mg_of X G (by kernel_rfl)) d_is_whole_from
 have d_check_place:=pR (P:=l.prog) (w:=w) (base:=base) (a_NoPlace:=37) nm (cM w.params 172 "check_place" "rootwebs.webs" 390 171 fK (by kernel_rfl) (by kernel_rfl)) (W.mg_of X G (by kernel_rfl)) (by kernel_rfl) (sY.of (nm:="NoPlace") (q:="NoPlace") (N:=36) (bs:=[(.ref 24)]) (bm:=[(.ref 24),(.type "ValueError"),(.type "Exception"),(.type "BaseException"),(.type "object")]) (hd:=true) (sn:=[]) (sub:=[]) (ab:=false) (col:=none) (dd:=none) (k0:=some (.ref 28)) (k1:=none) (k2:=some (.str "NoPlace" 207)) (k3:=some (.str "NoPlace" 215)) (k5:=some (.bool true)) Xb Gb (by kernel_rfl) (by kernel_rfl) (by kernel_rfl) (by kernel_rfl) (by kernel_rfl)) d_is_place
 have d_next_places:=pQ (P:=l.prog) (w:=w) (base:=base)  nm (cM w.params 189 "next_places" "rootwebs.webs" 390 188 cP (by kernel_rfl) (by kernel_rfl)) (W.mg_of X G (by kernel_rfl))
 have d_fars_from:=sG (P:=l.prog) (w:=w) (base:=base)  nm (cM w.params 184 "fars_from" "rootwebs.webs" 390 183 fG (by kernel_rfl) (by kernel_rfl)) (W.mg_of X G (by kernel_rfl)) d_next_places
 have d_far_of:=xO (P:=l.prog) (w:=w) (base:=base)  nm (cM w.params 179 "far_of" "rootwebs.webs" 390 178 kb (by kernel_rfl) (by kernel_rfl)) (W.mg_of X G (by kernel_rfl)) d_check_place d_fars_from
 have d_star_of:=vz (P:=l.prog) (w:=w) (base:=base)  nm (cM w.params 196 "star_of" "rootwebs.webs" 390 195 jl (by kernel_rfl) (by kernel_rfl)) (W.mg_of X G (by kernel_rfl)) d_check_place d_next_places
 have d_steps_web:=sF (P:=l.prog) (w:=w) (base:=base) (a_NoNumber:=49) nm (cM w.params 201 "steps_web" "rootwebs.webs" 390 200 fF (by kernel_rfl) (by kernel_rfl)) (W.mg_of X G (by kernel_rfl)) ⟨_,c_MOST_STEPS⟩ (by kernel_rfl) (sY.of (nm:="NoNumber") (q:="NoNumber") (N:=48) (bs:=[(.ref 24)]) (bm:=[(.ref 24),(.type "ValueError"),(.type "Exception"),(.type "BaseException"),(.type "object")]) (hd:=true) (sn:=[]) (sub:=[]) (ab:=false) (col:=none) (dd:=none) (k0:=some (.ref 40)) (k1:=none) (k2:=some (.str "NoNumber" 223)) (k3:=some (.str "NoNumber" 231)) (k5:=some (.bool true)) Xb Gb (by kernel_rfl) (by kernel_rfl) (by kernel_rfl) (by kernel_rfl) (by kernel_rfl)) d_is_whole_from d_fars_from
 have d_two_step:=uA (P:=l.prog) (w:=w) (base:=base)  nm (cM w.params 208 "two_step" "rootwebs.webs" 390 207 iH (by kernel_rfl) (by kernel_rfl)) (W.mg_of X G (by kernel_rfl)) d_steps_web
 have d_still_from:=qe (P:=l.prog) (w:=w) (base:=base)  nm (cM w.params 215 "still_from" "rootwebs.webs" 390 214 gv (by kernel_rfl) (by kernel_rfl)) (W.mg_of X G (by kernel_rfl)) d_steps_web
 have d_is_still:=uC (P:=l.prog) (w:=w) (base:=base)  nm (cM w.params 222 "is_still" "rootwebs.webs" 390 221 iJ (by kernel_rfl) (by kernel_rfl)) (W.mg_of X G (by kernel_rfl)) d_two_step
 have d__law_cell_at:=nH (P:=l.prog) (w:=w) (base:=base)  nm (cM w.params 229 "_law_cell_at" "law_rootwebs_k03_far_stars_and_steps" 459 228 eE (by kernel_rfl) (by kernel_rfl)) (W.mg_of X G (by kernel_rfl))
 have d__law_next:=sI (P:=l.prog) (w:=w) (base:=base)  nm (cM w.params 236 "_law_next" "law_rootwebs_k03_far_stars_and_steps" 459 235 g6 (by kernel_rfl) (by kernel_rfl)) (W.mg_of X G (by kernel_rfl))
 have d__law_pen_of:=pT (P:=l.prog) (w:=w) (base:=base)  nm (cM w.params 243 "_law_pen_of" "law_rootwebs_k03_far_stars_and_steps" 459 242 fM (by kernel_rfl) (by kernel_rfl)) (W.mg_of X G (by kernel_rfl))
 have d__law_draw:=sJ (P:=l.prog) (w:=w) (base:=base)  nm (cM w.params 250 "_law_draw" "law_rootwebs_k03_far_stars_and_steps" 459 249 g7 (by kernel_rfl) (by kernel_rfl)) (W.mg_of X G (by kernel_rfl)) d__law_next
 have d__law_whole:=qf (P:=l.prog) (w:=w) (base:=base)  nm (cM w.params 257 "_law_whole" "law_rootwebs_k03_far_stars_and_steps" 459 256 gw (by kernel_rfl) (by kernel_rfl)) (W.mg_of X G (by kernel_rfl))
 have d__law_kind_of:=nG (P:=l.prog) (w:=w) (base:=base) (a_NoLine:=61) (a_NoNumber:=49) (a_NoPlace:=37) (a_NoRoot:=73) (a_NoText:=123) (a_NoTree:=85) (a_NoWeb:=104) (a_TooGreat:=142) nm (cM w.params 264 "_law_kind_of" "law_rootwebs_k03_far_stars_and_steps" 459 263 eD (by kernel_rfl) (by kernel_rfl)) (W.mg_of X G (by kernel_rfl)) (bI.of (by kernel_rfl)) (bI.of (by kernel_rfl)) (bI.of (by kernel_rfl)) (bI.of (by kernel_rfl)) (bI.of (by kernel_rfl)) (bI.of (by kernel_rfl)) (bI.of (by kernel_rfl)) (bI.of (by kernel_rfl)) (bI.of (by kernel_rfl)) (W.mg_of X G (by kernel_rfl)) (W.mg_of X G (by kernel_rfl)) (W.mg_of X G (by kernel_rfl)) (W.mg_of X G (by kernel_rfl)) (W.mg_of X G (by kernel_rfl)) (W.mg_of X G (by kernel_rfl)) (W.mg_of X G (by kernel_rfl)) (W.mg_of X G (by kernel_rfl))
 have d__law_named:=qi (P:=l.prog) (w:=w) (base:=base)  nm (cM w.params 269 "_law_named" "law_rootwebs_k03_far_stars_and_steps" 459 268 dg (by kernel_rfl) (by kernel_rfl)) (W.mg_of X G (by kernel_rfl))
 have d__law_names_by:=mW (P:=l.prog) (w:=w) (base:=base)  nm (cM w.params 274 "_law_names_by" "law_rootwebs_k03_far_stars_and_steps" 459 273 cQ (by kernel_rfl) (by kernel_rfl)) (W.mg_of X G (by kernel_rfl)) d__law_draw
 have d__law_far:=uE (P:=l.prog) (w:=w) (base:=base)  nm (cM w.params 279 "_law_far" "law_rootwebs_k03_far_stars_and_steps" 459 278 gH (by kernel_rfl) (by kernel_rfl)) (W.mg_of X G (by kernel_rfl))
 have d__law_steps:=qg (P:=l.prog) (w:=w) (base:=base)  nm (cM w.params 284 "_law_steps" "law_rootwebs_k03_far_stars_and_steps" 459 283 d7 (by kernel_rfl) (by kernel_rfl)) (W.mg_of X G (by kernel_rfl)) d__law_far
 have d__law_sparse_by:=me (P:=l.prog) (w:=w) (base:=base)  nm (cM w.params 289 "_law_sparse_by" "law_rootwebs_k03_far_stars_and_steps" 459 288 ba (by kernel_rfl) (by kernel_rfl)) (W.mg_of X G (by kernel_rfl)) d__law_draw d__law_named d__law_names_by
 have d__law_web_by:=pS (P:=l.prog) (w:=w) (base:=base)  nm (cM w.params 296 "_law_web_by" "law_rootwebs_k03_far_stars_and_steps" 459 295 fL (by kernel_rfl) (by kernel_rfl)) (W.mg_of X G (by kernel_rfl)) d__law_sparse_by d__law_draw d__law_steps
 have d__law_told:=sH (P:=l.prog) (w:=w) (base:=base) (a_RootError:=24) nm (cM w.params 303 "_law_told" "law_rootwebs_k03_far_stars_and_steps" 459 302 g5 (by kernel_rfl) (by kernel_rfl)) (W.mg_of X G (by kernel_rfl)) (W.mg_of X G (by kernel_rfl)) (tH.of (by kernel_rfl)) d_far_of d_star_of d_steps_web d__law_kind_of
 have d__law_right:=qh (P:=l.prog) (w:=w) (base:=base)  nm (cM w.params 308 "_law_right" "law_rootwebs_k03_far_stars_and_steps" 459 307 bF (by kernel_rfl) (by kernel_rfl)) (W.mg_of X G (by kernel_rfl)) d__law_far d_far_of d_star_of d__law_steps d_steps_web d_two_step d_still_from d_is_still
 exact F3 nm F d__law_right d__law_cell_at d__law_pen_of d__law_web_by d__law_told
theorem Ib {l:W.OpenLaw}{q:Program}{loose:List Str}{XP:(Str->Option Value)->Heap->Prop}{d:DefRec} (hn:l.most=some 63) (hdf:d.params.defaults=[]) (hd:d.name = "law") :
  W.WalkO q loose XP (W.Hook.says Hz) l.row.toRowW d [] (fun f vs=>PySem.call f vs):=
 L2.walk_of (K:=Kz) (n:=63) (k:=7) (x:="_law_script") (CX:=fun _=>uW) (sp:=fun w=>AZ (fW (Kz w.params) w) 1 tJ) hn (by decide) hdf ⟨rfl,by decide,by decide,rfl⟩ (fun _ _ Y=>W.kIn_of Y) (fun _ _ _ _ X G e=>Gg X G (hd ▸ e)) (fun w H a ns hl hO hS=>AA (Ex ns) hO hS) fun _ _ _ _ _ z=>z
end Lw
open PySem PySem.W PyProof.Rows Lw
set_option maxRecDepth 100000 in
set_option maxHeartbeats 0 in
theorem PySem.Challenge.cw_rootwebs_k03_far_stars_and_steps_holds : PySem.Challenge.rw_rootwebs_k03_far_stars_and_steps.Holds := by
 w_on;refine holds_law D7 fun said=>?_
 exact holds_open (Xt:=Xz) (XP:=XL Qz []) (YP:=Hook.says Hz) D8 (Hook.of Hz) (Hook.keeps Hz) (fun s e=>xl_of s (Bool.and_eq_true_iff.mp e).1) XL.keeps (by rfl) (by rfl) (by rfl) (fun s e=>recFacts_of (Bool.and_eq_true_iff.mp e).2) (by rfl) said (by decide +kernel) ⟨rfl,rfl,rfl,rfl,rfl,by decide +kernel⟩ (by w_witness2) (Ib rfl rfl rfl)
